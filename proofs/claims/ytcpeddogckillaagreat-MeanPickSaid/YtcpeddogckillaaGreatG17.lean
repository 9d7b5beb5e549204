/-
  Asks: the letters that the reference goes by.
  Asks: how many kids a node has, and which, by the reference.
  Asks: the first fault, stage by stage.
-/
import Derived.Test.YtcpeddogckillaaGreatG11
import Derived.Test.YtcpeddogckillaaGreatG12
import Derived.Test.YtcpeddogckillaaGreatG13
namespace Go.Proofs.YtcpeddogckillaaGreat
open Go.RowKit

/-- The letters of an operator's kids. -/
def wtB (op : Int) : ByteArray :=
  if op = 3 then ⟨#[98]⟩ else
  if op = 4 then ⟨#[98, 42]⟩ else
  if op = 5 then ⟨#[98, 42]⟩ else
  if op = 6 then ⟨#[98, 98]⟩ else
  if op = 7 then ⟨#[98, 120, 121]⟩ else
  if op = 8 then ⟨#[63, 63]⟩ else
  if op = 11 then ⟨#[110, 42]⟩ else
  if op = 12 then ⟨#[110]⟩ else
  if op = 13 then ⟨#[110, 110]⟩ else
  if op = 14 then ⟨#[110, 110]⟩ else
  if op = 16 then ⟨#[119]⟩ else
  if op = 17 then ⟨#[119, 119]⟩ else
  if op = 18 then ⟨#[119, 119]⟩ else
  if op = 19 then ⟨#[119, 119]⟩ else
  if op = 20 then ⟨#[119, 119]⟩ else
  if op = 21 then ⟨#[119, 119]⟩ else
  if op = 22 then ⟨#[119, 119]⟩ else
  if op = 23 then ⟨#[119]⟩ else
  if op = 24 then ⟨#[97, 116]⟩ else
  if op = 25 then ⟨#[97, 116, 116]⟩ else
  ⟨#[]⟩
/-- May a kid of a sort stand for a letter? -/
def ftC (c s : Int) : Bool := if c = 98 then sBo s else if c = 110 then sNu s else if c = 116 then sTh s else if c = 97 then s == 5 else if c = 119 then decide (0 < wBits s) else true
set_option maxHeartbeats 4000000 in
theorem wants_any (op : Int) (h1 : 1 ≤ op) (h2 : op ≤ 25) (w : World) : Calls Tryz.prog 125 #[.int .i64 op] w fun e w' => e = .returned (.string (wtB op)) ∧ Below w.heap.size w w' := by
  rcases op_cases h1 h2 with rfl | rfl | rfl | rfl | rfl | rfl | rfl | rfl | rfl | rfl | rfl | rfl | rfl | rfl | rfl | rfl | rfl | rfl | rfl | rfl | rfl | rfl | rfl | rfl | rfl
  · rw [show wtB 1 = ⟨#[]⟩ by decide]
    clear h1 h2
    go_enter Tryz.func125, Tryz.ntmps125
    go_wp2_with fail
    go_ret
    exact ⟨rfl, new_below _ _⟩
  · rw [show wtB 2 = ⟨#[]⟩ by decide]
    clear h1 h2
    go_enter Tryz.func125, Tryz.ntmps125
    go_wp2_with fail
    go_ret
    exact ⟨rfl, new_below _ _⟩
  · rw [show wtB 3 = ⟨#[98]⟩ by decide]
    clear h1 h2
    go_enter Tryz.func125, Tryz.ntmps125
    go_wp2_with fail
    go_ret
    exact ⟨rfl, new_below _ _⟩
  · rw [show wtB 4 = ⟨#[98, 42]⟩ by decide]
    clear h1 h2
    go_enter Tryz.func125, Tryz.ntmps125
    go_wp2_with fail
    go_ret
    exact ⟨rfl, new_below _ _⟩
  · rw [show wtB 5 = ⟨#[98, 42]⟩ by decide]
    clear h1 h2
    go_enter Tryz.func125, Tryz.ntmps125
    go_wp2_with fail
    go_ret
    exact ⟨rfl, new_below _ _⟩
  · rw [show wtB 6 = ⟨#[98, 98]⟩ by decide]
    clear h1 h2
    go_enter Tryz.func125, Tryz.ntmps125
    go_wp2_with fail
    go_ret
    exact ⟨rfl, new_below _ _⟩
  · rw [show wtB 7 = ⟨#[98, 120, 121]⟩ by decide]
    clear h1 h2
    go_enter Tryz.func125, Tryz.ntmps125
    go_wp2_with fail
    go_ret
    exact ⟨rfl, new_below _ _⟩
  · rw [show wtB 8 = ⟨#[63, 63]⟩ by decide]
    clear h1 h2
    go_enter Tryz.func125, Tryz.ntmps125
    go_wp2_with fail
    go_ret
    exact ⟨rfl, new_below _ _⟩
  · rw [show wtB 9 = ⟨#[]⟩ by decide]
    clear h1 h2
    go_enter Tryz.func125, Tryz.ntmps125
    go_wp2_with fail
    go_ret
    exact ⟨rfl, new_below _ _⟩
  · rw [show wtB 10 = ⟨#[]⟩ by decide]
    clear h1 h2
    go_enter Tryz.func125, Tryz.ntmps125
    go_wp2_with fail
    go_ret
    exact ⟨rfl, new_below _ _⟩
  · rw [show wtB 11 = ⟨#[110, 42]⟩ by decide]
    clear h1 h2
    go_enter Tryz.func125, Tryz.ntmps125
    go_wp2_with fail
    go_ret
    exact ⟨rfl, new_below _ _⟩
  · rw [show wtB 12 = ⟨#[110]⟩ by decide]
    clear h1 h2
    go_enter Tryz.func125, Tryz.ntmps125
    go_wp2_with fail
    go_ret
    exact ⟨rfl, new_below _ _⟩
  · rw [show wtB 13 = ⟨#[110, 110]⟩ by decide]
    clear h1 h2
    go_enter Tryz.func125, Tryz.ntmps125
    go_wp2_with fail
    go_ret
    exact ⟨rfl, new_below _ _⟩
  · rw [show wtB 14 = ⟨#[110, 110]⟩ by decide]
    clear h1 h2
    go_enter Tryz.func125, Tryz.ntmps125
    go_wp2_with fail
    go_ret
    exact ⟨rfl, new_below _ _⟩
  · rw [show wtB 15 = ⟨#[]⟩ by decide]
    clear h1 h2
    go_enter Tryz.func125, Tryz.ntmps125
    go_wp2_with fail
    go_ret
    exact ⟨rfl, new_below _ _⟩
  · rw [show wtB 16 = ⟨#[119]⟩ by decide]
    clear h1 h2
    go_enter Tryz.func125, Tryz.ntmps125
    go_wp2_with fail
    go_ret
    exact ⟨rfl, new_below _ _⟩
  · rw [show wtB 17 = ⟨#[119, 119]⟩ by decide]
    clear h1 h2
    go_enter Tryz.func125, Tryz.ntmps125
    go_wp2_with fail
    go_ret
    exact ⟨rfl, new_below _ _⟩
  · rw [show wtB 18 = ⟨#[119, 119]⟩ by decide]
    clear h1 h2
    go_enter Tryz.func125, Tryz.ntmps125
    go_wp2_with fail
    go_ret
    exact ⟨rfl, new_below _ _⟩
  · rw [show wtB 19 = ⟨#[119, 119]⟩ by decide]
    clear h1 h2
    go_enter Tryz.func125, Tryz.ntmps125
    go_wp2_with fail
    go_ret
    exact ⟨rfl, new_below _ _⟩
  · rw [show wtB 20 = ⟨#[119, 119]⟩ by decide]
    clear h1 h2
    go_enter Tryz.func125, Tryz.ntmps125
    go_wp2_with fail
    go_ret
    exact ⟨rfl, new_below _ _⟩
  · rw [show wtB 21 = ⟨#[119, 119]⟩ by decide]
    clear h1 h2
    go_enter Tryz.func125, Tryz.ntmps125
    go_wp2_with fail
    go_ret
    exact ⟨rfl, new_below _ _⟩
  · rw [show wtB 22 = ⟨#[119, 119]⟩ by decide]
    clear h1 h2
    go_enter Tryz.func125, Tryz.ntmps125
    go_wp2_with fail
    go_ret
    exact ⟨rfl, new_below _ _⟩
  · rw [show wtB 23 = ⟨#[119]⟩ by decide]
    clear h1 h2
    go_enter Tryz.func125, Tryz.ntmps125
    go_wp2_with fail
    go_ret
    exact ⟨rfl, new_below _ _⟩
  · rw [show wtB 24 = ⟨#[97, 116]⟩ by decide]
    clear h1 h2
    go_enter Tryz.func125, Tryz.ntmps125
    go_wp2_with fail
    go_ret
    exact ⟨rfl, new_below _ _⟩
  · rw [show wtB 25 = ⟨#[97, 116, 116]⟩ by decide]
    clear h1 h2
    go_enter Tryz.func125, Tryz.ntmps125
    go_wp2_with fail
    go_ret
    exact ⟨rfl, new_below _ _⟩
set_option maxHeartbeats 1000000 in
theorem fits_any (c s : Int) (w : World) : Calls Tryz.prog 126 #[.int .u8 c, .int .i64 s] w fun e w' => e = .returned (.bool (ftC c s)) ∧ w = w' := by
  unfold ftC
  by_cases h0 : c = 98
  · rw [if_pos h0]
    subst h0
    go_enter Tryz.func126, Tryz.ntmps126
    go_wp2_with fail
    go_ret
    exact ⟨rfl, rfl⟩
  · rw [if_neg h0]
    have d0 : (c == 98) = false := by simpa using h0
    by_cases h1 : c = 110
    · rw [if_pos h1]
      subst h1
      go_enter Tryz.func126, Tryz.ntmps126
      go_wp2_with fail
      refine (isnumber_any s _).mono ?_
      rintro e w1 ⟨rfl, rfl⟩
      go_wp2_with fail
      go_ret
      exact ⟨rfl, rfl⟩
    · rw [if_neg h1]
      have d1 : (c == 110) = false := by simpa using h1
      by_cases h2 : c = 116
      · rw [if_pos h2]
        subst h2
        go_enter Tryz.func126, Tryz.ntmps126
        go_wp2_with fail
        go_ret
        exact ⟨rfl, rfl⟩
      · rw [if_neg h2]
        have d2 : (c == 116) = false := by simpa using h2
        by_cases h3 : c = 97
        · rw [if_pos h3]
          subst h3
          go_enter Tryz.func126, Tryz.ntmps126
          go_wp2_with fail
          go_ret
          exact ⟨rfl, rfl⟩
        · rw [if_neg h3]
          have d3 : (c == 97) = false := by simpa using h3
          by_cases h4 : c = 119
          · rw [if_pos h4]
            subst h4
            go_enter Tryz.func126, Tryz.ntmps126
            go_wp2_with fail
            refine (wordbits_any s _).mono ?_
            rintro e w1 ⟨rfl, rfl⟩
            go_wp2_with fail
            go_ret
            exact ⟨rfl, rfl⟩
          · rw [if_neg h4]
            have d4 : (c == 119) = false := by simpa using h4
            clear h0 h1 h2 h3 h4
            go_enter Tryz.func126, Tryz.ntmps126
            go_wp2_with fail
            go_ret
            exact ⟨rfl, rfl⟩
end Go.Proofs.YtcpeddogckillaaGreat
namespace Go.Proofs.YtcpeddogckillaaGreat
open Go.RowKit

/-- Does the list of letters end in a star? -/
def stB (s : ByteArray) : Bool := decide (0 < s.size) && (bs s (s.size - 1) == 42)
theorem wt_star {op : Int} (h1 : 1 ≤ op) (h2 : op ≤ 25) (h9 : op ≠ 9) : (stB (wtB op) = true ∧ kcN op = -1) ∨ (stB (wtB op) = false ∧ kcN op = ((wtB op).size : Int)) := by
  rcases op_cases h1 h2 with rfl | rfl | rfl | rfl | rfl | rfl | rfl | rfl | rfl | rfl | rfl | rfl | rfl | rfl | rfl | rfl | rfl | rfl | rfl | rfl | rfl | rfl | rfl | rfl | rfl <;> first | exact absurd rfl h9 | (left; decide) | (right; decide)
theorem wt_small {op : Int} (h1 : 1 ≤ op) (h2 : op ≤ 25) : (wtB op).size ≤ 3 := by
  rcases op_cases h1 h2 with rfl | rfl | rfl | rfl | rfl | rfl | rfl | rfl | rfl | rfl | rfl | rfl | rfl | rfl | rfl | rfl | rfl | rfl | rfl | rfl | rfl | rfl | rfl | rfl | rfl <;> decide
/-- What is wrong with a node's kids: how many there are, and which. -/
def kdC (qs : List Dc) (q : Nd) (i : Nat) : Int :=
  if 8 < q.kids.length ∨ (kWant qs q ≠ -1 ∧ (q.kids.length : Int) ≠ kWant qs q) then 9 else if kIn i q.kids = false then 3 else 0
theorem kin_not {i : Nat} {ks : List Int} {j : Nat} (hj : j < ks.length) (h : nth ks j < 0 ∨ (i : Int) ≤ nth ks j) : kIn i ks = false := by
  unfold kIn
  exact not_all hj (by simp; omega)
theorem kin_all {i : Nat} {ks : List Int} (h : ∀ j, j < ks.length → 0 ≤ nth ks j ∧ nth ks j < i) : kIn i ks = true := by
  unfold kIn
  exact all_of fun j hj => by simpa using h j hj
set_option maxHeartbeats 8000000 in
theorem kidsfault_any (qs : List Dc) (ns : List Nd) (Ad An Ah : Option Addr) (dc nc hL hc i : Nat) (hq : qs.length ≤ maxLen) (hi : i < ns.length) (_hnl : ns.length ≤ maxLen)
    (w : World) (hd : DsAt w Ad qs) (hn : NsAt w An ns) (ho1 : 1 ≤ (nn ns i).op) (ho2 : (nn ns i).op ≤ 25) (ho9 : (nn ns i).op = 9 → ¬ fdZ qs (nn ns i).name < 0) :
    Calls Tryz.prog 81 #[.agg #[.slice Ad qs.length dc, .slice An ns.length nc, .slice Ah hL hc], .int .i64 i] w fun e w' => e = .returned (.int .i64 (kdC qs (nn ns i) i)) ∧ Below w.heap.size w w' := by
  obtain ⟨bn, on, A', c', rfl, hb, c0, c1, c2, c3, c4, hns, ha, hx⟩ := ns_at hn hi
  have HD := Lib.hid hd
  have HX := Lib.hid hx
  have HDEC := Lib.hid (fun (W : World) (n : Nat) (hW : DsAt W Ad qs) => declof_any qs Ad dc (nn ns i).name hq (W.drewN n) hW)
  have HDA := Lib.hid (fun (W : World) (hW : DsAt W Ad qs) (z : fdI qs (nn ns i).name < qs.length) => ds_at hW z)
  unfold maxLen at ha _hnl hq
  have HND : Hid (kdC qs (nn ns i) i = if 8 < (nn ns i).kids.length ∨ (kWant qs (nn ns i) ≠ -1 ∧ ((nn ns i).kids.length : Int) ≠ kWant qs (nn ns i)) then 9 else if kIn i (nn ns i).kids = false then 3 else 0) := Lib.hid rfl
  have HKW : Hid (kWant qs (nn ns i) = if (nn ns i).op = 9 then ((dn qs (fdI qs (nn ns i).name)).args.length : Int) else kcN (nn ns i).op) := Lib.hid rfl
  clear hn hd hx hns
  generalize hkc : kdC qs (nn ns i) i = C at *
  generalize hkw : kWant qs (nn ns i) = kw at *
  clear hkc hkw
  generalize (nn ns i).op = op at *
  generalize (nn ns i).kids = ks at *
  generalize (nn ns i).n = nv at *
  generalize (nn ns i).d = dv at *
  generalize (nn ns i).name = nm at *
  generalize hkl : ks.length = kl at *
  generalize ns.length = nl at *
  generalize hql : qs.length = ql at *
  have HQL := Lib.hid hql
  have HKL := Lib.hid hkl
  clear hql hkl
  have N26 : Hid (HB ((w.alloc (.cells #[.slice Ad ql dc, .slice (some ⟨bn, on, none⟩) nl nc, .slice Ah hL hc] 26)).alloc (.cells #[.int .i64 op, .slice A' kl c', .int .i64 nv, .int .i64 dv, .string nm] 39)) w.heap.size 26 #[.slice Ad ql dc, .slice (some ⟨bn, on, none⟩) nl nc, .slice Ah hL hc]) := Lib.hid ((HB.new _ _ _).alloc _)
  have N8 : Hid (HB ((w.alloc (.cells #[.slice Ad ql dc, .slice (some ⟨bn, on, none⟩) nl nc, .slice Ah hL hc] 26)).alloc (.cells #[.int .i64 op, .slice A' kl c', .int .i64 nv, .int .i64 dv, .string nm] 39)) (w.heap.size + 1) 39 #[.int .i64 op, .slice A' kl c', .int .i64 nv, .int .i64 dv, .string nm]) := Lib.hid (HB.new1 _ _ _ _)
  have GX : Hid (Below w.heap.size w ((w.alloc (.cells #[.slice Ad ql dc, .slice (some ⟨bn, on, none⟩) nl nc, .slice Ah hL hc] 26)).alloc (.cells #[.int .i64 op, .slice A' kl c', .int .i64 nv, .int .i64 dv, .string nm] 39))) := Lib.hid (by go_grown)
  by_cases h8 : 8 < kl
  · rw [if_pos (.inl h8)] at HND
    clear N26 N8
    go_enter Tryz.func81, Tryz.ntmps81
    go_wp2_with fail
    go_ret
    rw [HND.out]
    exact ⟨rfl, GX.out⟩
  · by_cases h9 : op = 9
    · have t9 : (op == 9) = true := by simpa using h9
      rw [if_pos h9] at HKW
      have hf := ho9 h9
      have hlt : fdI qs nm < ql := by
        rw [← HQL.out]
        rcases Nat.lt_or_ge (fdI qs nm) qs.length with z | z
        · exact z
        · exfalso; apply hf; unfold fdZ; rw [if_neg (by omega)]; decide
      have HZ : Hid (fdZ qs nm = (fdI qs nm : Int)) := Lib.hid (by unfold fdZ; rw [if_pos (by rw [HQL.out]; exact hlt)])
      have HDB := Lib.hid (fun W (h : DsAt W Ad qs) => HDA.out W h hlt)
      have HDQ := Lib.hid (fun (W : World) (n : Nat) (hW : DsAt W Ad qs) => ((HDEC.out W n hW).mono fun e w' ⟨h1, h2⟩ => ⟨by rw [h1, HZ.out], h2.symm⟩ : Calls Tryz.prog 80 #[.slice Ad ql dc, .string nm] (W.drewN n) fun e w' => e = .returned (.int .i64 (fdI qs nm : Nat)) ∧ w' = W.drewN n))
      have hk1 := HKW.out
      subst hk1
      clear HKW HDA HDEC HZ hf ho9 h9
      generalize fdI qs nm = f at *
      obtain ⟨bd, od, A2, c2', rfl, hbd, e0, e1, e2, _, hal, _⟩ := HDB.out _ (HD.out.below GX.out)
      unfold maxLen at hal
      have HDR := Lib.hid (fun n => HDQ.out _ n (HD.out.below GX.out))
      clear HDB HDQ
      generalize (dn qs f).args.length = al at *
      generalize (dn qs f).sort = ds at *
      generalize (dn qs f).name = nm2 at *
      go_enter Tryz.func81, Tryz.ntmps81
      go_wp2_with fail
      obtain ⟨y0, y1, y2, _⟩ := N26.out.three
      obtain ⟨x0, x1, x2, x3, x4⟩ := ag5 N8.out
      have lx := N8.out.lt
      go_quiet ((go_at_call 80; exact Calls.quiet_of_same (HDR.out _)))
      have GY : Hid (Below w.heap.size w (((w.alloc (.cells #[.slice (some ⟨bd, od, none⟩) ql dc, .slice (some ⟨bn, on, none⟩) nl nc, .slice Ah hL hc] 26)).alloc (.cells #[.int .i64 op, .slice A' kl c', .int .i64 nv, .int .i64 dv, .string nm] 39)).drewN nq)) := Lib.hid (below_dn GX.out _)
      have N9 : Hid (HB (((w.alloc (.cells #[.slice (some ⟨bd, od, none⟩) ql dc, .slice (some ⟨bn, on, none⟩) nl nc, .slice Ah hL hc] 26)).alloc (.cells #[.int .i64 op, .slice A' kl c', .int .i64 nv, .int .i64 dv, .string nm] 39)).drewN nq) (w.heap.size + 1) 39 #[.int .i64 op, .slice A' kl c', .int .i64 nv, .int .i64 dv, .string nm]) := Lib.hid (N8.out.drewN _)
      clear GX N8 N26 HDR x0 x1 x2 x3 x4 y0 y1 y2 lx e0 e1 e2 hbd
      generalize ((w.alloc (.cells #[.slice (some ⟨bd, od, none⟩) ql dc, .slice (some ⟨bn, on, none⟩) nl nc, .slice Ah hL hc] 26)).alloc (.cells #[.int .i64 op, .slice A' kl c', .int .i64 nv, .int .i64 dv, .string nm] 39)).drewN nq = wx at *
      by_cases hn : (kl : Int) = al
      · rw [if_neg (by rintro (z | z); exact h8 z; exact z.2 hn)] at HND
        have te : ((kl : Int) != (al : Int)) = false := by simpa using hn
        clear hn
        go_wp2_with fail
        go_loopw [9] (fun k wr => ∃ j : Nat, j ≤ kl ∧ k = .int .i64 j ∧ Hid (∀ m, m < j → 0 ≤ nth ks m ∧ nth ks m < i) ∧ Hid (wx = wr)) (fun k _ => kl - (intOf k).toNat)
        case atStart => exact ⟨0, by omega, rfl, fun m hm => absurd hm (by omega), rfl⟩
        case round =>
          obtain ⟨j, hj, rfl, HP, HW⟩ := hrel
          have HW2 := HW.out
          subst HW2
          obtain ⟨x0, x1, x2, x3, x4⟩ := ag5 N9.out
          have lx := N9.out.lt
          by_cases hlt : j < kl
          · obtain ⟨bk, ok, rfl, hbk, z0⟩ := is_at (i := j) (HX.out.below GY.out) (by rw [HKL.out]; exact hlt)
            have t3 : decide ((j : Int) < kl) = true := by simpa using hlt
            by_cases hz1 : nth ks j < 0
            · have u1 : decide (nth ks j < 0) = true := by simpa using hz1
              rw [if_pos (kin_not (by rw [HKL.out]; exact hlt) (.inl hz1))] at HND
              clear hz1
              go_wp2_with fail
              go_ret
              rw [HND.out]
              exact ⟨rfl, GY.out⟩
            · have u1 : decide (nth ks j < 0) = false := by simpa using hz1
              by_cases hz2 : (i : Int) ≤ nth ks j
              · have u2 : decide ((i : Int) ≤ nth ks j) = true := by simpa using hz2
                rw [if_pos (kin_not (by rw [HKL.out]; exact hlt) (.inr hz2))] at HND
                clear hz1 hz2
                go_wp2_with fail
                go_ret
                rw [HND.out]
                exact ⟨rfl, GY.out⟩
              · have u2 : decide ((i : Int) ≤ nth ks j) = false := by simpa using hz2
                have HZZ := Lib.hid (show 0 ≤ nth ks j ∧ nth ks j < i by omega)
                clear hz1 hz2
                go_wp2_with fail
                go_round
                case rel => exact ⟨j + 1, by omega, by go_num, fun m hm => by
                  rcases Nat.lt_or_ge m j with z | z
                  · exact HP.out m z
                  · obtain rfl : m = j := by omega
                    exact HZZ.out, Lib.hid (by trivial)⟩
                case measure => simp [intOf]; omega
          · obtain rfl : j = kl := by omega
            have t3 : decide ((j : Int) < j) = false := by simp
            rw [if_neg (by rw [kin_all (fun m hm => HP.out m (by rw [HKL.out] at hm; exact hm))]; decide)] at HND
            clear hlt
            go_wp2_with fail
            go_ret
            rw [HND.out]
            exact ⟨rfl, GY.out⟩
      · rw [if_pos (.inr ⟨by omega, hn⟩)] at HND
        have te : ((kl : Int) != (al : Int)) = true := by simpa using hn
        clear hn
        go_wp2_with fail
        go_ret
        rw [HND.out]
        exact ⟨rfl, GY.out⟩
    · have t9 : (op == 9) = false := by simpa using h9
      rw [if_neg h9] at HKW
      have hk1 := HKW.out
      subst hk1
      have HWA := Lib.hid (fun W => wants_any op ho1 ho2 W)
      have HST := Lib.hid (wt_star ho1 ho2 h9)
      have hsm := wt_small ho1 ho2
      clear HKW HDA HDEC ho9 h9 ho1 ho2
      go_enter Tryz.func81, Tryz.ntmps81
      go_wp2_with fail
      refine (HWA.out _).mono ?_
      rintro e w1 ⟨rfl, hb1⟩
      have GY : Hid (Below w.heap.size w w1) := bw_below (Nat.le_refl _) GX.out hb1
      have N9 := Lib.hid (N8.out.below hb1)
      clear hb1 GX N8 N26 c0 c1 c2 c3 c4 hb HWA
      generalize wtB op = s at *
      generalize kcN op = kc at *
      generalize w1 = wx at *
      rcases HST.out with ⟨z1, z2⟩ | ⟨z1, z2⟩
      · subst z2
        rw [if_neg (by rintro (z | z); exact h8 z; exact z.1 rfl)] at HND
        have hs0 : 0 < s.size := by unfold stB at z1; simp at z1; omega
        have hsl : s.size - 1 < s.size := by omega
        have f1 : ((s[s.size - 1].toNat : Int) == 42) = true := by unfold stB at z1; rw [bs_of hsl]; simp at z1; simp [z1.2]
        clear HST z1
        go_wp2_with fail
        go_loopw [9] (fun k wr => ∃ j : Nat, j ≤ kl ∧ k = .int .i64 j ∧ Hid (∀ m, m < j → 0 ≤ nth ks m ∧ nth ks m < i) ∧ Hid (wx = wr)) (fun k _ => kl - (intOf k).toNat)
        case atStart => exact ⟨0, by omega, rfl, fun m hm => absurd hm (by omega), rfl⟩
        case round =>
          obtain ⟨j, hj, rfl, HP, HW⟩ := hrel
          have HW2 := HW.out
          subst HW2
          obtain ⟨x0, x1, x2, x3, x4⟩ := ag5 N9.out
          have lx := N9.out.lt
          by_cases hlt : j < kl
          · obtain ⟨bk, ok, rfl, hbk, z0⟩ := is_at (i := j) (HX.out.below GY.out) (by rw [HKL.out]; exact hlt)
            have t3 : decide ((j : Int) < kl) = true := by simpa using hlt
            by_cases hz1 : nth ks j < 0
            · have u1 : decide (nth ks j < 0) = true := by simpa using hz1
              rw [if_pos (kin_not (by rw [HKL.out]; exact hlt) (.inl hz1))] at HND
              clear hz1
              go_wp2_with fail
              go_ret
              rw [HND.out]
              exact ⟨rfl, GY.out⟩
            · have u1 : decide (nth ks j < 0) = false := by simpa using hz1
              by_cases hz2 : (i : Int) ≤ nth ks j
              · have u2 : decide ((i : Int) ≤ nth ks j) = true := by simpa using hz2
                rw [if_pos (kin_not (by rw [HKL.out]; exact hlt) (.inr hz2))] at HND
                clear hz1 hz2
                go_wp2_with fail
                go_ret
                rw [HND.out]
                exact ⟨rfl, GY.out⟩
              · have u2 : decide ((i : Int) ≤ nth ks j) = false := by simpa using hz2
                have HZZ := Lib.hid (show 0 ≤ nth ks j ∧ nth ks j < i by omega)
                clear hz1 hz2
                go_wp2_with fail
                go_round
                case rel => exact ⟨j + 1, by omega, by go_num, fun m hm => by
                  rcases Nat.lt_or_ge m j with z | z
                  · exact HP.out m z
                  · obtain rfl : m = j := by omega
                    exact HZZ.out, Lib.hid (by trivial)⟩
                case measure => simp [intOf]; omega
          · obtain rfl : j = kl := by omega
            have t3 : decide ((j : Int) < j) = false := by simp
            rw [if_neg (by rw [kin_all (fun m hm => HP.out m (by rw [HKL.out] at hm; exact hm))]; decide)] at HND
            clear hlt
            go_wp2_with fail
            go_ret
            rw [HND.out]
            exact ⟨rfl, GY.out⟩
      · subst z2
        by_cases hn : (kl : Int) = (s.size : Int)
        · rw [if_neg (by rintro (z | z); exact h8 z; exact z.2 hn)] at HND
          have te : ((kl : Int) != (s.size : Int)) = false := by simpa using hn
          by_cases hs0 : 0 < s.size
          · have hsl : s.size - 1 < s.size := by omega
            have f1 : ((s[s.size - 1].toNat : Int) == 42) = false := by unfold stB at z1; rw [bs_of hsl]; simp at z1; simpa using z1 hs0
            clear HST z1 hn
            go_wp2_with fail
            go_loopw [9] (fun k wr => ∃ j : Nat, j ≤ kl ∧ k = .int .i64 j ∧ Hid (∀ m, m < j → 0 ≤ nth ks m ∧ nth ks m < i) ∧ Hid (wx = wr)) (fun k _ => kl - (intOf k).toNat)
            case atStart => exact ⟨0, by omega, rfl, fun m hm => absurd hm (by omega), rfl⟩
            case round =>
              obtain ⟨j, hj, rfl, HP, HW⟩ := hrel
              have HW2 := HW.out
              subst HW2
              obtain ⟨x0, x1, x2, x3, x4⟩ := ag5 N9.out
              have lx := N9.out.lt
              by_cases hlt : j < kl
              · obtain ⟨bk, ok, rfl, hbk, z0⟩ := is_at (i := j) (HX.out.below GY.out) (by rw [HKL.out]; exact hlt)
                have t3 : decide ((j : Int) < kl) = true := by simpa using hlt
                by_cases hz1 : nth ks j < 0
                · have u1 : decide (nth ks j < 0) = true := by simpa using hz1
                  rw [if_pos (kin_not (by rw [HKL.out]; exact hlt) (.inl hz1))] at HND
                  clear hz1
                  go_wp2_with fail
                  go_ret
                  rw [HND.out]
                  exact ⟨rfl, GY.out⟩
                · have u1 : decide (nth ks j < 0) = false := by simpa using hz1
                  by_cases hz2 : (i : Int) ≤ nth ks j
                  · have u2 : decide ((i : Int) ≤ nth ks j) = true := by simpa using hz2
                    rw [if_pos (kin_not (by rw [HKL.out]; exact hlt) (.inr hz2))] at HND
                    clear hz1 hz2
                    go_wp2_with fail
                    go_ret
                    rw [HND.out]
                    exact ⟨rfl, GY.out⟩
                  · have u2 : decide ((i : Int) ≤ nth ks j) = false := by simpa using hz2
                    have HZZ := Lib.hid (show 0 ≤ nth ks j ∧ nth ks j < i by omega)
                    clear hz1 hz2
                    go_wp2_with fail
                    go_round
                    case rel => exact ⟨j + 1, by omega, by go_num, fun m hm => by
                      rcases Nat.lt_or_ge m j with z | z
                      · exact HP.out m z
                      · obtain rfl : m = j := by omega
                        exact HZZ.out, Lib.hid (by trivial)⟩
                    case measure => simp [intOf]; omega
              · obtain rfl : j = kl := by omega
                have t3 : decide ((j : Int) < j) = false := by simp
                rw [if_neg (by rw [kin_all (fun m hm => HP.out m (by rw [HKL.out] at hm; exact hm))]; decide)] at HND
                clear hlt
                go_wp2_with fail
                go_ret
                rw [HND.out]
                exact ⟨rfl, GY.out⟩
          · have f0 : decide (0 < s.size) = false := by simpa using hs0
            clear HST z1 hn
            go_wp2_with fail
            go_loopw [9] (fun k wr => ∃ j : Nat, j ≤ kl ∧ k = .int .i64 j ∧ Hid (∀ m, m < j → 0 ≤ nth ks m ∧ nth ks m < i) ∧ Hid (wx = wr)) (fun k _ => kl - (intOf k).toNat)
            case atStart => exact ⟨0, by omega, rfl, fun m hm => absurd hm (by omega), rfl⟩
            case round =>
              obtain ⟨j, hj, rfl, HP, HW⟩ := hrel
              have HW2 := HW.out
              subst HW2
              obtain ⟨x0, x1, x2, x3, x4⟩ := ag5 N9.out
              have lx := N9.out.lt
              by_cases hlt : j < kl
              · obtain ⟨bk, ok, rfl, hbk, z0⟩ := is_at (i := j) (HX.out.below GY.out) (by rw [HKL.out]; exact hlt)
                have t3 : decide ((j : Int) < kl) = true := by simpa using hlt
                by_cases hz1 : nth ks j < 0
                · have u1 : decide (nth ks j < 0) = true := by simpa using hz1
                  rw [if_pos (kin_not (by rw [HKL.out]; exact hlt) (.inl hz1))] at HND
                  clear hz1
                  go_wp2_with fail
                  go_ret
                  rw [HND.out]
                  exact ⟨rfl, GY.out⟩
                · have u1 : decide (nth ks j < 0) = false := by simpa using hz1
                  by_cases hz2 : (i : Int) ≤ nth ks j
                  · have u2 : decide ((i : Int) ≤ nth ks j) = true := by simpa using hz2
                    rw [if_pos (kin_not (by rw [HKL.out]; exact hlt) (.inr hz2))] at HND
                    clear hz1 hz2
                    go_wp2_with fail
                    go_ret
                    rw [HND.out]
                    exact ⟨rfl, GY.out⟩
                  · have u2 : decide ((i : Int) ≤ nth ks j) = false := by simpa using hz2
                    have HZZ := Lib.hid (show 0 ≤ nth ks j ∧ nth ks j < i by omega)
                    clear hz1 hz2
                    go_wp2_with fail
                    go_round
                    case rel => exact ⟨j + 1, by omega, by go_num, fun m hm => by
                      rcases Nat.lt_or_ge m j with z | z
                      · exact HP.out m z
                      · obtain rfl : m = j := by omega
                        exact HZZ.out, Lib.hid (by trivial)⟩
                    case measure => simp [intOf]; omega
              · obtain rfl : j = kl := by omega
                have t3 : decide ((j : Int) < j) = false := by simp
                rw [if_neg (by rw [kin_all (fun m hm => HP.out m (by rw [HKL.out] at hm; exact hm))]; decide)] at HND
                clear hlt
                go_wp2_with fail
                go_ret
                rw [HND.out]
                exact ⟨rfl, GY.out⟩
        · rw [if_pos (.inr ⟨by omega, hn⟩)] at HND
          have te : ((kl : Int) != (s.size : Int)) = true := by simpa using hn
          by_cases hs0 : 0 < s.size
          · have hsl : s.size - 1 < s.size := by omega
            have f1 : ((s[s.size - 1].toNat : Int) == 42) = false := by unfold stB at z1; rw [bs_of hsl]; simp at z1; simpa using z1 hs0
            clear HST z1 hn
            go_wp2_with fail
            go_ret
            rw [HND.out]
            exact ⟨rfl, GY.out⟩
          · have f0 : decide (0 < s.size) = false := by simpa using hs0
            clear HST z1 hn
            go_wp2_with fail
            go_ret
            rw [HND.out]
            exact ⟨rfl, GY.out⟩
end Go.Proofs.YtcpeddogckillaaGreat
namespace Go.Proofs.YtcpeddogckillaaGreat
open Go.RowKit

theorem ak_L {qs : List Dc} {ns : List Nd} {hs : List Int} {c : Int} (h : akC qs ns hs = c) (hc : c ≠ 0) : akL qs ns hs = [] := by
  unfold akL; rw [h, if_neg hc]
theorem fs_many {code : Nat → Int} {n lim : Nat} (h : lim < n) : fsC code n lim = 2 ∧ fsA code n lim = 0 := by
  unfold fsC fsA; rw [if_pos h, if_pos h]; exact ⟨rfl, rfl⟩
theorem fs_at {code : Nat → Int} {n lim i : Nat} (h : n ≤ lim) (hi : i < n) (hp : ∀ j, j < i → code j = 0) (hc : code i ≠ 0) : fsC code n lim = code i ∧ fsA code n lim = i := by
  have e := fs_hit hi hp hc
  unfold fsC fsA; rw [e, if_neg (by omega), if_pos hi, if_neg (by omega), if_pos hi]; exact ⟨rfl, rfl⟩
theorem fs_ok {code : Nat → Int} {n lim : Nat} (h : n ≤ lim) (hp : ∀ j, j < n → code j = 0) : fsC code n lim = 0 ∧ fsA code n lim = 0 := by
  have e := fs_miss hp
  unfold fsC fsA; rw [e, if_neg (by omega), if_neg (by omega), if_neg (by omega), if_neg (by omega)]; exact ⟨rfl, rfl⟩
theorem ak1 {qs : List Dc} {ns : List Nd} {hs : List Int} {c a : Int} (h : fsC (dcC qs) qs.length 30 = c ∧ fsA (dcC qs) qs.length 30 = a) (hc : c ≠ 0) : akC qs ns hs = c ∧ akA qs ns hs = a ∧ akL qs ns hs = [] := by
  have e : akC qs ns hs = c := by unfold akC; rw [h.1, if_pos hc]
  exact ⟨e, by unfold akA; rw [h.1, if_pos hc, h.2], ak_L e hc⟩
theorem ak2 {qs : List Dc} {ns : List Nd} {hs : List Int} {c a : Int} (h0 : fsC (dcC qs) qs.length 30 = 0) (h : fsC (nC qs ns) ns.length 200 = c ∧ fsA (nC qs ns) ns.length 200 = a) (hc : c ≠ 0) : akC qs ns hs = c ∧ akA qs ns hs = a ∧ akL qs ns hs = [] := by
  have e : akC qs ns hs = c := by unfold akC; rw [h0, if_neg (by simp), h.1, if_pos hc]
  exact ⟨e, by unfold akA; rw [h0, if_neg (by simp), h.1, if_pos hc, h.2], ak_L e hc⟩
theorem ak3 {qs : List Dc} {ns : List Nd} {hs : List Int} {c a : Int} (h0 : fsC (dcC qs) qs.length 30 = 0) (h1 : fsC (nC qs ns) ns.length 200 = 0) (h : fsC (hC qs ns hs) hs.length 200 = c ∧ fsA (hC qs ns hs) hs.length 200 = a) (hc : c ≠ 0) : akC qs ns hs = c ∧ akA qs ns hs = a ∧ akL qs ns hs = [] := by
  have e : akC qs ns hs = c := by unfold akC; rw [h0, if_neg (by simp), h1, if_neg (by simp), h.1]
  exact ⟨e, by unfold akA; rw [h0, if_neg (by simp), h1, if_neg (by simp), h.2], ak_L e hc⟩
theorem ak4 {qs : List Dc} {ns : List Nd} {hs : List Int} (h0 : fsC (dcC qs) qs.length 30 = 0) (h1 : fsC (nC qs ns) ns.length 200 = 0) (h : fsC (hC qs ns hs) hs.length 200 = 0 ∧ fsA (hC qs ns hs) hs.length 200 = 0) : akC qs ns hs = 0 ∧ akA qs ns hs = 0 ∧ akL qs ns hs = srtL qs ns ns.length := by
  have e : akC qs ns hs = 0 := by unfold akC; rw [h0, if_neg (by simp), h1, if_neg (by simp), h.1]
  exact ⟨e, by unfold akA; rw [h0, if_neg (by simp), h1, if_neg (by simp), h.2], by unfold akL; rw [e, if_pos rfl]⟩
theorem nd_split {qs : List Dc} {q : Nd} {i : Nat} {sorts : List Int} (h1 : ¬ (q.op < 1 ∨ 25 < q.op)) (h2 : ¬ (q.op = 9 ∧ fdZ qs q.name < 0)) :
    ndC qs q i sorts = if kdC qs q i ≠ 0 then kdC qs q i else if flC q.op q.n q.d q.name.toList.isEmpty ≠ 0 then flC q.op q.n q.d q.name.toList.isEmpty else if ndT qs q sorts = 0 then 8 else 0 := by
  unfold ndC kdC
  rw [if_neg h1, if_neg h2]
  by_cases a : 8 < q.kids.length ∨ (kWant qs q ≠ -1 ∧ (q.kids.length : Int) ≠ kWant qs q)
  · rw [if_pos a, if_pos a]; rfl
  · rw [if_neg a, if_neg a]
    by_cases b : kIn i q.kids = false
    · rw [if_pos b, if_pos b]; rfl
    · rw [if_neg b, if_neg b]; rfl
theorem kd_zero {qs : List Dc} {q : Nd} {i : Nat} (h : kdC qs q i = 0) : q.kids.length ≤ 8 ∧ (q.op ≠ 9 → kcN q.op = -1 ∨ kcN q.op = q.kids.length) ∧ kIn i q.kids = true := by
  unfold kdC at h
  by_cases a : 8 < q.kids.length ∨ (kWant qs q ≠ -1 ∧ (q.kids.length : Int) ≠ kWant qs q)
  · rw [if_pos a] at h; cases h
  · rw [if_neg a] at h
    by_cases b : kIn i q.kids = false
    · rw [if_pos b] at h; cases h
    · refine ⟨by omega, fun h9 => ?_, by simpa using b⟩
      have e : kWant qs q = kcN q.op := by unfold kWant; rw [if_neg h9]
      rw [e] at a
      omega
end Go.Proofs.YtcpeddogckillaaGreat
