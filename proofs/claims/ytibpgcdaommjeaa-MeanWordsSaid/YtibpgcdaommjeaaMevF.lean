/-
  Values of nodes: an ask's values in a world, or none, where they are beyond.
-/
import Derived.Test.YtibpgcdaommjeaaG23
import Derived.Test.YtibpgcdaommjeaaMevE
namespace Go.Proofs.Ytibpgcdaommjeaa
open Go.RowKit

theorem sumL_ten {fs : List (Int × Int)} : ∀ {p : Int × Int}, (sumL p fs).2 = 0 ∨ (sumL p fs).2 = 10 := by
  induction fs with
  | nil => intro p; exact .inl rfl
  | cons q r ih =>
    intro p
    rw [sumL]
    split
    · exact ih
    · exact .inr rfl
theorem evv_ten {op n d ds : Int} {ks : List Int} {kids : List Vl} {m : Mg} (h : Nk op n d ds ks kids) : (evV op (srt op d ds ks) n d m kids).2 = 0 ∨ (evV op (srt op d ds ks) n d m kids).2 = 10 := by
  have hs := h.sort
  have hkc := h.kc
  have hlen := h.len
  rcases op_cases6 h.lo h.hi with ho | rfl | rfl | ho | ho | rfl | rfl
  · rw [evv_tru ho (srt_tru ho hs).1]
    exact .inl rfl
  · exact .inl rfl
  · exact .inl rfl
  · obtain ⟨e1, e2⟩ := srt_num ho hs
    rw [evv_num ho]
    rcases ho with rfl | rfl | rfl
    · exact .inl rfl
    · exact sumL_ten (p := (0, 1)) (fs := numsOf kids)
    · have hl : (ks.length : Int) = 1 := hkc (by decide) (by decide)
      have e : numF 12 n d (numsOf kids) = ((madeN ((cn (numsOf kids) 0).1 * n) ((cn (numsOf kids) 0).2 * d), madeD ((cn (numsOf kids) 0).1 * n) ((cn (numsOf kids) 0).2 * d)), madeC ((cn (numsOf kids) 0).1 * n) ((cn (numsOf kids) 0).2 * d)) := rfl
      rw [e, cn_nums]
      dsimp only
      by_cases hc : madeC ((vn kids 0).num * n) ((vn kids 0).den * d) = 0
      · exact .inl hc
      · exact .inr (made_big (den_ne (p := ((vn kids 0).num, (vn kids 0).den)) (q := (n, d)) (h.nums e2 0 (by omega)) (isfr_val (h.num (.inr rfl)))) hc).2.2
  · by_cases h15 : op = 15
    · subst h15
      obtain ⟨w1, w2, _, _⟩ := h.word rfl
      have e : srt 15 d ds ks = 10 + d := rfl
      rw [evv_wrd ho (by rw [e]; omega)]
      exact .inl rfl
    · obtain ⟨e1, e2⟩ := srt_wrd (by omega) hs
      obtain ⟨w1, _⟩ := h.words e2
      rw [evv_wrd ho (by rw [e1]; omega)]
      exact .inl rfl
  · exact .inl rfl
  · exact .inl rfl
theorem vals_ten {qs : List Dc} {ns : List Nd} {ms : List Mg} (h : ∀ i, i < ns.length → NdK qs ns ms i) : ∀ {k : Nat} {e : Int × Int}, k ≤ ns.length → valsE (evOf qs ns ms) k = .error e → e.1 = 10 := by
  intro k
  induction k with
  | zero => intro e _ he; cases he
  | succ k ih =>
    intro e hk he
    rw [valsE_succ] at he
    cases hp : valsE (evOf qs ns ms) k with
    | error e' =>
      rw [hp] at he
      injection he with he
      subst he
      exact ih (by omega) hp
    | ok us =>
      rw [hp] at he
      dsimp only at he
      split at he
      · cases he
      · rename_i h0
        injection he with he
        subst he
        have := nd_nk (h k (by omega)) (by omega) (vals_good h (by omega) hp)
        unfold evOf at h0 ⊢
        rw [(h k (by omega)).s] at h0 ⊢
        unfold ndT at h0 ⊢
        rcases evv_ten (m := mn ms (fdI qs (nn ns k).name)) this with z | z
        · exact absurd z h0
        · exact z
/-- What valued yields. -/
def ValdQ (r : Except (Int × Int) (List Vl)) (w : World) (e : Ending) (w' : World) : Prop := ∃ (A : Option Addr) (c : Nat) (ps : List (Vl × Value)), e = .returned (.tuple #[.slice A ps.length c, .bool true]) ∧ VMk w.heap.size w.heap.size (.slice A ps.length c) w' ps ∧ (ps = [] ∨ r = .ok (ps.map (·.1))) ∧ Below w.heap.size w w'
/-- The same, where nothing is beyond. -/
def ValdS (vs : List Vl) (w : World) (e : Ending) (w' : World) : Prop := ∃ (A : Option Addr) (c : Nat) (ps : List (Vl × Value)), e = .returned (.tuple #[.slice A ps.length c, .bool true]) ∧ VMk w.heap.size w.heap.size (.slice A ps.length c) w' ps ∧ ps.map (·.1) = vs ∧ Below w.heap.size w w'
theorem ValdS.q {vs : List Vl} {w : World} {e : Ending} {w' : World} (h : ValdS vs w e w') : ValdQ (.ok vs) w e w' := by
  obtain ⟨A, c, ps, h1, h2, h3, h4⟩ := h
  exact ⟨A, c, ps, h1, h2, .inr (by rw [h3]), h4⟩
theorem one_vals : mvR [] [⟨1, [], 0, 0, ⟨#[]⟩⟩] [] [] = .ok [whV 1] := by
  unfold mvR
  rw [if_pos (by decide +kernel)]
  have e : nth (srtL [] [⟨1, [], 0, 0, ⟨#[]⟩⟩] 1) 0 = 1 := by decide +kernel
  have e2 : evOf [] [⟨1, [], 0, 0, ⟨#[]⟩⟩] [] 0 [] = (whV 1, 0) := by
    unfold evOf
    rw [show nth (srtL [] [⟨1, [], 0, 0, ⟨#[]⟩⟩] ([⟨1, [], 0, 0, ⟨#[]⟩⟩] : List Nd).length) 0 = 1 from e]
    rfl
  show valsE _ 1 = _
  rw [valsE_succ]
  show (if (evOf [] [⟨1, [], 0, 0, ⟨#[]⟩⟩] [] 0 []).2 = 0 then Except.ok ([] ++ [(evOf [] [⟨1, [], 0, 0, ⟨#[]⟩⟩] [] 0 []).1]) else _) = _
  rw [e2]
  rfl
theorem one_any (W : World) (g : Nat) (hg : HB W g 24 #[.int .i64 1, .slice none 0 0, .int .i64 0, .int .i64 0, .string ⟨#[]⟩]) : Calls Try.prog 9 #[.agg #[.slice none 0 0, .slice (some ⟨g, 0, none⟩) 1 1, .slice none 0 0], .agg #[.slice none 0 0]] W (ValsQ (.ok [whV 1]) W) := by
  have := value_any [] [⟨1, [], 0, 0, ⟨#[]⟩⟩] [] [] none (some ⟨g, 0, none⟩) none none 0 1 0 0 W ⟨Nat.le_refl _, Nat.zero_le _, Nat.le_refl _, by unfold maxLen; decide, Nat.zero_le _, trivial, Nat.le_refl _, Nat.zero_le _, fun z => absurd z (by simp), fun _ => ⟨g, 0, rfl, hg.lt, fun i q hq => by
    have hi : i = 0 := by
      rcases Nat.eq_zero_or_pos i with z | z
      · exact z
      · rw [List.getElem?_eq_none (by simp; omega)] at hq; cases hq
    subst hi
    simp at hq
    subst hq
    exact ⟨(hg.cell _).trans rfl, (hg.cell _).trans rfl, (hg.cell _).trans rfl, (hg.cell _).trans rfl, Nat.zero_le _, none, 0, (hg.cell _).trans rfl, Nat.le_refl _, Nat.zero_le _, is_nil _ _⟩⟩, is_nil _ _, ms_nil _ _, fun q hq => absurd hq (by simp)⟩
  rw [one_vals] at this
  exact this
/-- The one value in memory. -/
theorem vm_one {B C c n : Nat} {A : Option Addr} {w : World} {ps : List (Vl × Value)} {x : Vl} (h : VMk B C (.slice A n c) w ps) (hn : ps.length = n) (hp : ps.map (·.1) = [x]) : n = 1 ∧ ∃ b, A = some ⟨b, 0, none⟩ ∧ b < w.heap.size ∧ w.cell? ⟨b, 0, none⟩ = some (.int .i64 x.num) := by
  have hl : ps.length = 1 := by
    have := congrArg List.length hp
    rwa [List.length_map] at this
  obtain ⟨p, rfl⟩ := List.length_eq_one_iff.1 hl
  simp at hp
  subst hn
  obtain ⟨b, e, lb, c0, _⟩ := vm_at (k := 0) h rfl
  rw [hp] at c0
  exact ⟨hl, b, e, lb, by simpa using c0⟩
theorem vm_low2 {B B' : Nat} {sv : Value} {w : World} {ps : List (Vl × Value)} (h : VMk B B sv w ps) (hb : B' ≤ B) : VMk B' B' sv w ps := ⟨own_base h.1 hb, fun p hp => own_base (h.2 p hp) hb⟩
set_option maxRecDepth 100000 in
set_option maxHeartbeats 8000000 in
theorem valued_ok (qs : List Dc) (ns : List Nd) (hs : List Int) (ms : List Mg) (Ad An Ah Am : Option Addr) (dc nc hc mc : Nat) (w : World) (h : AwAt w qs ns hs ms Ad An Ah Am dc nc hc mc) (vs : List Vl) (hr : mvR qs ns hs ms = .ok vs) (hvl : vs.length = ns.length) :
    Calls Try.prog 7 #[.agg #[.slice Ad qs.length dc, .slice An ns.length nc, .slice Ah hs.length hc], .agg #[.slice Am ms.length mc]] w (ValdS vs w) := by
  have X1 := Lib.hid (fun (W : World) (k : Below w.heap.size w W) => value_any qs ns hs ms Ad An Ah Am dc nc hc mc W (h.below k))
  rw [hr] at X1
  have HVL := Lib.hid hvl
  have BX : Hid (Below w.heap.size w ((w.alloc (.cells #[.slice Ad qs.length dc, .slice An ns.length nc, .slice Ah hs.length hc] 30)).alloc (.cells #[.slice Am ms.length mc] 36))) := Lib.hid (by go_grown)
  have HX := Lib.hid ((HB.new w 30 #[.slice Ad qs.length dc, .slice An ns.length nc, .slice Ah hs.length hc]).alloc (.cells #[.slice Am ms.length mc] 36))
  clear h hr hvl
  generalize hQ : ValdS vs w = Q0 at *
  have HQ0 := Lib.hid (fun e w' (z : ValdS vs w e w') => (show Q0 e w' by rw [← hQ]; exact z))
  clear hQ
  generalize qs.length = ql at *
  generalize ns.length = nl at *
  generalize hs.length = hl at *
  generalize ms.length = ml at *
  go_enter Try.func7, Try.ntmps7
  go_wp2_with fail
  refine (X1.out _ BX.out).mono ?_
  rintro e w1 hq1
  obtain ⟨A, c, ps, rfl, hvm, hpv, hb1⟩ : ∃ A c ps, e = .returned (.tuple #[.slice A vs.length c, .agg #[.int .i64 0, .int .i64 0]]) ∧ VMk _ _ (.slice A vs.length c) w1 ps ∧ ps.map (·.1) = vs ∧ Below _ _ w1 := hq1
  rw [HVL.out] at hvm ⊢
  have VM1 := Lib.hid hvm
  have HPV := Lib.hid hpv
  have B1 := Lib.hid (below_after BX.out hb1)
  have H1 := Lib.hid (HX.out.below hb1)
  clear hvm hpv hb1 X1 HX BX
  have BF := Lib.hid (new_below w1 (.cells #[.int .i64 0, .int .i64 0] 47))
  have BN := Lib.hid (new_below (w1.alloc (.cells #[.int .i64 0, .int .i64 0] 47)) (.cells #[.int .i64 1, .slice none 0 0, .int .i64 0, .int .i64 0, .string ⟨#[]⟩] 24))
  have X2 := Lib.hid (one_any _ (w1.heap.size + 1) (HB.new1 w1 (.cells #[.int .i64 0, .int .i64 0] 47) 24 #[.int .i64 1, .slice none 0 0, .int .i64 0, .int .i64 0, .string ⟨#[]⟩]))
  go_wp2_with fail
  refine X2.out.mono ?_
  rintro e w2 hq2
  obtain ⟨A2, c2, ps2, rfl, hvm2, hpv2, hb2⟩ : ∃ A c ps, e = .returned (.tuple #[.slice A 1 c, .agg #[.int .i64 0, .int .i64 0]]) ∧ VMk _ _ (.slice A 1 c) w2 ps ∧ ps.map (·.1) = [whV 1] ∧ Below _ _ w2 := hq2
  have hl2 : ps2.length = 1 := by
    have := congrArg List.length hpv2
    rwa [List.length_map] at this
  obtain ⟨_, b2, rfl, lb2, o2⟩ := vm_one hvm2 hl2 hpv2
  have BB := Lib.hid (below_after (below_after BF.out BN.out) hb2)
  have F2 := Lib.hid ((((HB.new w1 47 #[.int .i64 0, .int .i64 0]).alloc (.cells #[.int .i64 1, .slice none 0 0, .int .i64 0, .int .i64 0, .string ⟨#[]⟩] 24)).below hb2).alloc (.cells #[.int .i64 0, .int .i64 0] 47))
  have B3 := Lib.hid (new_below w2 (.cells #[.int .i64 0, .int .i64 0] 47))
  have H3 := Lib.hid ((H1.out.below BB.out).below B3.out)
  have G3 := Lib.hid (HB.new w2 47 #[.int .i64 0, .int .i64 0])
  have VM3 := Lib.hid ((VM1.out.below BB.out).below B3.out)
  have B9 := Lib.hid (below_after (below_after B1.out BB.out) B3.out)
  have o3 := (B3.out.cell (p := ⟨b2, 0, none⟩) lb2).trans o2
  clear hvm2 hpv2 hb2 hl2 X2 o2 VM1 BF BN
  obtain ⟨f0, f1, -⟩ := F2.out.two
  obtain ⟨g0, g1, -⟩ := G3.out.two
  obtain ⟨a0, a1, a2, -⟩ := H3.out.three
  have hpl : Hid (ps.length = nl) := Lib.hid (by
    have := congrArg List.length HPV.out
    rw [List.length_map, HVL.out] at this
    exact this)
  have FIN : Hid (∀ n : Nat, Q0 (.returned (.tuple #[.slice A nl c, .bool true])) ((w2.alloc (.cells #[.int .i64 0, .int .i64 0] 47)).drewN n)) := Lib.hid (fun n => HQ0.out _ _ ⟨A, c, ps, by rw [hpl.out], (by rw [hpl.out]; exact (vm_low2 VM3.out (by simp; omega)).below (below_dn (Below.refl _ _) n)), HPV.out, below_dn B9.out n⟩)
  clear F2 G3 H3 VM3 B9 BB B3
  go_wp2_with fail
  go_quiet (fail)
  go_wp2_with fail
  exact FIN.out _
set_option maxRecDepth 100000 in
set_option maxHeartbeats 8000000 in
theorem valued_err (qs : List Dc) (ns : List Nd) (hs : List Int) (ms : List Mg) (Ad An Ah Am : Option Addr) (dc nc hc mc : Nat) (w : World) (h : AwAt w qs ns hs ms Ad An Ah Am dc nc hc mc) (x : Int) (hr : mvR qs ns hs ms = .error (10, x)) :
    Calls Try.prog 7 #[.agg #[.slice Ad qs.length dc, .slice An ns.length nc, .slice Ah hs.length hc], .agg #[.slice Am ms.length mc]] w (ValdQ (.error (10, x)) w) := by
  have X1 := Lib.hid (fun (W : World) (k : Below w.heap.size w W) => value_any qs ns hs ms Ad An Ah Am dc nc hc mc W (h.below k))
  rw [hr] at X1
  have BX : Hid (Below w.heap.size w ((w.alloc (.cells #[.slice Ad qs.length dc, .slice An ns.length nc, .slice Ah hs.length hc] 30)).alloc (.cells #[.slice Am ms.length mc] 36))) := Lib.hid (by go_grown)
  clear h hr
  generalize hQ : ValdQ (.error (10, x)) w = Q0 at *
  have HQ0 := Lib.hid (fun e w' (z : ValdQ (.error (10, x)) w e w') => (show Q0 e w' by rw [← hQ]; exact z))
  clear hQ
  generalize qs.length = ql at *
  generalize ns.length = nl at *
  generalize hs.length = hl at *
  generalize ms.length = ml at *
  go_enter Try.func7, Try.ntmps7
  go_wp2_with fail
  refine (X1.out _ BX.out).mono ?_
  rintro e w1 hq1
  obtain ⟨rfl, hb1⟩ : e = .returned (.tuple #[.slice none 0 0, .agg #[.int .i64 10, .int .i64 x]]) ∧ Below _ _ w1 := hq1
  have B1 := Lib.hid (below_after BX.out hb1)
  clear hb1 X1 BX
  have BF := Lib.hid (new_below w1 (.cells #[.int .i64 10, .int .i64 x] 47))
  have BN := Lib.hid (new_below (w1.alloc (.cells #[.int .i64 10, .int .i64 x] 47)) (.cells #[.int .i64 1, .slice none 0 0, .int .i64 0, .int .i64 0, .string ⟨#[]⟩] 24))
  have X2 := Lib.hid (one_any _ (w1.heap.size + 1) (HB.new1 w1 (.cells #[.int .i64 10, .int .i64 x] 47) 24 #[.int .i64 1, .slice none 0 0, .int .i64 0, .int .i64 0, .string ⟨#[]⟩]))
  go_wp2_with fail
  refine X2.out.mono ?_
  rintro e w2 hq2
  obtain ⟨A2, c2, ps2, rfl, -, -, hb2⟩ : ∃ A c ps, e = .returned (.tuple #[.slice A 1 c, .agg #[.int .i64 0, .int .i64 0]]) ∧ VMk _ _ (.slice A 1 c) w2 ps ∧ ps.map (·.1) = [whV 1] ∧ Below _ _ w2 := hq2
  have BB := Lib.hid (below_after (below_after BF.out BN.out) hb2)
  have F2 := Lib.hid ((((HB.new w1 47 #[.int .i64 10, .int .i64 x]).alloc (.cells #[.int .i64 1, .slice none 0 0, .int .i64 0, .int .i64 0, .string ⟨#[]⟩] 24)).below hb2).alloc (.cells #[.int .i64 0, .int .i64 0] 47))
  have B3 := Lib.hid (new_below w2 (.cells #[.int .i64 0, .int .i64 0] 47))
  have G3 := Lib.hid (HB.new w2 47 #[.int .i64 0, .int .i64 0])
  have B9 := Lib.hid (below_after (below_after B1.out BB.out) B3.out)
  clear hb2 X2 BF BN
  obtain ⟨f0, f1, -⟩ := F2.out.two
  obtain ⟨g0, g1, -⟩ := G3.out.two
  have FIN : Hid (∀ W, Below w.heap.size w W → Q0 (.returned (.tuple #[.slice none 0 0, .bool true])) W) := Lib.hid (fun W k => HQ0.out _ _ ⟨none, 0, [], rfl, vm_nil _ _ _, .inl rfl, k⟩)
  clear F2 G3 BB B3
  go_wp2_with fail
  first | exact FIN.out _ B9.out | exact bodyPost_ret (v := .tuple #[.slice none 0 0, .bool true]) (by simp [results, Try.results7, go_sem]) rfl (FIN.out _ B9.out) | (go_ret2; exact FIN.out _ B9.out)
theorem valued_any (qs : List Dc) (ns : List Nd) (hs : List Int) (ms : List Mg) (Ad An Ah Am : Option Addr) (dc nc hc mc : Nat) (w : World) (h : AwAt w qs ns hs ms Ad An Ah Am dc nc hc mc) (h0 : meC qs ns hs ms = 0) :
    Calls Try.prog 7 #[.agg #[.slice Ad qs.length dc, .slice An ns.length nc, .slice Ah hs.length hc], .agg #[.slice Am ms.length mc]] w (ValdQ (valsE (evOf qs ns ms) ns.length) w) := by
  have hr : mvR qs ns hs ms = valsE (evOf qs ns ms) ns.length := if_pos h0
  cases hv : valsE (evOf qs ns ms) ns.length with
  | ok vs => exact (valued_ok qs ns hs ms Ad An Ah Am dc nc hc mc w h vs (by rw [hr, hv]) (valsE_len hv)).mono fun _ _ z => z.q
  | error e =>
    obtain ⟨c, x⟩ := e
    obtain rfl : c = 10 := vals_ten (nd_known h0).2 (Nat.le_refl _) hv
    exact valued_err qs ns hs ms Ad An Ah Am dc nc hc mc w h x (by rw [hr, hv])
end Go.Proofs.Ytibpgcdaommjeaa
