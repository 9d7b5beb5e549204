/-
  Values of nodes: words and numbers in one; what a meaning tells.
  Asks: names, as the program and as the reference tell them.
  Asks: names, as the reference tells them.
-/
import Derived.Test.YtibpgcdaommjeaaG05
import Derived.Test.YtibpgcdaommjeaaG01
namespace Go.Proofs.Ytibpgcdaommjeaa
open Go.RowKit

/-- The value of an operator on words. -/
theorem word_any (op N D m : Int) (nm : ByteArray) (Ak : Option Addr) (kl kc : Nat) (fs : List (Int × Int)) (A : Option Addr) (c : Nat) (hop : op = 15 ∨ op = 16 ∨ op = 17 ∨ op = 18 ∨ op = 19 ∨ op = 20 ∨ op = 21 ∨ op = 23) (hm : fs.length ≤ maxLen)
    (h1 : op ≠ 15 → 1 ≤ fs.length ∧ 2 ≤ m ∧ m ≤ 256 ∧ 0 ≤ (cn fs 0).1 ∧ (cn fs 0).1 < m) (h2 : op = 17 ∨ op = 18 ∨ op = 19 ∨ op = 20 ∨ op = 21 → 2 ≤ fs.length ∧ 0 ≤ (cn fs 1).1 ∧ (cn fs 1).1 < m) (h3 : op = 23 → 0 ≤ N ∧ N ≤ 8) (w : World) (h : CsAt w A fs) :
    Calls Try.prog 36 #[.agg #[.int .i64 op, .slice Ak kl kc, .int .i64 N, .int .i64 D, .string nm], .int .i64 m, .slice A fs.length c] w fun e w' => e = .returned (.int .i64 (wrdF op N m fs)) ∧ Below w.heap.size w w' := by
  rcases hop with rfl | rfl | rfl | rfl | rfl | rfl | rfl | rfl
  · exact word_const N D m nm Ak kl kc fs A c w
  · obtain ⟨a, b, d, e, f⟩ := h1 (by decide)
    exact word_not N D m nm Ak kl kc fs A c a hm b d e f w h
  · obtain ⟨a, b, d, e, f⟩ := h1 (by decide)
    obtain ⟨g, i, j⟩ := h2 (by decide)
    exact word_and N D m nm Ak kl kc fs A c g hm b d e f i j w h
  · obtain ⟨a, b, d, e, f⟩ := h1 (by decide)
    obtain ⟨g, i, j⟩ := h2 (by decide)
    exact word_or N D m nm Ak kl kc fs A c g hm b d e f i j w h
  · obtain ⟨a, b, d, e, f⟩ := h1 (by decide)
    obtain ⟨g, i, j⟩ := h2 (by decide)
    exact word_xor N D m nm Ak kl kc fs A c g hm b d e f i j w h
  · obtain ⟨a, b, d, e, f⟩ := h1 (by decide)
    obtain ⟨g, i, j⟩ := h2 (by decide)
    exact word_add N D m nm Ak kl kc fs A c g hm b d e f i j w h
  · obtain ⟨a, b, d, e, f⟩ := h1 (by decide)
    obtain ⟨g, i, j⟩ := h2 (by decide)
    exact word_times N D m nm Ak kl kc fs A c g hm b d e f i j w h
  · obtain ⟨a, b, d, e, f⟩ := h1 (by decide)
    obtain ⟨n0, n8⟩ := h3 rfl
    exact word_left N D m nm Ak kl kc fs A c a hm b d e f n0 n8 w h
/-- The value of a number, a sum or a product. -/
theorem numv_any (op N D : Int) (nm : ByteArray) (Ak : Option Addr) (kl kc : Nat) (fs : List (Int × Int)) (A : Option Addr) (c : Nat) (hop : op = 10 ∨ op = 11 ∨ op = 12) (hm : fs.length ≤ maxLen) (hv : ∀ i, i < fs.length → fvalid (cn fs i).1 (cn fs i).2 = true)
    (h1 : op = 12 → 1 ≤ fs.length ∧ fvalid N D = true) (w : World) (h : CsAt w A fs) :
    Calls Try.prog 30 #[.agg #[.int .i64 op, .slice Ak kl kc, .int .i64 N, .int .i64 D, .string nm], .slice A fs.length c] w (Gives (numF op N D fs).1.1 (numF op N D fs).1.2 (numF op N D fs).2 0 w) := by
  rcases hop with rfl | rfl | rfl
  · exact number_num N D nm Ak kl kc fs A c w
  · exact number_sum N D nm Ak kl kc fs A c hm hv w h
  · exact number_times N D nm Ak kl kc fs A c (h1 rfl).1 hm (hv 0 (by have := (h1 rfl).1; omega)) (h1 rfl).2 w h
/-- Are the arguments the numbers? -/
def eqA (xs : List Int) (fs : List (Int × Int)) : Bool := xs == fs.map (·.1)
theorem eqA_len {xs : List Int} {fs : List (Int × Int)} (h : xs.length ≠ fs.length) : eqA xs fs = false := by
  unfold eqA
  rw [beq_eq_false_iff_ne]
  intro e
  exact h (by rw [e, List.length_map])
theorem eqA_yes {xs : List Int} {fs : List (Int × Int)} (hl : xs.length = fs.length) (h : ∀ i, i < xs.length → nth xs i = (cn fs i).1) : eqA xs fs = true := by
  unfold eqA
  rw [beq_iff_eq]
  apply List.ext_getElem (by rw [List.length_map]; exact hl)
  intro i h1 h2
  have := h i h1
  rw [nth_of h1, cn_of (by omega)] at this
  rw [this, List.getElem_map]
theorem eqA_no {xs : List Int} {fs : List (Int × Int)} {i : Nat} (h1 : i < xs.length) (h2 : i < fs.length) (h : nth xs i ≠ (cn fs i).1) : eqA xs fs = false := by
  unfold eqA
  rw [beq_eq_false_iff_ne]
  rintro rfl
  rw [nth_of h1, cn_of h2, List.getElem_map] at h
  exact h rfl
theorem tol11_any (a n d : Int) (w : World) : Calls Try.prog 58 #[.int .i64 a, .agg #[.int .i64 n, .int .i64 d]] w fun e w' => e = .returned (.bool (a == n)) ∧ Below w.heap.size w w' := by
  go_enter Try.func58, Try.ntmps58
  go_wp2_with fail
  go_ret
  exact ⟨rfl, by go_grown⟩
set_option maxRecDepth 100000 in
set_option maxHeartbeats 4000000 in
theorem eqfun_any (xs : List Int) (fs : List (Int × Int)) (A A2 : Option Addr) (c c2 : Nat) (hx : xs.length ≤ maxLen) (_hf : fs.length ≤ maxLen) (w : World) (h1 : Is w A xs) (h2 : CsAt w A2 fs) :
    Calls Try.prog 57 #[.slice A xs.length c, .slice A2 fs.length c2, .func (.func 58) #[] #[]] w fun e w' => e = .returned (.bool (eqA xs fs)) ∧ Below w.heap.size w w' := by
  by_cases hne : xs.length = fs.length
  · have HA := Lib.hid h1
    have HF := Lib.hid h2
    have T := Lib.hid tol11_any
    unfold maxLen at hx _hf
    rw [← hne]
    rw [← hne] at _hf
    have HE := Lib.hid hne
    generalize hL : xs.length = L at *
    have HL := Lib.hid hL
    generalize hr : eqA xs fs = r at *
    have HR := Lib.hid hr
    clear h1 h2 hne hL hr _hf
    go_enter Try.func57, Try.ntmps57
    go_wp2_with fail
    go_loopw [7, 8, 9, 17] (fun _ _ _ k wr => ∃ i : Nat, i ≤ L ∧ k = .int .i64 i ∧ Hid (∀ j, j < i → nth xs j = (cn fs j).1) ∧ Hid (Below w.heap.size w wr)) (fun _ _ _ k _ => L - (intOf k).toNat)
    case atStart => exact ⟨0, by omega, rfl, Lib.hid (fun j hj => absurd hj (by omega)), Lib.hid (Below.refl _ _)⟩
    case round =>
      obtain ⟨i, hi, rfl, HP, HB1⟩ := hrel
      by_cases hlt : i < L
      · obtain ⟨b, o, rfl, hb, c0⟩ := is_at (i := i) (HA.out.below HB1.out) (by rw [HL.out]; exact hlt)
        obtain ⟨b2, o2, rfl, hb2, d0, d1⟩ := cs_at (i := i) (HF.out.below HB1.out) (by rw [← HE.out]; exact hlt)
        have t3 : decide ((i : Int) < L) = true := by simpa using hlt
        have HQ : Hid (nth xs i = (cn fs i).1 ∧ (nth xs i == (cn fs i).1) = true ∨ nth xs i ≠ (cn fs i).1 ∧ (nth xs i == (cn fs i).1) = false) := Lib.hid (by
          by_cases z : nth xs i = (cn fs i).1
          · exact .inl ⟨z, by simpa using z⟩
          · exact .inr ⟨z, by simpa using z⟩)
        have HYN : Hid ((∀ z, nth xs i = (cn fs i).1 → z = (cn fs i).1 → True)) := Lib.hid (fun _ _ _ => trivial)
        have NO : Hid (nth xs i ≠ (cn fs i).1 → r = false) := Lib.hid (fun z => HR.out.symm.trans (eqA_no (by rw [HL.out]; exact hlt) (by rw [← HE.out]; exact hlt) z))
        have YES : Hid (nth xs i = (cn fs i).1 → ∀ j, j < i + 1 → nth xs j = (cn fs j).1) := Lib.hid (fun z j hj => by
          rcases Nat.lt_or_ge j i with y | y
          · exact HP.out j y
          · obtain rfl : j = i := by omega
            exact z)
        clear HYN
        generalize nth xs i = x at *
        generalize hcn : (cn fs i).1 = n at *
        clear hcn
        generalize (cn fs i).2 = d at *
        have B2 : Hid (Below w.heap.size w (wr.alloc (.cells #[.int .i64 n, .int .i64 d] 39))) := Lib.hid (bw_below (Nat.le_refl _) HB1.out (new_below wr _))
        go_wp2_with fail
        refine (T.out _ _ _ _).mono ?_
        rintro e w1 ⟨rfl, hb1⟩
        have G1 : Hid (Below w.heap.size w w1) := Lib.hid (bw_below (by simp) B2.out hb1)
        clear hb1
        rcases HQ.out with ⟨z, t5⟩ | ⟨z, t5⟩
        · have Y := Lib.hid (YES.out z)
          clear YES NO z
          rw [t5]
          go_wp2_with fail
          go_round
          case rel => exact ⟨i + 1, by omega, by go_num, Y, G1⟩
          case measure => simp [intOf]; omega
        · have Y := NO.out z
          subst Y
          clear YES NO z
          rw [t5]
          go_wp2_with fail
          go_ret
          exact ⟨rfl, G1.out⟩
      · obtain rfl : i = L := by omega
        have t3 : decide ((i : Int) < i) = false := by simp
        have Y := HR.out.symm.trans (eqA_yes (HL.out.trans HE.out) (fun j hj => HP.out j (by rw [← HL.out]; exact hj)))
        subst Y
        go_wp2_with fail
        go_ret
        exact ⟨rfl, HB1.out⟩
  · rw [eqA_len hne]
    have t1 : ((xs.length : Int) == fs.length) = false := by simp; omega
    have t2 : (xs.length : Int) ≠ fs.length := by omega
    generalize xs.length = L1 at *
    generalize fs.length = L2 at *
    clear h1 h2
    go_enter Try.func57, Try.ntmps57
    go_wp2_with fail
    go_ret
    exact ⟨rfl, Below.refl _ _⟩
end Go.Proofs.Ytibpgcdaommjeaa
namespace Go.Proofs.Ytibpgcdaommjeaa
open Go.RowKit

/-- Letters and digits. -/
def ltr (c : Int) : Bool := ((decide (97 ≤ c) && decide (c ≤ 122)) || (decide (65 ≤ c) && decide (c ≤ 90))) || c == 95
def dig (c : Int) : Bool := decide (48 ≤ c) && decide (c ≤ 57)
theorem isdigit_any (c : Int) (w : World) : Calls Try.prog 72 #[.int .u8 c] w fun e w' => e = .returned (.bool (dig c)) ∧ w = w' := by
  unfold dig
  cases d : decide (48 ≤ c) with
  | true =>
    rw [Bool.true_and]
    go_enter Try.func72, Try.ntmps72
    go_wp2
    go_ret
    exact ⟨rfl, rfl⟩
  | false =>
    rw [Bool.false_and]
    go_enter Try.func72, Try.ntmps72
    go_wp2
    go_ret
    exact ⟨rfl, rfl⟩
theorem isletter_any (c : Int) (w : World) : Calls Try.prog 73 #[.int .u8 c] w fun e w' => e = .returned (.bool (ltr c)) ∧ w = w' := by
  have fin : ∀ b : Bool, ltr c = b → (Calls Try.prog 73 #[.int .u8 c] w fun e w' => e = .returned (.bool b) ∧ w = w') → Calls Try.prog 73 #[.int .u8 c] w fun e w' => e = .returned (.bool (ltr c)) ∧ w = w' := fun b hb h => by rw [hb]; exact h
  cases d1 : decide (97 ≤ c) <;> cases d2 : decide (c ≤ 122) <;> cases d3 : decide (65 ≤ c) <;> cases d4 : decide (c ≤ 90) <;>
  first
    | (exfalso; simp at d1 d2 d3 d4; omega)
    | (refine fin true (by unfold ltr; rw [d1, d2, d3, d4]; rfl) ?_; clear fin; go_enter Try.func73, Try.ntmps73; go_wp2; go_ret; exact ⟨rfl, rfl⟩)
    | (refine fin (c == 95) (by unfold ltr; rw [d1, d2, d3, d4]; simp) ?_; clear fin; go_enter Try.func73, Try.ntmps73; go_wp2; go_ret; exact ⟨rfl, rfl⟩)
/-- A byte of a text. -/
def bs (s : ByteArray) (j : Nat) : Int := if h : j < s.size then (s[j].toNat : Int) else 0
theorem bs_of {s : ByteArray} {j : Nat} (h : j < s.size) : (s[j].toNat : Int) = bs s j := by simp [bs, h]
/-- May the byte at a place stand in a name? -/
def nmC (s : ByteArray) (j : Nat) : Bool := ltr (bs s j) || (dig (bs s j) && decide (0 < j))
def okNm (s : ByteArray) : Bool := decide (1 ≤ s.size) && decide (s.size ≤ 12) && (List.range s.size).all (nmC s)
theorem rall_of {n : Nat} {p : Nat → Bool} (h : ∀ j, j < n → p j = true) : (List.range n).all p = true := by
  rw [List.all_eq_true]; intro x hx; exact h x (List.mem_range.1 hx)
theorem rall_not {n i : Nat} {p : Nat → Bool} (hi : i < n) (h : p i = false) : (List.range n).all p = false := by
  rw [List.all_eq_false]; exact ⟨i, List.mem_range.2 hi, by rw [h]; simp⟩
theorem empty_of {s : ByteArray} (h : s.size = 0) : s = ByteArray.empty := by
  cases s with | mk d => simp [ByteArray.size] at h; subst h; rfl
theorem tl_ne {s : ByteArray} (h : ¬ s.size = 0) : s.toList.isEmpty = false := by
  rw [ByteArray.toList_eq]
  cases s with | mk d => cases d with | mk l => cases l with
    | nil => exact absurd rfl h
    | cons a l => rfl
theorem tl_e {s : ByteArray} (h : s.size = 0) : s.toList.isEmpty = true := by
  rw [empty_of h, ByteArray.toList_eq]; rfl
theorem ltr_dig {c : Int} (h : ltr c = true) : dig c = false := by
  unfold ltr at h
  unfold dig
  simp at h ⊢
  omega
set_option maxHeartbeats 1000000 in
theorem isname_any (s : ByteArray) (w : World) (hs : s.size ≤ maxLen) : Calls Try.prog 47 #[.string s] w fun e w' => e = .returned (.bool (okNm s)) ∧ w = w' := by
  by_cases h1 : s.size = 0
  · have e := empty_of h1
    subst e
    go_enter Try.func47, Try.ntmps47
    go_wp2_with fail
    go_ret
    exact ⟨rfl, rfl⟩
  · have d1 := tl_ne h1
    by_cases h2 : s.size ≤ 12
    · have d2 : decide ((12 : Int) < s.size) = false := by simp; omega
      have hpos : 0 < s.size := by omega
      cases hd : dig (bs s 0) with
      | true =>
        have HD := Lib.hid hd
        have HE : Hid (okNm s = false) := Lib.hid (by
          unfold okNm
          rw [rall_not hpos (by
            unfold nmC
            rw [hd]
            cases hl : ltr (bs s 0) with
            | true => rw [ltr_dig hl] at hd; cases hd
            | false => rfl), Bool.and_false])
        clear hd
        rw [HE.out]
        go_enter Try.func47, Try.ntmps47
        go_wp2_with fail
        rw [bs_of hpos]
        refine (isdigit_any _ _).mono ?_
        rintro e w1 ⟨rfl, rfl⟩
        rw [HD.out]
        go_wp2_with fail
        go_ret
        exact ⟨rfl, rfl⟩
      | false =>
        have HD := Lib.hid hd
        have H1 := Lib.hid h1
        have H2 := Lib.hid h2
        clear hd h1 h2
        go_enter Try.func47, Try.ntmps47
        go_wp2_with fail
        rw [bs_of hpos]
        refine (isdigit_any _ _).mono ?_
        rintro e w1 ⟨rfl, rfl⟩
        rw [HD.out]
        go_wp2_with fail
        go_loopw [3, 18] (fun _ k wr => ∃ j : Nat, j ≤ s.size ∧ k = .int .i64 j ∧ Hid (∀ k, k < j → nmC s k = true) ∧ Hid (w = wr)) (fun _ k _ => s.size - (intOf k).toNat)
        case atStart => exact ⟨0, by omega, rfl, fun k h1 => by omega, rfl⟩
        case round =>
          obtain ⟨j, hj, rfl, HI, HW⟩ := hrel
          by_cases hlt : j < s.size
          · have d : decide ((j : Int) < s.size) = true := by simpa using hlt
            have hb : s.size ≤ 12 := H2.out
            cases hl : ltr (bs s j) with
            | true =>
              have HL := Lib.hid hl
              clear hl
              go_wp2_with fail
              rw [bs_of hlt]
              refine (isletter_any _ _).mono ?_
              rintro e w1 ⟨rfl, rfl⟩
              rw [HL.out]
              go_wp2_with fail
              go_round
              case rel => exact ⟨j + 1, by omega, by go_num, fun k h1 => by
                rcases Nat.lt_or_ge k j with z | z
                · exact HI.out k z
                · obtain rfl : k = j := by omega
                  unfold nmC; rw [HL.out]; rfl, HW.out⟩
              case measure => simp [intOf]; omega
            | false =>
              have HL := Lib.hid hl
              cases hg : dig (bs s j) with
              | true =>
                have HG := Lib.hid hg
                clear hl hg
                go_wp2_with fail
                rw [bs_of hlt]
                refine (isletter_any _ _).mono ?_
                rintro e w1 ⟨rfl, rfl⟩
                rw [HL.out]
                go_wp2_with fail
                rw [bs_of hlt]
                refine (isdigit_any _ _).mono ?_
                rintro e w1 ⟨rfl, rfl⟩
                rw [HG.out]
                go_wp2_with fail
                go_round
                case rel => exact ⟨j + 1, by omega, by go_num, fun k h1 => by
                  rcases Nat.lt_or_ge k j with z | z
                  · exact HI.out k z
                  · obtain rfl : k = j := by omega
                    unfold nmC
                    rw [HG.out]
                    rcases Nat.eq_zero_or_pos k with q | q
                    · subst q; have a := HG.out; rw [HD.out] at a; cases a
                    · simp [q], HW.out⟩
                case measure => simp [intOf]; omega
              | false =>
                have HG := Lib.hid hg
                have HE : Hid (okNm s = false) := Lib.hid (by
                  unfold okNm
                  rw [rall_not hlt (by unfold nmC; rw [hl, hg]; rfl), Bool.and_false])
                clear hl hg
                go_wp2_with fail
                rw [bs_of hlt]
                refine (isletter_any _ _).mono ?_
                rintro e w1 ⟨rfl, rfl⟩
                rw [HL.out]
                go_wp2_with fail
                rw [bs_of hlt]
                refine (isdigit_any _ _).mono ?_
                rintro e w1 ⟨rfl, rfl⟩
                rw [HG.out]
                go_wp2_with fail
                go_ret
                rw [HE.out]
                exact ⟨rfl, HW.out⟩
          · obtain rfl : j = s.size := by omega
            have d : decide ((s.size : Int) < s.size) = false := by simp
            have HE : Hid (okNm s = true) := Lib.hid (by
              unfold okNm
              rw [rall_of HI.out]
              have := H1.out
              have := H2.out
              simp; omega)
            clear hlt
            go_wp2_with fail
            go_ret
            rw [HE.out]
            exact ⟨rfl, HW.out⟩
    · have d2 : decide ((12 : Int) < s.size) = true := by simp; omega
      have HE : Hid (okNm s = false) := Lib.hid (by simp [okNm]; omega)
      clear h1 h2 hs
      go_enter Try.func47, Try.ntmps47
      go_wp2_with fail
      go_ret
      rw [HE.out]
      exact ⟨rfl, rfl⟩
end Go.Proofs.Ytibpgcdaommjeaa
namespace Go.Proofs.Ytibpgcdaommjeaa
open Go.RowKit

theorem nm_bad {s : ByteArray} {j : Nat} (hj : j < s.size) (h : nmC s j = false) : okNm s = false := by
  unfold okNm
  rw [rall_not hj h, Bool.and_false]
end Go.Proofs.Ytibpgcdaommjeaa
