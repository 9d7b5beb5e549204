/-
  Values of nodes: numbers, sums and products.
  Values of nodes: sums.
-/
import Derived.Test.YtibpgcdaommjeaaG04
namespace Go.Proofs.Ytibpgcdaommjeaa
open Go.RowKit

theorem gcd_pos' (num den : Int) (hd : den ≠ 0) : 0 < Nat.gcd (mag num) (mag den) := by
  apply Nat.pos_of_ne_zero; intro h; rw [Nat.gcd_eq_zero_iff] at h; unfold mag at h; omega
theorem terms (num den : Int) (hd : den ≠ 0) : ∃ x y g : Nat, x = mag num / Nat.gcd (mag num) (mag den) ∧ y = mag den / Nat.gcd (mag num) (mag den) ∧ mag num = x * g ∧ mag den = y * g ∧ 0 < g ∧ 0 < y ∧ Nat.gcd x y = 1 := by
  have hg := gcd_pos' num den hd
  refine ⟨_, _, Nat.gcd (mag num) (mag den), rfl, rfl, (Nat.div_mul_cancel (Nat.gcd_dvd_left _ _)).symm, (Nat.div_mul_cancel (Nat.gcd_dvd_right _ _)).symm, hg, Nat.div_pos (Nat.le_of_dvd (by unfold mag; omega) (Nat.gcd_dvd_right _ _)) hg, ?_⟩
  rw [Nat.gcd_div (Nat.gcd_dvd_left _ _) (Nat.gcd_dvd_right _ _)]
  exact Nat.div_self hg
theorem made_terms {num den : Int} (hd : den ≠ 0) : ∃ x y g : Nat, mag num = x * g ∧ mag den = y * g ∧ 0 < g ∧ 0 < y ∧ Nat.gcd x y = 1 ∧
    ((1073741824 < x ∨ 1073741824 < y) ∧ madeN num den = 0 ∧ madeD num den = 0 ∧ madeC num den = 10 ∨
      x ≤ 1073741824 ∧ y ≤ 1073741824 ∧ madeN num den = (if (decide (num < 0) == decide (den < 0)) = true then (x : Int) else -x) ∧ madeD num den = y ∧ madeC num den = 0) := by
  obtain ⟨x, y, g, hx, hy, e1, e2, hg, hy0, hc⟩ := terms num den hd
  refine ⟨x, y, g, e1, e2, hg, hy0, hc, ?_⟩
  unfold madeN madeD madeC
  rw [if_neg hd, if_neg hd, if_neg hd, ← hx, ← hy]
  by_cases h : 1073741824 < x ∨ 1073741824 < y
  · exact .inl ⟨h, by rw [if_pos h], by rw [if_pos h], by rw [if_pos h]⟩
  · exact .inr ⟨by omega, by omega, by rw [if_neg h], by rw [if_neg h], by rw [if_neg h]⟩
theorem made_spec {num den : Int} (hd : den ≠ 0) (hc : madeC num den = 0) : fvalid (madeN num den) (madeD num den) = true ∧ madeN num den * den = num * madeD num den := by
  obtain ⟨x, y, g, e1, e2, hg, hy, hcop, h | ⟨hx1, hy1, hN, hD, _⟩⟩ := made_terms hd (num := num)
  · omega
  · rw [hN, hD]
    by_cases hn : num < 0
    · have n1 : num = -((x : Int) * g) := by rw [← Int.natCast_mul, ← e1]; unfold mag; omega
      by_cases hd' : den < 0
      · have d1 : den = -((y : Int) * g) := by rw [← Int.natCast_mul, ← e2]; unfold mag; omega
        rw [if_pos (by simp [hn, hd'])]
        refine ⟨?_, by rw [n1, d1]; grind⟩
        unfold fvalid; rw [decide_eq_true_iff]; exact ⟨by omega, by omega, by omega, by omega, by simpa [mag] using hcop⟩
      · have d1 : den = (y : Int) * g := by rw [← Int.natCast_mul, ← e2]; unfold mag; omega
        rw [if_neg (by simp [hn, hd'])]
        refine ⟨?_, by rw [n1, d1]; grind⟩
        unfold fvalid; rw [decide_eq_true_iff]; exact ⟨by omega, by omega, by omega, by omega, by simpa [mag] using hcop⟩
    · have n1 : num = (x : Int) * g := by rw [← Int.natCast_mul, ← e1]; unfold mag; omega
      by_cases hd' : den < 0
      · have d1 : den = -((y : Int) * g) := by rw [← Int.natCast_mul, ← e2]; unfold mag; omega
        rw [if_neg (by simp [hn, hd'])]
        refine ⟨?_, by rw [n1, d1]; grind⟩
        unfold fvalid; rw [decide_eq_true_iff]; exact ⟨by omega, by omega, by omega, by omega, by simpa [mag] using hcop⟩
      · have d1 : den = (y : Int) * g := by rw [← Int.natCast_mul, ← e2]; unfold mag; omega
        rw [if_pos (by simp [hn, hd'])]
        refine ⟨?_, by rw [n1, d1]; grind⟩
        unfold fvalid; rw [decide_eq_true_iff]; exact ⟨by omega, by omega, by omega, by omega, by simpa [mag] using hcop⟩
theorem made_big {n d : Int} (hd : d ≠ 0) (hc : madeC n d ≠ 0) : madeN n d = 0 ∧ madeD n d = 0 ∧ madeC n d = 10 := by
  obtain ⟨x, y, g, _, _, _, _, _, h | ⟨_, _, _, _, h⟩⟩ := made_terms hd (num := n)
  · exact ⟨h.2.1, h.2.2.1, h.2.2.2⟩
  · exact absurd h hc
/-- The sum of fractions upon one. -/
def sumL : Int × Int → List (Int × Int) → (Int × Int) × Int
  | p, [] => (p, 0)
  | p, q :: qs => if madeC (p.1 * q.2 + q.1 * p.2) (p.2 * q.2) = 0 then sumL (madeN (p.1 * q.2 + q.1 * p.2) (p.2 * q.2), madeD (p.1 * q.2 + q.1 * p.2) (p.2 * q.2)) qs else ((0, 0), 10)
/-- A number's value, or its fault. -/
def numF (op N D : Int) (fs : List (Int × Int)) : (Int × Int) × Int :=
  if op = 10 then ((N, D), 0) else if op = 12 then ((madeN ((cn fs 0).1 * N) ((cn fs 0).2 * D), madeD ((cn fs 0).1 * N) ((cn fs 0).2 * D)), madeC ((cn fs 0).1 * N) ((cn fs 0).2 * D)) else sumL (0, 1) fs
set_option maxRecDepth 100000 in
set_option maxHeartbeats 2000000 in
theorem number_num (N D : Int) (nm : ByteArray) (Ak : Option Addr) (kl kc : Nat) (fs : List (Int × Int)) (A : Option Addr) (c : Nat) (w : World) :
    Calls Try.prog 30 #[.agg #[.int .i64 10, .slice Ak kl kc, .int .i64 N, .int .i64 D, .string nm], .slice A fs.length c] w (Gives (numF 10 N D fs).1.1 (numF 10 N D fs).1.2 (numF 10 N D fs).2 0 w) := by
  rw [show numF 10 N D fs = ((N, D), 0) from rfl]
  generalize fs.length = L at *
  go_enter Try.func30, Try.ntmps30
  go_wp2_with fail
  refine bodyPost_ret (v := .tuple #[.agg #[.int .i64 N, .int .i64 D], .agg #[.int .i64 0, .int .i64 0]]) (by simp [results, Try.results30, go_sem]) rfl ⟨rfl, ?_⟩
  go_grown
theorem num_new (w : World) (N D : Int) (nm : ByteArray) (Ak : Option Addr) (kl kc : Nat) :
    HB (((w.alloc (.cells #[.int .i64 12, .slice Ak kl kc, .int .i64 N, .int .i64 D, .string nm] 24)).alloc (.cells #[.int .i64 0, .int .i64 0] 39)).alloc (.cells #[.int .i64 0, .int .i64 0] 47)) w.heap.size 24 #[.int .i64 12, .slice Ak kl kc, .int .i64 N, .int .i64 D, .string nm] ∧
    HB (((w.alloc (.cells #[.int .i64 12, .slice Ak kl kc, .int .i64 N, .int .i64 D, .string nm] 24)).alloc (.cells #[.int .i64 0, .int .i64 0] 39)).alloc (.cells #[.int .i64 0, .int .i64 0] 47)) (w.heap.size + 1) 39 #[.int .i64 0, .int .i64 0] ∧
    HB (((w.alloc (.cells #[.int .i64 12, .slice Ak kl kc, .int .i64 N, .int .i64 D, .string nm] 24)).alloc (.cells #[.int .i64 0, .int .i64 0] 39)).alloc (.cells #[.int .i64 0, .int .i64 0] 47)) (w.heap.size + 1 + 1) 47 #[.int .i64 0, .int .i64 0] ∧
    Below w.heap.size w (((w.alloc (.cells #[.int .i64 12, .slice Ak kl kc, .int .i64 N, .int .i64 D, .string nm] 24)).alloc (.cells #[.int .i64 0, .int .i64 0] 39)).alloc (.cells #[.int .i64 0, .int .i64 0] 47)) :=
  ⟨((HB.new _ _ _).alloc _).alloc _, (HB.new1 _ _ _ _).alloc _, HB.new2 _ _ _ _ _, by go_grown⟩
theorem set_two {W : World} {g4 g5 t1 t2 : Nat} {a b c d x y z u : Value} (h4 : HB W g4 t1 #[x, y]) (h5 : HB W g5 t2 #[z, u]) (ne : g4 ≠ g5) :
    HB ((((W.setCell ⟨g4, 0, none⟩ a).setCell ⟨g4, 1, none⟩ b).setCell ⟨g5, 0, none⟩ c).setCell ⟨g5, 1, none⟩ d) g4 t1 #[a, b] ∧ HB ((((W.setCell ⟨g4, 0, none⟩ a).setCell ⟨g4, 1, none⟩ b).setCell ⟨g5, 0, none⟩ c).setCell ⟨g5, 1, none⟩ d) g5 t2 #[c, d] :=
  ⟨((hb_set2 h4).far (p := ⟨g5, 0, none⟩) ne c).far (p := ⟨g5, 1, none⟩) ne d, hb_set2 ((h5.far (p := ⟨g4, 0, none⟩) ne.symm a).far (p := ⟨g4, 1, none⟩) ne.symm b)⟩
/-- What the making of a product reads. -/
@[reducible] def NumK (b o x : Nat) (n0 d0 N D : Int) (W : World) : Prop := W.cell? ⟨b, o, none⟩ = some (.int .i64 n0) ∧ W.cell? ⟨b, o + 1, none⟩ = some (.int .i64 d0) ∧ W.cell? ⟨x, 2, none⟩ = some (.int .i64 N) ∧ W.cell? ⟨x, 3, none⟩ = some (.int .i64 D)
theorem numk_far {b o x g : Nat} {n0 d0 N D : Int} {W : World} (h : NumK b o x n0 d0 N D W) (hb : b ≠ g) (hx : x ≠ g) (u v : Value) : NumK b o x n0 d0 N D ((W.setCell ⟨g, 0, none⟩ u).setCell ⟨g, 1, none⟩ v) := by
  have F := far2 W g u v
  exact ⟨(World.cell?_of_block (F.block b hb)).trans h.1, (World.cell?_of_block (F.block b hb)).trans h.2.1, (World.cell?_of_block (F.block x hx)).trans h.2.2.1, (World.cell?_of_block (F.block x hx)).trans h.2.2.2⟩
theorem num_keep (w : World) (b o : Nat) (n0 d0 N D : Int) (hb : b < w.heap.size) (c0 : w.cell? ⟨b, o, none⟩ = some (.int .i64 n0)) (c1 : w.cell? ⟨b, o + 1, none⟩ = some (.int .i64 d0)) {nm : ByteArray} {Ak : Option Addr} {kl kc : Nat} (X : World) (h1 : HB X w.heap.size 24 #[.int .i64 12, .slice Ak kl kc, .int .i64 N, .int .i64 D, .string nm]) (h4 : Below w.heap.size w X) (W : World) (k : Below X.heap.size X W) :
    NumK b o w.heap.size n0 d0 N D W ∧ (∀ u v, NumK b o w.heap.size n0 d0 N D ((W.setCell ⟨w.heap.size + 1, 0, none⟩ u).setCell ⟨w.heap.size + 1, 1, none⟩ v)) ∧ (∀ u v, NumK b o w.heap.size n0 d0 N D ((W.setCell ⟨w.heap.size + 1 + 1, 0, none⟩ u).setCell ⟨w.heap.size + 1 + 1, 1, none⟩ v)) ∧
    (∀ u v u' v', NumK b o w.heap.size n0 d0 N D ((((W.setCell ⟨w.heap.size + 1, 0, none⟩ u).setCell ⟨w.heap.size + 1, 1, none⟩ v).setCell ⟨w.heap.size + 1 + 1, 0, none⟩ u').setCell ⟨w.heap.size + 1 + 1, 1, none⟩ v')) ∧
    (∀ u v u' v', NumK b o w.heap.size n0 d0 N D ((((W.setCell ⟨w.heap.size + 1 + 1, 0, none⟩ u).setCell ⟨w.heap.size + 1 + 1, 1, none⟩ v).setCell ⟨w.heap.size + 1, 0, none⟩ u').setCell ⟨w.heap.size + 1, 1, none⟩ v')) := by
  have B := below_after h4 k
  have hn := h1.below k
  have K0 : NumK b o w.heap.size n0 d0 N D W := ⟨(B.cell (p := ⟨b, o, none⟩) hb).trans c0, (B.cell (p := ⟨b, o + 1, none⟩) hb).trans c1, hn.cell 2, hn.cell 3⟩
  have a1 : b ≠ w.heap.size + 1 := by omega
  have a2 : b ≠ w.heap.size + 1 + 1 := by omega
  have a3 : w.heap.size ≠ w.heap.size + 1 := by omega
  have a4 : w.heap.size ≠ w.heap.size + 1 + 1 := by omega
  exact ⟨K0, fun u v => numk_far K0 a1 a3 u v, fun u v => numk_far K0 a2 a4 u v, fun u v u' v' => numk_far (numk_far K0 a1 a3 u v) a2 a4 u' v', fun u v u' v' => numk_far (numk_far K0 a2 a4 u v) a1 a3 u' v'⟩
set_option maxRecDepth 100000 in
set_option maxHeartbeats 4000000 in
theorem number_times (N D : Int) (nm : ByteArray) (Ak : Option Addr) (kl kc : Nat) (fs : List (Int × Int)) (A : Option Addr) (c : Nat) (hl : 1 ≤ fs.length) (hm : fs.length ≤ maxLen) (v0 : fvalid (cn fs 0).1 (cn fs 0).2 = true) (v1 : fvalid N D = true) (w : World) (h : CsAt w A fs) :
    Calls Try.prog 30 #[.agg #[.int .i64 12, .slice Ak kl kc, .int .i64 N, .int .i64 D, .string nm], .slice A fs.length c] w (Gives (numF 12 N D fs).1.1 (numF 12 N D fs).1.2 (numF 12 N D fs).2 0 w) := by
  rw [show numF 12 N D fs = ((madeN ((cn fs 0).1 * N) ((cn fs 0).2 * D), madeD ((cn fs 0).1 * N) ((cn fs 0).2 * D)), madeC ((cn fs 0).1 * N) ((cn fs 0).2 * D)) from rfl]
  obtain ⟨b, o, rfl, hb, c0, c1⟩ := cs_at (i := 0) h (by omega)
  rw [Nat.zero_mul, Nat.add_zero] at c0 c1
  have HT := Lib.hid (fun W => times_good (cn fs 0).1 (cn fs 0).2 N D W v0 v1)
  unfold Gives at HT
  unfold maxLen at hm
  dsimp only
  generalize madeN ((cn fs 0).1 * N) ((cn fs 0).2 * D) = mN at *
  generalize madeD ((cn fs 0).1 * N) ((cn fs 0).2 * D) = mD at *
  generalize madeC ((cn fs 0).1 * N) ((cn fs 0).2 * D) = mC at *
  generalize fs.length = L at *
  generalize (cn fs 0).1 = n0 at *
  generalize (cn fs 0).2 = d0 at *
  have l0 : (0 : Int) < L := by omega
  have m0 : 0 < L := by omega
  have HN := Lib.hid (num_new w N D nm Ak kl kc)
  have HK := Lib.hid (num_keep w b o n0 d0 N D hb c0 c1 (nm := nm) (Ak := Ak) (kl := kl) (kc := kc))
  clear h c0 c1 hb v0 v1
  go_enter Try.func30, Try.ntmps30
  go_upto_region 5 with fail
  generalize hX : ((w.alloc (.cells #[.int .i64 12, .slice Ak kl kc, .int .i64 N, .int .i64 D, .string nm] 24)).alloc (.cells #[.int .i64 0, .int .i64 0] 39)).alloc (.cells #[.int .i64 0, .int .i64 0] 47) = X at *
  obtain ⟨h1, h2, h3, h4⟩ := HN.out
  have H2 := Lib.hid h2
  have H3 := Lib.hid h3
  have BX := Lib.hid h4
  have KK := Lib.hid (HK.out X h1 h4)
  clear h1 h2 h3 h4 HN HK
  have NE : w.heap.size + 1 ≠ w.heap.size + 1 + 1 := by omega
  go_region_held3 (fun W => W.cell? ⟨b, o, none⟩ = some (.int .i64 n0) ∧ W.cell? ⟨b, o + 1, none⟩ = some (.int .i64 d0) ∧ W.cell? ⟨w.heap.size, 2, none⟩ = some (.int .i64 N) ∧ W.cell? ⟨w.heap.size, 3, none⟩ = some (.int .i64 D))
    ((first | (with_reducible exact (KK.out _ G1.out).1) | (with_reducible exact (KK.out _ G1.out).2.1 _ _) | (with_reducible exact (KK.out _ G1.out).2.2.1 _ _) | (with_reducible exact (KK.out _ G1.out).2.2.2.1 _ _ _ _) | (with_reducible exact (KK.out _ G1.out).2.2.2.2 _ _ _ _) | (refine (KK.out _ ?_).1; go_grown; done)))
    (first
      | (go_at_call 61; (with_reducible refine (HT.out _).mono ?_); rintro e w1 ⟨rfl, hb1⟩; have G1 : Hid (Below X.heap.size X w1) := Lib.hid (below_after (show Below X.heap.size X _ by go_grown) hb1); obtain ⟨r0, r1, s0, s1⟩ := (H2.out.below G1.out).two; obtain ⟨r2, r3, s2, s3⟩ := (H3.out.below G1.out).two; clear hb1))
  all_goals
    have BW := below_after BX.out G1.out
    first
      | (obtain ⟨e4, e5⟩ := set_two (a := .int .i64 mN) (b := .int .i64 mD) (c := .int .i64 mC) (d := .int .i64 0) (H2.out.below G1.out) (H3.out.below G1.out) NE
         have BZ := bw_far (bw_far BW (by omega) (far2 w1 (w.heap.size + 1) (.int .i64 mN) (.int .i64 mD))) (by omega) (far2 _ (w.heap.size + 1 + 1) (.int .i64 mC) (.int .i64 0))
         obtain ⟨y0, y1, -, -⟩ := e4.two
         obtain ⟨y2, y3, -, -⟩ := e5.two
         go_wp2_with fail
         exact bodyPost_ret (v := .tuple #[.agg #[.int .i64 mN, .int .i64 mD], .agg #[.int .i64 mC, .int .i64 0]]) (by simp [results, Try.results30, go_sem, y0, y1, y2, y3]) rfl ⟨rfl, BZ⟩)
      | (obtain ⟨e5, e4⟩ := set_two (a := .int .i64 mC) (b := .int .i64 0) (c := .int .i64 mN) (d := .int .i64 mD) (H3.out.below G1.out) (H2.out.below G1.out) NE.symm
         have BZ := bw_far (bw_far BW (by omega) (far2 w1 (w.heap.size + 1 + 1) (.int .i64 mC) (.int .i64 0))) (by omega) (far2 _ (w.heap.size + 1) (.int .i64 mN) (.int .i64 mD))
         obtain ⟨y0, y1, -, -⟩ := e4.two
         obtain ⟨y2, y3, -, -⟩ := e5.two
         go_wp2_with fail
         exact bodyPost_ret (v := .tuple #[.agg #[.int .i64 mN, .int .i64 mD], .agg #[.int .i64 mC, .int .i64 0]]) (by simp [results, Try.results30, go_sem, y0, y1, y2, y3]) rfl ⟨rfl, BZ⟩)
end Go.Proofs.Ytibpgcdaommjeaa
namespace Go.Proofs.Ytibpgcdaommjeaa
open Go.RowKit

/-- The four variables of the sum in memory. -/
structure SumM (g : Nat) (p : Int × Int) (c : Int) (w : World) : Prop where
  r : HB w (g + 1) 39 #[.int .i64 0, .int .i64 0]
  f : HB w (g + 1 + 1) 47 #[.int .i64 0, .int .i64 0]
  s : HB w (g + 1 + 1 + 1) 39 #[.int .i64 p.1, .int .i64 p.2]
  t : HB w (g + 1 + 1 + 1 + 1) 47 #[.int .i64 c, .int .i64 0]
theorem SumM.below {g : Nat} {p : Int × Int} {c : Int} {w w' : World} (h : SumM g p c w) (k : Below w.heap.size w w') : SumM g p c w' := ⟨h.r.below k, h.f.below k, h.s.below k, h.t.below k⟩
theorem sum_new (w : World) (N D : Int) (nm : ByteArray) (Ak : Option Addr) (kl kc : Nat) : SumM w.heap.size (0, 1) 0 (((((w.alloc (.cells #[.int .i64 11, .slice Ak kl kc, .int .i64 N, .int .i64 D, .string nm] 24)).alloc (.cells #[.int .i64 0, .int .i64 0] 39)).alloc (.cells #[.int .i64 0, .int .i64 0] 47)).alloc (.cells #[.int .i64 0, .int .i64 1] 39)).alloc (.cells #[.int .i64 0, .int .i64 0] 47)) ∧ Below w.heap.size w (((((w.alloc (.cells #[.int .i64 11, .slice Ak kl kc, .int .i64 N, .int .i64 D, .string nm] 24)).alloc (.cells #[.int .i64 0, .int .i64 0] 39)).alloc (.cells #[.int .i64 0, .int .i64 0] 47)).alloc (.cells #[.int .i64 0, .int .i64 1] 39)).alloc (.cells #[.int .i64 0, .int .i64 0] 47)) :=
  ⟨⟨by simpa using ((((HB.new1 w (.cells #[.int .i64 11, .slice Ak kl kc, .int .i64 N, .int .i64 D, .string nm] 24) 39 #[.int .i64 0, .int .i64 0])).alloc _).alloc _).alloc _, by simpa using ((HB.new2 w (.cells #[.int .i64 11, .slice Ak kl kc, .int .i64 N, .int .i64 D, .string nm] 24) (.cells #[.int .i64 0, .int .i64 0] 39) 47 #[.int .i64 0, .int .i64 0]).alloc _).alloc _, by simpa using (HB.new3 w (.cells #[.int .i64 11, .slice Ak kl kc, .int .i64 N, .int .i64 D, .string nm] 24) (.cells #[.int .i64 0, .int .i64 0] 39) (.cells #[.int .i64 0, .int .i64 0] 47) 39 #[.int .i64 0, .int .i64 1]).alloc _, by simpa using HB.new3 (w.alloc (.cells #[.int .i64 11, .slice Ak kl kc, .int .i64 N, .int .i64 D, .string nm] 24)) (.cells #[.int .i64 0, .int .i64 0] 39) (.cells #[.int .i64 0, .int .i64 0] 47) (.cells #[.int .i64 0, .int .i64 1] 39) 47 #[.int .i64 0, .int .i64 0]⟩, by go_grown⟩
theorem SumM.put {g : Nat} {p q : Int × Int} {c d : Int} {w : World} (h : SumM g p c w) :
    SumM g q d ((((w.setCell ⟨g + 1 + 1 + 1, 0, none⟩ (.int .i64 q.1)).setCell ⟨g + 1 + 1 + 1, 1, none⟩ (.int .i64 q.2)).setCell ⟨g + 1 + 1 + 1 + 1, 0, none⟩ (.int .i64 d)).setCell ⟨g + 1 + 1 + 1 + 1, 1, none⟩ (.int .i64 0)) := by
  obtain ⟨a, b⟩ := set_two (a := .int .i64 q.1) (b := .int .i64 q.2) (c := .int .i64 d) (d := .int .i64 0) h.s h.t (by omega)
  have n1 : g + 1 ≠ g + 1 + 1 + 1 := by omega
  have n2 : g + 1 ≠ g + 1 + 1 + 1 + 1 := by omega
  have n3 : g + 1 + 1 ≠ g + 1 + 1 + 1 := by omega
  have n4 : g + 1 + 1 ≠ g + 1 + 1 + 1 + 1 := by omega
  exact ⟨(((h.r.far (p := ⟨g + 1 + 1 + 1, 0, none⟩) n1 _).far (p := ⟨g + 1 + 1 + 1, 1, none⟩) n1 _).far (p := ⟨g + 1 + 1 + 1 + 1, 0, none⟩) n2 _).far (p := ⟨g + 1 + 1 + 1 + 1, 1, none⟩) n2 _,
    (((h.f.far (p := ⟨g + 1 + 1 + 1, 0, none⟩) n3 _).far (p := ⟨g + 1 + 1 + 1, 1, none⟩) n3 _).far (p := ⟨g + 1 + 1 + 1 + 1, 0, none⟩) n4 _).far (p := ⟨g + 1 + 1 + 1 + 1, 1, none⟩) n4 _, a, b⟩
theorem sum_far {B g : Nat} {W w : World} {a b c d : Value} (h : Below B W w) (hg : B ≤ g) : Below B W ((((w.setCell ⟨g + 1 + 1 + 1, 0, none⟩ a).setCell ⟨g + 1 + 1 + 1, 1, none⟩ b).setCell ⟨g + 1 + 1 + 1 + 1, 0, none⟩ c).setCell ⟨g + 1 + 1 + 1 + 1, 1, none⟩ d) :=
  bw_far (bw_far h (by omega) (far2 w (g + 1 + 1 + 1) a b)) (by omega) (far2 _ (g + 1 + 1 + 1 + 1) c d)
theorem sumL_end (p : Int × Int) {fs : List (Int × Int)} {i : Nat} (h : fs.length ≤ i) : sumL p (fs.drop i) = (p, 0) := by rw [List.drop_eq_nil_of_le h]; rfl
theorem sumL_step (p : Int × Int) {fs : List (Int × Int)} {i : Nat} (h : i < fs.length) : sumL p (fs.drop i) = if madeC (p.1 * (cn fs i).2 + (cn fs i).1 * p.2) (p.2 * (cn fs i).2) = 0 then sumL (madeN (p.1 * (cn fs i).2 + (cn fs i).1 * p.2) (p.2 * (cn fs i).2), madeD (p.1 * (cn fs i).2 + (cn fs i).1 * p.2) (p.2 * (cn fs i).2)) (fs.drop (i + 1)) else ((0, 0), 10) := by
  rw [List.drop_eq_getElem_cons h, cn_of h]
  rfl
/-- What the end of a sum reads. -/
@[reducible] def SumK (g : Nat) (p : Int × Int) (c : Int) (X : World) : Prop := X.cell? ⟨g + 1 + 1 + 1, 0, none⟩ = some (.int .i64 p.1) ∧ X.cell? ⟨g + 1 + 1 + 1, 1, none⟩ = some (.int .i64 p.2) ∧ X.cell? ⟨g + 1 + 1 + 1 + 1, 0, none⟩ = some (.int .i64 c) ∧ X.cell? ⟨g + 1 + 1 + 1 + 1, 1, none⟩ = some (.int .i64 0)
theorem sumk_far {g h : Nat} {p : Int × Int} {c : Int} {W : World} (k : SumK g p c W) (h1 : g + 1 + 1 + 1 ≠ h) (h2 : g + 1 + 1 + 1 + 1 ≠ h) (u v : Value) : SumK g p c ((W.setCell ⟨h, 0, none⟩ u).setCell ⟨h, 1, none⟩ v) := by
  have F := far2 W h u v
  exact ⟨(World.cell?_of_block (F.block _ h1)).trans k.1, (World.cell?_of_block (F.block _ h1)).trans k.2.1, (World.cell?_of_block (F.block _ h2)).trans k.2.2.1, (World.cell?_of_block (F.block _ h2)).trans k.2.2.2⟩
theorem sumk_dr {g : Nat} {p : Int × Int} {c : Int} {W : World} (k : SumK g p c W) : SumK g p c W.drew := k
theorem set_two_d {W : World} {g4 g5 t1 t2 : Nat} {a b c d x y z u : Value} (h4 : HB W g4 t1 #[x, y]) (h5 : HB W g5 t2 #[z, u]) (ne : g4 ≠ g5) :
    HB ((((W.setCell ⟨g4, 0, none⟩ a).setCell ⟨g4, 1, none⟩ b).drew.setCell ⟨g5, 0, none⟩ c).setCell ⟨g5, 1, none⟩ d) g4 t1 #[a, b] ∧ HB ((((W.setCell ⟨g4, 0, none⟩ a).setCell ⟨g4, 1, none⟩ b).drew.setCell ⟨g5, 0, none⟩ c).setCell ⟨g5, 1, none⟩ d) g5 t2 #[c, d] :=
  ⟨((hb_set2 h4).drew.far (p := ⟨g5, 0, none⟩) ne c).far (p := ⟨g5, 1, none⟩) ne d, hb_set2 (((h5.far (p := ⟨g4, 0, none⟩) ne.symm a).far (p := ⟨g4, 1, none⟩) ne.symm b).drew)⟩
theorem sum_keep {g : Nat} {p : Int × Int} {c : Int} {X : World} (h : SumM g p c X) (W : World) (k : Below X.heap.size X W) :
    SumK g p c W ∧ (∀ u v, SumK g p c ((W.setCell ⟨g + 1, 0, none⟩ u).setCell ⟨g + 1, 1, none⟩ v)) ∧ (∀ u v, SumK g p c ((W.setCell ⟨g + 1 + 1, 0, none⟩ u).setCell ⟨g + 1 + 1, 1, none⟩ v)) ∧
    (∀ u v u' v', SumK g p c ((((W.setCell ⟨g + 1, 0, none⟩ u).setCell ⟨g + 1, 1, none⟩ v).setCell ⟨g + 1 + 1, 0, none⟩ u').setCell ⟨g + 1 + 1, 1, none⟩ v')) ∧
    (∀ u v u' v', SumK g p c ((((W.setCell ⟨g + 1 + 1, 0, none⟩ u).setCell ⟨g + 1 + 1, 1, none⟩ v).setCell ⟨g + 1, 0, none⟩ u').setCell ⟨g + 1, 1, none⟩ v')) := by
  have hk := h.below k
  have K0 : SumK g p c W := ⟨hk.s.cell 0, hk.s.cell 1, hk.t.cell 0, hk.t.cell 1⟩
  have a1 : g + 1 + 1 + 1 ≠ g + 1 := by omega
  have a2 : g + 1 + 1 + 1 ≠ g + 1 + 1 := by omega
  have a3 : g + 1 + 1 + 1 + 1 ≠ g + 1 := by omega
  have a4 : g + 1 + 1 + 1 + 1 ≠ g + 1 + 1 := by omega
  exact ⟨K0, fun u v => sumk_far K0 a1 a3 u v, fun u v => sumk_far K0 a2 a4 u v, fun u v u' v' => sumk_far (sumk_far K0 a1 a3 u v) a2 a4 u' v', fun u v u' v' => sumk_far (sumk_far K0 a2 a4 u v) a1 a3 u' v'⟩
set_option maxRecDepth 100000 in
set_option maxHeartbeats 4000000 in
theorem number_sum (N D : Int) (nm : ByteArray) (Ak : Option Addr) (kl kc : Nat) (fs : List (Int × Int)) (A : Option Addr) (c : Nat) (hm : fs.length ≤ maxLen) (hv : ∀ i, i < fs.length → fvalid (cn fs i).1 (cn fs i).2 = true) (w : World) (h : CsAt w A fs) :
    Calls Try.prog 30 #[.agg #[.int .i64 11, .slice Ak kl kc, .int .i64 N, .int .i64 D, .string nm], .slice A fs.length c] w (Gives (numF 11 N D fs).1.1 (numF 11 N D fs).1.2 (numF 11 N D fs).2 0 w) := by
  rw [show numF 11 N D fs = sumL (0, 1) (fs.drop 0) from rfl]
  have HA := Lib.hid h
  have HV := Lib.hid hv
  have HN := Lib.hid (sum_new w N D nm Ak kl kc)
  have V1 : Hid (fvalid 0 1 = true) := Lib.hid (by decide)
  generalize hr : sumL (0, 1) (fs.drop 0) = R at *
  have HR := Lib.hid hr
  obtain ⟨⟨Rn, Rd⟩, Rc⟩ := R
  unfold maxLen at hm
  generalize hL : fs.length = L at *
  have HL := Lib.hid hL
  clear h hv hr hL
  go_enter Try.func30, Try.ntmps30
  go_wp2_with fail
  go_loopw [37] (fun k wr => ∃ (i : Nat) (p : Int × Int), i ≤ L ∧ k = .int .i64 i ∧ Hid (sumL p (fs.drop i) = ((Rn, Rd), Rc)) ∧ Hid (fvalid p.1 p.2 = true) ∧ Hid (SumM w.heap.size p 0 wr) ∧ Hid (Below w.heap.size w wr)) (fun k _ => L - (intOf k).toNat)
  case atStart => exact ⟨0, (0, 1), by omega, rfl, HR, V1, Lib.hid HN.out.1, Lib.hid HN.out.2⟩
  case round =>
    clear HR HN V1
    obtain ⟨i, p, hi, rfl, HS, HP, HM, HB1⟩ := hrel
    by_cases hlt : i < L
    · obtain ⟨b, o, rfl, hb, c0, c1⟩ := cs_at (i := i) (HA.out.below HB1.out) (by rw [HL.out]; exact hlt)
      have t3 : decide ((i : Int) < L) = true := by simpa using hlt
      have vq := HV.out i hlt
      have HS2 := Lib.hid ((sumL_step p (by rw [HL.out]; exact hlt)).symm.trans HS.out)
      generalize cn fs i = q at *
      have HM1 := Lib.hid (HM.out.below (new_below wr (.cells #[.int .i64 q.1, .int .i64 q.2] 39)))
      have HT := Lib.hid (fun W => add_good p.1 p.2 q.1 q.2 W HP.out vq)
      have HD : Hid (p.2 * q.2 ≠ 0) := Lib.hid (by
        have a1 := fvalid_bd HP.out
        have a2 := fvalid_bd vq
        exact fun z => by
          rcases Int.mul_eq_zero.1 z with z | z <;> omega)
      have HMS : Hid (∀ c0, madeC (p.1 * q.2 + q.1 * p.2) (p.2 * q.2) = c0 → c0 = 0 ∧ fvalid (madeN (p.1 * q.2 + q.1 * p.2) (p.2 * q.2)) (madeD (p.1 * q.2 + q.1 * p.2) (p.2 * q.2)) = true ∨ madeN (p.1 * q.2 + q.1 * p.2) (p.2 * q.2) = 0 ∧ madeD (p.1 * q.2 + q.1 * p.2) (p.2 * q.2) = 0 ∧ c0 = 10) := Lib.hid (fun c0 hc => by
        by_cases z : c0 = 0
        · exact .inl ⟨z, (made_spec HD.out (hc.trans z)).1⟩
        · have := made_big HD.out (n := p.1 * q.2 + q.1 * p.2) (by rw [hc]; exact z)
          exact .inr ⟨this.1, this.2.1, hc.symm.trans this.2.2⟩)
      unfold Gives at HT
      generalize madeN (p.1 * q.2 + q.1 * p.2) (p.2 * q.2) = mN at *
      generalize madeD (p.1 * q.2 + q.1 * p.2) (p.2 * q.2) = mD at *
      generalize madeC (p.1 * q.2 + q.1 * p.2) (p.2 * q.2) = mC at *
      obtain ⟨pn, pd⟩ := p
      obtain ⟨qn, qd⟩ := q
      dsimp only at c0 c1 HT HM HM1
      obtain ⟨x0, x1, -, -⟩ := HM.out.s.two
      obtain ⟨x0', x1', -, -⟩ := HM1.out.s.two
      go_wp2_with fail
      refine (HT.out _).mono ?_
      rintro e w1 ⟨rfl, hb1⟩
      have G1 := Lib.hid (HM1.out.below hb1)
      have B1 : Hid (Below w.heap.size w w1) := Lib.hid (bw_below (by have := HB1.out.size; simp) (bw_below (Nat.le_refl _) HB1.out (new_below wr _)) hb1)
      obtain ⟨s0, s1, fs0, fs1⟩ := G1.out.s.two
      obtain ⟨u0, u1, fu0, fu1⟩ := G1.out.t.two
      clear hb1 x0 x1 x0' x1' c0 c1 HM HM1 HT vq
      have P1 := Lib.hid (SumM.put (q := (mN, mD)) (d := mC) G1.out)
      have Z1 := Lib.hid (sum_far (a := .int .i64 mN) (b := .int .i64 mD) (c := .int .i64 mC) (d := .int .i64 0) B1.out (Nat.le_refl _))
      rcases HMS.out _ rfl with ⟨hz, hvz⟩ | ⟨hz1, hz2, hz3⟩
      · subst hz
        have VZ := Lib.hid hvz
        clear hvz
        go_wp2_with fail
        go_round
        case rel => exact ⟨i + 1, (mN, mD), by omega, by go_num, Lib.hid (by simpa using HS2.out), VZ, P1, Z1⟩
        case measure => simp [intOf]; omega
      · subst hz1 hz2 hz3
        have e := HS2.out
        rw [if_neg (by decide)] at e
        injection e with e1 e2
        injection e1 with e1 e3
        subst e1 e2 e3
        go_wp2_with fail
        generalize ((((w1.setCell ⟨w.heap.size + 1 + 1 + 1, 0, none⟩ (.int .i64 0)).setCell ⟨w.heap.size + 1 + 1 + 1, 1, none⟩ (.int .i64 0)).setCell ⟨w.heap.size + 1 + 1 + 1 + 1, 0, none⟩ (.int .i64 10)).setCell ⟨w.heap.size + 1 + 1 + 1 + 1, 1, none⟩ (.int .i64 0)) = WZ at *
        clear s0 s1 fs0 fs1 u0 u1 fu0 fu1
        have KK := Lib.hid (sum_keep P1.out)
        have BD := Lib.hid ((Below.refl WZ.heap.size WZ).drew)
        have BR := Lib.hid (Below.refl WZ.heap.size WZ)
        obtain ⟨x0, x1, -, -⟩ := P1.out.s.two
        obtain ⟨u0, u1, -, -⟩ := P1.out.t.two
        obtain ⟨r0, r1, fr0, fr1⟩ := P1.out.r.two
        obtain ⟨f0, f1, ff0, ff1⟩ := P1.out.f.two
        have NE : w.heap.size + 1 ≠ w.heap.size + 1 + 1 := by omega
        have na1 : w.heap.size + 1 + 1 + 1 ≠ w.heap.size + 1 := by omega
        have na2 : w.heap.size + 1 + 1 + 1 ≠ w.heap.size + 1 + 1 := by omega
        have na3 : w.heap.size + 1 + 1 + 1 + 1 ≠ w.heap.size + 1 := by omega
        have na4 : w.heap.size + 1 + 1 + 1 + 1 ≠ w.heap.size + 1 + 1 := by omega
        go_region_held3 (fun X => X.cell? ⟨w.heap.size + 1 + 1 + 1, 0, none⟩ = some (.int .i64 0) ∧ X.cell? ⟨w.heap.size + 1 + 1 + 1, 1, none⟩ = some (.int .i64 0) ∧ X.cell? ⟨w.heap.size + 1 + 1 + 1 + 1, 0, none⟩ = some (.int .i64 10) ∧ X.cell? ⟨w.heap.size + 1 + 1 + 1 + 1, 1, none⟩ = some (.int .i64 0))
          ((first | (with_reducible exact (KK.out _ BD.out).1) | (with_reducible exact (KK.out _ BR.out).1) | (with_reducible exact (KK.out _ BD.out).2.1 _ _) | (with_reducible exact (KK.out _ BD.out).2.2.1 _ _) | (with_reducible exact (KK.out _ BD.out).2.2.2.1 _ _ _ _) | (with_reducible exact (KK.out _ BD.out).2.2.2.2 _ _ _ _) | (with_reducible exact (KK.out _ BR.out).2.1 _ _) | (with_reducible exact (KK.out _ BR.out).2.2.1 _ _) | (with_reducible exact (KK.out _ BR.out).2.2.2.1 _ _ _ _) | (with_reducible exact (KK.out _ BR.out).2.2.2.2 _ _ _ _) | (with_reducible exact sumk_dr ((KK.out _ BR.out).2.1 _ _)) | (with_reducible exact sumk_dr ((KK.out _ BR.out).2.2.1 _ _)) | (with_reducible exact sumk_dr ((KK.out _ BR.out).2.2.2.1 _ _ _ _)) | (with_reducible exact sumk_dr ((KK.out _ BR.out).2.2.2.2 _ _ _ _)) | (with_reducible exact sumk_far (sumk_dr ((KK.out _ BR.out).2.1 _ _)) na2 na4 _ _) | (with_reducible exact sumk_far (sumk_dr ((KK.out _ BR.out).2.2.1 _ _)) na1 na3 _ _) | (with_reducible exact sumk_dr (sumk_far (sumk_dr ((KK.out _ BR.out).2.1 _ _)) na2 na4 _ _)) | (with_reducible exact sumk_dr (sumk_far (sumk_dr ((KK.out _ BR.out).2.2.1 _ _)) na1 na3 _ _))))
          (fail)
        all_goals
          clear x0 x1 u0 u1 r0 r1 fr0 fr1 f0 f1 ff0 ff1
          first
            | (obtain ⟨e4, e5⟩ := set_two (a := .int .i64 0) (b := .int .i64 0) (c := .int .i64 10) (d := .int .i64 0) P1.out.r P1.out.f NE
               have BZ := bw_far (bw_far Z1.out (by omega) (far2 WZ (w.heap.size + 1) (.int .i64 0) (.int .i64 0))) (by omega) (far2 _ (w.heap.size + 1 + 1) (.int .i64 10) (.int .i64 0))
               obtain ⟨y0, y1, -, -⟩ := e4.drew.two
               obtain ⟨y2, y3, -, -⟩ := e5.drew.two
               go_wp2_with fail
               exact bodyPost_ret (v := .tuple #[.agg #[.int .i64 0, .int .i64 0], .agg #[.int .i64 10, .int .i64 0]]) (by simp [results, Try.results30, go_sem, y0, y1, y2, y3]) rfl ⟨rfl, BZ.drew⟩)
            | (obtain ⟨e5, e4⟩ := set_two (a := .int .i64 10) (b := .int .i64 0) (c := .int .i64 0) (d := .int .i64 0) P1.out.f P1.out.r NE.symm
               have BZ := bw_far (bw_far Z1.out (by omega) (far2 WZ (w.heap.size + 1 + 1) (.int .i64 10) (.int .i64 0))) (by omega) (far2 _ (w.heap.size + 1) (.int .i64 0) (.int .i64 0))
               obtain ⟨y0, y1, -, -⟩ := e4.drew.two
               obtain ⟨y2, y3, -, -⟩ := e5.drew.two
               go_wp2_with fail
               exact bodyPost_ret (v := .tuple #[.agg #[.int .i64 0, .int .i64 0], .agg #[.int .i64 10, .int .i64 0]]) (by simp [results, Try.results30, go_sem, y0, y1, y2, y3]) rfl ⟨rfl, BZ.drew⟩)
    · obtain rfl : i = L := by omega
      have t3 : decide ((i : Int) < i) = false := by simp
      have e := HS.out
      rw [sumL_end p (by rw [HL.out]; exact Nat.le_refl _)] at e
      injection e with e1 e2
      subst e1 e2
      go_wp2_with fail
      have KK := Lib.hid (sum_keep HM.out)
      have BD := Lib.hid ((Below.refl wr.heap.size wr).drew)
      have BR := Lib.hid (Below.refl wr.heap.size wr)
      obtain ⟨x0, x1, -, -⟩ := HM.out.s.two
      obtain ⟨u0, u1, -, -⟩ := HM.out.t.two
      obtain ⟨r0, r1, fr0, fr1⟩ := HM.out.r.two
      obtain ⟨f0, f1, ff0, ff1⟩ := HM.out.f.two
      have NE : w.heap.size + 1 ≠ w.heap.size + 1 + 1 := by omega
      have na1 : w.heap.size + 1 + 1 + 1 ≠ w.heap.size + 1 := by omega
      have na2 : w.heap.size + 1 + 1 + 1 ≠ w.heap.size + 1 + 1 := by omega
      have na3 : w.heap.size + 1 + 1 + 1 + 1 ≠ w.heap.size + 1 := by omega
      have na4 : w.heap.size + 1 + 1 + 1 + 1 ≠ w.heap.size + 1 + 1 := by omega
      go_region_held3 (fun X => X.cell? ⟨w.heap.size + 1 + 1 + 1, 0, none⟩ = some (.int .i64 Rn) ∧ X.cell? ⟨w.heap.size + 1 + 1 + 1, 1, none⟩ = some (.int .i64 Rd) ∧ X.cell? ⟨w.heap.size + 1 + 1 + 1 + 1, 0, none⟩ = some (.int .i64 0) ∧ X.cell? ⟨w.heap.size + 1 + 1 + 1 + 1, 1, none⟩ = some (.int .i64 0))
        ((first | (with_reducible exact (KK.out _ BD.out).1) | (with_reducible exact (KK.out _ BR.out).1) | (with_reducible exact (KK.out _ BD.out).2.1 _ _) | (with_reducible exact (KK.out _ BD.out).2.2.1 _ _) | (with_reducible exact (KK.out _ BD.out).2.2.2.1 _ _ _ _) | (with_reducible exact (KK.out _ BD.out).2.2.2.2 _ _ _ _) | (with_reducible exact (KK.out _ BR.out).2.1 _ _) | (with_reducible exact (KK.out _ BR.out).2.2.1 _ _) | (with_reducible exact (KK.out _ BR.out).2.2.2.1 _ _ _ _) | (with_reducible exact (KK.out _ BR.out).2.2.2.2 _ _ _ _) | (with_reducible exact sumk_dr ((KK.out _ BR.out).2.1 _ _)) | (with_reducible exact sumk_dr ((KK.out _ BR.out).2.2.1 _ _)) | (with_reducible exact sumk_dr ((KK.out _ BR.out).2.2.2.1 _ _ _ _)) | (with_reducible exact sumk_dr ((KK.out _ BR.out).2.2.2.2 _ _ _ _)) | (with_reducible exact sumk_far (sumk_dr ((KK.out _ BR.out).2.1 _ _)) na2 na4 _ _) | (with_reducible exact sumk_far (sumk_dr ((KK.out _ BR.out).2.2.1 _ _)) na1 na3 _ _) | (with_reducible exact sumk_dr (sumk_far (sumk_dr ((KK.out _ BR.out).2.1 _ _)) na2 na4 _ _)) | (with_reducible exact sumk_dr (sumk_far (sumk_dr ((KK.out _ BR.out).2.2.1 _ _)) na1 na3 _ _))))
        (fail)
      all_goals
        clear x0 x1 u0 u1 r0 r1 fr0 fr1 f0 f1 ff0 ff1
        first
          | (obtain ⟨e4, e5⟩ := set_two (a := .int .i64 Rn) (b := .int .i64 Rd) (c := .int .i64 0) (d := .int .i64 0) HM.out.r HM.out.f NE
             have BZ := bw_far (bw_far HB1.out (by omega) (far2 wr (w.heap.size + 1) (.int .i64 Rn) (.int .i64 Rd))) (by omega) (far2 _ (w.heap.size + 1 + 1) (.int .i64 0) (.int .i64 0))
             obtain ⟨y0, y1, -, -⟩ := e4.drew.two
             obtain ⟨y2, y3, -, -⟩ := e5.drew.two
             go_wp2_with fail
             exact bodyPost_ret (v := .tuple #[.agg #[.int .i64 Rn, .int .i64 Rd], .agg #[.int .i64 0, .int .i64 0]]) (by simp [results, Try.results30, go_sem, y0, y1, y2, y3]) rfl ⟨rfl, BZ.drew⟩)
          | (obtain ⟨e5, e4⟩ := set_two (a := .int .i64 0) (b := .int .i64 0) (c := .int .i64 Rn) (d := .int .i64 Rd) HM.out.f HM.out.r NE.symm
             have BZ := bw_far (bw_far HB1.out (by omega) (far2 wr (w.heap.size + 1 + 1) (.int .i64 0) (.int .i64 0))) (by omega) (far2 _ (w.heap.size + 1) (.int .i64 Rn) (.int .i64 Rd))
             obtain ⟨y0, y1, -, -⟩ := e4.drew.two
             obtain ⟨y2, y3, -, -⟩ := e5.drew.two
             go_wp2_with fail
             exact bodyPost_ret (v := .tuple #[.agg #[.int .i64 Rn, .int .i64 Rd], .agg #[.int .i64 0, .int .i64 0]]) (by simp [results, Try.results30, go_sem, y0, y1, y2, y3]) rfl ⟨rfl, BZ.drew⟩)
end Go.Proofs.Ytibpgcdaommjeaa
