/-
  Values of nodes: numbers, sums and products.
  Values of nodes: sums.
  Values of nodes: words and numbers in one; what a meaning tells.
  Asks: names, as the program and as the reference tell them.
  Asks: names, as the reference tells them.
  Asks: where a name is declared.
-/
import Derived.Test.YtaodebpogibimaaGreatMeaQ
import Derived.Test.YtaodebpogibimaaGreatG00
namespace Go.Proofs.YtaodebpogibimaaGreat
open Go.RowKit

theorem gcd_pos' (num den : Int) (hd : den ≠ 0) : 0 < Nat.gcd (mag num) (mag den) := by
  apply Nat.pos_of_ne_zero; intro h; rw [Nat.gcd_eq_zero_iff] at h; unfold mag at h; omega
theorem terms (num den : Int) (hd : den ≠ 0) : ∃ x y g : Nat, x = mag num / Nat.gcd (mag num) (mag den) ∧ y = mag den / Nat.gcd (mag num) (mag den) ∧ mag num = x * g ∧ mag den = y * g ∧ 0 < g ∧ 0 < y ∧ Nat.gcd x y = 1 := by
  have hg := gcd_pos' num den hd
  refine ⟨_, _, Nat.gcd (mag num) (mag den), rfl, rfl, (Nat.div_mul_cancel (Nat.gcd_dvd_left _ _)).symm, (Nat.div_mul_cancel (Nat.gcd_dvd_right _ _)).symm, hg, Nat.div_pos (Nat.le_of_dvd (by unfold mag; omega) (Nat.gcd_dvd_right _ _)) hg, ?_⟩
  rw [Nat.gcd_div (Nat.gcd_dvd_left _ _) (Nat.gcd_dvd_right _ _)]
  exact Nat.div_self hg
theorem made_terms {num den : Int} (hd : den ≠ 0) : ∃ x y g : Nat, mag num = x * g ∧ mag den = y * g ∧ 0 < g ∧ 0 < y ∧ Nat.gcd x y = 1 ∧
    ((1073741824 < x ∨ 1073741824 < y) ∧ madeN num den = 0 ∧ madeD num den = 0 ∧ madeC num den = 10 ∨
      x ≤ 1073741824 ∧ y ≤ 1073741824 ∧ madeN num den = (if (decide (num < 0) == decide (den < 0)) = true then (x : Int) else -x) ∧ madeD num den = y ∧ madeC num den = 0) := by
  obtain ⟨x, y, g, hx, hy, e1, e2, hg, hy0, hc⟩ := terms num den hd
  refine ⟨x, y, g, e1, e2, hg, hy0, hc, ?_⟩
  unfold madeN madeD madeC
  rw [if_neg hd, if_neg hd, if_neg hd, ← hx, ← hy]
  by_cases h : 1073741824 < x ∨ 1073741824 < y
  · exact .inl ⟨h, by rw [if_pos h], by rw [if_pos h], by rw [if_pos h]⟩
  · exact .inr ⟨by omega, by omega, by rw [if_neg h], by rw [if_neg h], by rw [if_neg h]⟩
theorem made_spec {num den : Int} (hd : den ≠ 0) (hc : madeC num den = 0) : fvalid (madeN num den) (madeD num den) = true ∧ madeN num den * den = num * madeD num den := by
  obtain ⟨x, y, g, e1, e2, hg, hy, hcop, h | ⟨hx1, hy1, hN, hD, _⟩⟩ := made_terms hd (num := num)
  · omega
  · rw [hN, hD]
    by_cases hn : num < 0
    · have n1 : num = -((x : Int) * g) := by rw [← Int.natCast_mul, ← e1]; unfold mag; omega
      by_cases hd' : den < 0
      · have d1 : den = -((y : Int) * g) := by rw [← Int.natCast_mul, ← e2]; unfold mag; omega
        rw [if_pos (by simp [hn, hd'])]
        refine ⟨?_, by rw [n1, d1]; grind⟩
        unfold fvalid; rw [decide_eq_true_iff]; exact ⟨by omega, by omega, by omega, by omega, by simpa [mag] using hcop⟩
      · have d1 : den = (y : Int) * g := by rw [← Int.natCast_mul, ← e2]; unfold mag; omega
        rw [if_neg (by simp [hn, hd'])]
        refine ⟨?_, by rw [n1, d1]; grind⟩
        unfold fvalid; rw [decide_eq_true_iff]; exact ⟨by omega, by omega, by omega, by omega, by simpa [mag] using hcop⟩
    · have n1 : num = (x : Int) * g := by rw [← Int.natCast_mul, ← e1]; unfold mag; omega
      by_cases hd' : den < 0
      · have d1 : den = -((y : Int) * g) := by rw [← Int.natCast_mul, ← e2]; unfold mag; omega
        rw [if_neg (by simp [hn, hd'])]
        refine ⟨?_, by rw [n1, d1]; grind⟩
        unfold fvalid; rw [decide_eq_true_iff]; exact ⟨by omega, by omega, by omega, by omega, by simpa [mag] using hcop⟩
      · have d1 : den = (y : Int) * g := by rw [← Int.natCast_mul, ← e2]; unfold mag; omega
        rw [if_pos (by simp [hn, hd'])]
        refine ⟨?_, by rw [n1, d1]; grind⟩
        unfold fvalid; rw [decide_eq_true_iff]; exact ⟨by omega, by omega, by omega, by omega, by simpa [mag] using hcop⟩
theorem made_big {n d : Int} (hd : d ≠ 0) (hc : madeC n d ≠ 0) : madeN n d = 0 ∧ madeD n d = 0 ∧ madeC n d = 10 := by
  obtain ⟨x, y, g, _, _, _, _, _, h | ⟨_, _, _, _, h⟩⟩ := made_terms hd (num := n)
  · exact ⟨h.2.1, h.2.2.1, h.2.2.2⟩
  · exact absurd h hc
/-- The sum of fractions upon one. -/
def sumL : Int × Int → List (Int × Int) → (Int × Int) × Int
  | p, [] => (p, 0)
  | p, q :: qs => if madeC (p.1 * q.2 + q.1 * p.2) (p.2 * q.2) = 0 then sumL (madeN (p.1 * q.2 + q.1 * p.2) (p.2 * q.2), madeD (p.1 * q.2 + q.1 * p.2) (p.2 * q.2)) qs else ((0, 0), 10)
/-- A number's value, or its fault. -/
def numF (op N D : Int) (fs : List (Int × Int)) : (Int × Int) × Int :=
  if op = 10 then ((N, D), 0) else if op = 12 then ((madeN ((cn fs 0).1 * N) ((cn fs 0).2 * D), madeD ((cn fs 0).1 * N) ((cn fs 0).2 * D)), madeC ((cn fs 0).1 * N) ((cn fs 0).2 * D)) else sumL (0, 1) fs
set_option maxRecDepth 100000 in
set_option maxHeartbeats 2000000 in
theorem number_num (N D : Int) (nm : ByteArray) (Ak : Option Addr) (kl kc : Nat) (fs : List (Int × Int)) (A : Option Addr) (c : Nat) (w : World) :
    Calls Tryz.prog 34 #[.agg #[.int .i64 10, .slice Ak kl kc, .int .i64 N, .int .i64 D, .string nm], .slice A fs.length c] w (Gives (numF 10 N D fs).1.1 (numF 10 N D fs).1.2 (numF 10 N D fs).2 0 w) := by
  rw [show numF 10 N D fs = ((N, D), 0) from rfl]
  generalize fs.length = L at *
  go_enter Tryz.func34, Tryz.ntmps34
  go_wp2_with fail
  refine bodyPost_ret (v := .tuple #[.agg #[.int .i64 N, .int .i64 D], .agg #[.int .i64 0, .int .i64 0]]) (by simp [results, Tryz.results34, go_sem]) rfl ⟨rfl, ?_⟩
  go_grown
theorem num_new (w : World) (N D : Int) (nm : ByteArray) (Ak : Option Addr) (kl kc : Nat) :
    HB (((w.alloc (.cells #[.int .i64 12, .slice Ak kl kc, .int .i64 N, .int .i64 D, .string nm] 56)).alloc (.cells #[.int .i64 0, .int .i64 0] 44)).alloc (.cells #[.int .i64 0, .int .i64 0] 32)) w.heap.size 56 #[.int .i64 12, .slice Ak kl kc, .int .i64 N, .int .i64 D, .string nm] ∧
    HB (((w.alloc (.cells #[.int .i64 12, .slice Ak kl kc, .int .i64 N, .int .i64 D, .string nm] 56)).alloc (.cells #[.int .i64 0, .int .i64 0] 44)).alloc (.cells #[.int .i64 0, .int .i64 0] 32)) (w.heap.size + 1) 44 #[.int .i64 0, .int .i64 0] ∧
    HB (((w.alloc (.cells #[.int .i64 12, .slice Ak kl kc, .int .i64 N, .int .i64 D, .string nm] 56)).alloc (.cells #[.int .i64 0, .int .i64 0] 44)).alloc (.cells #[.int .i64 0, .int .i64 0] 32)) (w.heap.size + 1 + 1) 32 #[.int .i64 0, .int .i64 0] ∧
    Below w.heap.size w (((w.alloc (.cells #[.int .i64 12, .slice Ak kl kc, .int .i64 N, .int .i64 D, .string nm] 56)).alloc (.cells #[.int .i64 0, .int .i64 0] 44)).alloc (.cells #[.int .i64 0, .int .i64 0] 32)) :=
  ⟨((HB.new _ _ _).alloc _).alloc _, (HB.new1 _ _ _ _).alloc _, HB.new2 _ _ _ _ _, by go_grown⟩
theorem set_two {W : World} {g4 g5 t1 t2 : Nat} {a b c d x y z u : Value} (h4 : HB W g4 t1 #[x, y]) (h5 : HB W g5 t2 #[z, u]) (ne : g4 ≠ g5) :
    HB ((((W.setCell ⟨g4, 0, none⟩ a).setCell ⟨g4, 1, none⟩ b).setCell ⟨g5, 0, none⟩ c).setCell ⟨g5, 1, none⟩ d) g4 t1 #[a, b] ∧ HB ((((W.setCell ⟨g4, 0, none⟩ a).setCell ⟨g4, 1, none⟩ b).setCell ⟨g5, 0, none⟩ c).setCell ⟨g5, 1, none⟩ d) g5 t2 #[c, d] :=
  ⟨((hb_set2 h4).far (p := ⟨g5, 0, none⟩) ne c).far (p := ⟨g5, 1, none⟩) ne d, hb_set2 ((h5.far (p := ⟨g4, 0, none⟩) ne.symm a).far (p := ⟨g4, 1, none⟩) ne.symm b)⟩
/-- What the making of a product reads. -/
@[reducible] def NumK (b o x : Nat) (n0 d0 N D : Int) (W : World) : Prop := W.cell? ⟨b, o, none⟩ = some (.int .i64 n0) ∧ W.cell? ⟨b, o + 1, none⟩ = some (.int .i64 d0) ∧ W.cell? ⟨x, 2, none⟩ = some (.int .i64 N) ∧ W.cell? ⟨x, 3, none⟩ = some (.int .i64 D)
theorem numk_far {b o x g : Nat} {n0 d0 N D : Int} {W : World} (h : NumK b o x n0 d0 N D W) (hb : b ≠ g) (hx : x ≠ g) (u v : Value) : NumK b o x n0 d0 N D ((W.setCell ⟨g, 0, none⟩ u).setCell ⟨g, 1, none⟩ v) := by
  have F := far2 W g u v
  exact ⟨(World.cell?_of_block (F.block b hb)).trans h.1, (World.cell?_of_block (F.block b hb)).trans h.2.1, (World.cell?_of_block (F.block x hx)).trans h.2.2.1, (World.cell?_of_block (F.block x hx)).trans h.2.2.2⟩
theorem num_keep (w : World) (b o : Nat) (n0 d0 N D : Int) (hb : b < w.heap.size) (c0 : w.cell? ⟨b, o, none⟩ = some (.int .i64 n0)) (c1 : w.cell? ⟨b, o + 1, none⟩ = some (.int .i64 d0)) {nm : ByteArray} {Ak : Option Addr} {kl kc : Nat} (X : World) (h1 : HB X w.heap.size 56 #[.int .i64 12, .slice Ak kl kc, .int .i64 N, .int .i64 D, .string nm]) (h4 : Below w.heap.size w X) (W : World) (k : Below X.heap.size X W) :
    NumK b o w.heap.size n0 d0 N D W ∧ (∀ u v, NumK b o w.heap.size n0 d0 N D ((W.setCell ⟨w.heap.size + 1, 0, none⟩ u).setCell ⟨w.heap.size + 1, 1, none⟩ v)) ∧ (∀ u v, NumK b o w.heap.size n0 d0 N D ((W.setCell ⟨w.heap.size + 1 + 1, 0, none⟩ u).setCell ⟨w.heap.size + 1 + 1, 1, none⟩ v)) ∧
    (∀ u v u' v', NumK b o w.heap.size n0 d0 N D ((((W.setCell ⟨w.heap.size + 1, 0, none⟩ u).setCell ⟨w.heap.size + 1, 1, none⟩ v).setCell ⟨w.heap.size + 1 + 1, 0, none⟩ u').setCell ⟨w.heap.size + 1 + 1, 1, none⟩ v')) ∧
    (∀ u v u' v', NumK b o w.heap.size n0 d0 N D ((((W.setCell ⟨w.heap.size + 1 + 1, 0, none⟩ u).setCell ⟨w.heap.size + 1 + 1, 1, none⟩ v).setCell ⟨w.heap.size + 1, 0, none⟩ u').setCell ⟨w.heap.size + 1, 1, none⟩ v')) := by
  have B := below_after h4 k
  have hn := h1.below k
  have K0 : NumK b o w.heap.size n0 d0 N D W := ⟨(B.cell (p := ⟨b, o, none⟩) hb).trans c0, (B.cell (p := ⟨b, o + 1, none⟩) hb).trans c1, hn.cell 2, hn.cell 3⟩
  have a1 : b ≠ w.heap.size + 1 := by omega
  have a2 : b ≠ w.heap.size + 1 + 1 := by omega
  have a3 : w.heap.size ≠ w.heap.size + 1 := by omega
  have a4 : w.heap.size ≠ w.heap.size + 1 + 1 := by omega
  exact ⟨K0, fun u v => numk_far K0 a1 a3 u v, fun u v => numk_far K0 a2 a4 u v, fun u v u' v' => numk_far (numk_far K0 a1 a3 u v) a2 a4 u' v', fun u v u' v' => numk_far (numk_far K0 a2 a4 u v) a1 a3 u' v'⟩
set_option maxRecDepth 100000 in
set_option maxHeartbeats 4000000 in
theorem number_times (N D : Int) (nm : ByteArray) (Ak : Option Addr) (kl kc : Nat) (fs : List (Int × Int)) (A : Option Addr) (c : Nat) (hl : 1 ≤ fs.length) (hm : fs.length ≤ maxLen) (v0 : fvalid (cn fs 0).1 (cn fs 0).2 = true) (v1 : fvalid N D = true) (w : World) (h : CsAt w A fs) :
    Calls Tryz.prog 34 #[.agg #[.int .i64 12, .slice Ak kl kc, .int .i64 N, .int .i64 D, .string nm], .slice A fs.length c] w (Gives (numF 12 N D fs).1.1 (numF 12 N D fs).1.2 (numF 12 N D fs).2 0 w) := by
  rw [show numF 12 N D fs = ((madeN ((cn fs 0).1 * N) ((cn fs 0).2 * D), madeD ((cn fs 0).1 * N) ((cn fs 0).2 * D)), madeC ((cn fs 0).1 * N) ((cn fs 0).2 * D)) from rfl]
  obtain ⟨b, o, rfl, hb, c0, c1⟩ := cs_at (i := 0) h (by omega)
  rw [Nat.zero_mul, Nat.add_zero] at c0 c1
  have HT := Lib.hid (fun W => times_good (cn fs 0).1 (cn fs 0).2 N D W v0 v1)
  unfold Gives at HT
  unfold maxLen at hm
  dsimp only
  generalize madeN ((cn fs 0).1 * N) ((cn fs 0).2 * D) = mN at *
  generalize madeD ((cn fs 0).1 * N) ((cn fs 0).2 * D) = mD at *
  generalize madeC ((cn fs 0).1 * N) ((cn fs 0).2 * D) = mC at *
  generalize fs.length = L at *
  generalize (cn fs 0).1 = n0 at *
  generalize (cn fs 0).2 = d0 at *
  have l0 : (0 : Int) < L := by omega
  have m0 : 0 < L := by omega
  have HN := Lib.hid (num_new w N D nm Ak kl kc)
  have HK := Lib.hid (num_keep w b o n0 d0 N D hb c0 c1 (nm := nm) (Ak := Ak) (kl := kl) (kc := kc))
  clear h c0 c1 hb v0 v1
  go_enter Tryz.func34, Tryz.ntmps34
  go_upto_region 5 with fail
  generalize hX : ((w.alloc (.cells #[.int .i64 12, .slice Ak kl kc, .int .i64 N, .int .i64 D, .string nm] 56)).alloc (.cells #[.int .i64 0, .int .i64 0] 44)).alloc (.cells #[.int .i64 0, .int .i64 0] 32) = X at *
  obtain ⟨h1, h2, h3, h4⟩ := HN.out
  have H2 := Lib.hid h2
  have H3 := Lib.hid h3
  have BX := Lib.hid h4
  have KK := Lib.hid (HK.out X h1 h4)
  clear h1 h2 h3 h4 HN HK
  have NE : w.heap.size + 1 ≠ w.heap.size + 1 + 1 := by omega
  go_region_held3 (fun W => W.cell? ⟨b, o, none⟩ = some (.int .i64 n0) ∧ W.cell? ⟨b, o + 1, none⟩ = some (.int .i64 d0) ∧ W.cell? ⟨w.heap.size, 2, none⟩ = some (.int .i64 N) ∧ W.cell? ⟨w.heap.size, 3, none⟩ = some (.int .i64 D))
    ((first | (with_reducible exact (KK.out _ G1.out).1) | (with_reducible exact (KK.out _ G1.out).2.1 _ _) | (with_reducible exact (KK.out _ G1.out).2.2.1 _ _) | (with_reducible exact (KK.out _ G1.out).2.2.2.1 _ _ _ _) | (with_reducible exact (KK.out _ G1.out).2.2.2.2 _ _ _ _) | (refine (KK.out _ ?_).1; go_grown; done)))
    (first
      | (go_at_call 80; (with_reducible refine (HT.out _).mono ?_); rintro e w1 ⟨rfl, hb1⟩; have G1 : Hid (Below X.heap.size X w1) := Lib.hid (below_after (show Below X.heap.size X _ by go_grown) hb1); obtain ⟨r0, r1, s0, s1⟩ := (H2.out.below G1.out).two; obtain ⟨r2, r3, s2, s3⟩ := (H3.out.below G1.out).two; clear hb1))
  all_goals
    have BW := below_after BX.out G1.out
    first
      | (obtain ⟨e4, e5⟩ := set_two (a := .int .i64 mN) (b := .int .i64 mD) (c := .int .i64 mC) (d := .int .i64 0) (H2.out.below G1.out) (H3.out.below G1.out) NE
         have BZ := bw_far (bw_far BW (by omega) (far2 w1 (w.heap.size + 1) (.int .i64 mN) (.int .i64 mD))) (by omega) (far2 _ (w.heap.size + 1 + 1) (.int .i64 mC) (.int .i64 0))
         obtain ⟨y0, y1, -, -⟩ := e4.two
         obtain ⟨y2, y3, -, -⟩ := e5.two
         go_wp2_with fail
         exact bodyPost_ret (v := .tuple #[.agg #[.int .i64 mN, .int .i64 mD], .agg #[.int .i64 mC, .int .i64 0]]) (by simp [results, Tryz.results34, go_sem, y0, y1, y2, y3]) rfl ⟨rfl, BZ⟩)
      | (obtain ⟨e5, e4⟩ := set_two (a := .int .i64 mC) (b := .int .i64 0) (c := .int .i64 mN) (d := .int .i64 mD) (H3.out.below G1.out) (H2.out.below G1.out) NE.symm
         have BZ := bw_far (bw_far BW (by omega) (far2 w1 (w.heap.size + 1 + 1) (.int .i64 mC) (.int .i64 0))) (by omega) (far2 _ (w.heap.size + 1) (.int .i64 mN) (.int .i64 mD))
         obtain ⟨y0, y1, -, -⟩ := e4.two
         obtain ⟨y2, y3, -, -⟩ := e5.two
         go_wp2_with fail
         exact bodyPost_ret (v := .tuple #[.agg #[.int .i64 mN, .int .i64 mD], .agg #[.int .i64 mC, .int .i64 0]]) (by simp [results, Tryz.results34, go_sem, y0, y1, y2, y3]) rfl ⟨rfl, BZ⟩)
end Go.Proofs.YtaodebpogibimaaGreat
namespace Go.Proofs.YtaodebpogibimaaGreat
open Go.RowKit

/-- The four variables of the sum in memory. -/
structure SumM (g : Nat) (p : Int × Int) (c : Int) (w : World) : Prop where
  r : HB w (g + 1) 44 #[.int .i64 0, .int .i64 0]
  f : HB w (g + 1 + 1) 32 #[.int .i64 0, .int .i64 0]
  s : HB w (g + 1 + 1 + 1) 44 #[.int .i64 p.1, .int .i64 p.2]
  t : HB w (g + 1 + 1 + 1 + 1) 32 #[.int .i64 c, .int .i64 0]
theorem SumM.below {g : Nat} {p : Int × Int} {c : Int} {w w' : World} (h : SumM g p c w) (k : Below w.heap.size w w') : SumM g p c w' := ⟨h.r.below k, h.f.below k, h.s.below k, h.t.below k⟩
theorem sum_new (w : World) (N D : Int) (nm : ByteArray) (Ak : Option Addr) (kl kc : Nat) : SumM w.heap.size (0, 1) 0 (((((w.alloc (.cells #[.int .i64 11, .slice Ak kl kc, .int .i64 N, .int .i64 D, .string nm] 56)).alloc (.cells #[.int .i64 0, .int .i64 0] 44)).alloc (.cells #[.int .i64 0, .int .i64 0] 32)).alloc (.cells #[.int .i64 0, .int .i64 1] 44)).alloc (.cells #[.int .i64 0, .int .i64 0] 32)) ∧ Below w.heap.size w (((((w.alloc (.cells #[.int .i64 11, .slice Ak kl kc, .int .i64 N, .int .i64 D, .string nm] 56)).alloc (.cells #[.int .i64 0, .int .i64 0] 44)).alloc (.cells #[.int .i64 0, .int .i64 0] 32)).alloc (.cells #[.int .i64 0, .int .i64 1] 44)).alloc (.cells #[.int .i64 0, .int .i64 0] 32)) :=
  ⟨⟨by simpa using ((((HB.new1 w (.cells #[.int .i64 11, .slice Ak kl kc, .int .i64 N, .int .i64 D, .string nm] 56) 44 #[.int .i64 0, .int .i64 0])).alloc _).alloc _).alloc _, by simpa using ((HB.new2 w (.cells #[.int .i64 11, .slice Ak kl kc, .int .i64 N, .int .i64 D, .string nm] 56) (.cells #[.int .i64 0, .int .i64 0] 44) 32 #[.int .i64 0, .int .i64 0]).alloc _).alloc _, by simpa using (HB.new3 w (.cells #[.int .i64 11, .slice Ak kl kc, .int .i64 N, .int .i64 D, .string nm] 56) (.cells #[.int .i64 0, .int .i64 0] 44) (.cells #[.int .i64 0, .int .i64 0] 32) 44 #[.int .i64 0, .int .i64 1]).alloc _, by simpa using HB.new3 (w.alloc (.cells #[.int .i64 11, .slice Ak kl kc, .int .i64 N, .int .i64 D, .string nm] 56)) (.cells #[.int .i64 0, .int .i64 0] 44) (.cells #[.int .i64 0, .int .i64 0] 32) (.cells #[.int .i64 0, .int .i64 1] 44) 32 #[.int .i64 0, .int .i64 0]⟩, by go_grown⟩
theorem SumM.put {g : Nat} {p q : Int × Int} {c d : Int} {w : World} (h : SumM g p c w) :
    SumM g q d ((((w.setCell ⟨g + 1 + 1 + 1, 0, none⟩ (.int .i64 q.1)).setCell ⟨g + 1 + 1 + 1, 1, none⟩ (.int .i64 q.2)).setCell ⟨g + 1 + 1 + 1 + 1, 0, none⟩ (.int .i64 d)).setCell ⟨g + 1 + 1 + 1 + 1, 1, none⟩ (.int .i64 0)) := by
  obtain ⟨a, b⟩ := set_two (a := .int .i64 q.1) (b := .int .i64 q.2) (c := .int .i64 d) (d := .int .i64 0) h.s h.t (by omega)
  have n1 : g + 1 ≠ g + 1 + 1 + 1 := by omega
  have n2 : g + 1 ≠ g + 1 + 1 + 1 + 1 := by omega
  have n3 : g + 1 + 1 ≠ g + 1 + 1 + 1 := by omega
  have n4 : g + 1 + 1 ≠ g + 1 + 1 + 1 + 1 := by omega
  exact ⟨(((h.r.far (p := ⟨g + 1 + 1 + 1, 0, none⟩) n1 _).far (p := ⟨g + 1 + 1 + 1, 1, none⟩) n1 _).far (p := ⟨g + 1 + 1 + 1 + 1, 0, none⟩) n2 _).far (p := ⟨g + 1 + 1 + 1 + 1, 1, none⟩) n2 _,
    (((h.f.far (p := ⟨g + 1 + 1 + 1, 0, none⟩) n3 _).far (p := ⟨g + 1 + 1 + 1, 1, none⟩) n3 _).far (p := ⟨g + 1 + 1 + 1 + 1, 0, none⟩) n4 _).far (p := ⟨g + 1 + 1 + 1 + 1, 1, none⟩) n4 _, a, b⟩
theorem sum_far {B g : Nat} {W w : World} {a b c d : Value} (h : Below B W w) (hg : B ≤ g) : Below B W ((((w.setCell ⟨g + 1 + 1 + 1, 0, none⟩ a).setCell ⟨g + 1 + 1 + 1, 1, none⟩ b).setCell ⟨g + 1 + 1 + 1 + 1, 0, none⟩ c).setCell ⟨g + 1 + 1 + 1 + 1, 1, none⟩ d) :=
  bw_far (bw_far h (by omega) (far2 w (g + 1 + 1 + 1) a b)) (by omega) (far2 _ (g + 1 + 1 + 1 + 1) c d)
theorem sumL_end (p : Int × Int) {fs : List (Int × Int)} {i : Nat} (h : fs.length ≤ i) : sumL p (fs.drop i) = (p, 0) := by rw [List.drop_eq_nil_of_le h]; rfl
theorem sumL_step (p : Int × Int) {fs : List (Int × Int)} {i : Nat} (h : i < fs.length) : sumL p (fs.drop i) = if madeC (p.1 * (cn fs i).2 + (cn fs i).1 * p.2) (p.2 * (cn fs i).2) = 0 then sumL (madeN (p.1 * (cn fs i).2 + (cn fs i).1 * p.2) (p.2 * (cn fs i).2), madeD (p.1 * (cn fs i).2 + (cn fs i).1 * p.2) (p.2 * (cn fs i).2)) (fs.drop (i + 1)) else ((0, 0), 10) := by
  rw [List.drop_eq_getElem_cons h, cn_of h]
  rfl
/-- What the end of a sum reads. -/
@[reducible] def SumK (g : Nat) (p : Int × Int) (c : Int) (X : World) : Prop := X.cell? ⟨g + 1 + 1 + 1, 0, none⟩ = some (.int .i64 p.1) ∧ X.cell? ⟨g + 1 + 1 + 1, 1, none⟩ = some (.int .i64 p.2) ∧ X.cell? ⟨g + 1 + 1 + 1 + 1, 0, none⟩ = some (.int .i64 c) ∧ X.cell? ⟨g + 1 + 1 + 1 + 1, 1, none⟩ = some (.int .i64 0)
theorem sumk_far {g h : Nat} {p : Int × Int} {c : Int} {W : World} (k : SumK g p c W) (h1 : g + 1 + 1 + 1 ≠ h) (h2 : g + 1 + 1 + 1 + 1 ≠ h) (u v : Value) : SumK g p c ((W.setCell ⟨h, 0, none⟩ u).setCell ⟨h, 1, none⟩ v) := by
  have F := far2 W h u v
  exact ⟨(World.cell?_of_block (F.block _ h1)).trans k.1, (World.cell?_of_block (F.block _ h1)).trans k.2.1, (World.cell?_of_block (F.block _ h2)).trans k.2.2.1, (World.cell?_of_block (F.block _ h2)).trans k.2.2.2⟩
theorem sumk_dr {g : Nat} {p : Int × Int} {c : Int} {W : World} (k : SumK g p c W) : SumK g p c W.drew := k
theorem set_two_d {W : World} {g4 g5 t1 t2 : Nat} {a b c d x y z u : Value} (h4 : HB W g4 t1 #[x, y]) (h5 : HB W g5 t2 #[z, u]) (ne : g4 ≠ g5) :
    HB ((((W.setCell ⟨g4, 0, none⟩ a).setCell ⟨g4, 1, none⟩ b).drew.setCell ⟨g5, 0, none⟩ c).setCell ⟨g5, 1, none⟩ d) g4 t1 #[a, b] ∧ HB ((((W.setCell ⟨g4, 0, none⟩ a).setCell ⟨g4, 1, none⟩ b).drew.setCell ⟨g5, 0, none⟩ c).setCell ⟨g5, 1, none⟩ d) g5 t2 #[c, d] :=
  ⟨((hb_set2 h4).drew.far (p := ⟨g5, 0, none⟩) ne c).far (p := ⟨g5, 1, none⟩) ne d, hb_set2 (((h5.far (p := ⟨g4, 0, none⟩) ne.symm a).far (p := ⟨g4, 1, none⟩) ne.symm b).drew)⟩
theorem sum_keep {g : Nat} {p : Int × Int} {c : Int} {X : World} (h : SumM g p c X) (W : World) (k : Below X.heap.size X W) :
    SumK g p c W ∧ (∀ u v, SumK g p c ((W.setCell ⟨g + 1, 0, none⟩ u).setCell ⟨g + 1, 1, none⟩ v)) ∧ (∀ u v, SumK g p c ((W.setCell ⟨g + 1 + 1, 0, none⟩ u).setCell ⟨g + 1 + 1, 1, none⟩ v)) ∧
    (∀ u v u' v', SumK g p c ((((W.setCell ⟨g + 1, 0, none⟩ u).setCell ⟨g + 1, 1, none⟩ v).setCell ⟨g + 1 + 1, 0, none⟩ u').setCell ⟨g + 1 + 1, 1, none⟩ v')) ∧
    (∀ u v u' v', SumK g p c ((((W.setCell ⟨g + 1 + 1, 0, none⟩ u).setCell ⟨g + 1 + 1, 1, none⟩ v).setCell ⟨g + 1, 0, none⟩ u').setCell ⟨g + 1, 1, none⟩ v')) := by
  have hk := h.below k
  have K0 : SumK g p c W := ⟨hk.s.cell 0, hk.s.cell 1, hk.t.cell 0, hk.t.cell 1⟩
  have a1 : g + 1 + 1 + 1 ≠ g + 1 := by omega
  have a2 : g + 1 + 1 + 1 ≠ g + 1 + 1 := by omega
  have a3 : g + 1 + 1 + 1 + 1 ≠ g + 1 := by omega
  have a4 : g + 1 + 1 + 1 + 1 ≠ g + 1 + 1 := by omega
  exact ⟨K0, fun u v => sumk_far K0 a1 a3 u v, fun u v => sumk_far K0 a2 a4 u v, fun u v u' v' => sumk_far (sumk_far K0 a1 a3 u v) a2 a4 u' v', fun u v u' v' => sumk_far (sumk_far K0 a2 a4 u v) a1 a3 u' v'⟩
set_option maxRecDepth 100000 in
set_option maxHeartbeats 4000000 in
theorem number_sum (N D : Int) (nm : ByteArray) (Ak : Option Addr) (kl kc : Nat) (fs : List (Int × Int)) (A : Option Addr) (c : Nat) (hm : fs.length ≤ maxLen) (hv : ∀ i, i < fs.length → fvalid (cn fs i).1 (cn fs i).2 = true) (w : World) (h : CsAt w A fs) :
    Calls Tryz.prog 34 #[.agg #[.int .i64 11, .slice Ak kl kc, .int .i64 N, .int .i64 D, .string nm], .slice A fs.length c] w (Gives (numF 11 N D fs).1.1 (numF 11 N D fs).1.2 (numF 11 N D fs).2 0 w) := by
  rw [show numF 11 N D fs = sumL (0, 1) (fs.drop 0) from rfl]
  have HA := Lib.hid h
  have HV := Lib.hid hv
  have HN := Lib.hid (sum_new w N D nm Ak kl kc)
  have V1 : Hid (fvalid 0 1 = true) := Lib.hid (by decide)
  generalize hr : sumL (0, 1) (fs.drop 0) = R at *
  have HR := Lib.hid hr
  obtain ⟨⟨Rn, Rd⟩, Rc⟩ := R
  unfold maxLen at hm
  generalize hL : fs.length = L at *
  have HL := Lib.hid hL
  clear h hv hr hL
  go_enter Tryz.func34, Tryz.ntmps34
  go_wp2_with fail
  go_loopw [37] (fun k wr => ∃ (i : Nat) (p : Int × Int), i ≤ L ∧ k = .int .i64 i ∧ Hid (sumL p (fs.drop i) = ((Rn, Rd), Rc)) ∧ Hid (fvalid p.1 p.2 = true) ∧ Hid (SumM w.heap.size p 0 wr) ∧ Hid (Below w.heap.size w wr)) (fun k _ => L - (intOf k).toNat)
  case atStart => exact ⟨0, (0, 1), by omega, rfl, HR, V1, Lib.hid HN.out.1, Lib.hid HN.out.2⟩
  case round =>
    clear HR HN V1
    obtain ⟨i, p, hi, rfl, HS, HP, HM, HB1⟩ := hrel
    by_cases hlt : i < L
    · obtain ⟨b, o, rfl, hb, c0, c1⟩ := cs_at (i := i) (HA.out.below HB1.out) (by rw [HL.out]; exact hlt)
      have t3 : decide ((i : Int) < L) = true := by simpa using hlt
      have vq := HV.out i hlt
      have HS2 := Lib.hid ((sumL_step p (by rw [HL.out]; exact hlt)).symm.trans HS.out)
      generalize cn fs i = q at *
      have HM1 := Lib.hid (HM.out.below (new_below wr (.cells #[.int .i64 q.1, .int .i64 q.2] 44)))
      have HT := Lib.hid (fun W => add_good p.1 p.2 q.1 q.2 W HP.out vq)
      have HD : Hid (p.2 * q.2 ≠ 0) := Lib.hid (by
        have a1 := fvalid_bd HP.out
        have a2 := fvalid_bd vq
        exact fun z => by
          rcases Int.mul_eq_zero.1 z with z | z <;> omega)
      have HMS : Hid (∀ c0, madeC (p.1 * q.2 + q.1 * p.2) (p.2 * q.2) = c0 → c0 = 0 ∧ fvalid (madeN (p.1 * q.2 + q.1 * p.2) (p.2 * q.2)) (madeD (p.1 * q.2 + q.1 * p.2) (p.2 * q.2)) = true ∨ madeN (p.1 * q.2 + q.1 * p.2) (p.2 * q.2) = 0 ∧ madeD (p.1 * q.2 + q.1 * p.2) (p.2 * q.2) = 0 ∧ c0 = 10) := Lib.hid (fun c0 hc => by
        by_cases z : c0 = 0
        · exact .inl ⟨z, (made_spec HD.out (hc.trans z)).1⟩
        · have := made_big HD.out (n := p.1 * q.2 + q.1 * p.2) (by rw [hc]; exact z)
          exact .inr ⟨this.1, this.2.1, hc.symm.trans this.2.2⟩)
      unfold Gives at HT
      generalize madeN (p.1 * q.2 + q.1 * p.2) (p.2 * q.2) = mN at *
      generalize madeD (p.1 * q.2 + q.1 * p.2) (p.2 * q.2) = mD at *
      generalize madeC (p.1 * q.2 + q.1 * p.2) (p.2 * q.2) = mC at *
      obtain ⟨pn, pd⟩ := p
      obtain ⟨qn, qd⟩ := q
      dsimp only at c0 c1 HT HM HM1
      obtain ⟨x0, x1, -, -⟩ := HM.out.s.two
      obtain ⟨x0', x1', -, -⟩ := HM1.out.s.two
      go_wp2_with fail
      refine (HT.out _).mono ?_
      rintro e w1 ⟨rfl, hb1⟩
      have G1 := Lib.hid (HM1.out.below hb1)
      have B1 : Hid (Below w.heap.size w w1) := Lib.hid (bw_below (by have := HB1.out.size; simp) (bw_below (Nat.le_refl _) HB1.out (new_below wr _)) hb1)
      obtain ⟨s0, s1, fs0, fs1⟩ := G1.out.s.two
      obtain ⟨u0, u1, fu0, fu1⟩ := G1.out.t.two
      clear hb1 x0 x1 x0' x1' c0 c1 HM HM1 HT vq
      have P1 := Lib.hid (SumM.put (q := (mN, mD)) (d := mC) G1.out)
      have Z1 := Lib.hid (sum_far (a := .int .i64 mN) (b := .int .i64 mD) (c := .int .i64 mC) (d := .int .i64 0) B1.out (Nat.le_refl _))
      rcases HMS.out _ rfl with ⟨hz, hvz⟩ | ⟨hz1, hz2, hz3⟩
      · subst hz
        have VZ := Lib.hid hvz
        clear hvz
        go_wp2_with fail
        go_round
        case rel => exact ⟨i + 1, (mN, mD), by omega, by go_num, Lib.hid (by simpa using HS2.out), VZ, P1, Z1⟩
        case measure => simp [intOf]; omega
      · subst hz1 hz2 hz3
        have e := HS2.out
        rw [if_neg (by decide)] at e
        injection e with e1 e2
        injection e1 with e1 e3
        subst e1 e2 e3
        go_wp2_with fail
        generalize ((((w1.setCell ⟨w.heap.size + 1 + 1 + 1, 0, none⟩ (.int .i64 0)).setCell ⟨w.heap.size + 1 + 1 + 1, 1, none⟩ (.int .i64 0)).setCell ⟨w.heap.size + 1 + 1 + 1 + 1, 0, none⟩ (.int .i64 10)).setCell ⟨w.heap.size + 1 + 1 + 1 + 1, 1, none⟩ (.int .i64 0)) = WZ at *
        clear s0 s1 fs0 fs1 u0 u1 fu0 fu1
        have KK := Lib.hid (sum_keep P1.out)
        have BD := Lib.hid ((Below.refl WZ.heap.size WZ).drew)
        have BR := Lib.hid (Below.refl WZ.heap.size WZ)
        obtain ⟨x0, x1, -, -⟩ := P1.out.s.two
        obtain ⟨u0, u1, -, -⟩ := P1.out.t.two
        obtain ⟨r0, r1, fr0, fr1⟩ := P1.out.r.two
        obtain ⟨f0, f1, ff0, ff1⟩ := P1.out.f.two
        have NE : w.heap.size + 1 ≠ w.heap.size + 1 + 1 := by omega
        have na1 : w.heap.size + 1 + 1 + 1 ≠ w.heap.size + 1 := by omega
        have na2 : w.heap.size + 1 + 1 + 1 ≠ w.heap.size + 1 + 1 := by omega
        have na3 : w.heap.size + 1 + 1 + 1 + 1 ≠ w.heap.size + 1 := by omega
        have na4 : w.heap.size + 1 + 1 + 1 + 1 ≠ w.heap.size + 1 + 1 := by omega
        go_region_held3 (fun X => X.cell? ⟨w.heap.size + 1 + 1 + 1, 0, none⟩ = some (.int .i64 0) ∧ X.cell? ⟨w.heap.size + 1 + 1 + 1, 1, none⟩ = some (.int .i64 0) ∧ X.cell? ⟨w.heap.size + 1 + 1 + 1 + 1, 0, none⟩ = some (.int .i64 10) ∧ X.cell? ⟨w.heap.size + 1 + 1 + 1 + 1, 1, none⟩ = some (.int .i64 0))
          ((first | (with_reducible exact (KK.out _ BD.out).1) | (with_reducible exact (KK.out _ BR.out).1) | (with_reducible exact (KK.out _ BD.out).2.1 _ _) | (with_reducible exact (KK.out _ BD.out).2.2.1 _ _) | (with_reducible exact (KK.out _ BD.out).2.2.2.1 _ _ _ _) | (with_reducible exact (KK.out _ BD.out).2.2.2.2 _ _ _ _) | (with_reducible exact (KK.out _ BR.out).2.1 _ _) | (with_reducible exact (KK.out _ BR.out).2.2.1 _ _) | (with_reducible exact (KK.out _ BR.out).2.2.2.1 _ _ _ _) | (with_reducible exact (KK.out _ BR.out).2.2.2.2 _ _ _ _) | (with_reducible exact sumk_dr ((KK.out _ BR.out).2.1 _ _)) | (with_reducible exact sumk_dr ((KK.out _ BR.out).2.2.1 _ _)) | (with_reducible exact sumk_dr ((KK.out _ BR.out).2.2.2.1 _ _ _ _)) | (with_reducible exact sumk_dr ((KK.out _ BR.out).2.2.2.2 _ _ _ _)) | (with_reducible exact sumk_far (sumk_dr ((KK.out _ BR.out).2.1 _ _)) na2 na4 _ _) | (with_reducible exact sumk_far (sumk_dr ((KK.out _ BR.out).2.2.1 _ _)) na1 na3 _ _) | (with_reducible exact sumk_dr (sumk_far (sumk_dr ((KK.out _ BR.out).2.1 _ _)) na2 na4 _ _)) | (with_reducible exact sumk_dr (sumk_far (sumk_dr ((KK.out _ BR.out).2.2.1 _ _)) na1 na3 _ _))))
          (fail)
        all_goals
          clear x0 x1 u0 u1 r0 r1 fr0 fr1 f0 f1 ff0 ff1
          first
            | (obtain ⟨e4, e5⟩ := set_two (a := .int .i64 0) (b := .int .i64 0) (c := .int .i64 10) (d := .int .i64 0) P1.out.r P1.out.f NE
               have BZ := bw_far (bw_far Z1.out (by omega) (far2 WZ (w.heap.size + 1) (.int .i64 0) (.int .i64 0))) (by omega) (far2 _ (w.heap.size + 1 + 1) (.int .i64 10) (.int .i64 0))
               obtain ⟨y0, y1, -, -⟩ := e4.drew.two
               obtain ⟨y2, y3, -, -⟩ := e5.drew.two
               go_wp2_with fail
               exact bodyPost_ret (v := .tuple #[.agg #[.int .i64 0, .int .i64 0], .agg #[.int .i64 10, .int .i64 0]]) (by simp [results, Tryz.results34, go_sem, y0, y1, y2, y3]) rfl ⟨rfl, BZ.drew⟩)
            | (obtain ⟨e5, e4⟩ := set_two (a := .int .i64 10) (b := .int .i64 0) (c := .int .i64 0) (d := .int .i64 0) P1.out.f P1.out.r NE.symm
               have BZ := bw_far (bw_far Z1.out (by omega) (far2 WZ (w.heap.size + 1 + 1) (.int .i64 10) (.int .i64 0))) (by omega) (far2 _ (w.heap.size + 1) (.int .i64 0) (.int .i64 0))
               obtain ⟨y0, y1, -, -⟩ := e4.drew.two
               obtain ⟨y2, y3, -, -⟩ := e5.drew.two
               go_wp2_with fail
               exact bodyPost_ret (v := .tuple #[.agg #[.int .i64 0, .int .i64 0], .agg #[.int .i64 10, .int .i64 0]]) (by simp [results, Tryz.results34, go_sem, y0, y1, y2, y3]) rfl ⟨rfl, BZ.drew⟩)
    · obtain rfl : i = L := by omega
      have t3 : decide ((i : Int) < i) = false := by simp
      have e := HS.out
      rw [sumL_end p (by rw [HL.out]; exact Nat.le_refl _)] at e
      injection e with e1 e2
      subst e1 e2
      go_wp2_with fail
      have KK := Lib.hid (sum_keep HM.out)
      have BD := Lib.hid ((Below.refl wr.heap.size wr).drew)
      have BR := Lib.hid (Below.refl wr.heap.size wr)
      obtain ⟨x0, x1, -, -⟩ := HM.out.s.two
      obtain ⟨u0, u1, -, -⟩ := HM.out.t.two
      obtain ⟨r0, r1, fr0, fr1⟩ := HM.out.r.two
      obtain ⟨f0, f1, ff0, ff1⟩ := HM.out.f.two
      have NE : w.heap.size + 1 ≠ w.heap.size + 1 + 1 := by omega
      have na1 : w.heap.size + 1 + 1 + 1 ≠ w.heap.size + 1 := by omega
      have na2 : w.heap.size + 1 + 1 + 1 ≠ w.heap.size + 1 + 1 := by omega
      have na3 : w.heap.size + 1 + 1 + 1 + 1 ≠ w.heap.size + 1 := by omega
      have na4 : w.heap.size + 1 + 1 + 1 + 1 ≠ w.heap.size + 1 + 1 := by omega
      go_region_held3 (fun X => X.cell? ⟨w.heap.size + 1 + 1 + 1, 0, none⟩ = some (.int .i64 Rn) ∧ X.cell? ⟨w.heap.size + 1 + 1 + 1, 1, none⟩ = some (.int .i64 Rd) ∧ X.cell? ⟨w.heap.size + 1 + 1 + 1 + 1, 0, none⟩ = some (.int .i64 0) ∧ X.cell? ⟨w.heap.size + 1 + 1 + 1 + 1, 1, none⟩ = some (.int .i64 0))
        ((first | (with_reducible exact (KK.out _ BD.out).1) | (with_reducible exact (KK.out _ BR.out).1) | (with_reducible exact (KK.out _ BD.out).2.1 _ _) | (with_reducible exact (KK.out _ BD.out).2.2.1 _ _) | (with_reducible exact (KK.out _ BD.out).2.2.2.1 _ _ _ _) | (with_reducible exact (KK.out _ BD.out).2.2.2.2 _ _ _ _) | (with_reducible exact (KK.out _ BR.out).2.1 _ _) | (with_reducible exact (KK.out _ BR.out).2.2.1 _ _) | (with_reducible exact (KK.out _ BR.out).2.2.2.1 _ _ _ _) | (with_reducible exact (KK.out _ BR.out).2.2.2.2 _ _ _ _) | (with_reducible exact sumk_dr ((KK.out _ BR.out).2.1 _ _)) | (with_reducible exact sumk_dr ((KK.out _ BR.out).2.2.1 _ _)) | (with_reducible exact sumk_dr ((KK.out _ BR.out).2.2.2.1 _ _ _ _)) | (with_reducible exact sumk_dr ((KK.out _ BR.out).2.2.2.2 _ _ _ _)) | (with_reducible exact sumk_far (sumk_dr ((KK.out _ BR.out).2.1 _ _)) na2 na4 _ _) | (with_reducible exact sumk_far (sumk_dr ((KK.out _ BR.out).2.2.1 _ _)) na1 na3 _ _) | (with_reducible exact sumk_dr (sumk_far (sumk_dr ((KK.out _ BR.out).2.1 _ _)) na2 na4 _ _)) | (with_reducible exact sumk_dr (sumk_far (sumk_dr ((KK.out _ BR.out).2.2.1 _ _)) na1 na3 _ _))))
        (fail)
      all_goals
        clear x0 x1 u0 u1 r0 r1 fr0 fr1 f0 f1 ff0 ff1
        first
          | (obtain ⟨e4, e5⟩ := set_two (a := .int .i64 Rn) (b := .int .i64 Rd) (c := .int .i64 0) (d := .int .i64 0) HM.out.r HM.out.f NE
             have BZ := bw_far (bw_far HB1.out (by omega) (far2 wr (w.heap.size + 1) (.int .i64 Rn) (.int .i64 Rd))) (by omega) (far2 _ (w.heap.size + 1 + 1) (.int .i64 0) (.int .i64 0))
             obtain ⟨y0, y1, -, -⟩ := e4.drew.two
             obtain ⟨y2, y3, -, -⟩ := e5.drew.two
             go_wp2_with fail
             exact bodyPost_ret (v := .tuple #[.agg #[.int .i64 Rn, .int .i64 Rd], .agg #[.int .i64 0, .int .i64 0]]) (by simp [results, Tryz.results34, go_sem, y0, y1, y2, y3]) rfl ⟨rfl, BZ.drew⟩)
          | (obtain ⟨e5, e4⟩ := set_two (a := .int .i64 0) (b := .int .i64 0) (c := .int .i64 Rn) (d := .int .i64 Rd) HM.out.f HM.out.r NE.symm
             have BZ := bw_far (bw_far HB1.out (by omega) (far2 wr (w.heap.size + 1 + 1) (.int .i64 0) (.int .i64 0))) (by omega) (far2 _ (w.heap.size + 1) (.int .i64 Rn) (.int .i64 Rd))
             obtain ⟨y0, y1, -, -⟩ := e4.drew.two
             obtain ⟨y2, y3, -, -⟩ := e5.drew.two
             go_wp2_with fail
             exact bodyPost_ret (v := .tuple #[.agg #[.int .i64 Rn, .int .i64 Rd], .agg #[.int .i64 0, .int .i64 0]]) (by simp [results, Tryz.results34, go_sem, y0, y1, y2, y3]) rfl ⟨rfl, BZ.drew⟩)
end Go.Proofs.YtaodebpogibimaaGreat
namespace Go.Proofs.YtaodebpogibimaaGreat
open Go.RowKit

/-- The value of an operator on words. -/
theorem word_any (op N D m : Int) (nm : ByteArray) (Ak : Option Addr) (kl kc : Nat) (fs : List (Int × Int)) (A : Option Addr) (c : Nat) (hop : op = 15 ∨ op = 16 ∨ op = 17 ∨ op = 18 ∨ op = 19 ∨ op = 20 ∨ op = 21 ∨ op = 23) (hm : fs.length ≤ maxLen)
    (h1 : op ≠ 15 → 1 ≤ fs.length ∧ 2 ≤ m ∧ m ≤ 256 ∧ 0 ≤ (cn fs 0).1 ∧ (cn fs 0).1 < m) (h2 : op = 17 ∨ op = 18 ∨ op = 19 ∨ op = 20 ∨ op = 21 → 2 ≤ fs.length ∧ 0 ≤ (cn fs 1).1 ∧ (cn fs 1).1 < m) (h3 : op = 23 → 0 ≤ N ∧ N ≤ 8) (w : World) (h : CsAt w A fs) :
    Calls Tryz.prog 40 #[.agg #[.int .i64 op, .slice Ak kl kc, .int .i64 N, .int .i64 D, .string nm], .int .i64 m, .slice A fs.length c] w fun e w' => e = .returned (.int .i64 (wrdF op N m fs)) ∧ Below w.heap.size w w' := by
  rcases hop with rfl | rfl | rfl | rfl | rfl | rfl | rfl | rfl
  · exact word_const N D m nm Ak kl kc fs A c w
  · obtain ⟨a, b, d, e, f⟩ := h1 (by decide)
    exact word_not N D m nm Ak kl kc fs A c a hm b d e f w h
  · obtain ⟨a, b, d, e, f⟩ := h1 (by decide)
    obtain ⟨g, i, j⟩ := h2 (by decide)
    exact word_and N D m nm Ak kl kc fs A c g hm b d e f i j w h
  · obtain ⟨a, b, d, e, f⟩ := h1 (by decide)
    obtain ⟨g, i, j⟩ := h2 (by decide)
    exact word_or N D m nm Ak kl kc fs A c g hm b d e f i j w h
  · obtain ⟨a, b, d, e, f⟩ := h1 (by decide)
    obtain ⟨g, i, j⟩ := h2 (by decide)
    exact word_xor N D m nm Ak kl kc fs A c g hm b d e f i j w h
  · obtain ⟨a, b, d, e, f⟩ := h1 (by decide)
    obtain ⟨g, i, j⟩ := h2 (by decide)
    exact word_add N D m nm Ak kl kc fs A c g hm b d e f i j w h
  · obtain ⟨a, b, d, e, f⟩ := h1 (by decide)
    obtain ⟨g, i, j⟩ := h2 (by decide)
    exact word_times N D m nm Ak kl kc fs A c g hm b d e f i j w h
  · obtain ⟨a, b, d, e, f⟩ := h1 (by decide)
    obtain ⟨n0, n8⟩ := h3 rfl
    exact word_left N D m nm Ak kl kc fs A c a hm b d e f n0 n8 w h
/-- The value of a number, a sum or a product. -/
theorem numv_any (op N D : Int) (nm : ByteArray) (Ak : Option Addr) (kl kc : Nat) (fs : List (Int × Int)) (A : Option Addr) (c : Nat) (hop : op = 10 ∨ op = 11 ∨ op = 12) (hm : fs.length ≤ maxLen) (hv : ∀ i, i < fs.length → fvalid (cn fs i).1 (cn fs i).2 = true)
    (h1 : op = 12 → 1 ≤ fs.length ∧ fvalid N D = true) (w : World) (h : CsAt w A fs) :
    Calls Tryz.prog 34 #[.agg #[.int .i64 op, .slice Ak kl kc, .int .i64 N, .int .i64 D, .string nm], .slice A fs.length c] w (Gives (numF op N D fs).1.1 (numF op N D fs).1.2 (numF op N D fs).2 0 w) := by
  rcases hop with rfl | rfl | rfl
  · exact number_num N D nm Ak kl kc fs A c w
  · exact number_sum N D nm Ak kl kc fs A c hm hv w h
  · exact number_times N D nm Ak kl kc fs A c (h1 rfl).1 hm (hv 0 (by have := (h1 rfl).1; omega)) (h1 rfl).2 w h
/-- Are the arguments the numbers? -/
def eqA (xs : List Int) (fs : List (Int × Int)) : Bool := xs == fs.map (·.1)
theorem eqA_len {xs : List Int} {fs : List (Int × Int)} (h : xs.length ≠ fs.length) : eqA xs fs = false := by
  unfold eqA
  rw [beq_eq_false_iff_ne]
  intro e
  exact h (by rw [e, List.length_map])
theorem eqA_yes {xs : List Int} {fs : List (Int × Int)} (hl : xs.length = fs.length) (h : ∀ i, i < xs.length → nth xs i = (cn fs i).1) : eqA xs fs = true := by
  unfold eqA
  rw [beq_iff_eq]
  apply List.ext_getElem (by rw [List.length_map]; exact hl)
  intro i h1 h2
  have := h i h1
  rw [nth_of h1, cn_of (by omega)] at this
  rw [this, List.getElem_map]
theorem eqA_no {xs : List Int} {fs : List (Int × Int)} {i : Nat} (h1 : i < xs.length) (h2 : i < fs.length) (h : nth xs i ≠ (cn fs i).1) : eqA xs fs = false := by
  unfold eqA
  rw [beq_eq_false_iff_ne]
  rintro rfl
  rw [nth_of h1, cn_of h2, List.getElem_map] at h
  exact h rfl
theorem tol11_any (a n d : Int) (w : World) : Calls Tryz.prog 77 #[.int .i64 a, .agg #[.int .i64 n, .int .i64 d]] w fun e w' => e = .returned (.bool (a == n)) ∧ Below w.heap.size w w' := by
  go_enter Tryz.func77, Tryz.ntmps77
  go_wp2_with fail
  go_ret
  exact ⟨rfl, by go_grown⟩
set_option maxRecDepth 100000 in
set_option maxHeartbeats 4000000 in
theorem eqfun_any (xs : List Int) (fs : List (Int × Int)) (A A2 : Option Addr) (c c2 : Nat) (hx : xs.length ≤ maxLen) (_hf : fs.length ≤ maxLen) (w : World) (h1 : Is w A xs) (h2 : CsAt w A2 fs) :
    Calls Tryz.prog 76 #[.slice A xs.length c, .slice A2 fs.length c2, .func (.func 77) #[] #[]] w fun e w' => e = .returned (.bool (eqA xs fs)) ∧ Below w.heap.size w w' := by
  by_cases hne : xs.length = fs.length
  · have HA := Lib.hid h1
    have HF := Lib.hid h2
    have T := Lib.hid tol11_any
    unfold maxLen at hx _hf
    rw [← hne]
    rw [← hne] at _hf
    have HE := Lib.hid hne
    generalize hL : xs.length = L at *
    have HL := Lib.hid hL
    generalize hr : eqA xs fs = r at *
    have HR := Lib.hid hr
    clear h1 h2 hne hL hr _hf
    go_enter Tryz.func76, Tryz.ntmps76
    go_wp2_with fail
    go_loopw [7, 8, 9, 17] (fun _ _ _ k wr => ∃ i : Nat, i ≤ L ∧ k = .int .i64 i ∧ Hid (∀ j, j < i → nth xs j = (cn fs j).1) ∧ Hid (Below w.heap.size w wr)) (fun _ _ _ k _ => L - (intOf k).toNat)
    case atStart => exact ⟨0, by omega, rfl, Lib.hid (fun j hj => absurd hj (by omega)), Lib.hid (Below.refl _ _)⟩
    case round =>
      obtain ⟨i, hi, rfl, HP, HB1⟩ := hrel
      by_cases hlt : i < L
      · obtain ⟨b, o, rfl, hb, c0⟩ := is_at (i := i) (HA.out.below HB1.out) (by rw [HL.out]; exact hlt)
        obtain ⟨b2, o2, rfl, hb2, d0, d1⟩ := cs_at (i := i) (HF.out.below HB1.out) (by rw [← HE.out]; exact hlt)
        have t3 : decide ((i : Int) < L) = true := by simpa using hlt
        have HQ : Hid (nth xs i = (cn fs i).1 ∧ (nth xs i == (cn fs i).1) = true ∨ nth xs i ≠ (cn fs i).1 ∧ (nth xs i == (cn fs i).1) = false) := Lib.hid (by
          by_cases z : nth xs i = (cn fs i).1
          · exact .inl ⟨z, by simpa using z⟩
          · exact .inr ⟨z, by simpa using z⟩)
        have HYN : Hid ((∀ z, nth xs i = (cn fs i).1 → z = (cn fs i).1 → True)) := Lib.hid (fun _ _ _ => trivial)
        have NO : Hid (nth xs i ≠ (cn fs i).1 → r = false) := Lib.hid (fun z => HR.out.symm.trans (eqA_no (by rw [HL.out]; exact hlt) (by rw [← HE.out]; exact hlt) z))
        have YES : Hid (nth xs i = (cn fs i).1 → ∀ j, j < i + 1 → nth xs j = (cn fs j).1) := Lib.hid (fun z j hj => by
          rcases Nat.lt_or_ge j i with y | y
          · exact HP.out j y
          · obtain rfl : j = i := by omega
            exact z)
        clear HYN
        generalize nth xs i = x at *
        generalize hcn : (cn fs i).1 = n at *
        clear hcn
        generalize (cn fs i).2 = d at *
        have B2 : Hid (Below w.heap.size w (wr.alloc (.cells #[.int .i64 n, .int .i64 d] 44))) := Lib.hid (bw_below (Nat.le_refl _) HB1.out (new_below wr _))
        go_wp2_with fail
        refine (T.out _ _ _ _).mono ?_
        rintro e w1 ⟨rfl, hb1⟩
        have G1 : Hid (Below w.heap.size w w1) := Lib.hid (bw_below (by simp) B2.out hb1)
        clear hb1
        rcases HQ.out with ⟨z, t5⟩ | ⟨z, t5⟩
        · have Y := Lib.hid (YES.out z)
          clear YES NO z
          rw [t5]
          go_wp2_with fail
          go_round
          case rel => exact ⟨i + 1, by omega, by go_num, Y, G1⟩
          case measure => simp [intOf]; omega
        · have Y := NO.out z
          subst Y
          clear YES NO z
          rw [t5]
          go_wp2_with fail
          go_ret
          exact ⟨rfl, G1.out⟩
      · obtain rfl : i = L := by omega
        have t3 : decide ((i : Int) < i) = false := by simp
        have Y := HR.out.symm.trans (eqA_yes (HL.out.trans HE.out) (fun j hj => HP.out j (by rw [← HL.out]; exact hj)))
        subst Y
        go_wp2_with fail
        go_ret
        exact ⟨rfl, HB1.out⟩
  · rw [eqA_len hne]
    have t1 : ((xs.length : Int) == fs.length) = false := by simp; omega
    have t2 : (xs.length : Int) ≠ fs.length := by omega
    generalize xs.length = L1 at *
    generalize fs.length = L2 at *
    clear h1 h2
    go_enter Tryz.func76, Tryz.ntmps76
    go_wp2_with fail
    go_ret
    exact ⟨rfl, Below.refl _ _⟩
end Go.Proofs.YtaodebpogibimaaGreat
namespace Go.Proofs.YtaodebpogibimaaGreat
open Go.RowKit

/-- Letters and digits. -/
def ltr (c : Int) : Bool := ((decide (97 ≤ c) && decide (c ≤ 122)) || (decide (65 ≤ c) && decide (c ≤ 90))) || c == 95
def dig (c : Int) : Bool := decide (48 ≤ c) && decide (c ≤ 57)
theorem isdigit_any (c : Int) (w : World) : Calls Tryz.prog 98 #[.int .u8 c] w fun e w' => e = .returned (.bool (dig c)) ∧ w = w' := by
  unfold dig
  cases d : decide (48 ≤ c) with
  | true =>
    rw [Bool.true_and]
    go_enter Tryz.func98, Tryz.ntmps98
    go_wp2
    go_ret
    exact ⟨rfl, rfl⟩
  | false =>
    rw [Bool.false_and]
    go_enter Tryz.func98, Tryz.ntmps98
    go_wp2
    go_ret
    exact ⟨rfl, rfl⟩
theorem isletter_any (c : Int) (w : World) : Calls Tryz.prog 99 #[.int .u8 c] w fun e w' => e = .returned (.bool (ltr c)) ∧ w = w' := by
  have fin : ∀ b : Bool, ltr c = b → (Calls Tryz.prog 99 #[.int .u8 c] w fun e w' => e = .returned (.bool b) ∧ w = w') → Calls Tryz.prog 99 #[.int .u8 c] w fun e w' => e = .returned (.bool (ltr c)) ∧ w = w' := fun b hb h => by rw [hb]; exact h
  cases d1 : decide (97 ≤ c) <;> cases d2 : decide (c ≤ 122) <;> cases d3 : decide (65 ≤ c) <;> cases d4 : decide (c ≤ 90) <;>
  first
    | (exfalso; simp at d1 d2 d3 d4; omega)
    | (refine fin true (by unfold ltr; rw [d1, d2, d3, d4]; rfl) ?_; clear fin; go_enter Tryz.func99, Tryz.ntmps99; go_wp2; go_ret; exact ⟨rfl, rfl⟩)
    | (refine fin (c == 95) (by unfold ltr; rw [d1, d2, d3, d4]; simp) ?_; clear fin; go_enter Tryz.func99, Tryz.ntmps99; go_wp2; go_ret; exact ⟨rfl, rfl⟩)
/-- A byte of a text. -/
def bs (s : ByteArray) (j : Nat) : Int := if h : j < s.size then (s[j].toNat : Int) else 0
theorem bs_of {s : ByteArray} {j : Nat} (h : j < s.size) : (s[j].toNat : Int) = bs s j := by simp [bs, h]
/-- May the byte at a place stand in a name? -/
def nmC (s : ByteArray) (j : Nat) : Bool := ltr (bs s j) || (dig (bs s j) && decide (0 < j))
def okNm (s : ByteArray) : Bool := decide (1 ≤ s.size) && decide (s.size ≤ 12) && (List.range s.size).all (nmC s)
theorem rall_of {n : Nat} {p : Nat → Bool} (h : ∀ j, j < n → p j = true) : (List.range n).all p = true := by
  rw [List.all_eq_true]; intro x hx; exact h x (List.mem_range.1 hx)
theorem rall_not {n i : Nat} {p : Nat → Bool} (hi : i < n) (h : p i = false) : (List.range n).all p = false := by
  rw [List.all_eq_false]; exact ⟨i, List.mem_range.2 hi, by rw [h]; simp⟩
theorem empty_of {s : ByteArray} (h : s.size = 0) : s = ByteArray.empty := by
  cases s with | mk d => simp [ByteArray.size] at h; subst h; rfl
theorem tl_ne {s : ByteArray} (h : ¬ s.size = 0) : s.toList.isEmpty = false := by
  rw [ByteArray.toList_eq]
  cases s with | mk d => cases d with | mk l => cases l with
    | nil => exact absurd rfl h
    | cons a l => rfl
theorem tl_e {s : ByteArray} (h : s.size = 0) : s.toList.isEmpty = true := by
  rw [empty_of h, ByteArray.toList_eq]; rfl
theorem ltr_dig {c : Int} (h : ltr c = true) : dig c = false := by
  unfold ltr at h
  unfold dig
  simp at h ⊢
  omega
set_option maxHeartbeats 1000000 in
theorem isname_any (s : ByteArray) (w : World) (hs : s.size ≤ maxLen) : Calls Tryz.prog 66 #[.string s] w fun e w' => e = .returned (.bool (okNm s)) ∧ w = w' := by
  by_cases h1 : s.size = 0
  · have e := empty_of h1
    subst e
    go_enter Tryz.func66, Tryz.ntmps66
    go_wp2_with fail
    go_ret
    exact ⟨rfl, rfl⟩
  · have d1 := tl_ne h1
    by_cases h2 : s.size ≤ 12
    · have d2 : decide ((12 : Int) < s.size) = false := by simp; omega
      have hpos : 0 < s.size := by omega
      cases hd : dig (bs s 0) with
      | true =>
        have HD := Lib.hid hd
        have HE : Hid (okNm s = false) := Lib.hid (by
          unfold okNm
          rw [rall_not hpos (by
            unfold nmC
            rw [hd]
            cases hl : ltr (bs s 0) with
            | true => rw [ltr_dig hl] at hd; cases hd
            | false => rfl), Bool.and_false])
        clear hd
        rw [HE.out]
        go_enter Tryz.func66, Tryz.ntmps66
        go_wp2_with fail
        rw [bs_of hpos]
        refine (isdigit_any _ _).mono ?_
        rintro e w1 ⟨rfl, rfl⟩
        rw [HD.out]
        go_wp2_with fail
        go_ret
        exact ⟨rfl, rfl⟩
      | false =>
        have HD := Lib.hid hd
        have H1 := Lib.hid h1
        have H2 := Lib.hid h2
        clear hd h1 h2
        go_enter Tryz.func66, Tryz.ntmps66
        go_wp2_with fail
        rw [bs_of hpos]
        refine (isdigit_any _ _).mono ?_
        rintro e w1 ⟨rfl, rfl⟩
        rw [HD.out]
        go_wp2_with fail
        go_loopw [3, 18] (fun _ k wr => ∃ j : Nat, j ≤ s.size ∧ k = .int .i64 j ∧ Hid (∀ k, k < j → nmC s k = true) ∧ Hid (w = wr)) (fun _ k _ => s.size - (intOf k).toNat)
        case atStart => exact ⟨0, by omega, rfl, fun k h1 => by omega, rfl⟩
        case round =>
          obtain ⟨j, hj, rfl, HI, HW⟩ := hrel
          by_cases hlt : j < s.size
          · have d : decide ((j : Int) < s.size) = true := by simpa using hlt
            have hb : s.size ≤ 12 := H2.out
            cases hl : ltr (bs s j) with
            | true =>
              have HL := Lib.hid hl
              clear hl
              go_wp2_with fail
              rw [bs_of hlt]
              refine (isletter_any _ _).mono ?_
              rintro e w1 ⟨rfl, rfl⟩
              rw [HL.out]
              go_wp2_with fail
              go_round
              case rel => exact ⟨j + 1, by omega, by go_num, fun k h1 => by
                rcases Nat.lt_or_ge k j with z | z
                · exact HI.out k z
                · obtain rfl : k = j := by omega
                  unfold nmC; rw [HL.out]; rfl, HW.out⟩
              case measure => simp [intOf]; omega
            | false =>
              have HL := Lib.hid hl
              cases hg : dig (bs s j) with
              | true =>
                have HG := Lib.hid hg
                clear hl hg
                go_wp2_with fail
                rw [bs_of hlt]
                refine (isletter_any _ _).mono ?_
                rintro e w1 ⟨rfl, rfl⟩
                rw [HL.out]
                go_wp2_with fail
                rw [bs_of hlt]
                refine (isdigit_any _ _).mono ?_
                rintro e w1 ⟨rfl, rfl⟩
                rw [HG.out]
                go_wp2_with fail
                go_round
                case rel => exact ⟨j + 1, by omega, by go_num, fun k h1 => by
                  rcases Nat.lt_or_ge k j with z | z
                  · exact HI.out k z
                  · obtain rfl : k = j := by omega
                    unfold nmC
                    rw [HG.out]
                    rcases Nat.eq_zero_or_pos k with q | q
                    · subst q; have a := HG.out; rw [HD.out] at a; cases a
                    · simp [q], HW.out⟩
                case measure => simp [intOf]; omega
              | false =>
                have HG := Lib.hid hg
                have HE : Hid (okNm s = false) := Lib.hid (by
                  unfold okNm
                  rw [rall_not hlt (by unfold nmC; rw [hl, hg]; rfl), Bool.and_false])
                clear hl hg
                go_wp2_with fail
                rw [bs_of hlt]
                refine (isletter_any _ _).mono ?_
                rintro e w1 ⟨rfl, rfl⟩
                rw [HL.out]
                go_wp2_with fail
                rw [bs_of hlt]
                refine (isdigit_any _ _).mono ?_
                rintro e w1 ⟨rfl, rfl⟩
                rw [HG.out]
                go_wp2_with fail
                go_ret
                rw [HE.out]
                exact ⟨rfl, HW.out⟩
          · obtain rfl : j = s.size := by omega
            have d : decide ((s.size : Int) < s.size) = false := by simp
            have HE : Hid (okNm s = true) := Lib.hid (by
              unfold okNm
              rw [rall_of HI.out]
              have := H1.out
              have := H2.out
              simp; omega)
            clear hlt
            go_wp2_with fail
            go_ret
            rw [HE.out]
            exact ⟨rfl, HW.out⟩
    · have d2 : decide ((12 : Int) < s.size) = true := by simp; omega
      have HE : Hid (okNm s = false) := Lib.hid (by simp [okNm]; omega)
      clear h1 h2 hs
      go_enter Tryz.func66, Tryz.ntmps66
      go_wp2_with fail
      go_ret
      rw [HE.out]
      exact ⟨rfl, rfl⟩
end Go.Proofs.YtaodebpogibimaaGreat
namespace Go.Proofs.YtaodebpogibimaaGreat
open Go.RowKit

theorem nm_bad {s : ByteArray} {j : Nat} (hj : j < s.size) (h : nmC s j = false) : okNm s = false := by
  unfold okNm
  rw [rall_not hj h, Bool.and_false]
set_option maxHeartbeats 4000000 in
theorem goodname_any (s : ByteArray) (w : World) (hs : s.size ≤ maxLen) : Calls Tryz.prog 89 #[.string s] w fun e w' => e = .returned (.bool (okNm s)) ∧ w = w' := by
  by_cases h1 : s.size = 0
  · have e := empty_of h1
    subst e
    go_enter Tryz.func89, Tryz.ntmps89
    go_wp2_with fail
    go_ret
    exact ⟨rfl, rfl⟩
  · have d1 : decide ((s.size : Int) < 1) = false := by simp; omega
    by_cases h2 : s.size ≤ 12
    · have d2 : decide ((12 : Int) < s.size) = false := by simp; omega
      have H1 := Lib.hid h1
      have H2 := Lib.hid h2
      clear h1 h2
      go_enter Tryz.func89, Tryz.ntmps89
      go_wp2_with fail
      go_loopw [3] (fun k wr => ∃ j : Nat, j ≤ s.size ∧ k = .int .i64 j ∧ Hid (∀ k, k < j → nmC s k = true) ∧ Hid (w = wr)) (fun k _ => s.size - (intOf k).toNat)
      case atStart => exact ⟨0, by omega, rfl, fun k h1 => by omega, rfl⟩
      case round =>
        obtain ⟨j, hj, rfl, HI, HW⟩ := hrel
        by_cases hlt : j < s.size
        · have d : decide ((j : Int) < s.size) = true := by simpa using hlt
          have hb : s.size ≤ 12 := H2.out
          rcases (show (97 ≤ (s[j].toNat : Int) ∧ (s[j].toNat : Int) ≤ 122) ∨ (65 ≤ (s[j].toNat : Int) ∧ (s[j].toNat : Int) ≤ 90) ∨ (95 ≤ (s[j].toNat : Int) ∧ (s[j].toNat : Int) ≤ 95) ∨ ((s[j].toNat : Int) < 48) ∨ (48 ≤ (s[j].toNat : Int) ∧ (s[j].toNat : Int) ≤ 57) ∨ (57 < (s[j].toNat : Int) ∧ (s[j].toNat : Int) < 65) ∨ (90 < (s[j].toNat : Int) ∧ (s[j].toNat : Int) < 95) ∨ (95 < (s[j].toNat : Int) ∧ (s[j].toNat : Int) < 97) ∨ (122 < (s[j].toNat : Int)) from by omega) with ⟨x1, x2⟩ | ⟨x1, x2⟩ | ⟨x1, x2⟩ | x1 | ⟨x1, x2⟩ | ⟨x1, x2⟩ | ⟨x1, x2⟩ | ⟨x1, x2⟩ | x1
          · skip
            have f0 : decide (97 ≤ (s[j].toNat : Int)) = true := by simp; omega
            have f1 : decide ((s[j].toNat : Int) ≤ 122) = true := by simp; omega
            have f2 : decide (65 ≤ (s[j].toNat : Int)) = true := by simp; omega
            have f3 : decide ((s[j].toNat : Int) ≤ 90) = false := by simp; omega
            have f4 : ((s[j].toNat : Int) == 95) = false := by simp; omega
            have f5 : decide ((s[j].toNat : Int) < 48) = false := by simp; omega
            have f6 : decide (57 < (s[j].toNat : Int)) = true := by simp; omega
            cases dz : ((j : Int) == 0) with
            | true =>
              have HZ := Lib.hid (show j = 0 by simp at dz; omega)
              have HG : Hid (nmC s j = true) := Lib.hid (by have hz := HZ.out; unfold nmC ltr dig; rw [← bs_of hlt]; simp; omega)
              go_wp2_with fail
              go_round
              case rel => exact ⟨j + 1, by omega, by go_num, fun k h1 => by
                rcases Nat.lt_or_ge k j with z | z
                · exact HI.out k z
                · obtain rfl : k = j := by omega
                  exact HG.out, HW.out⟩
              case measure => simp [intOf]; omega
            | false =>
              have HZ := Lib.hid (show 0 < j by simp at dz; omega)
              have HG : Hid (nmC s j = true) := Lib.hid (by have hz := HZ.out; unfold nmC ltr dig; rw [← bs_of hlt]; simp; omega)
              go_wp2_with fail
              go_round
              case rel => exact ⟨j + 1, by omega, by go_num, fun k h1 => by
                rcases Nat.lt_or_ge k j with z | z
                · exact HI.out k z
                · obtain rfl : k = j := by omega
                  exact HG.out, HW.out⟩
              case measure => simp [intOf]; omega
          · skip
            have f0 : decide (97 ≤ (s[j].toNat : Int)) = false := by simp; omega
            have f1 : decide ((s[j].toNat : Int) ≤ 122) = true := by simp; omega
            have f2 : decide (65 ≤ (s[j].toNat : Int)) = true := by simp; omega
            have f3 : decide ((s[j].toNat : Int) ≤ 90) = true := by simp; omega
            have f4 : ((s[j].toNat : Int) == 95) = false := by simp; omega
            have f5 : decide ((s[j].toNat : Int) < 48) = false := by simp; omega
            have f6 : decide (57 < (s[j].toNat : Int)) = true := by simp; omega
            cases dz : ((j : Int) == 0) with
            | true =>
              have HZ := Lib.hid (show j = 0 by simp at dz; omega)
              have HG : Hid (nmC s j = true) := Lib.hid (by have hz := HZ.out; unfold nmC ltr dig; rw [← bs_of hlt]; simp; omega)
              go_wp2_with fail
              go_round
              case rel => exact ⟨j + 1, by omega, by go_num, fun k h1 => by
                rcases Nat.lt_or_ge k j with z | z
                · exact HI.out k z
                · obtain rfl : k = j := by omega
                  exact HG.out, HW.out⟩
              case measure => simp [intOf]; omega
            | false =>
              have HZ := Lib.hid (show 0 < j by simp at dz; omega)
              have HG : Hid (nmC s j = true) := Lib.hid (by have hz := HZ.out; unfold nmC ltr dig; rw [← bs_of hlt]; simp; omega)
              go_wp2_with fail
              go_round
              case rel => exact ⟨j + 1, by omega, by go_num, fun k h1 => by
                rcases Nat.lt_or_ge k j with z | z
                · exact HI.out k z
                · obtain rfl : k = j := by omega
                  exact HG.out, HW.out⟩
              case measure => simp [intOf]; omega
          · skip
            have f0 : decide (97 ≤ (s[j].toNat : Int)) = false := by simp; omega
            have f1 : decide ((s[j].toNat : Int) ≤ 122) = true := by simp; omega
            have f2 : decide (65 ≤ (s[j].toNat : Int)) = true := by simp; omega
            have f3 : decide ((s[j].toNat : Int) ≤ 90) = false := by simp; omega
            have f4 : ((s[j].toNat : Int) == 95) = true := by simp; omega
            have f5 : decide ((s[j].toNat : Int) < 48) = false := by simp; omega
            have f6 : decide (57 < (s[j].toNat : Int)) = true := by simp; omega
            cases dz : ((j : Int) == 0) with
            | true =>
              have HZ := Lib.hid (show j = 0 by simp at dz; omega)
              have HG : Hid (nmC s j = true) := Lib.hid (by have hz := HZ.out; unfold nmC ltr dig; rw [← bs_of hlt]; simp; omega)
              go_wp2_with fail
              go_round
              case rel => exact ⟨j + 1, by omega, by go_num, fun k h1 => by
                rcases Nat.lt_or_ge k j with z | z
                · exact HI.out k z
                · obtain rfl : k = j := by omega
                  exact HG.out, HW.out⟩
              case measure => simp [intOf]; omega
            | false =>
              have HZ := Lib.hid (show 0 < j by simp at dz; omega)
              have HG : Hid (nmC s j = true) := Lib.hid (by have hz := HZ.out; unfold nmC ltr dig; rw [← bs_of hlt]; simp; omega)
              go_wp2_with fail
              go_round
              case rel => exact ⟨j + 1, by omega, by go_num, fun k h1 => by
                rcases Nat.lt_or_ge k j with z | z
                · exact HI.out k z
                · obtain rfl : k = j := by omega
                  exact HG.out, HW.out⟩
              case measure => simp [intOf]; omega
          · skip
            have f0 : decide (97 ≤ (s[j].toNat : Int)) = false := by simp; omega
            have f1 : decide ((s[j].toNat : Int) ≤ 122) = true := by simp; omega
            have f2 : decide (65 ≤ (s[j].toNat : Int)) = false := by simp; omega
            have f3 : decide ((s[j].toNat : Int) ≤ 90) = true := by simp; omega
            have f4 : ((s[j].toNat : Int) == 95) = false := by simp; omega
            have f5 : decide ((s[j].toNat : Int) < 48) = true := by simp; omega
            have f6 : decide (57 < (s[j].toNat : Int)) = false := by simp; omega
            cases dz : ((j : Int) == 0) with
            | true =>
              have HZ := Lib.hid (show j = 0 by simp at dz; omega)
              have HE : Hid (okNm s = false) := Lib.hid (nm_bad hlt (by have hz := HZ.out; unfold nmC ltr dig; rw [← bs_of hlt]; simp; omega))
              go_wp2_with fail
              go_ret
              rw [HE.out]
              exact ⟨rfl, HW.out⟩
            | false =>
              have HZ := Lib.hid (show 0 < j by simp at dz; omega)
              have HE : Hid (okNm s = false) := Lib.hid (nm_bad hlt (by have hz := HZ.out; unfold nmC ltr dig; rw [← bs_of hlt]; simp; omega))
              go_wp2_with fail
              go_ret
              rw [HE.out]
              exact ⟨rfl, HW.out⟩
          · skip
            have f0 : decide (97 ≤ (s[j].toNat : Int)) = false := by simp; omega
            have f1 : decide ((s[j].toNat : Int) ≤ 122) = true := by simp; omega
            have f2 : decide (65 ≤ (s[j].toNat : Int)) = false := by simp; omega
            have f3 : decide ((s[j].toNat : Int) ≤ 90) = true := by simp; omega
            have f4 : ((s[j].toNat : Int) == 95) = false := by simp; omega
            have f5 : decide ((s[j].toNat : Int) < 48) = false := by simp; omega
            have f6 : decide (57 < (s[j].toNat : Int)) = false := by simp; omega
            cases dz : ((j : Int) == 0) with
            | true =>
              have HZ := Lib.hid (show j = 0 by simp at dz; omega)
              have HE : Hid (okNm s = false) := Lib.hid (nm_bad hlt (by have hz := HZ.out; unfold nmC ltr dig; rw [← bs_of hlt]; simp; omega))
              go_wp2_with fail
              go_ret
              rw [HE.out]
              exact ⟨rfl, HW.out⟩
            | false =>
              have HZ := Lib.hid (show 0 < j by simp at dz; omega)
              have HG : Hid (nmC s j = true) := Lib.hid (by have hz := HZ.out; unfold nmC ltr dig; rw [← bs_of hlt]; simp; omega)
              go_wp2_with fail
              go_round
              case rel => exact ⟨j + 1, by omega, by go_num, fun k h1 => by
                rcases Nat.lt_or_ge k j with z | z
                · exact HI.out k z
                · obtain rfl : k = j := by omega
                  exact HG.out, HW.out⟩
              case measure => simp [intOf]; omega
          · skip
            have f0 : decide (97 ≤ (s[j].toNat : Int)) = false := by simp; omega
            have f1 : decide ((s[j].toNat : Int) ≤ 122) = true := by simp; omega
            have f2 : decide (65 ≤ (s[j].toNat : Int)) = false := by simp; omega
            have f3 : decide ((s[j].toNat : Int) ≤ 90) = true := by simp; omega
            have f4 : ((s[j].toNat : Int) == 95) = false := by simp; omega
            have f5 : decide ((s[j].toNat : Int) < 48) = false := by simp; omega
            have f6 : decide (57 < (s[j].toNat : Int)) = true := by simp; omega
            cases dz : ((j : Int) == 0) with
            | true =>
              have HZ := Lib.hid (show j = 0 by simp at dz; omega)
              have HE : Hid (okNm s = false) := Lib.hid (nm_bad hlt (by have hz := HZ.out; unfold nmC ltr dig; rw [← bs_of hlt]; simp; omega))
              go_wp2_with fail
              go_ret
              rw [HE.out]
              exact ⟨rfl, HW.out⟩
            | false =>
              have HZ := Lib.hid (show 0 < j by simp at dz; omega)
              have HE : Hid (okNm s = false) := Lib.hid (nm_bad hlt (by have hz := HZ.out; unfold nmC ltr dig; rw [← bs_of hlt]; simp; omega))
              go_wp2_with fail
              go_ret
              rw [HE.out]
              exact ⟨rfl, HW.out⟩
          · skip
            have f0 : decide (97 ≤ (s[j].toNat : Int)) = false := by simp; omega
            have f1 : decide ((s[j].toNat : Int) ≤ 122) = true := by simp; omega
            have f2 : decide (65 ≤ (s[j].toNat : Int)) = true := by simp; omega
            have f3 : decide ((s[j].toNat : Int) ≤ 90) = false := by simp; omega
            have f4 : ((s[j].toNat : Int) == 95) = false := by simp; omega
            have f5 : decide ((s[j].toNat : Int) < 48) = false := by simp; omega
            have f6 : decide (57 < (s[j].toNat : Int)) = true := by simp; omega
            cases dz : ((j : Int) == 0) with
            | true =>
              have HZ := Lib.hid (show j = 0 by simp at dz; omega)
              have HE : Hid (okNm s = false) := Lib.hid (nm_bad hlt (by have hz := HZ.out; unfold nmC ltr dig; rw [← bs_of hlt]; simp; omega))
              go_wp2_with fail
              go_ret
              rw [HE.out]
              exact ⟨rfl, HW.out⟩
            | false =>
              have HZ := Lib.hid (show 0 < j by simp at dz; omega)
              have HE : Hid (okNm s = false) := Lib.hid (nm_bad hlt (by have hz := HZ.out; unfold nmC ltr dig; rw [← bs_of hlt]; simp; omega))
              go_wp2_with fail
              go_ret
              rw [HE.out]
              exact ⟨rfl, HW.out⟩
          · skip
            have f0 : decide (97 ≤ (s[j].toNat : Int)) = false := by simp; omega
            have f1 : decide ((s[j].toNat : Int) ≤ 122) = true := by simp; omega
            have f2 : decide (65 ≤ (s[j].toNat : Int)) = true := by simp; omega
            have f3 : decide ((s[j].toNat : Int) ≤ 90) = false := by simp; omega
            have f4 : ((s[j].toNat : Int) == 95) = false := by simp; omega
            have f5 : decide ((s[j].toNat : Int) < 48) = false := by simp; omega
            have f6 : decide (57 < (s[j].toNat : Int)) = true := by simp; omega
            cases dz : ((j : Int) == 0) with
            | true =>
              have HZ := Lib.hid (show j = 0 by simp at dz; omega)
              have HE : Hid (okNm s = false) := Lib.hid (nm_bad hlt (by have hz := HZ.out; unfold nmC ltr dig; rw [← bs_of hlt]; simp; omega))
              go_wp2_with fail
              go_ret
              rw [HE.out]
              exact ⟨rfl, HW.out⟩
            | false =>
              have HZ := Lib.hid (show 0 < j by simp at dz; omega)
              have HE : Hid (okNm s = false) := Lib.hid (nm_bad hlt (by have hz := HZ.out; unfold nmC ltr dig; rw [← bs_of hlt]; simp; omega))
              go_wp2_with fail
              go_ret
              rw [HE.out]
              exact ⟨rfl, HW.out⟩
          · skip
            have f0 : decide (97 ≤ (s[j].toNat : Int)) = true := by simp; omega
            have f1 : decide ((s[j].toNat : Int) ≤ 122) = false := by simp; omega
            have f2 : decide (65 ≤ (s[j].toNat : Int)) = true := by simp; omega
            have f3 : decide ((s[j].toNat : Int) ≤ 90) = false := by simp; omega
            have f4 : ((s[j].toNat : Int) == 95) = false := by simp; omega
            have f5 : decide ((s[j].toNat : Int) < 48) = false := by simp; omega
            have f6 : decide (57 < (s[j].toNat : Int)) = true := by simp; omega
            cases dz : ((j : Int) == 0) with
            | true =>
              have HZ := Lib.hid (show j = 0 by simp at dz; omega)
              have HE : Hid (okNm s = false) := Lib.hid (nm_bad hlt (by have hz := HZ.out; unfold nmC ltr dig; rw [← bs_of hlt]; simp; omega))
              go_wp2_with fail
              go_ret
              rw [HE.out]
              exact ⟨rfl, HW.out⟩
            | false =>
              have HZ := Lib.hid (show 0 < j by simp at dz; omega)
              have HE : Hid (okNm s = false) := Lib.hid (nm_bad hlt (by have hz := HZ.out; unfold nmC ltr dig; rw [← bs_of hlt]; simp; omega))
              go_wp2_with fail
              go_ret
              rw [HE.out]
              exact ⟨rfl, HW.out⟩
        · obtain rfl : j = s.size := by omega
          have d : decide ((s.size : Int) < s.size) = false := by simp
          have HE : Hid (okNm s = true) := Lib.hid (by
            unfold okNm
            rw [rall_of HI.out]
            have := H1.out
            have := H2.out
            simp; omega)
          clear hlt
          go_wp2_with fail
          go_ret
          rw [HE.out]
          exact ⟨rfl, HW.out⟩
    · have d2 : decide ((12 : Int) < s.size) = true := by simp; omega
      have HE : Hid (okNm s = false) := Lib.hid (by simp [okNm]; omega)
      clear h1 h2 hs
      go_enter Tryz.func89, Tryz.ntmps89
      go_wp2_with fail
      go_ret
      rw [HE.out]
      exact ⟨rfl, rfl⟩
end Go.Proofs.YtaodebpogibimaaGreat
namespace Go.Proofs.YtaodebpogibimaaGreat
open Go.RowKit

/-- A declared name of a list. -/
def dn (qs : List Dc) (i : Nat) : Dc := qs.getD i default
def nn (qs : List Nd) (i : Nat) : Nd := qs.getD i default
theorem dn_of {qs : List Dc} {i : Nat} (h : i < qs.length) : qs[i]? = some (dn qs i) := by simp [dn, List.getD, h]
theorem nn_of {qs : List Nd} {i : Nat} (h : i < qs.length) : qs[i]? = some (nn qs i) := by simp [nn, List.getD, h]
theorem dn_mem {qs : List Dc} {i : Nat} (h : i < qs.length) : dn qs i ∈ qs := List.mem_of_getElem? (dn_of h)
theorem nn_mem {qs : List Nd} {i : Nat} (h : i < qs.length) : nn qs i ∈ qs := List.mem_of_getElem? (nn_of h)
theorem ds_at {w : World} {A : Option Addr} {qs : List Dc} {i : Nat} (h : DsAt w A qs) (hi : i < qs.length) :
    ∃ b o A' c, A = some ⟨b, o, none⟩ ∧ b < w.heap.size ∧ w.cell? ⟨b, o + i * 3, none⟩ = some (.string (dn qs i).name) ∧ w.cell? ⟨b, o + i * 3 + 1, none⟩ = some (.slice A' (dn qs i).args.length c) ∧
      w.cell? ⟨b, o + i * 3 + 2, none⟩ = some (.int .i64 (dn qs i).sort) ∧ (dn qs i).name.size ≤ maxLen ∧ (dn qs i).args.length ≤ maxLen ∧ Is w A' (dn qs i).args := by
  obtain ⟨b, o, e, l, k⟩ := h (by omega)
  obtain ⟨c0, c2, hs, A', c, c1, h1, h2, h3⟩ := k i _ (dn_of hi)
  exact ⟨b, o, A', c, e, l, c0, c1, c2, hs, Nat.le_trans h1 h2, h3⟩
theorem ns_at {w : World} {A : Option Addr} {qs : List Nd} {i : Nat} (h : NsAt w A qs) (hi : i < qs.length) :
    ∃ b o A' c, A = some ⟨b, o, none⟩ ∧ b < w.heap.size ∧ w.cell? ⟨b, o + i * 5, none⟩ = some (.int .i64 (nn qs i).op) ∧ w.cell? ⟨b, o + i * 5 + 1, none⟩ = some (.slice A' (nn qs i).kids.length c) ∧
      w.cell? ⟨b, o + i * 5 + 2, none⟩ = some (.int .i64 (nn qs i).n) ∧ w.cell? ⟨b, o + i * 5 + 3, none⟩ = some (.int .i64 (nn qs i).d) ∧ w.cell? ⟨b, o + i * 5 + 4, none⟩ = some (.string (nn qs i).name) ∧ (nn qs i).name.size ≤ maxLen ∧ (nn qs i).kids.length ≤ maxLen ∧ Is w A' (nn qs i).kids := by
  obtain ⟨b, o, e, l, k⟩ := h (by omega)
  obtain ⟨c0, c2, c3, c4, hs, A', c, c1, h1, h2, h3⟩ := k i _ (nn_of hi)
  exact ⟨b, o, A', c, e, l, c0, c1, c2, c3, c4, hs, Nat.le_trans h1 h2, h3⟩
/-- Where a name is declared; -1: nowhere. -/
def fdI (qs : List Dc) (s : ByteArray) : Nat := qs.findIdx fun q => q.name.toList == s.toList
def fdZ (qs : List Dc) (s : ByteArray) : Int := if fdI qs s < qs.length then (fdI qs s : Int) else -1
theorem dn_el {qs : List Dc} {i : Nat} (hi : i < qs.length) : qs[i] = dn qs i := by
  have := dn_of hi
  rw [List.getElem?_eq_getElem hi] at this
  injection this
theorem nn_el {qs : List Nd} {i : Nat} (hi : i < qs.length) : qs[i] = nn qs i := by
  have := nn_of hi
  rw [List.getElem?_eq_getElem hi] at this
  injection this
theorem fd_hit {qs : List Dc} {s : ByteArray} {i : Nat} (hi : i < qs.length) (h : ∀ j, j < i → ((dn qs j).name.toList == s.toList) = false) (he : ((dn qs i).name.toList == s.toList) = true) : fdI qs s = i := by
  unfold fdI
  rw [List.findIdx_eq hi]
  refine ⟨?_, fun j hj => ?_⟩
  · rw [dn_el hi]; exact he
  · rw [dn_el (by omega)]; exact h j hj
theorem fd_miss {qs : List Dc} {s : ByteArray} (h : ∀ j, j < qs.length → ((dn qs j).name.toList == s.toList) = false) : fdI qs s = qs.length := by
  unfold fdI
  rw [List.findIdx_eq_length]
  intro x hx
  obtain ⟨i, hi, rfl⟩ := List.getElem_of_mem hx
  rw [dn_el hi]; exact h i hi
theorem fdz_hit {qs : List Dc} {s : ByteArray} {i : Nat} (hi : i < qs.length) (h : ∀ j, j < i → ((dn qs j).name.toList == s.toList) = false) (he : ((dn qs i).name.toList == s.toList) = true) : fdZ qs s = i := by
  unfold fdZ; rw [fd_hit hi h he, if_pos hi]
theorem fdz_miss {qs : List Dc} {s : ByteArray} (h : ∀ j, j < qs.length → ((dn qs j).name.toList == s.toList) = false) : fdZ qs s = -1 := by
  unfold fdZ; rw [fd_miss h, if_neg (by omega)]
set_option maxHeartbeats 1000000 in
theorem declof_any (qs : List Dc) (A : Option Addr) (c : Nat) (s : ByteArray) (hl : qs.length ≤ maxLen) (w : World) (h : DsAt w A qs) :
    Calls Tryz.prog 44 #[.slice A qs.length c, .string s] w fun e w' => e = .returned (.int .i64 (fdZ qs s)) ∧ w = w' := by
  have HA := Lib.hid h
  unfold maxLen at hl
  generalize hL : qs.length = L at *
  have HL := Lib.hid hL
  clear h hL
  go_enter Tryz.func44, Tryz.ntmps44
  go_wp2_with fail
  go_loopw [5] (fun k wr => ∃ i : Nat, i ≤ L ∧ k = .int .i64 i ∧ Hid (∀ j, j < i → ((dn qs j).name.toList == s.toList) = false) ∧ Hid (w = wr)) (fun k _ => L - (intOf k).toNat)
  case atStart => exact ⟨0, by omega, rfl, fun j hj => absurd hj (by omega), rfl⟩
  case round =>
    obtain ⟨i, hi, rfl, HP, HW⟩ := hrel
    by_cases hlt : i < L
    · have HA2 := HA.out
      rw [HW.out] at HA2
      obtain ⟨b, o, A', c', rfl, hb, c0, c1, c2, _⟩ := ds_at (i := i) HA2 (by rw [HL.out]; exact hlt)
      have t3 : decide ((i : Int) < L) = true := by simpa using hlt
      clear HA2
      cases d : (dn qs i).name.toList == s.toList with
      | true =>
        have HE := Lib.hid (fdz_hit (by rw [HL.out]; exact hlt) HP.out d)
        go_wp2_with fail
        go_ret
        rw [HE.out]
        exact ⟨rfl, HW.out⟩
      | false =>
        have HD := Lib.hid d
        go_wp2_with fail
        go_round
        case rel => exact ⟨i + 1, by omega, by go_num, fun j hj => by
          rcases Nat.lt_or_ge j i with z | z
          · exact HP.out j z
          · obtain rfl : j = i := by omega
            exact HD.out, HW.out⟩
        case measure => simp [intOf]; omega
    · obtain rfl : i = L := by omega
      have t3 : decide ((i : Int) < i) = false := by simp
      have HE := Lib.hid (fdz_miss (qs := qs) (s := s) (fun j hj => HP.out j (by rw [HL.out] at hj; exact hj)))
      clear hlt
      go_wp2_with fail
      go_ret
      rw [HE.out]
      exact ⟨rfl, HW.out⟩
theorem decl1_any (n s : ByteArray) (A' : Option Addr) (k c' : Nat) (t : Int) (g : Nat) (w : World) (hg : HB w g 9 #[.string s]) :
    Calls Tryz.prog 100 #[.agg #[.string n, .slice A' k c', .int .i64 t], .pointer (some ⟨g, 0, none⟩)] w fun e w' => e = .returned (.bool (n.toList == s.toList)) ∧ Below w.heap.size w w' := by
  obtain ⟨h0, h1⟩ := (hg.alloc (.cells #[.string n, .slice A' k c', .int .i64 t] 52)).one
  clear hg
  go_enter Tryz.func100, Tryz.ntmps100
  go_wp2
  go_ret
  exact ⟨rfl, new_below _ _⟩
set_option maxHeartbeats 1000000 in
theorem indexd_any (qs : List Dc) (A : Option Addr) (c : Nat) (s : ByteArray) (g : Nat) (hl : qs.length ≤ maxLen) (w : World) (h : DsAt w A qs) (hg : HB w g 9 #[.string s]) :
    Calls Tryz.prog 13 #[.slice A qs.length c, .func (.func 100) #[] #[.pointer (some ⟨g, 0, none⟩)]] w fun e w' => e = .returned (.int .i64 (fdZ qs s)) ∧ Below w.heap.size w w' := by
  have HA := Lib.hid h
  have HG := Lib.hid hg
  unfold maxLen at hl
  generalize hL : qs.length = L at *
  have HL := Lib.hid hL
  clear h hL hg
  go_enter Tryz.func13, Tryz.ntmps13
  go_wp2_with fail
  go_loopw [5, 8] (fun _ k wr => ∃ i : Nat, i ≤ L ∧ k = .int .i64 i ∧ Hid (∀ j, j < i → ((dn qs j).name.toList == s.toList) = false) ∧ Hid (Below w.heap.size w wr)) (fun _ k _ => L - (intOf k).toNat)
  case atStart => exact ⟨0, by omega, rfl, fun j hj => absurd hj (by omega), Below.refl _ _⟩
  case round =>
    obtain ⟨i, hi, rfl, HP, HB⟩ := hrel
    by_cases hlt : i < L
    · obtain ⟨b, o, A', c', rfl, hb, c0, c1, c2, _⟩ := ds_at (i := i) (HA.out.below HB.out) (by rw [HL.out]; exact hlt)
      have t3 : decide ((i : Int) < L) = true := by simpa using hlt
      cases d : (dn qs i).name.toList == s.toList with
      | true =>
        have HD := Lib.hid d
        have HE := Lib.hid (fdz_hit (by rw [HL.out]; exact hlt) HP.out d)
        clear d
        go_wp2_with fail
        refine (decl1_any (dn qs i).name s A' (dn qs i).args.length c' (dn qs i).sort g _ (HG.out.below HB.out)).mono ?_
        rintro e w1 ⟨rfl, hb1⟩
        have G1 : Hid (Below w.heap.size w w1) := bw_below (Nat.le_refl _) HB.out hb1
        clear hb1
        rw [HD.out]
        go_wp2_with fail
        go_ret
        rw [HE.out]
        exact ⟨rfl, G1.out⟩
      | false =>
        have HD := Lib.hid d
        clear d
        go_wp2_with fail
        refine (decl1_any (dn qs i).name s A' (dn qs i).args.length c' (dn qs i).sort g _ (HG.out.below HB.out)).mono ?_
        rintro e w1 ⟨rfl, hb1⟩
        have G1 : Hid (Below w.heap.size w w1) := bw_below (Nat.le_refl _) HB.out hb1
        clear hb1
        rw [HD.out]
        go_wp2_with fail
        go_round
        case rel => exact ⟨i + 1, by omega, by go_num, fun j hj => by
          rcases Nat.lt_or_ge j i with z | z
          · exact HP.out j z
          · obtain rfl : j = i := by omega
            exact HD.out, G1.out⟩
        case measure => simp [intOf]; omega
    · obtain rfl : i = L := by omega
      have t3 : decide ((i : Int) < i) = false := by simp
      have HE := Lib.hid (fdz_miss (qs := qs) (s := s) (fun j hj => HP.out j (by rw [HL.out] at hj; exact hj)))
      clear hlt
      go_wp2_with fail
      go_ret
      rw [HE.out]
      exact ⟨rfl, HB.out⟩
theorem declared_any (qs : List Dc) (A : Option Addr) (c : Nat) (s : ByteArray) (hl : qs.length ≤ maxLen) (w : World) (h : DsAt w A qs) :
    Calls Tryz.prog 67 #[.slice A qs.length c, .string s] w fun e w' => e = .returned (.int .i64 (fdZ qs s)) ∧ Below w.heap.size w w' := by
  have HX := Lib.hid (indexd_any qs A c s w.heap.size hl (w.alloc (.cells #[.string s] 9)) (h.below (new_below _ _)) (HB.new _ _ _))
  clear h hl
  generalize qs.length = L at *
  go_enter Tryz.func67, Tryz.ntmps67
  go_wp2_with fail
  refine HX.out.mono ?_
  rintro e w1 ⟨rfl, hb1⟩
  have HB1 := Lib.hid (bw_below (Nat.le_refl _) (new_below w (.cells #[.string s] 9)) hb1)
  clear hb1
  go_wp2_with fail
  go_ret
  exact ⟨rfl, HB1.out⟩
end Go.Proofs.YtaodebpogibimaaGreat
