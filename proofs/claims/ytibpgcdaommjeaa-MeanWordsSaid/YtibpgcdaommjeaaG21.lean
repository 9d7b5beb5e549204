/-
  Values of nodes: what the value of a node is, whole; mathematics of arrays.
  Values of nodes: the value of a node is of its sort.
  Values of nodes: the nodes of a good ask in a good world.
-/
import Derived.Test.YtibpgcdaommjeaaG19
import Derived.Laws.BitsLemmas
import Derived.Test.YtibpgcdaommjeaaG20
namespace Go.Proofs.Ytibpgcdaommjeaa
open Go.RowKit

/-- Putting into an array. -/
def putF (v : Vl) (t u : Int) : Vl := ⟨0, 0, v.cells.filter (fun c => decide (c.1 < t)) ++ (if u = v.rest then [] else [(t, u)]) ++ v.cells.filter (fun c => decide (t < c.1)), v.rest⟩
/-- The value of a node by its kids' values, and its fault. -/
def evV (op sort N D : Int) (m : Mg) (kids : List Vl) : Vl × Int :=
  if op = 24 then (whV (getF (vn kids 0) (vn kids 1).num), 0) else if op = 25 then (putF (vn kids 0) (vn kids 1).num (vn kids 2).num, 0) else evF op sort N D m (numsOf kids)
/-- Cells in their form, said of each. -/
def GoodCs (rest last : Int) (cs : List (Int × Int)) : Prop := (∀ c ∈ cs, last < c.1 ∧ nTh c.1 = false ∧ nTh c.2 = false ∧ c.2 ≠ rest) ∧ cs.Pairwise (fun a b => a.1 < b.1)
theorem okcs_iff {rest : Int} {cs : List (Int × Int)} : ∀ {last : Int}, okCs rest last cs = true ↔ GoodCs rest last cs := by
  induction cs with
  | nil => intro last; simp [okCs, GoodCs]
  | cons c r ih =>
    intro last
    rw [okCs]
    simp only [Bool.and_eq_true, ih, Bool.not_eq_true', decide_eq_false_iff_not, beq_eq_false_iff_ne, ne_eq]
    constructor
    · rintro ⟨⟨⟨⟨h1, h2⟩, h3⟩, h4⟩, h5, h6⟩
      refine ⟨fun x hx => ?_, List.pairwise_cons.2 ⟨fun x hx => (h5 x hx).1, h6⟩⟩
      rcases List.mem_cons.1 hx with rfl | hx
      · exact ⟨by omega, h2, h3, h4⟩
      · have := h5 x hx
        exact ⟨by omega, this.2⟩
    · rintro ⟨h1, h2⟩
      rw [List.pairwise_cons] at h2
      have h3 := h1 c (List.mem_cons_self ..)
      exact ⟨⟨⟨⟨by omega, h3.2.1⟩, h3.2.2.1⟩, h3.2.2.2⟩, fun x hx => ⟨h2.1 x hx, (h1 x (List.mem_cons_of_mem _ hx)).2⟩, h2.2⟩
theorem nth_no {z : Int} : nTh z = false ↔ 0 ≤ z ∧ z ≤ 1000 := by
  unfold nTh
  rw [Bool.or_eq_false_iff, decide_eq_false_iff_not, decide_eq_false_iff_not]
  omega
theorem pw_len {cs : List (Int × Int)} : ∀ {lo : Int}, cs.Pairwise (fun a b => a.1 < b.1) → (∀ c ∈ cs, lo ≤ c.1 ∧ c.1 ≤ 1000) → lo ≤ 1001 → (cs.length : Int) ≤ 1001 - lo := by
  induction cs with
  | nil => intro lo _ _ h; simp; omega
  | cons c r ih =>
    intro lo h1 h2 h3
    rw [List.pairwise_cons] at h1
    have h4 := h2 c (List.mem_cons_self ..)
    have := ih (lo := c.1 + 1) h1.2 (fun x hx => ⟨by have := h1.1 x hx; omega, (h2 x (List.mem_cons_of_mem _ hx)).2⟩) (by omega)
    rw [List.length_cons]
    omega
theorem good_len {rest last : Int} {cs : List (Int × Int)} (h : GoodCs rest last cs) : cs.length ≤ 1001 := by
  have := pw_len (lo := 0) h.2 (fun c hc => by have := nth_no.1 (h.1 c hc).2.1; exact this) (by omega)
  omega
theorem good_srt {rest last : Int} {cs : List (Int × Int)} (h : GoodCs rest last cs) : Srt cs := by
  intro i j hij hj
  have := List.pairwise_iff_getElem.1 h.2 i j (by omega) hj hij
  rw [cn_of (show i < cs.length by omega), cn_of hj]
  exact this
theorem gdv5 {v : Vl} : gdV 5 v = true ↔ v.num = 0 ∧ v.den = 0 ∧ nTh v.rest = false ∧ GoodCs v.rest (-1) v.cells := by
  rw [gdv_5, Bool.and_eq_true, Bool.and_eq_true, Bool.and_eq_true, okcs_iff, beq_iff_eq, beq_iff_eq, Bool.not_eq_true']
  constructor
  · rintro ⟨⟨⟨a, b⟩, c⟩, d⟩; exact ⟨a, b, c, d⟩
  · rintro ⟨a, b, c, d⟩; exact ⟨⟨⟨a, b⟩, c⟩, d⟩
theorem gdv_w {s : Int} {v : Vl} (hs : s ≠ 5) : gdV s v = true ↔ v.cells = [] ∧ v.rest = 0 ∧ gdN s v.num v.den = true := by
  unfold gdV
  rw [if_neg hs, Bool.and_eq_true, Bool.and_eq_true, List.isEmpty_iff, beq_iff_eq]
  constructor
  · rintro ⟨⟨a, b⟩, c⟩; exact ⟨a, b, c⟩
  · rintro ⟨a, b, c⟩; exact ⟨⟨a, b⟩, c⟩
theorem gdn_iff {s n d : Int} : gdN s n d = true ↔ fvalid n d = true ∧ (s = 3 ∨ (d = 1 ∧ (s = 2 ∨ (0 ≤ n ∧ n ≤ grt s)))) := by
  unfold gdN
  simp only [Bool.and_eq_true, Bool.or_eq_true, beq_iff_eq, decide_eq_true_eq]
theorem fvalid_whole {n : Int} (h1 : -1073741824 ≤ n) (h2 : n ≤ 1073741824) : fvalid n 1 = true := by
  unfold fvalid
  rw [decide_eq_true_eq]
  refine ⟨by omega, by omega, by omega, by omega, ?_⟩
  have : mag 1 = 1 := by decide
  rw [this, Nat.gcd_one_right]
/-- The cells ahead of a thing, and behind it. -/
theorem filt_at {cs : List (Int × Int)} {t : Int} {i : Nat} (h : AtI cs t i) (hs : Srt cs) : cs.filter (fun c => decide (c.1 < t)) = cs.take i ∧
    cs.filter (fun c => decide (t < c.1)) = cs.drop (if (decide (i < cs.length) && (cn cs i).1 == t) = true then i + 1 else i) := by
  obtain ⟨h1, h2, h3⟩ := h
  have ht : ∀ x ∈ cs.take i, x.1 < t := fun x hx => by
    obtain ⟨j, hj, rfl⟩ := List.getElem_of_mem hx
    rw [List.length_take] at hj
    rw [List.getElem_take]
    have := h2 j (by omega)
    rw [cn_of (by omega)] at this
    exact this
  have hd : ∀ x ∈ cs.drop i, t ≤ x.1 := fun x hx => by
    obtain ⟨j, hj, rfl⟩ := List.getElem_of_mem hx
    rw [List.length_drop] at hj
    rw [List.getElem_drop]
    have := h3 (i + j) (by omega) (by omega)
    rw [cn_of (by omega)] at this
    exact this
  have e : cs = cs.take i ++ cs.drop i := (List.take_append_drop i cs).symm
  constructor
  · conv => lhs; rw [e]
    rw [List.filter_append, List.filter_eq_self.2 (fun x hx => by simpa using ht x hx), List.filter_eq_nil_iff.2 (fun x hx => by have := hd x hx; simp; omega), List.append_nil]
  · conv => lhs; rw [e]
    rw [List.filter_append, List.filter_eq_nil_iff.2 (fun x hx => by have := ht x hx; simp; omega), List.nil_append]
    by_cases z : i < cs.length ∧ (cn cs i).1 = t
    · rw [if_pos (by simpa using z), drop_cn z.1, List.filter_cons_of_neg (by simp [z.2])]
      refine List.filter_eq_self.2 (fun x hx => ?_)
      obtain ⟨j, hj, rfl⟩ := List.getElem_of_mem hx
      rw [List.length_drop] at hj
      rw [List.getElem_drop]
      have := hs i (i + 1 + j) (by omega) (by omega)
      rw [cn_of (by omega : i + 1 + j < cs.length)] at this
      simp
      omega
    · rw [if_neg (by simpa using z)]
      refine List.filter_eq_self.2 (fun x hx => ?_)
      obtain ⟨j, hj, rfl⟩ := List.getElem_of_mem hx
      rw [List.length_drop] at hj
      rw [List.getElem_drop]
      have a := h3 (i + j) (by omega) (by omega)
      rcases Nat.eq_zero_or_pos j with rfl | z2
      · have : (cn cs i).1 ≠ t := fun q => z ⟨by omega, q⟩
        rw [cn_of (by omega : i + 0 < cs.length)] at a
        rw [cn_of (by omega : i < cs.length)] at this
        simp only [Nat.add_zero] at a ⊢
        simp
        omega
      · have b := hs i (i + j) (by omega) (by omega)
        have c := h3 i (Nat.le_refl _) (by omega)
        rw [cn_of (by omega : i + j < cs.length)] at b
        simp
        omega
theorem put_good {v : Vl} {t u : Int} (h : gdV 5 v = true) (ht : nTh t = false) (hu : nTh u = false) : gdV 5 (putF v t u) = true := by
  obtain ⟨_, _, h3, h4, h5⟩ := gdv5.1 h
  refine gdv5.2 ⟨rfl, rfl, h3, ?_⟩
  have t0 := nth_no.1 ht
  show GoodCs v.rest (-1) (v.cells.filter (fun c => decide (c.1 < t)) ++ (if u = v.rest then [] else [(t, u)]) ++ v.cells.filter (fun c => decide (t < c.1)))
  have hm : ∀ x ∈ (if u = v.rest then [] else [(t, u)]), x = (t, u) ∧ u ≠ v.rest := fun x hx => by
    split at hx
    · cases hx
    · rename_i z
      exact ⟨by simpa using hx, z⟩
  constructor
  · intro c hc
    rw [List.mem_append, List.mem_append] at hc
    rcases hc with (hc | hc) | hc
    · exact h4 c (List.mem_filter.1 hc).1
    · obtain ⟨rfl, z⟩ := hm c hc
      exact ⟨by dsimp only; omega, ht, hu, z⟩
    · exact h4 c (List.mem_filter.1 hc).1
  · rw [List.pairwise_append, List.pairwise_append]
    refine ⟨⟨h5.filter _, ?_, fun a ha b hb => ?_⟩, h5.filter _, fun a ha b hb => ?_⟩
    · split
      · exact List.Pairwise.nil
      · exact List.pairwise_singleton _ _
    · obtain ⟨rfl, _⟩ := hm b hb
      simpa using (List.mem_filter.1 ha).2
    · have hb2 : t < b.1 := by simpa using (List.mem_filter.1 hb).2
      rcases List.mem_append.1 ha with ha | ha
      · have : a.1 < t := by simpa using (List.mem_filter.1 ha).2
        omega
      · obtain ⟨rfl, _⟩ := hm a ha
        exact hb2
theorem get_good {v : Vl} {t : Int} (h : gdV 5 v = true) : nTh (getF v t) = false := by
  obtain ⟨_, _, h3, h4, _⟩ := gdv5.1 h
  unfold getF
  split
  · rename_i c hc
    exact (h4 c (List.mem_of_find?_eq_some hc)).2.2.1
  · exact h3
end Go.Proofs.Ytibpgcdaommjeaa
namespace Go.Proofs.Ytibpgcdaommjeaa
open Go.RowKit

theorem cn_nums (kids : List Vl) (j : Nat) : cn (numsOf kids) j = ((vn kids j).num, (vn kids j).den) := by
  unfold cn numsOf vn
  rw [List.getD_eq_getElem?_getD, List.getD_eq_getElem?_getD, List.getElem?_map]
  cases kids[j]? with
  | none => rfl
  | some v => rfl
theorem whn_ne {b : Bool} {s : Int} (h : whn b s ≠ 0) : b = true ∧ whn b s = s := by
  cases b with
  | true => exact ⟨rfl, rfl⟩
  | false => exact absurd rfl h
theorem gd_fr {s : Int} {v : Vl} (hs : s ≠ 5) (h : gdV s v = true) : fvalid v.num v.den = true := (gdn_iff.1 ((gdv_w hs).1 h).2.2).1
theorem all_nth {p : Int → Bool} {ks : List Int} (h : ks.all p = true) {j : Nat} (hj : j < ks.length) : p (nth ks j) = true := by
  rw [List.all_eq_true] at h
  rw [nth_of hj]
  exact h _ (List.getElem_mem hj)
theorem sw_all {ks : List Int} (h : sSw ks = true) : sWd (nth ks 0) = true ∧ ∀ j, j < ks.length → nth ks j = nth ks 0 := by
  unfold sSw at h
  rw [Bool.and_eq_true] at h
  exact ⟨h.1, fun j hj => by simpa using all_nth h.2 hj⟩
theorem swd_iff {s : Int} : sWd s = true ↔ 11 ≤ s ∧ s ≤ 18 := by
  unfold sWd
  rw [Bool.and_eq_true, decide_eq_true_eq, decide_eq_true_eq]
  omega
theorem snu_iff {s : Int} : sNu s = true ↔ s = 2 ∨ s = 3 := by
  unfold sNu
  rw [Bool.or_eq_true, beq_iff_eq, beq_iff_eq]
/-- A word's number. -/
theorem gd_word {s : Int} {v : Vl} (hs : 11 ≤ s ∧ s ≤ 18) (h : gdV s v = true) : v.den = 1 ∧ 0 ≤ v.num ∧ v.num < mds s ∧ v.cells = [] ∧ v.rest = 0 := by
  obtain ⟨h1, h2, h3⟩ := (gdv_w (by omega)).1 h
  obtain ⟨_, h4⟩ := gdn_iff.1 h3
  have e : grt s = mds s - 1 := by unfold grt; rw [if_neg (by omega), if_neg (by omega)]
  rcases h4 with h4 | ⟨h5, h4 | h4⟩
  · omega
  · omega
  · rw [e] at h4
    exact ⟨h5, h4.1, by omega, h1, h2⟩
theorem word_gd {s n : Int} (hs : 11 ≤ s ∧ s ≤ 18) (h1 : 0 ≤ n) (h2 : n < mds s) : gdV s (whV n) = true := by
  have e : grt s = mds s - 1 := by unfold grt; rw [if_neg (by omega), if_neg (by omega)]
  have b : mds s ≤ 256 := by rcases mds_cases hs with ⟨_, h⟩ | ⟨_, h⟩ | ⟨_, h⟩ | ⟨_, h⟩ | ⟨_, h⟩ | ⟨_, h⟩ | ⟨_, h⟩ | ⟨_, h⟩ <;> omega
  exact (gdv_w (by omega)).2 ⟨rfl, rfl, gdn_iff.2 ⟨(show fvalid n 1 = true from fvalid_whole (by omega) (by omega)), .inr ⟨rfl, .inr ⟨h1, (show n ≤ grt s by rw [e]; omega)⟩⟩⟩⟩
theorem bool_gd (b : Bool) : gdV 1 (whV (if b then 1 else 0)) = true := by cases b <;> decide
theorem thing_gd {n : Int} (h : nTh n = false) : gdV 4 (whV n) = true := by
  have := nth_no.1 h
  exact (gdv_w (by decide)).2 ⟨rfl, rfl, gdn_iff.2 ⟨(show fvalid n 1 = true from fvalid_whole (by omega) (by omega)), .inr ⟨rfl, .inr ⟨this.1, by show n ≤ 1000; exact this.2⟩⟩⟩⟩
theorem gd_thing {v : Vl} (h : gdV 4 v = true) : nTh v.num = false := by
  obtain ⟨h1, h2, h3⟩ := (gdv_w (by decide)).1 h
  obtain ⟨_, h4⟩ := gdn_iff.1 h3
  rcases h4 with h4 | ⟨h5, h4 | h4⟩
  · omega
  · omega
  · exact nth_no.2 ⟨h4.1, h4.2⟩
theorem nat_rng {m : Int} {s : Int} (hs : 11 ≤ s ∧ s ≤ 18) (hm : m = mds s) : ∃ k : Nat, k ≤ 8 ∧ m = ((2 ^ k : Nat) : Int) := by
  subst hm
  rcases mds_cases hs with ⟨_, h⟩ | ⟨_, h⟩ | ⟨_, h⟩ | ⟨_, h⟩ | ⟨_, h⟩ | ⟨_, h⟩ | ⟨_, h⟩ | ⟨_, h⟩ <;> rw [h]
  · exact ⟨1, by omega, rfl⟩
  · exact ⟨2, by omega, rfl⟩
  · exact ⟨3, by omega, rfl⟩
  · exact ⟨4, by omega, rfl⟩
  · exact ⟨5, by omega, rfl⟩
  · exact ⟨6, by omega, rfl⟩
  · exact ⟨7, by omega, rfl⟩
  · exact ⟨8, by omega, rfl⟩
theorem bits_xor_nat (a b : Nat) (ha : a < 2 ^ 8) (hb : b < 2 ^ 8) : bits .xor .i64 a b = ((a ^^^ b : Nat) : Int) := by
  have ha' : a % 2 ^ IntKind.i64.bits = a := Nat.mod_eq_of_lt (Nat.lt_of_lt_of_le ha (by decide))
  have hb' : b % 2 ^ IntKind.i64.bits = b := Nat.mod_eq_of_lt (Nat.lt_of_lt_of_le hb (by decide))
  have hx : a ^^^ b < 2 ^ 8 := Nat.xor_lt_two_pow ha hb
  simp only [bits, BitVec.ofInt_natCast, BitVec.toNat_xor, BitVec.toNat_ofNat, ha', hb']
  rw [IntKind.wrap_i64]
  omega
theorem bits_rng {x y m s : Int} (hs : 11 ≤ s ∧ s ≤ 18) (hm : m = mds s) (x0 : 0 ≤ x) (x1 : x < m) (y0 : 0 ≤ y) (y1 : y < m) :
    (0 ≤ bits .and .i64 x y ∧ bits .and .i64 x y < m) ∧ (0 ≤ bits .or .i64 x y ∧ bits .or .i64 x y < m) ∧ (0 ≤ bits .xor .i64 x y ∧ bits .xor .i64 x y < m) := by
  obtain ⟨k, hk, rfl⟩ := nat_rng hs hm
  obtain ⟨a, rfl⟩ := Int.eq_ofNat_of_zero_le x0
  obtain ⟨b, rfl⟩ := Int.eq_ofNat_of_zero_le y0
  have ha : a < 2 ^ k := by exact_mod_cast x1
  have hb : b < 2 ^ k := by exact_mod_cast y1
  have h8 : 2 ^ k ≤ 2 ^ 8 := Nat.pow_le_pow_right (by decide) hk
  obtain ⟨e1, e2⟩ := bits_nat .i64 8 (by decide) (fun n h0 h1 => by rw [IntKind.wrap_i64]; omega) a b (by omega) (by omega)
  have e3 := bits_xor_nat a b (by omega) (by omega)
  rw [e1, e2, e3]
  have l1 := Nat.and_lt_two_pow a hb
  have l2 := Nat.or_lt_two_pow ha hb
  have l3 := Nat.xor_lt_two_pow ha hb
  refine ⟨⟨by omega, by exact_mod_cast l1⟩, ⟨by omega, by exact_mod_cast l2⟩, ⟨by omega, by exact_mod_cast l3⟩⟩
/-- A whole sum stays whole. -/
theorem made_one {x : Int} (hc : madeC x 1 = 0) : madeD x 1 = 1 ∧ madeN x 1 = x := by
  obtain ⟨h1, h2⟩ := made_spec (num := x) (den := 1) (by decide) hc
  obtain ⟨d1, d2, n1, n2, hg⟩ := fvalid_bd h1
  rw [Int.mul_one] at h2
  have e : mag (madeD x 1) ∣ mag (madeN x 1) := by
    rw [h2]
    unfold mag
    rw [Int.natAbs_mul]
    exact Nat.dvd_mul_left _ _
  have e2 : mag (madeD x 1) = 1 := by
    rw [Nat.gcd_comm, Nat.gcd_eq_left e] at hg
    exact hg
  have e3 : madeD x 1 = 1 := by unfold mag at e2; omega
  rw [e3, Int.mul_one] at h2
  exact ⟨e3, h2⟩
theorem den_ne {p q : Int × Int} (hp : fvalid p.1 p.2 = true) (hq : fvalid q.1 q.2 = true) : p.2 * q.2 ≠ 0 := by
  obtain ⟨a, _⟩ := fvalid_bd hp
  obtain ⟨b, _⟩ := fvalid_bd hq
  exact Int.mul_ne_zero (by omega) (by omega)
theorem sumL_good {fs : List (Int × Int)} : ∀ {p : Int × Int}, fvalid p.1 p.2 = true → (∀ q ∈ fs, fvalid q.1 q.2 = true) → (sumL p fs).2 = 0 → fvalid (sumL p fs).1.1 (sumL p fs).1.2 = true ∧ (p.2 = 1 → (∀ q ∈ fs, q.2 = 1) → (sumL p fs).1.2 = 1) := by
  induction fs with
  | nil => intro p hp _ _; exact ⟨hp, fun h _ => h⟩
  | cons q r ih =>
    intro p hp hq h0
    have hq1 := hq q (List.mem_cons_self ..)
    have hne := den_ne hp hq1
    rw [sumL] at h0 ⊢
    by_cases hc : madeC (p.1 * q.2 + q.1 * p.2) (p.2 * q.2) = 0
    · rw [if_pos hc] at h0 ⊢
      obtain ⟨a, b⟩ := ih (made_spec hne hc).1 (fun x hx => hq x (List.mem_cons_of_mem _ hx)) h0
      refine ⟨a, fun z1 z2 => b ?_ (fun x hx => z2 x (List.mem_cons_of_mem _ hx))⟩
      have := z2 q (List.mem_cons_self ..)
      dsimp only
      rw [z1, this, Int.mul_one] at hc ⊢
      exact (made_one hc).1
    · rw [if_neg hc] at h0
      exact absurd h0 (by decide)
/-- What is known of a node whose kids have their values. -/
structure Nk (op n d ds : Int) (ks : List Int) (kids : List Vl) : Prop where
  lo : 1 ≤ op
  hi : op ≤ 25
  len : kids.length = ks.length
  good : ∀ j, j < ks.length → gdV (nth ks j) (vn kids j) = true
  sort : srt op d ds ks ≠ 0
  kc : op ≠ 9 → kcN op ≠ -1 → (ks.length : Int) = kcN op
  fl : flC op n d true = 0 ∨ flC op n d false = 0
theorem fl_num {op n d : Int} {e : Bool} (h : flC op n d e = 0) (ho : op = 10 ∨ op = 12) : isFr n d = true := by
  unfold flC at h
  cases hf : isFr n d with
  | true => rfl
  | false =>
    rw [hf] at h
    split at h
    · exact absurd h (by decide)
    · split at h
      · exact absurd h (by decide)
      · split at h
        · exact absurd h (by decide)
        · rw [if_pos ⟨ho, rfl⟩] at h
          exact absurd h (by decide)
theorem fl_left {op n d : Int} {e : Bool} (h : flC op n d e = 0) (ho : op = 23) : 0 ≤ n ∧ n ≤ 8 := by
  subst ho
  unfold flC at h
  by_cases z : n < 0 ∨ 8 < n
  · split at h
    · exact absurd h (by decide)
    · split at h
      · exact absurd h (by decide)
      · split at h
        · exact absurd h (by decide)
        · split at h
          · exact absurd h (by decide)
          · split at h
            · exact absurd h (by decide)
            · rw [if_pos ⟨rfl, z⟩] at h
              exact absurd h (by decide)
  · omega
theorem Nk.num {op n d ds : Int} {ks : List Int} {kids : List Vl} (h : Nk op n d ds ks kids) (ho : op = 10 ∨ op = 12) : isFr n d = true := by
  rcases h.fl with z | z <;> exact fl_num z ho
theorem Nk.left {op n d ds : Int} {ks : List Int} {kids : List Vl} (h : Nk op n d ds ks kids) (ho : op = 23) : 0 ≤ n ∧ n ≤ 8 := by
  rcases h.fl with z | z <;> exact fl_left z ho
theorem Nk.word {op n d ds : Int} {ks : List Int} {kids : List Vl} (h : Nk op n d ds ks kids) (ho : op = 15) : 1 ≤ d ∧ d ≤ 8 ∧ 0 ≤ n ∧ n < 2 ^ d.toNat := by
  rcases h.fl with z | z <;> exact fl_word z ho
theorem isfr_val {n d : Int} (h : isFr n d = true) : fvalid n d = true := by
  have h' := h
  unfold isFr at h'
  rw [decide_eq_true_eq] at h'
  rw [isfr_valid h'.1 h'.2.1 h'.2.2.2.1]
  exact h
/-- The words of a word's node. -/
theorem Nk.words {op n d ds : Int} {ks : List Int} {kids : List Vl} (h : Nk op n d ds ks kids) (hs : sSw ks = true) : (11 ≤ nth ks 0 ∧ nth ks 0 ≤ 18) ∧ ∀ j, j < kids.length → (vn kids j).den = 1 ∧ 0 ≤ (vn kids j).num ∧ (vn kids j).num < mds (nth ks 0) := by
  obtain ⟨a, b⟩ := sw_all hs
  have a' := swd_iff.1 a
  refine ⟨a', fun j hj => ?_⟩
  rw [h.len] at hj
  have := gd_word (by rw [b j hj]; exact a') (h.good j hj)
  rw [b j hj] at this
  exact ⟨this.1, this.2.1, this.2.2.1⟩
/-- The fractions of a number's node. -/
theorem Nk.nums {op n d ds : Int} {ks : List Int} {kids : List Vl} (h : Nk op n d ds ks kids) (hs : ks.all sNu = true) (j : Nat) (hj : j < kids.length) : fvalid (vn kids j).num (vn kids j).den = true := by
  rw [h.len] at hj
  have a := snu_iff.1 (all_nth hs hj)
  exact gd_fr (by omega) (h.good j hj)
theorem gd_int {v : Vl} (h : gdV 2 v = true) : v.den = 1 := by
  obtain ⟨_, _, h3⟩ := (gdv_w (by decide)).1 h
  obtain ⟨_, h4⟩ := gdn_iff.1 h3
  rcases h4 with h4 | ⟨h5, _⟩
  · omega
  · exact h5
theorem num_gd {n d : Int} (h : fvalid n d = true) (s : Int) (hs : s = 3 ∨ (s = 2 ∧ d = 1)) : gdV s (frVl (n, d)) = true := by
  rcases hs with rfl | ⟨rfl, rfl⟩
  · exact (gdv_w (by decide)).2 ⟨rfl, rfl, gdn_iff.2 ⟨h, .inl rfl⟩⟩
  · exact (gdv_w (by decide)).2 ⟨rfl, rfl, gdn_iff.2 ⟨h, .inr ⟨rfl, .inl rfl⟩⟩⟩
theorem nums_sort (op d : Int) (ks : List Int) : numS op d ks = 3 ∨ (numS op d ks = 2 ∧ (op = 11 ∨ d = 1) ∧ ks.all sIn = true) := by
  unfold numS
  by_cases z : (op ≠ 11 ∧ d ≠ 1) ∨ ks.all sIn = false
  · exact .inl (if_pos z)
  · right
    rw [if_neg z]
    refine ⟨rfl, ?_, ?_⟩
    · omega
    · cases q : ks.all sIn with
      | true => rfl
      | false => exact absurd (.inr q) z
theorem op_cases6 {op : Int} (h1 : 1 ≤ op) (h2 : op ≤ 25) : (op = 1 ∨ op = 2 ∨ op = 3 ∨ op = 4 ∨ op = 5 ∨ op = 6 ∨ op = 8 ∨ op = 13 ∨ op = 14 ∨ op = 22) ∨ op = 7 ∨ op = 9 ∨ (op = 10 ∨ op = 11 ∨ op = 12) ∨ (op = 15 ∨ op = 16 ∨ op = 17 ∨ op = 18 ∨ op = 19 ∨ op = 20 ∨ op = 21 ∨ op = 23) ∨ op = 24 ∨ op = 25 := by omega
theorem evv_tru {op sort N D : Int} {m : Mg} {kids : List Vl} (h : op = 1 ∨ op = 2 ∨ op = 3 ∨ op = 4 ∨ op = 5 ∨ op = 6 ∨ op = 8 ∨ op = 13 ∨ op = 14 ∨ op = 22) (hs : sort = 1) : evV op sort N D m kids = (whV (if truF op (numsOf kids) then 1 else 0), 0) := by
  unfold evV evF
  rw [if_neg (by omega), if_neg (by omega), if_neg (by omega), if_neg (by omega), if_neg (by omega), if_pos hs]
theorem evv_num {op sort N D : Int} {m : Mg} {kids : List Vl} (h : op = 10 ∨ op = 11 ∨ op = 12) : evV op sort N D m kids = (frVl (numF op N D (numsOf kids)).1, (numF op N D (numsOf kids)).2) := by
  unfold evV evF
  rw [if_neg (by omega), if_neg (by omega), if_neg (by omega), if_neg (by omega), if_pos h]
theorem evv_wrd {op sort N D : Int} {m : Mg} {kids : List Vl} (h : op = 15 ∨ op = 16 ∨ op = 17 ∨ op = 18 ∨ op = 19 ∨ op = 20 ∨ op = 21 ∨ op = 23) (hs : sort ≠ 1) : evV op sort N D m kids = (whV (wrdF op N (mds sort) (numsOf kids)), 0) := by
  unfold evV evF
  rw [if_neg (by omega), if_neg (by omega), if_neg (by omega), if_neg (by omega), if_neg (by omega), if_neg hs]
theorem evv_7 {sort N D : Int} {m : Mg} {kids : List Vl} : evV 7 sort N D m kids = (frVl (pickF (numsOf kids)), 0) := rfl
theorem evv_9 {sort N D : Int} {m : Mg} {kids : List Vl} : evV 9 sort N D m kids = (tolF m (numsOf kids), 0) := rfl
theorem evv_24 {sort N D : Int} {m : Mg} {kids : List Vl} : evV 24 sort N D m kids = (whV (getF (vn kids 0) (vn kids 1).num), 0) := rfl
theorem evv_25 {sort N D : Int} {m : Mg} {kids : List Vl} : evV 25 sort N D m kids = (putF (vn kids 0) (vn kids 1).num (vn kids 2).num, 0) := rfl
/-- The sort of each operator's node. -/
theorem srt_tru {op d ds : Int} {ks : List Int} (h : op = 1 ∨ op = 2 ∨ op = 3 ∨ op = 4 ∨ op = 5 ∨ op = 6 ∨ op = 8 ∨ op = 13 ∨ op = 14 ∨ op = 22) (hs : srt op d ds ks ≠ 0) : srt op d ds ks = 1 ∧ (op = 13 ∨ op = 14 → ks.all sNu = true) ∧ (op = 22 → sSw ks = true) := by
  rcases h with rfl | rfl | rfl | rfl | rfl | rfl | rfl | rfl | rfl | rfl
  · exact ⟨(whn_ne hs).2, by omega, by omega⟩
  · exact ⟨(whn_ne hs).2, by omega, by omega⟩
  · exact ⟨(whn_ne hs).2, by omega, by omega⟩
  · exact ⟨(whn_ne hs).2, by omega, by omega⟩
  · exact ⟨(whn_ne hs).2, by omega, by omega⟩
  · exact ⟨(whn_ne hs).2, by omega, by omega⟩
  · exact ⟨(whn_ne hs).2, by omega, by omega⟩
  · exact ⟨(whn_ne hs).2, fun _ => (whn_ne hs).1, by omega⟩
  · exact ⟨(whn_ne hs).2, fun _ => (whn_ne hs).1, by omega⟩
  · exact ⟨(whn_ne hs).2, by omega, fun _ => (whn_ne hs).1⟩
theorem srt_wrd {op d ds : Int} {ks : List Int} (h : op = 16 ∨ op = 17 ∨ op = 18 ∨ op = 19 ∨ op = 20 ∨ op = 21 ∨ op = 23) (hs : srt op d ds ks ≠ 0) : srt op d ds ks = nth ks 0 ∧ sSw ks = true := by
  rcases h with rfl | rfl | rfl | rfl | rfl | rfl | rfl <;> exact ⟨(whn_ne hs).2, (whn_ne hs).1⟩
theorem srt_num {op d ds : Int} {ks : List Int} (h : op = 10 ∨ op = 11 ∨ op = 12) (hs : srt op d ds ks ≠ 0) : srt op d ds ks = numS op d ks ∧ ks.all sNu = true := by
  rcases h with rfl | rfl | rfl <;> exact ⟨(whn_ne hs).2, (whn_ne hs).1⟩
theorem srt_7 {d ds : Int} {ks : List Int} (hs : srt 7 d ds ks ≠ 0) : srt 7 d ds ks = nth ks 1 ∧ nth ks 2 = nth ks 1 ∧ nth ks 1 ≠ 5 := by
  have a := (whn_ne hs).1
  simp only [Bool.and_eq_true, beq_iff_eq, bne_iff_ne, ne_eq] at a
  exact ⟨(whn_ne hs).2, a.1.2.symm, a.2⟩
theorem srt_24 {d ds : Int} {ks : List Int} (hs : srt 24 d ds ks ≠ 0) : srt 24 d ds ks = 4 ∧ nth ks 0 = 5 ∧ nth ks 1 = 4 := by
  have a := (whn_ne hs).1
  unfold sTh at a
  simp only [Bool.and_eq_true, beq_iff_eq] at a
  exact ⟨(whn_ne hs).2, a.1, a.2⟩
theorem srt_25 {d ds : Int} {ks : List Int} (hs : srt 25 d ds ks ≠ 0) : srt 25 d ds ks = 5 ∧ nth ks 0 = 5 ∧ nth ks 1 = 4 ∧ nth ks 2 = 4 := by
  have a := (whn_ne hs).1
  unfold sTh at a
  simp only [Bool.and_eq_true, beq_iff_eq] at a
  exact ⟨(whn_ne hs).2, a.1, a.2.1, a.2.2⟩
theorem mds_big {s : Int} (hs : 11 ≤ s ∧ s ≤ 18) : 2 ≤ mds s ∧ mds s ≤ 256 := by
  rcases mds_cases hs with ⟨_, h⟩ | ⟨_, h⟩ | ⟨_, h⟩ | ⟨_, h⟩ | ⟨_, h⟩ | ⟨_, h⟩ | ⟨_, h⟩ | ⟨_, h⟩ <;> omega
theorem wrd_rng {op N m s : Int} {fs : List (Int × Int)} (h : op = 16 ∨ op = 17 ∨ op = 18 ∨ op = 19 ∨ op = 20 ∨ op = 21 ∨ op = 23) (hs : 11 ≤ s ∧ s ≤ 18) (hm : m = mds s) (x0 : 0 ≤ (cn fs 0).1) (x1 : (cn fs 0).1 < m) (hy : op ≠ 16 → op ≠ 23 → 0 ≤ (cn fs 1).1 ∧ (cn fs 1).1 < m) : 0 ≤ wrdF op N m fs ∧ wrdF op N m fs < m := by
  have hm2 := mds_big hs
  rw [← hm] at hm2
  rcases h with rfl | rfl | rfl | rfl | rfl | rfl | rfl
  · show 0 ≤ m - 1 - (cn fs 0).1 ∧ m - 1 - (cn fs 0).1 < m
    omega
  · obtain ⟨y0, y1⟩ := hy (by decide) (by decide)
    exact (bits_rng hs hm x0 x1 y0 y1).1
  · obtain ⟨y0, y1⟩ := hy (by decide) (by decide)
    exact (bits_rng hs hm x0 x1 y0 y1).2.1
  · obtain ⟨y0, y1⟩ := hy (by decide) (by decide)
    exact (bits_rng hs hm x0 x1 y0 y1).2.2
  · exact ⟨Int.emod_nonneg _ (by omega), Int.emod_lt_of_pos _ (by omega)⟩
  · exact ⟨Int.emod_nonneg _ (by omega), Int.emod_lt_of_pos _ (by omega)⟩
  · exact ⟨Int.emod_nonneg _ (by omega), Int.emod_lt_of_pos _ (by omega)⟩
/-- What a meaning tells is of its sort. -/
theorem tol_good {ds : Int} {m : Mg} {fs : List (Int × Int)} (h1 : gdV ds m.rest = true) (h2 : ∀ x ∈ m.rows, gdV ds x.too = true) : gdV ds (tolF m fs) = true := by
  unfold tolF
  split
  · rename_i x hx
    exact h2 x (List.mem_of_find?_eq_some hx)
  · exact h1
theorem evv_good {op n d ds : Int} {ks : List Int} {kids : List Vl} {m : Mg} (h : Nk op n d ds ks kids) (hm : op = 9 → gdV ds m.rest = true ∧ ∀ x ∈ m.rows, gdV ds x.too = true) (h0 : (evV op (srt op d ds ks) n d m kids).2 = 0) :
    gdV (srt op d ds ks) (evV op (srt op d ds ks) n d m kids).1 = true := by
  have hs := h.sort
  have hkc := h.kc
  have hlen := h.len
  rcases op_cases6 h.lo h.hi with ho | rfl | rfl | ho | ho | rfl | rfl
  · rw [evv_tru ho (srt_tru ho hs).1, (srt_tru ho hs).1]
    exact bool_gd _
  · obtain ⟨e1, e2, e3⟩ := srt_7 hs
    have hl : (ks.length : Int) = 3 := hkc (by decide) (by decide)
    rw [evv_7, e1]
    have g1 := h.good 1 (by omega)
    have g2 := h.good 2 (by omega)
    rw [e2] at g2
    obtain ⟨_, _, a⟩ := (gdv_w e3).1 g1
    obtain ⟨_, _, b⟩ := (gdv_w e3).1 g2
    unfold pickF
    rw [cn_nums, cn_nums, cn_nums]
    split
    · exact (gdv_w e3).2 ⟨rfl, rfl, a⟩
    · exact (gdv_w e3).2 ⟨rfl, rfl, b⟩
  · rw [evv_9]
    have e : srt 9 d ds ks = ds := (whn_ne hs).2
    rw [e]
    exact tol_good (hm rfl).1 (hm rfl).2
  · obtain ⟨e1, e2⟩ := srt_num ho hs
    rw [evv_num ho] at h0 ⊢
    rw [e1]
    dsimp only at h0 ⊢
    rcases ho with rfl | rfl | rfl
    · show gdV _ (frVl (n, d)) = true
      refine num_gd (isfr_val (h.num (.inl rfl))) _ ?_
      rcases nums_sort 10 d ks with z | ⟨z1, z2, _⟩
      · exact .inl z
      · exact .inr ⟨z1, by omega⟩
    · have e : numF 11 n d (numsOf kids) = sumL (0, 1) (numsOf kids) := rfl
      rw [e] at h0 ⊢
      obtain ⟨a, b⟩ := sumL_good (p := (0, 1)) (by decide) (fun q hq => by
        obtain ⟨j, hj, rfl⟩ := List.getElem_of_mem hq
        have hj2 := hj
        rw [numsOf_len] at hj2
        rw [← cn_of hj, cn_nums]
        exact h.nums e2 j hj2) h0
      refine num_gd a _ ?_
      rcases nums_sort 11 d ks with z | ⟨z1, _, z3⟩
      · exact .inl z
      · refine .inr ⟨z1, b rfl (fun q hq => ?_)⟩
        obtain ⟨j, hj, rfl⟩ := List.getElem_of_mem hq
        have hj2 := hj
        rw [numsOf_len, hlen] at hj2
        rw [← cn_of hj, cn_nums]
        have := all_nth z3 hj2
        unfold sIn at this
        rw [beq_iff_eq] at this
        have g := h.good j hj2
        rw [this] at g
        exact gd_int g
    · have hl : (ks.length : Int) = 1 := hkc (by decide) (by decide)
      have e : numF 12 n d (numsOf kids) = ((madeN ((cn (numsOf kids) 0).1 * n) ((cn (numsOf kids) 0).2 * d), madeD ((cn (numsOf kids) 0).1 * n) ((cn (numsOf kids) 0).2 * d)), madeC ((cn (numsOf kids) 0).1 * n) ((cn (numsOf kids) 0).2 * d)) := rfl
      rw [e] at h0 ⊢
      rw [cn_nums] at h0 ⊢
      dsimp only at h0 ⊢
      have v0 := h.nums e2 0 (by omega)
      have v1 := isfr_val (h.num (.inr rfl))
      have hne := den_ne (p := ((vn kids 0).num, (vn kids 0).den)) (q := (n, d)) v0 v1
      refine num_gd (made_spec hne h0).1 _ ?_
      rcases nums_sort 12 d ks with z | ⟨z1, z2, z3⟩
      · exact .inl z
      · refine .inr ⟨z1, ?_⟩
        have := all_nth (j := 0) z3 (by omega)
        unfold sIn at this
        rw [beq_iff_eq] at this
        have g := h.good 0 (by omega)
        rw [this] at g
        have dd : d = 1 := by omega
        rw [gd_int g, dd] at h0 ⊢
        exact (made_one h0).1
  · by_cases h15 : op = 15
    · subst h15
      obtain ⟨w1, w2, w3, w4⟩ := h.word rfl
      have e : srt 15 d ds ks = 10 + d := rfl
      rw [evv_wrd ho (by rw [e]; omega), e]
      refine word_gd (by omega) w3 ?_
      show n < mds (10 + d)
      unfold mds
      rw [show (10 + d - 10).toNat = d.toNat by omega]
      exact w4
    · have ho2 : op = 16 ∨ op = 17 ∨ op = 18 ∨ op = 19 ∨ op = 20 ∨ op = 21 ∨ op = 23 := by omega
      obtain ⟨e1, e2⟩ := srt_wrd ho2 hs
      obtain ⟨w1, w2⟩ := h.words e2
      rw [evv_wrd ho (by rw [e1]; omega), e1]
      have k1 : 1 ≤ kids.length := by
        have := hkc (by omega) (by rcases ho2 with rfl | rfl | rfl | rfl | rfl | rfl | rfl <;> decide)
        rcases ho2 with rfl | rfl | rfl | rfl | rfl | rfl | rfl <;> (simp [kcN] at this; omega)
      have k2 : op ≠ 16 → op ≠ 23 → 2 ≤ kids.length := fun z1 z2 => by
        have := hkc (by omega) (by rcases ho2 with rfl | rfl | rfl | rfl | rfl | rfl | rfl <;> decide)
        rcases ho2 with rfl | rfl | rfl | rfl | rfl | rfl | rfl
        · exact absurd rfl z1
        · simp [kcN] at this; omega
        · simp [kcN] at this; omega
        · simp [kcN] at this; omega
        · simp [kcN] at this; omega
        · simp [kcN] at this; omega
        · exact absurd rfl z2
      have g0 := w2 0 k1
      obtain ⟨a, b⟩ := wrd_rng (N := n) (fs := numsOf kids) ho2 w1 rfl (by rw [cn_nums]; exact g0.2.1) (by rw [cn_nums]; exact g0.2.2) (fun z1 z2 => by
        have := w2 1 (k2 z1 z2)
        rw [cn_nums]
        exact this.2)
      exact word_gd w1 a b
  · obtain ⟨e1, e2, e3⟩ := srt_24 hs
    have hl : (ks.length : Int) = 2 := hkc (by decide) (by decide)
    rw [evv_24, e1]
    have g0 := h.good 0 (by omega)
    rw [e2] at g0
    exact thing_gd (get_good g0)
  · obtain ⟨e1, e2, e3, e4⟩ := srt_25 hs
    have hl : (ks.length : Int) = 3 := hkc (by decide) (by decide)
    rw [evv_25, e1]
    have g0 := h.good 0 (by omega)
    have g1 := h.good 1 (by omega)
    have g2 := h.good 2 (by omega)
    rw [e2] at g0
    rw [e3] at g1
    rw [e4] at g2
    exact put_good g0 (gd_thing g1) (gd_thing g2)
end Go.Proofs.Ytibpgcdaommjeaa
namespace Go.Proofs.Ytibpgcdaommjeaa
open Go.RowKit

theorem srtL_nth {qs : List Dc} {ns : List Nd} : ∀ {n i : Nat}, i < n → nth (srtL qs ns n) i = ndS qs (nn ns i) i (srtL qs ns i) := by
  intro n
  induction n with
  | zero => intro i h; omega
  | succ n ih =>
    intro i h
    rw [srtL]
    rcases Nat.lt_or_ge i n with z | z
    · rw [nth_app_lt (by rw [srtL_len]; exact z)]
      exact ih z
    · obtain rfl : i = n := by omega
      rw [nth_app_eq (by rw [srtL_len])]
theorem srtL_pre {qs : List Dc} {ns : List Nd} {n i j : Nat} (h : j < i) (hi : i ≤ n) : nth (srtL qs ns i) j = nth (srtL qs ns n) j := by
  rw [srtL_nth h, srtL_nth (by omega)]
/-- Nothing is wrong with a node. -/
theorem ndc_zero {qs : List Dc} {q : Nd} {i : Nat} {ss : List Int} (h : ndC qs q i ss = 0) :
    (1 ≤ q.op ∧ q.op ≤ 25) ∧ (q.op = 9 → 0 ≤ fdZ qs q.name) ∧ q.kids.length ≤ 8 ∧ (kWant qs q = -1 ∨ (q.kids.length : Int) = kWant qs q) ∧ (∀ k ∈ q.kids, 0 ≤ k ∧ k < i) ∧ flC q.op q.n q.d q.name.toList.isEmpty = 0 ∧ ndT qs q ss ≠ 0 := by
  unfold ndC at h
  split at h
  · exact absurd h (by decide)
  rename_i h1
  split at h
  · exact absurd h (by decide)
  rename_i h2
  split at h
  · exact absurd h (by decide)
  rename_i h3
  split at h
  · exact absurd h (by decide)
  rename_i h4
  split at h
  · rename_i h5
    exact absurd h h5
  rename_i h5
  split at h
  · exact absurd h (by decide)
  rename_i h6
  refine ⟨by omega, fun e => ?_, by omega, ?_, fun k hk => ?_, ?_, h6⟩
  · rcases Int.lt_or_le (fdZ qs q.name) 0 with z | z
    · exact absurd ⟨e, z⟩ h2
    · exact z
  · by_cases z : kWant qs q = -1
    · exact .inl z
    · right
      rcases Int.lt_trichotomy (q.kids.length : Int) (kWant qs q) with y | y | y
      · exact absurd (.inr ⟨z, by omega⟩) h3
      · exact y
      · exact absurd (.inr ⟨z, by omega⟩) h3
  · unfold kIn at h4
    have : (q.kids.all fun z => decide (0 ≤ z) && decide (z < (i : Int))) = true := by
      cases z : (q.kids.all fun z => decide (0 ≤ z) && decide (z < (i : Int))) with
      | true => rfl
      | false => exact absurd z h4
    rw [List.all_eq_true] at this
    have := this k hk
    simpa using this
  · rcases Int.lt_trichotomy (flC q.op q.n q.d q.name.toList.isEmpty) 0 with y | y | y
    · exact absurd (by omega) h5
    · exact y
    · exact absurd (by omega) h5
theorem mgc_zero {dl : Nat} {so : Int} {m : Mg} (h : mgC dl so m = 0) : m.rows.length ≤ 1000 ∧ (∀ e ∈ m.rows, e.args.length = dl) ∧ (∀ e ∈ m.rows, ∀ z ∈ e.args, nTh z = false) ∧ gdV so m.rest = true ∧ ∀ e ∈ m.rows, gdV so e.too = true := by
  unfold mgC at h
  split at h
  · exact absurd h (by decide)
  rename_i h1
  split at h
  · exact absurd h (by decide)
  rename_i h2
  split at h
  · exact absurd h (by decide)
  split at h
  · exact absurd h (by decide)
  rename_i h3
  have n1 : ¬ 1000 < m.rows.length := fun z => h1 (.inl z)
  have n2 : ¬ (m.rows.any fun e => !decide (e.args.length = dl)) = true := fun z => h1 (.inr z)
  have n3 : ¬ gdV so m.rest = false := fun z => h3 (.inl z)
  have n4 : ¬ (m.rows.any fun e => !gdV so e.too) = true := fun z => h3 (.inr z)
  rw [Bool.not_eq_true, List.any_eq_false] at h2 n2 n4
  refine ⟨by omega, fun e he => ?_, fun e he z hz => ?_, ?_, fun e he => ?_⟩
  · simpa using n2 e he
  · have := h2 e he
    rw [Bool.not_eq_true, List.any_eq_false] at this
    simpa using this z hz
  · simpa using n3
  · simpa using n4 e he
theorem mec_zero {qs : List Dc} {ns : List Nd} {hs : List Int} {ms : List Mg} (h : meC qs ns hs ms = 0) : akC qs ns hs = 0 ∧ meA qs ns hs ms = 0 ∧ ms.length = qs.length ∧ ∀ i, i < qs.length → mcF qs ms i = 0 := by
  unfold meC at h
  unfold meA
  split at h
  · rename_i h1
    rw [if_pos h1]
    split at h
    · rename_i h2
      rw [if_pos h2]
      obtain ⟨a, _, b⟩ := fs_a0 h
      exact ⟨h1, a, h2, b⟩
    · exact absurd h (by decide)
  · rename_i h1
    exact absurd h h1
/-- The value of a node, and its fault, by the values ahead of it. -/
def evOf (qs : List Dc) (ns : List Nd) (ms : List Mg) (i : Nat) (vs : List Vl) : Vl × Int :=
  evV (nn ns i).op (nth (srtL qs ns ns.length) i) (nn ns i).n (nn ns i).d (mn ms (fdI qs (nn ns i).name)) (kidsV ns i vs)
/-- What is known of a node of a good ask in a good world. -/
structure NdK (qs : List Dc) (ns : List Nd) (ms : List Mg) (i : Nat) : Prop where
  c : ndC qs (nn ns i) i (srtL qs ns i) = 0
  s : nth (srtL qs ns ns.length) i = ndT qs (nn ns i) (srtL qs ns i)
  m : (nn ns i).op = 9 → ∃ k : Nat, fdZ qs (nn ns i).name = (k : Int) ∧ fdI qs (nn ns i).name = k ∧ k < qs.length ∧ k < ms.length ∧ kDs qs (nn ns i) = (dn qs k).sort ∧ mgC (dn qs k).args.length (dn qs k).sort (mn ms k) = 0
theorem nd_known {qs : List Dc} {ns : List Nd} {hs : List Int} {ms : List Mg} (h : meC qs ns hs ms = 0) : ns.length ≤ 200 ∧ ∀ i, i < ns.length → NdK qs ns ms i := by
  obtain ⟨h1, _, h2, h3⟩ := mec_zero h
  obtain ⟨_, _, ⟨h4, h5⟩, _⟩ := ak_a0 h1
  refine ⟨h4, fun i hi => ?_⟩
  have hc : ndC qs (nn ns i) i (srtL qs ns i) = 0 := h5 i hi
  refine ⟨hc, ?_, fun ho => ?_⟩
  · rw [srtL_nth hi]
    unfold ndS
    rw [if_pos hc]
  · have hz := (ndc_zero hc).2.1 ho
    have e : fdZ qs (nn ns i).name = (fdI qs (nn ns i).name : Int) ∧ fdI qs (nn ns i).name < qs.length := by
      unfold fdZ at hz ⊢
      split at hz
      · rename_i z
        rw [if_pos z]
        exact ⟨rfl, z⟩
      · omega
    refine ⟨_, e.1, rfl, e.2, by omega, ?_, ?_⟩
    · unfold kDs
      rw [if_pos ho]
    · exact h3 _ e.2
theorem kids_len (ns : List Nd) (i : Nat) (vs : List Vl) : (kidsV ns i vs).length = (nn ns i).kids.length := by simp [kidsV]
theorem kids_at {ns : List Nd} {i j : Nat} {vs : List Vl} (h : j < (nn ns i).kids.length) : vn (kidsV ns i vs) j = vn vs (nth (nn ns i).kids j).toNat := by
  unfold kidsV
  rw [show vn ((nn ns i).kids.map fun k => vn vs k.toNat) j = ((nn ns i).kids.map fun k => vn vs k.toNat).getD j default from rfl, List.getD_eq_getElem?_getD, List.getElem?_map, List.getElem?_eq_getElem h, nth_of h]
  rfl
theorem kSo_len (ss ks : List Int) : (kSo ss ks).length = ks.length := by simp [kSo]
theorem kSo_at {ss ks : List Int} {j : Nat} (h : j < ks.length) : nth (kSo ss ks) j = nth ss (nth ks j).toNat := by
  unfold kSo
  rw [show nth (ks.map fun z => nth ss z.toNat) j = (ks.map fun z => nth ss z.toNat).getD j 0 from rfl, List.getD_eq_getElem?_getD, List.getElem?_map, List.getElem?_eq_getElem h, nth_of h]
  rfl
theorem nd_nk {qs : List Dc} {ns : List Nd} {ms : List Mg} {i : Nat} {vs : List Vl} (h : NdK qs ns ms i) (hi : i < ns.length) (hv : ∀ j, j < i → gdV (nth (srtL qs ns ns.length) j) (vn vs j) = true) :
    Nk (nn ns i).op (nn ns i).n (nn ns i).d (kDs qs (nn ns i)) (kSo (srtL qs ns i) (nn ns i).kids) (kidsV ns i vs) := by
  obtain ⟨h1, h2, h3, h4, h5, h6, h7⟩ := ndc_zero h.c
  refine ⟨h1.1, h1.2, by rw [kids_len, kSo_len], fun j hj => ?_, h7, fun o1 o2 => ?_, ?_⟩
  · rw [kSo_len] at hj
    have b := h5 _ (List.getElem_mem hj)
    rw [← nth_of hj] at b
    rw [kSo_at hj, kids_at hj, srtL_pre (n := ns.length) (by omega) (by omega)]
    exact hv _ (by omega)
  · rw [kSo_len]
    unfold kWant at h4
    rw [if_neg o1] at h4
    rcases h4 with z | z
    · exact absurd z o2
    · exact z
  · cases z : (nn ns i).name.toList.isEmpty with
    | true => exact .inl (by rw [z] at h6; exact h6)
    | false => exact .inr (by rw [z] at h6; exact h6)
theorem nd_good {qs : List Dc} {ns : List Nd} {ms : List Mg} {i : Nat} {vs : List Vl} (h : NdK qs ns ms i) (hi : i < ns.length) (hv : ∀ j, j < i → gdV (nth (srtL qs ns ns.length) j) (vn vs j) = true) (h0 : (evOf qs ns ms i vs).2 = 0) :
    gdV (nth (srtL qs ns ns.length) i) (evOf qs ns ms i vs).1 = true := by
  unfold evOf at h0 ⊢
  rw [h.s] at h0 ⊢
  refine evv_good (nd_nk h hi hv) (fun ho => ?_) h0
  obtain ⟨k, _, k2, k3, k4, k5, k6⟩ := h.m ho
  rw [k2, k5]
  obtain ⟨_, _, _, a, b⟩ := mgc_zero k6
  exact ⟨a, b⟩
/-- Each value is of its sort. -/
theorem vals_good {qs : List Dc} {ns : List Nd} {ms : List Mg} (h : ∀ i, i < ns.length → NdK qs ns ms i) : ∀ {k : Nat} {vs : List Vl}, k ≤ ns.length → valsE (evOf qs ns ms) k = .ok vs → ∀ j, j < k → gdV (nth (srtL qs ns ns.length) j) (vn vs j) = true := by
  intro k
  induction k with
  | zero => intro vs _ _ j hj; omega
  | succ k ih =>
    intro vs hk hv j hj
    rw [valsE_succ] at hv
    cases hp : valsE (evOf qs ns ms) k with
    | error e => rw [hp] at hv; cases hv
    | ok us =>
      rw [hp] at hv
      dsimp only at hv
      split at hv
      · rename_i h0
        injection hv with hv
        subst hv
        have hl := valsE_len hp
        rcases Nat.lt_or_ge j k with z | z
        · have : vn (us ++ [(evOf qs ns ms k us).1]) j = vn us j := by
            unfold vn
            rw [List.getD_eq_getElem?_getD, List.getD_eq_getElem?_getD, List.getElem?_append_left (by omega)]
          rw [this]
          exact ih (by omega) hp j z
        · obtain rfl : j = k := by omega
          have : vn (us ++ [(evOf qs ns ms j us).1]) j = (evOf qs ns ms j us).1 := by
            unfold vn
            rw [List.getD_eq_getElem?_getD, List.getElem?_append_right (by omega), hl]
            simp
          rw [this]
          exact nd_good (h j (by omega)) (by omega) (ih (by omega) hp) h0
      · cases hv
end Go.Proofs.Ytibpgcdaommjeaa
