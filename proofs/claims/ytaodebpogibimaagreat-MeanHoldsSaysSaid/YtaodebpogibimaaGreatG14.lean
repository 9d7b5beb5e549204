/-
  Values of nodes: the nodes of a good ask in a good world.
  The reference's value of a node: all operations.
-/
import Derived.Test.YtaodebpogibimaaGreatMeaZ
import Derived.Test.YtaodebpogibimaaGreatG11
import Derived.Test.YtaodebpogibimaaGreatG09
import Derived.Test.YtaodebpogibimaaGreatRefM
import Derived.Test.YtaodebpogibimaaGreatRefN
import Derived.Test.YtaodebpogibimaaGreatRefO2
import Derived.Test.YtaodebpogibimaaGreatRefO3
import Derived.Test.YtaodebpogibimaaGreatRefE
import Derived.Test.YtaodebpogibimaaGreatRefR
import Derived.Test.YtaodebpogibimaaGreatRefS
import Derived.Test.YtaodebpogibimaaGreatRefT
import Derived.Test.YtaodebpogibimaaGreatRefV
namespace Go.Proofs.YtaodebpogibimaaGreat
open Go.RowKit

theorem srtL_nth {qs : List Dc} {ns : List Nd} : ∀ {n i : Nat}, i < n → nth (srtL qs ns n) i = ndS qs (nn ns i) i (srtL qs ns i) := by
  intro n
  induction n with
  | zero => intro i h; omega
  | succ n ih =>
    intro i h
    rw [srtL]
    rcases Nat.lt_or_ge i n with z | z
    · rw [nth_app_lt (by rw [srtL_len]; exact z)]
      exact ih z
    · obtain rfl : i = n := by omega
      rw [nth_app_eq (by rw [srtL_len])]
theorem srtL_pre {qs : List Dc} {ns : List Nd} {n i j : Nat} (h : j < i) (hi : i ≤ n) : nth (srtL qs ns i) j = nth (srtL qs ns n) j := by
  rw [srtL_nth h, srtL_nth (by omega)]
/-- Nothing is wrong with a node. -/
theorem ndc_zero {qs : List Dc} {q : Nd} {i : Nat} {ss : List Int} (h : ndC qs q i ss = 0) :
    (1 ≤ q.op ∧ q.op ≤ 25) ∧ (q.op = 9 → 0 ≤ fdZ qs q.name) ∧ q.kids.length ≤ 8 ∧ (kWant qs q = -1 ∨ (q.kids.length : Int) = kWant qs q) ∧ (∀ k ∈ q.kids, 0 ≤ k ∧ k < i) ∧ flC q.op q.n q.d q.name.toList.isEmpty = 0 ∧ ndT qs q ss ≠ 0 := by
  unfold ndC at h
  split at h
  · exact absurd h (by decide)
  rename_i h1
  split at h
  · exact absurd h (by decide)
  rename_i h2
  split at h
  · exact absurd h (by decide)
  rename_i h3
  split at h
  · exact absurd h (by decide)
  rename_i h4
  split at h
  · rename_i h5
    exact absurd h h5
  rename_i h5
  split at h
  · exact absurd h (by decide)
  rename_i h6
  refine ⟨by omega, fun e => ?_, by omega, ?_, fun k hk => ?_, ?_, h6⟩
  · rcases Int.lt_or_le (fdZ qs q.name) 0 with z | z
    · exact absurd ⟨e, z⟩ h2
    · exact z
  · by_cases z : kWant qs q = -1
    · exact .inl z
    · right
      rcases Int.lt_trichotomy (q.kids.length : Int) (kWant qs q) with y | y | y
      · exact absurd (.inr ⟨z, by omega⟩) h3
      · exact y
      · exact absurd (.inr ⟨z, by omega⟩) h3
  · unfold kIn at h4
    have : (q.kids.all fun z => decide (0 ≤ z) && decide (z < (i : Int))) = true := by
      cases z : (q.kids.all fun z => decide (0 ≤ z) && decide (z < (i : Int))) with
      | true => rfl
      | false => exact absurd z h4
    rw [List.all_eq_true] at this
    have := this k hk
    simpa using this
  · rcases Int.lt_trichotomy (flC q.op q.n q.d q.name.toList.isEmpty) 0 with y | y | y
    · exact absurd (by omega) h5
    · exact y
    · exact absurd (by omega) h5
theorem mgc_zero {dl : Nat} {so : Int} {m : Mg} (h : mgC dl so m = 0) : m.rows.length ≤ 1000 ∧ (∀ e ∈ m.rows, e.args.length = dl) ∧ (∀ e ∈ m.rows, ∀ z ∈ e.args, nTh z = false) ∧ gdV so m.rest = true ∧ ∀ e ∈ m.rows, gdV so e.too = true := by
  unfold mgC at h
  split at h
  · exact absurd h (by decide)
  rename_i h1
  split at h
  · exact absurd h (by decide)
  rename_i h2
  split at h
  · exact absurd h (by decide)
  split at h
  · exact absurd h (by decide)
  rename_i h3
  have n1 : ¬ 1000 < m.rows.length := fun z => h1 (.inl z)
  have n2 : ¬ (m.rows.any fun e => !decide (e.args.length = dl)) = true := fun z => h1 (.inr z)
  have n3 : ¬ gdV so m.rest = false := fun z => h3 (.inl z)
  have n4 : ¬ (m.rows.any fun e => !gdV so e.too) = true := fun z => h3 (.inr z)
  rw [Bool.not_eq_true, List.any_eq_false] at h2 n2 n4
  refine ⟨by omega, fun e he => ?_, fun e he z hz => ?_, ?_, fun e he => ?_⟩
  · simpa using n2 e he
  · have := h2 e he
    rw [Bool.not_eq_true, List.any_eq_false] at this
    simpa using this z hz
  · simpa using n3
  · simpa using n4 e he
theorem mec_zero {qs : List Dc} {ns : List Nd} {hs : List Int} {ms : List Mg} (h : meC qs ns hs ms = 0) : akC qs ns hs = 0 ∧ meA qs ns hs ms = 0 ∧ ms.length = qs.length ∧ ∀ i, i < qs.length → mcF qs ms i = 0 := by
  unfold meC at h
  unfold meA
  split at h
  · rename_i h1
    rw [if_pos h1]
    split at h
    · rename_i h2
      rw [if_pos h2]
      obtain ⟨a, _, b⟩ := fs_a0 h
      exact ⟨h1, a, h2, b⟩
    · exact absurd h (by decide)
  · rename_i h1
    exact absurd h h1
/-- The value of a node, and its fault, by the values ahead of it. -/
def evOf (qs : List Dc) (ns : List Nd) (ms : List Mg) (i : Nat) (vs : List Vl) : Vl × Int :=
  evV (nn ns i).op (nth (srtL qs ns ns.length) i) (nn ns i).n (nn ns i).d (mn ms (fdI qs (nn ns i).name)) (kidsV ns i vs)
/-- What is known of a node of a good ask in a good world. -/
structure NdK (qs : List Dc) (ns : List Nd) (ms : List Mg) (i : Nat) : Prop where
  c : ndC qs (nn ns i) i (srtL qs ns i) = 0
  s : nth (srtL qs ns ns.length) i = ndT qs (nn ns i) (srtL qs ns i)
  m : (nn ns i).op = 9 → ∃ k : Nat, fdZ qs (nn ns i).name = (k : Int) ∧ fdI qs (nn ns i).name = k ∧ k < qs.length ∧ k < ms.length ∧ kDs qs (nn ns i) = (dn qs k).sort ∧ mgC (dn qs k).args.length (dn qs k).sort (mn ms k) = 0
theorem nd_known {qs : List Dc} {ns : List Nd} {hs : List Int} {ms : List Mg} (h : meC qs ns hs ms = 0) : ns.length ≤ 200 ∧ ∀ i, i < ns.length → NdK qs ns ms i := by
  obtain ⟨h1, _, h2, h3⟩ := mec_zero h
  obtain ⟨_, _, ⟨h4, h5⟩, _⟩ := ak_a0 h1
  refine ⟨h4, fun i hi => ?_⟩
  have hc : ndC qs (nn ns i) i (srtL qs ns i) = 0 := h5 i hi
  refine ⟨hc, ?_, fun ho => ?_⟩
  · rw [srtL_nth hi]
    unfold ndS
    rw [if_pos hc]
  · have hz := (ndc_zero hc).2.1 ho
    have e : fdZ qs (nn ns i).name = (fdI qs (nn ns i).name : Int) ∧ fdI qs (nn ns i).name < qs.length := by
      unfold fdZ at hz ⊢
      split at hz
      · rename_i z
        rw [if_pos z]
        exact ⟨rfl, z⟩
      · omega
    refine ⟨_, e.1, rfl, e.2, by omega, ?_, ?_⟩
    · unfold kDs
      rw [if_pos ho]
    · exact h3 _ e.2
theorem kids_len (ns : List Nd) (i : Nat) (vs : List Vl) : (kidsV ns i vs).length = (nn ns i).kids.length := by simp [kidsV]
theorem kids_at {ns : List Nd} {i j : Nat} {vs : List Vl} (h : j < (nn ns i).kids.length) : vn (kidsV ns i vs) j = vn vs (nth (nn ns i).kids j).toNat := by
  unfold kidsV
  rw [show vn ((nn ns i).kids.map fun k => vn vs k.toNat) j = ((nn ns i).kids.map fun k => vn vs k.toNat).getD j default from rfl, List.getD_eq_getElem?_getD, List.getElem?_map, List.getElem?_eq_getElem h, nth_of h]
  rfl
theorem kSo_len (ss ks : List Int) : (kSo ss ks).length = ks.length := by simp [kSo]
theorem kSo_at {ss ks : List Int} {j : Nat} (h : j < ks.length) : nth (kSo ss ks) j = nth ss (nth ks j).toNat := by
  unfold kSo
  rw [show nth (ks.map fun z => nth ss z.toNat) j = (ks.map fun z => nth ss z.toNat).getD j 0 from rfl, List.getD_eq_getElem?_getD, List.getElem?_map, List.getElem?_eq_getElem h, nth_of h]
  rfl
theorem nd_nk {qs : List Dc} {ns : List Nd} {ms : List Mg} {i : Nat} {vs : List Vl} (h : NdK qs ns ms i) (hi : i < ns.length) (hv : ∀ j, j < i → gdV (nth (srtL qs ns ns.length) j) (vn vs j) = true) :
    Nk (nn ns i).op (nn ns i).n (nn ns i).d (kDs qs (nn ns i)) (kSo (srtL qs ns i) (nn ns i).kids) (kidsV ns i vs) := by
  obtain ⟨h1, h2, h3, h4, h5, h6, h7⟩ := ndc_zero h.c
  refine ⟨h1.1, h1.2, by rw [kids_len, kSo_len], fun j hj => ?_, h7, fun o1 o2 => ?_, ?_⟩
  · rw [kSo_len] at hj
    have b := h5 _ (List.getElem_mem hj)
    rw [← nth_of hj] at b
    rw [kSo_at hj, kids_at hj, srtL_pre (n := ns.length) (by omega) (by omega)]
    exact hv _ (by omega)
  · rw [kSo_len]
    unfold kWant at h4
    rw [if_neg o1] at h4
    rcases h4 with z | z
    · exact absurd z o2
    · exact z
  · cases z : (nn ns i).name.toList.isEmpty with
    | true => exact .inl (by rw [z] at h6; exact h6)
    | false => exact .inr (by rw [z] at h6; exact h6)
theorem nd_good {qs : List Dc} {ns : List Nd} {ms : List Mg} {i : Nat} {vs : List Vl} (h : NdK qs ns ms i) (hi : i < ns.length) (hv : ∀ j, j < i → gdV (nth (srtL qs ns ns.length) j) (vn vs j) = true) (h0 : (evOf qs ns ms i vs).2 = 0) :
    gdV (nth (srtL qs ns ns.length) i) (evOf qs ns ms i vs).1 = true := by
  unfold evOf at h0 ⊢
  rw [h.s] at h0 ⊢
  refine evv_good (nd_nk h hi hv) (fun ho => ?_) h0
  obtain ⟨k, _, k2, k3, k4, k5, k6⟩ := h.m ho
  rw [k2, k5]
  obtain ⟨_, _, _, a, b⟩ := mgc_zero k6
  exact ⟨a, b⟩
/-- Each value is of its sort. -/
theorem vals_good {qs : List Dc} {ns : List Nd} {ms : List Mg} (h : ∀ i, i < ns.length → NdK qs ns ms i) : ∀ {k : Nat} {vs : List Vl}, k ≤ ns.length → valsE (evOf qs ns ms) k = .ok vs → ∀ j, j < k → gdV (nth (srtL qs ns ns.length) j) (vn vs j) = true := by
  intro k
  induction k with
  | zero => intro vs _ _ j hj; omega
  | succ k ih =>
    intro vs hk hv j hj
    rw [valsE_succ] at hv
    cases hp : valsE (evOf qs ns ms) k with
    | error e => rw [hp] at hv; cases hv
    | ok us =>
      rw [hp] at hv
      dsimp only at hv
      split at hv
      · rename_i h0
        injection hv with hv
        subst hv
        have hl := valsE_len hp
        rcases Nat.lt_or_ge j k with z | z
        · have : vn (us ++ [(evOf qs ns ms k us).1]) j = vn us j := by
            unfold vn
            rw [List.getD_eq_getElem?_getD, List.getD_eq_getElem?_getD, List.getElem?_append_left (by omega)]
          rw [this]
          exact ih (by omega) hp j z
        · obtain rfl : j = k := by omega
          have : vn (us ++ [(evOf qs ns ms j us).1]) j = (evOf qs ns ms j us).1 := by
            unfold vn
            rw [List.getD_eq_getElem?_getD, List.getElem?_append_right (by omega), hl]
            simp
          rw [this]
          exact nd_good (h j (by omega)) (by omega) (ih (by omega) hp) h0
      · cases hv
end Go.Proofs.YtaodebpogibimaaGreat
namespace Go.Proofs.YtaodebpogibimaaGreat
open Go.RowKit

/-- Where the cells of a value lie: in memory that was there at first, or in a row of the call's own. -/
def ClsK (C : Nat) (w : World) (A : Option Addr) (c : Nat) (cs : List (Int × Int)) : Prop := 0 < cs.length → (CsAt w A cs ∧ ∃ b o, A = some ⟨b, o, none⟩ ∧ b < C) ∨ w.ownsRow C 96 2 (.slice A cs.length c) cs.length (csV cs)
theorem cls_at {C : Nat} {w : World} {A : Option Addr} {c : Nat} {cs : List (Int × Int)} (h : ClsK C w A c cs) : CsAt w A cs := fun z => by
  rcases h z with y | y
  · exact y.1 z
  · exact own_cs y rfl z
/-- What valueOf yields: a value, or none. -/
def VoQ (C : Nat) (q : Vl) (f : Int) (w : World) (e : Ending) (w' : World) : Prop := ∃ (p : Vl) (A : Option Addr) (c : Nat), e = .returned (.tuple #[.agg #[.int .i64 p.num, .int .i64 p.den, .slice A p.cells.length c, .int .i64 p.rest], .bool (f == 0)]) ∧ p.cells.length ≤ c ∧ c ≤ maxLen ∧ ClsK C w' A c p.cells ∧ (f = 0 → p = q) ∧ Below w.heap.size w w'
theorem voq_nil {C : Nat} {q : Vl} {w w' : World} {e : Ending} (h : RvQ q w e w') (hn : q.cells = []) : VoQ C q 0 w e w' := by
  obtain ⟨A, c, h1, h2, h3, h4, h5⟩ := h
  exact ⟨q, A, c, h1, h2, h3, fun z => by rw [hn] at z; exact absurd z (by simp), fun _ => rfl, h5⟩
theorem voq_own {C : Nat} {q : Vl} {w w' : World} {e : Ending} (h : RvK (fun w' A c => w'.ownsRow w.heap.size 96 2 (.slice A q.cells.length c) q.cells.length (csV q.cells)) q w e w') (hC : C ≤ w.heap.size) : VoQ C q 0 w e w' := by
  obtain ⟨A, c, h1, h2, h3, h4, h5⟩ := h
  exact ⟨q, A, c, h1, h2, h3, fun _ => .inr (own_base h4 hC), fun _ => rfl, h5⟩
theorem voq_arg {w0 : World} {q : Vl} {w w' : World} {e : Ending} (h : RvK (fun _ A _ => CsAt w0 A q.cells) q w e w') (hB : Below w0.heap.size w0 w) : VoQ w0.heap.size q 0 w e w' := by
  obtain ⟨A, c, h1, h2, h3, h4, h5⟩ := h
  exact ⟨q, A, c, h1, h2, h3, fun z => by
    obtain ⟨b, o, e, l, _⟩ := h4 z
    exact .inl ⟨h4.below (below_after hB h5), b, o, e, l⟩, fun _ => rfl, h5⟩
theorem voq_fr {C : Nat} {n d : Int} {f : Int} {w w' : World} {e : Ending} (h : e = .returned (.tuple #[.agg #[.int .i64 n, .int .i64 d, .slice none 0 0, .int .i64 0], .bool (f == 0)]) ∧ Below w.heap.size w w') : VoQ C (frVl (n, d)) f w e w' :=
  ⟨frVl (n, d), none, 0, h.1, Nat.le_refl _, Nat.zero_le _, fun z => absurd z (by simp [frVl]), fun _ => rfl, h.2⟩
theorem voq_wh {C : Nat} {n : Int} {w w' : World} {e : Ending} (h : e = .returned (.tuple #[.agg #[.int .i64 n, .int .i64 1, .slice none 0 0, .int .i64 0], .bool true]) ∧ Below w.heap.size w w') : VoQ C (whV n) 0 w e w' :=
  ⟨whV n, none, 0, h.1, Nat.le_refl _, Nat.zero_le _, fun z => absurd z (by simp [whV]), fun _ => rfl, h.2⟩
/-- How many are true tells what is asked of all. -/
theorem yes_len {kids : List Vl} (h : ∀ v ∈ kids, v.num = 0 ∨ v.num = 1) : (yesN kids kids.length = 0 ↔ ∀ v ∈ kids, v.num = 0) ∧ (yesN kids kids.length = kids.length ↔ ∀ v ∈ kids, v.num = 1) := by
  unfold yesN
  rw [List.take_length]
  constructor
  · rw [List.length_eq_zero_iff, List.filter_eq_nil_iff]
    constructor
    · intro g v hv
      have := g v hv
      rcases h v hv with z | z
      · exact z
      · rw [z] at this; exact absurd rfl this
    · intro g v hv
      rw [g v hv]
      decide
  · rw [List.length_filter_eq_length_iff]
    constructor
    · intro g v hv
      have := g v hv
      simpa using this
    · intro g v hv
      rw [g v hv]
      rfl
theorem any_nums (kids : List Vl) (z : Int) : ((numsOf kids).any fun q => q.1 == z) = kids.any fun v => v.num == z := by
  unfold numsOf
  rw [List.any_map]
  rfl
theorem vb_tru {op : Int} {kids : List Vl} (ho : op = 1 ∨ op = 2 ∨ op = 3 ∨ op = 4 ∨ op = 5) (h : ∀ v ∈ kids, v.num = 0 ∨ v.num = 1) (h3 : op = 3 → kids.length = 1) : vbF op (yesN kids kids.length) kids.length = truF op (numsOf kids) := by
  obtain ⟨y0, yl⟩ := yes_len h
  rcases ho with rfl | rfl | rfl | rfl | rfl
  · rfl
  · rfl
  · show ((yesN kids kids.length : Int) == 0) = ((cn (numsOf kids) 0).1 == 0)
    rw [cn_nums]
    match kids, h3 rfl with
    | [v], _ =>
      show ((yesN [v] 1 : Int) == 0) = (v.num == 0)
      rcases h v (List.mem_singleton_self v) with z | z
      · have e : yesN [v] 1 = 0 := by simp [yesN, z]
        rw [e, z]
        rfl
      · have e : yesN [v] 1 = 1 := by simp [yesN, z]
        rw [e, z]
        rfl
  · show ((yesN kids kids.length : Int) == kids.length) = !((numsOf kids).any fun q => q.1 == 0)
    rw [any_nums]
    by_cases z : ∀ v ∈ kids, v.num = 1
    · have e := yl.2 z
      have e2 : (kids.any fun v => v.num == 0) = false := by
        rw [List.any_eq_false]
        intro v hv
        rw [z v hv]
        decide
      rw [e, e2]
      simp
    · have e : ¬ yesN kids kids.length = kids.length := fun y => z (yl.1 y)
      have e2 : (kids.any fun v => v.num == 0) = true := by
        rw [List.any_eq_true]
        have ⟨v, hv⟩ := Classical.not_forall.1 z
        have ⟨h1, h2⟩ : v ∈ kids ∧ ¬ v.num = 1 := by
          refine ⟨Classical.byContradiction fun y => hv fun x => absurd x y, fun y => hv fun _ => y⟩
        refine ⟨v, h1, ?_⟩
        rcases h v h1 with y | y
        · rw [y]; rfl
        · exact absurd y h2
      rw [e2]
      have e3 : ¬ (yesN kids kids.length : Int) = kids.length := by omega
      simpa using e3
  · show decide (0 < yesN kids kids.length) = (numsOf kids).any fun q => q.1 == 1
    rw [any_nums]
    by_cases z : ∀ v ∈ kids, v.num = 0
    · have e := y0.2 z
      have e2 : (kids.any fun v => v.num == 1) = false := by
        rw [List.any_eq_false]
        intro v hv
        rw [z v hv]
        decide
      rw [e, e2]
      rfl
    · have e : ¬ yesN kids kids.length = 0 := fun y => z (y0.1 y)
      have e2 : (kids.any fun v => v.num == 1) = true := by
        rw [List.any_eq_true]
        have ⟨v, hv⟩ := Classical.not_forall.1 z
        have ⟨h1, h2⟩ : v ∈ kids ∧ ¬ v.num = 0 := by
          refine ⟨Classical.byContradiction fun y => hv fun x => absurd x y, fun y => hv fun _ => y⟩
        refine ⟨v, h1, ?_⟩
        rcases h v h1 with y | y
        · exact absurd y h2
        · rw [y]; rfl
      rw [e2, decide_eq_true_eq]
      omega
theorem gd_bool {v : Vl} (h : gdV 1 v = true) : v.num = 0 ∨ v.num = 1 := by
  obtain ⟨_, _, h3⟩ := (gdv_w (by decide)).1 h
  obtain ⟨_, h4⟩ := gdn_iff.1 h3
  have e : grt 1 = 1 := by decide
  rw [e] at h4
  omega
theorem srt_boo {op d ds : Int} {ks : List Int} (h : 1 ≤ op ∧ op ≤ 6) (hs : srt op d ds ks ≠ 0) : ks.all sBo = true := by
  unfold srt at hs
  rw [if_pos h.2] at hs
  exact (whn_ne hs).1
theorem srt_pk {d ds : Int} {ks : List Int} (hs : srt 7 d ds ks ≠ 0) : nth ks 1 = nth ks 2 ∧ nth ks 1 ≠ 5 := by
  obtain ⟨_, h1, h2⟩ := srt_7 hs
  exact ⟨h1.symm, h2⟩
theorem Nk.bools {op n d ds : Int} {ks : List Int} {kids : List Vl} (h : Nk op n d ds ks kids) (hb : ks.all sBo = true) : ∀ v ∈ kids, v.num = 0 ∨ v.num = 1 := by
  intro v hv
  obtain ⟨j, hj, rfl⟩ := List.getElem_of_mem hv
  have hjk : j < ks.length := by rw [← h.len]; exact hj
  have e : nth ks j = 1 := by
    have := all_nth hb hjk
    unfold sBo at this
    simpa using this
  have g := h.good j hjk
  rw [e] at g
  have e2 : vn kids j = kids[j] := by simp [vn, List.getD, hj]
  rw [e2] at g
  exact gd_bool g
theorem wb_mds {s : Int} (h : 11 ≤ s ∧ s ≤ 18) : Wb (wBits s) (mds s) := by
  have e : wBits s = s - 10 := by unfold wBits; rw [if_pos (by omega)]
  rw [e]
  unfold Wb
  rcases mds_cases h with ⟨a, b⟩ | ⟨a, b⟩ | ⟨a, b⟩ | ⟨a, b⟩ | ⟨a, b⟩ | ⟨a, b⟩ | ⟨a, b⟩ | ⟨a, b⟩ <;> rw [a] at b ⊢ <;> rw [b] <;> simp
/-- The reckoning of words, by the reference, is that of the program. -/
theorem wordop_any {op n s x y : Int} {fs : List (Int × Int)} (ho : op = 16 ∨ op = 17 ∨ op = 18 ∨ op = 19 ∨ op = 20 ∨ op = 21 ∨ op = 23) (hs : 11 ≤ s ∧ s ≤ 18) (hx : 0 ≤ x ∧ x < mds s) (hf : (cn fs 0).1 = x) (hy : op ≠ 16 → op ≠ 23 → 0 ≤ y ∧ y < mds s ∧ (cn fs 1).1 = y) (hn : op = 23 → 0 ≤ n ∧ n ≤ 8) (W : World) :
    Calls Tryz.prog 55 #[.int .i64 op, .int .i64 (wBits s), .int .i64 x, .int .i64 y, .int .i64 n] W fun e w' => e = .returned (.int .i64 (wrdF op n (mds s) fs)) ∧ Below W.heap.size W w' := by
  have hz := wb_mds hs
  have h256 := (mds_big hs).2
  obtain ⟨a, rfl⟩ := Int.eq_ofNat_of_zero_le hx.1
  rcases ho with rfl | rfl | rfl | rfl | rfl | rfl | rfl
  · rw [show wrdF 16 n (mds s) fs = mds s - 1 - (cn fs 0).1 from rfl, hf]
    exact wordop_not _ _ _ _ _ hz hx W
  · obtain ⟨y0, y1, y2⟩ := hy (by decide) (by decide)
    obtain ⟨b, rfl⟩ := Int.eq_ofNat_of_zero_le y0
    have e := (bits_nat .i64 8 (by decide) (fun n h0 h1 => by rw [IntKind.wrap_i64]; omega) a b (by omega) (by omega)).1
    rw [show wrdF 17 n (mds s) fs = bits .and .i64 (cn fs 0).1 (cn fs 1).1 from rfl, hf, y2, e]
    exact wordop_and _ _ _ _ _ hz hx.2 y1 W
  · obtain ⟨y0, y1, y2⟩ := hy (by decide) (by decide)
    obtain ⟨b, rfl⟩ := Int.eq_ofNat_of_zero_le y0
    have e := (bits_nat .i64 8 (by decide) (fun n h0 h1 => by rw [IntKind.wrap_i64]; omega) a b (by omega) (by omega)).2
    rw [show wrdF 18 n (mds s) fs = bits .or .i64 (cn fs 0).1 (cn fs 1).1 from rfl, hf, y2, e]
    exact wordop_or _ _ _ _ _ hz hx.2 y1 W
  · obtain ⟨y0, y1, y2⟩ := hy (by decide) (by decide)
    obtain ⟨b, rfl⟩ := Int.eq_ofNat_of_zero_le y0
    have e := bits_xor_nat a b (by omega) (by omega)
    rw [show wrdF 19 n (mds s) fs = bits .xor .i64 (cn fs 0).1 (cn fs 1).1 from rfl, hf, y2, e]
    exact wordop_xor _ _ _ _ _ hz hx.2 y1 W
  · obtain ⟨y0, y1, y2⟩ := hy (by decide) (by decide)
    rw [show wrdF 20 n (mds s) fs = ((cn fs 0).1 + (cn fs 1).1) % mds s from rfl, hf, y2]
    exact wordop_add _ _ _ _ _ hz hx ⟨y0, y1⟩ W
  · obtain ⟨y0, y1, y2⟩ := hy (by decide) (by decide)
    rw [show wrdF 21 n (mds s) fs = ((cn fs 0).1 * (cn fs 1).1) % mds s from rfl, hf, y2]
    exact wordop_times _ _ _ _ _ hz hx ⟨y0, y1⟩ W
  · obtain ⟨n0, n1⟩ := hn rfl
    obtain ⟨m, rfl⟩ := Int.eq_ofNat_of_zero_le n0
    rw [show wrdF 23 (m : Int) (mds s) fs = ((cn fs 0).1 * 2 ^ (m : Int).toNat) % mds s from rfl, hf, Int.toNat_natCast]
    exact wordop_left _ _ _ _ _ hz hx (by omega) W
theorem fvR {n d : Int} (h : d = 1) (h1 : -1073741824 ≤ n) (h2 : n ≤ 1073741824) : fvalid n d = true := by subst h; exact fvalid_whole h1 h2
/-- A node's value, but a name's. -/
theorem vo_rest {C : Nat} {op n d ds : Int} {ks : List Int} {kids : List Vl} (N : Nk op n d ds ks kids) (h9 : op ≠ 9) (m : Mg) (nm : ByteArray) (sa sn sh sm nk : Value) (Av : Option Addr) (vc : Nat) (hk : kids.length ≤ 1000) (w : World) (hCw : C ≤ w.heap.size) (hv : VsAt w Av kids) :
    Calls Tryz.prog 18 #[.agg #[sa, sn, sh], .agg #[sm], .agg #[.int .i64 op, nk, .int .i64 n, .int .i64 d, .string nm], .int .i64 (srt op d ds ks), .slice Av kids.length vc] w (VoQ C (evV op (srt op d ds ks) n d m kids).1 (evV op (srt op d ds ks) n d m kids).2 w) := by
  have hs := N.sort
  have hkc := N.kc h9
  have hlen := N.len
  rcases op_cases6 N.lo N.hi with ho | rfl | rfl | ho | ho | rfl | rfl
  · obtain ⟨e1, e2, e3⟩ := srt_tru ho hs
    rw [evv_tru ho e1, e1]
    have hb : op ≤ 6 → ∀ v ∈ kids, v.num = 0 ∨ v.num = 1 := fun h => N.bools (srt_boo ⟨N.lo, h⟩ hs)
    have h2 : op = 6 ∨ op = 8 ∨ op = 13 ∨ op = 14 ∨ op = 22 → 2 ≤ kids.length := fun h => by
      rcases h with rfl | rfl | rfl | rfl | rfl <;> (have := hkc (by decide); simp [kcN] at this; omega)
    have hord : op = 13 ∨ op = 14 ∨ op = 22 → fvalid (vn kids 0).num (vn kids 0).den = true ∧ fvalid (vn kids 1).num (vn kids 1).den = true := fun h => by
      have h2' := h2 (by omega)
      rcases (show (op = 13 ∨ op = 14) ∨ op = 22 by omega) with z | z
      · exact ⟨N.nums (e2 z) 0 (by omega), N.nums (e2 z) 1 (by omega)⟩
      · obtain ⟨a, b⟩ := N.words (e3 z)
        have b0 := b 0 (by omega)
        have b1 := b 1 (by omega)
        have b2 := (mds_big a).2
        exact ⟨fvR b0.1 (by omega) (by omega), fvR b1.1 (by omega) (by omega)⟩
    rcases ho with rfl | rfl | rfl | rfl | rfl | rfl | rfl | rfl | rfl | rfl
    · rw [← vb_tru (.inl rfl) (hb (by decide)) (by omega)]
      exact (valueof_1 sa sn sh sm nk n d 1 nm Av vc kids hk w hv).mono fun e w' h => voq_wh h
    · rw [← vb_tru (.inr (.inl rfl)) (hb (by decide)) (by omega)]
      exact (valueof_2 sa sn sh sm nk n d 1 nm Av vc kids hk w hv).mono fun e w' h => voq_wh h
    · rw [← vb_tru (.inr (.inr (.inl rfl))) (hb (by decide)) (fun _ => by have := hkc (by decide); simp [kcN] at this; omega)]
      exact (valueof_3 sa sn sh sm nk n d 1 nm Av vc kids hk w hv).mono fun e w' h => voq_wh h
    · rw [← vb_tru (.inr (.inr (.inr (.inl rfl)))) (hb (by decide)) (by omega)]
      exact (valueof_4 sa sn sh sm nk n d 1 nm Av vc kids hk w hv).mono fun e w' h => voq_wh h
    · rw [← vb_tru (.inr (.inr (.inr (.inr rfl)))) (hb (by decide)) (by omega)]
      exact (valueof_5 sa sn sh sm nk n d 1 nm Av vc kids hk w hv).mono fun e w' h => voq_wh h
    · rw [show truF 6 (numsOf kids) = eqF (cn (numsOf kids) 0) (cn (numsOf kids) 1) from rfl, cn_nums, cn_nums]
      exact (valueof_6 sa sn sh sm nk n d 1 nm Av vc kids hk (h2 (by omega)) w hv).mono fun e w' h => voq_wh h
    · rw [show truF 8 (numsOf kids) = eqF (cn (numsOf kids) 0) (cn (numsOf kids) 1) from rfl, cn_nums, cn_nums]
      exact (valueof_8 sa sn sh sm nk n d 1 nm Av vc kids hk (h2 (by omega)) w hv).mono fun e w' h => voq_wh h
    · rw [show truF 13 (numsOf kids) = ltF (cn (numsOf kids) 0) (cn (numsOf kids) 1) from rfl, cn_nums, cn_nums]
      exact (valueof_13 sa sn sh sm nk n d 1 nm Av vc kids hk (h2 (by omega)) (hord (by omega)).1 (hord (by omega)).2 w hv).mono fun e w' h => voq_wh h
    · rw [show truF 14 (numsOf kids) = !ltF (cn (numsOf kids) 1) (cn (numsOf kids) 0) from rfl, cn_nums, cn_nums]
      exact (valueof_14 sa sn sh sm nk n d 1 nm Av vc kids hk (h2 (by omega)) (hord (by omega)).1 (hord (by omega)).2 w hv).mono fun e w' h => voq_wh h
    · rw [show truF 22 (numsOf kids) = ltF (cn (numsOf kids) 0) (cn (numsOf kids) 1) from rfl, cn_nums, cn_nums]
      exact (valueof_22 sa sn sh sm nk n d 1 nm Av vc kids hk (h2 (by omega)) (hord (by omega)).1 (hord (by omega)).2 w hv).mono fun e w' h => voq_wh h
  · rw [evv_7]
    have h3 := hkc (by decide)
    simp [kcN] at h3
    obtain ⟨p1, p2⟩ := srt_pk hs
    have E : ∀ j, j = 1 ∨ j = 2 → frVl ((vn kids j).num, (vn kids j).den) = vn kids j := fun j hj => by
      have g := N.good j (by omega)
      have h5 : nth ks j ≠ 5 := by rcases hj with rfl | rfl <;> omega
      obtain ⟨g1, g2, _⟩ := (gdv_w h5).1 g
      generalize vn kids j = v at *
      obtain ⟨a, b, c, dd⟩ := v
      dsimp only at g1 g2
      rw [g1, g2]
      rfl
    have e : frVl (pickF (numsOf kids)) = if (vn kids 0).num = 1 then vn kids 1 else vn kids 2 := by
      unfold pickF
      rw [cn_nums, cn_nums, cn_nums]
      dsimp only
      by_cases z : (vn kids 0).num = 1
      · rw [if_pos (by rw [z]; rfl), if_pos z]
        exact E 1 (.inl rfl)
      · rw [if_neg (by simpa using z), if_neg z]
        exact E 2 (.inr rfl)
    rw [e]
    have hn : (if (vn kids 0).num = 1 then vn kids 1 else vn kids 2).cells = [] := by rw [← e]; rfl
    exact (valueof_7 sa sn sh sm nk n d _ nm Av vc kids hk (by omega) w hv).mono fun e w' h => voq_nil h hn
  · exact absurd rfl h9
  · obtain ⟨e1, e2⟩ := srt_num ho hs
    rw [evv_num ho]
    rcases ho with rfl | rfl | rfl
    · exact (valueof_10 sa sn sh sm nk n d _ nm Av vc kids hk w hv).mono fun e w' h => voq_fr (n := n) (d := d) (f := 0) h
    · exact (valueof_11 sa sn sh sm nk n d _ nm Av vc kids hk (fun i hi => N.nums e2 i hi) w hv).mono fun e w' h => voq_fr h
    · have h1 := hkc (by decide)
      simp [kcN] at h1
      have := (valueof_12 sa sn sh sm nk n d (srt 12 d ds ks) nm Av vc kids hk (by omega) (N.nums e2 0 (by omega)) (isfr_val (N.num (.inr rfl))) w hv).mono fun e w' h => voq_fr (C := C) h
      rw [show numF 12 n d (numsOf kids) = ((madeN ((cn (numsOf kids) 0).1 * n) ((cn (numsOf kids) 0).2 * d), madeD ((cn (numsOf kids) 0).1 * n) ((cn (numsOf kids) 0).2 * d)), madeC ((cn (numsOf kids) 0).1 * n) ((cn (numsOf kids) 0).2 * d)) from rfl, cn_nums]
      exact this
  · by_cases h15 : op = 15
    · subst h15
      have e : srt 15 d ds ks = 10 + d := rfl
      obtain ⟨w1, w2, w3, w4⟩ := N.word rfl
      rw [evv_wrd ho (by rw [e]; omega), show wrdF 15 n (mds (srt 15 d ds ks)) (numsOf kids) = n from rfl]
      exact (valueof_15 sa sn sh sm nk n d _ nm Av vc kids hk w hv).mono fun e w' h => voq_wh h
    · have ho2 : op = 16 ∨ op = 17 ∨ op = 18 ∨ op = 19 ∨ op = 20 ∨ op = 21 ∨ op = 23 := by omega
      obtain ⟨e1, e2⟩ := srt_wrd ho2 hs
      obtain ⟨w1, w2⟩ := N.words e2
      rw [evv_wrd ho (by rw [e1]; omega), e1]
      have k1 : 1 ≤ kids.length := by
        rcases ho2 with rfl | rfl | rfl | rfl | rfl | rfl | rfl <;> (have := hkc (by decide); simp [kcN] at this; omega)
      have k2 : op ≠ 16 → op ≠ 23 → 2 ≤ kids.length := fun z1 z2 => by
        rcases ho2 with rfl | rfl | rfl | rfl | rfl | rfl | rfl <;> first | exact absurd rfl z1 | exact absurd rfl z2 | (have := hkc (by decide); simp [kcN] at this; omega)
      refine (valueof_word sa sn sh sm nk n d (nth ks 0) nm Av vc kids hk op ho2 k1 (wrdF op n (mds (nth ks 0)) (numsOf kids)) (fun W => ?_) w hv).mono fun e w' h => voq_wh h
      refine wordop_any ho2 w1 ⟨(w2 0 k1).2.1, (w2 0 k1).2.2⟩ (by rw [cn_nums]) (fun z1 z2 => ?_) (fun z => N.left z) W
      have := k2 z1 z2
      rw [if_pos (by omega), cn_nums]
      exact ⟨(w2 1 (by omega)).2.1, (w2 1 (by omega)).2.2, rfl⟩
  · obtain ⟨e1, e2, e3⟩ := srt_24 hs
    have h2 := hkc (by decide)
    simp [kcN] at h2
    have g0 := N.good 0 (by omega)
    rw [e2] at g0
    obtain ⟨_, _, _, g4⟩ := gdv5.1 g0
    rw [evv_24]
    exact (valueof_24 sa sn sh sm nk n d _ nm Av vc kids hk (by omega) (Nat.le_trans (good_len g4) (by decide)) w hv).mono fun e w' h => voq_wh h
  · obtain ⟨e1, e2, e3, e4⟩ := srt_25 hs
    have h3 := hkc (by decide)
    simp [kcN] at h3
    have g0 := N.good 0 (by omega)
    rw [e2] at g0
    obtain ⟨_, _, _, g4⟩ := gdv5.1 g0
    rw [evv_25]
    exact (valueof_25 sa sn sh sm nk n d _ nm Av vc kids hk (by omega) (Nat.le_trans (good_len g4) (by decide)) g4.2 w hv).mono fun e w' h => voq_own h hCw
/-- A node's value. -/
theorem vo_any {qs : List Dc} {ns : List Nd} {ms : List Mg} {i : Nat} {vs : List Vl} (hk : NdK qs ns ms i) (hi : i < ns.length) (hv : ∀ j, j < i → gdV (nth (srtL qs ns ns.length) j) (vn vs j) = true) (Ad Am : Option Addr) (An Ah : Option Addr) (dc nl nc hl hc mc : Nat) (nk : Value) (w0 W : World) (hB0 : Below w0.heap.size w0 W) (hq : qs.length ≤ maxLen) (hd : DsAt w0 Ad qs) (hms : MsAt w0 Am ms)
    (Av : Option Addr) (vc : Nat) (hkv : VsAt W Av (kidsV ns i vs)) :
    Calls Tryz.prog 18 #[.agg #[.slice Ad qs.length dc, .slice An nl nc, .slice Ah hl hc], .agg #[.slice Am ms.length mc], .agg #[.int .i64 (nn ns i).op, nk, .int .i64 (nn ns i).n, .int .i64 (nn ns i).d, .string (nn ns i).name], .int .i64 (nth (srtL qs ns ns.length) i), .slice Av (nn ns i).kids.length vc] W (VoQ w0.heap.size (evOf qs ns ms i vs).1 (evOf qs ns ms i vs).2 W) := by
  have N := nd_nk hk hi hv
  have h8 := (ndc_zero hk.c).2.2.1
  have hl2 := kids_len ns i vs
  unfold evOf
  rw [hk.s]
  unfold ndT
  by_cases h9 : (nn ns i).op = 9
  · obtain ⟨k, k1, k2, k3, k4, k5, k6⟩ := hk.m h9
    obtain ⟨m1, m2, m3, m4, m5⟩ := mgc_zero k6
    have hal : (nn ns i).kids.length = (dn qs k).args.length := by
      have hw := (ndc_zero hk.c).2.2.2.1
      unfold kWant at hw
      rw [if_pos h9, k2] at hw
      omega
    rw [k2, h9, evv_9]
    have := valueof_9 qs ms Ad Am An Ah dc mc nl nc hl hc nk (nn ns i).n (nn ns i).d (srt 9 (nn ns i).d (kDs qs (nn ns i)) (kSo (srtL qs ns i) (nn ns i).kids)) (nn ns i).name Av vc (kidsV ns i vs) (by omega) k k1 k4 hq m1 (fun r hr => by rw [hl2, hal]; exact m2 _ (by rw [show en (mn ms k).rows r = (mn ms k).rows[r] by simp [en, List.getD, hr]]; exact List.getElem_mem hr)) w0 W hB0 hkv (hd.below hB0) hms
    rw [hl2] at this
    exact this.mono fun e w' h => voq_arg h hB0
  · have := vo_rest N h9 (mn ms (fdI qs (nn ns i).name)) (nn ns i).name (.slice Ad qs.length dc) (.slice An nl nc) (.slice Ah hl hc) (.slice Am ms.length mc) nk Av vc (by omega) W hB0.size hkv
    rw [hl2] at this
    exact this
end Go.Proofs.YtaodebpogibimaaGreat
