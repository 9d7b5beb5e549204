/-
  MeanWords: the law returns true.
-/
import Derived.Test.YtibpgcdaommjeaaMarC
import Derived.Test.YtibpgcdaommjeaaMarD
namespace Go.Proofs.Ytibpgcdaommjeaa
open Go.RowKit

/-- The slots of the region that makes the ask, in the order of its operations. -/
def woD (i : Nat) : Nat := if i = 33 then 5 else i + 10
/-- What its operations make. -/
def woS (i : Nat) : Sp := [.dc, .val (nmV ⟨#[118]⟩), .val (nmV ⟨#[119]⟩), .ks [0, 1], .nd 20 0 0 [0, 1], .ks [0, 1], .nd 19 0 0 [0, 1], .ks [0, 1], .nd 17 0 0 [0, 1], .ks [4], .nd 23 1 0 [4], .ks [3, 5], .nd 20 0 0 [3, 5], .ks [2, 6], .nd 8 0 0 [2, 6], .ks [0], .nd 16 0 0 [0], .ks [0, 8], .nd 20 0 0 [0, 8], .val (.agg #[.int .i64 15, .slice none 0 0, .int .i64 7, .int .i64 3, .string ⟨#[]⟩]), .ks [9, 10], .nd 8 0 0 [9, 10], .val (.agg #[.int .i64 15, .slice none 0 0, .int .i64 3, .int .i64 3, .string ⟨#[]⟩]), .ks [0, 12], .nd 21 0 0 [0, 12], .ks [0], .nd 23 1 0 [0], .ks [0, 14], .nd 20 0 0 [0, 14], .ks [13, 15], .nd 8 0 0 [13, 15], .ns woN, .ak woN, .pt].getD i .pt
theorem wod_inj : ∀ i j, i < 34 → j < 34 → woD i = woD j → i = j := by
  intro i j hi hj h
  unfold woD at h
  split at h <;> split at h <;> omega
theorem wod_in {i : Nat} (h : i < 34) : woD i < 80 := by unfold woD; split <;> omega
theorem lt34 {i : Nat} (h : i < 34) : i = 0 ∨ i = 1 ∨ i = 2 ∨ i = 3 ∨ i = 4 ∨ i = 5 ∨ i = 6 ∨ i = 7 ∨ i = 8 ∨ i = 9 ∨ i = 10 ∨ i = 11 ∨ i = 12 ∨ i = 13 ∨ i = 14 ∨ i = 15 ∨ i = 16 ∨ i = 17 ∨ i = 18 ∨ i = 19 ∨ i = 20 ∨ i = 21 ∨ i = 22 ∨ i = 23 ∨ i = 24 ∨ i = 25 ∨ i = 26 ∨ i = 27 ∨ i = 28 ∨ i = 29 ∨ i = 30 ∨ i = 31 ∨ i = 32 ∨ i = 33 := by omega
theorem won_at {w : World} {g g2 g3 g4 g5 g6 g7 g8 g9 g11 g13 g14 g15 g16 : Nat} (hg : HB w g 24 #[.int .i64 9, .slice none 0 0, .int .i64 0, .int .i64 0, .string ⟨#[118]⟩, .int .i64 9, .slice none 0 0, .int .i64 0, .int .i64 0, .string ⟨#[119]⟩, .int .i64 20, .slice (some ⟨g2, 0, none⟩) 2 2, .int .i64 0, .int .i64 0, .string ⟨#[]⟩, .int .i64 19, .slice (some ⟨g3, 0, none⟩) 2 2, .int .i64 0, .int .i64 0, .string ⟨#[]⟩, .int .i64 17, .slice (some ⟨g4, 0, none⟩) 2 2, .int .i64 0, .int .i64 0, .string ⟨#[]⟩, .int .i64 23, .slice (some ⟨g5, 0, none⟩) 1 1, .int .i64 1, .int .i64 0, .string ⟨#[]⟩, .int .i64 20, .slice (some ⟨g6, 0, none⟩) 2 2, .int .i64 0, .int .i64 0, .string ⟨#[]⟩, .int .i64 8, .slice (some ⟨g7, 0, none⟩) 2 2, .int .i64 0, .int .i64 0, .string ⟨#[]⟩, .int .i64 16, .slice (some ⟨g8, 0, none⟩) 1 1, .int .i64 0, .int .i64 0, .string ⟨#[]⟩, .int .i64 20, .slice (some ⟨g9, 0, none⟩) 2 2, .int .i64 0, .int .i64 0, .string ⟨#[]⟩, .int .i64 15, .slice none 0 0, .int .i64 7, .int .i64 3, .string ⟨#[]⟩, .int .i64 8, .slice (some ⟨g11, 0, none⟩) 2 2, .int .i64 0, .int .i64 0, .string ⟨#[]⟩, .int .i64 15, .slice none 0 0, .int .i64 3, .int .i64 3, .string ⟨#[]⟩, .int .i64 21, .slice (some ⟨g13, 0, none⟩) 2 2, .int .i64 0, .int .i64 0, .string ⟨#[]⟩, .int .i64 23, .slice (some ⟨g14, 0, none⟩) 1 1, .int .i64 1, .int .i64 0, .string ⟨#[]⟩, .int .i64 20, .slice (some ⟨g15, 0, none⟩) 2 2, .int .i64 0, .int .i64 0, .string ⟨#[]⟩, .int .i64 8, .slice (some ⟨g16, 0, none⟩) 2 2, .int .i64 0, .int .i64 0, .string ⟨#[]⟩]) (h2 : Is w (some ⟨g2, 0, none⟩) [0, 1]) (h3 : Is w (some ⟨g3, 0, none⟩) [0, 1]) (h4 : Is w (some ⟨g4, 0, none⟩) [0, 1]) (h5 : Is w (some ⟨g5, 0, none⟩) [4]) (h6 : Is w (some ⟨g6, 0, none⟩) [3, 5]) (h7 : Is w (some ⟨g7, 0, none⟩) [2, 6]) (h8 : Is w (some ⟨g8, 0, none⟩) [0]) (h9 : Is w (some ⟨g9, 0, none⟩) [0, 8]) (h11 : Is w (some ⟨g11, 0, none⟩) [9, 10]) (h13 : Is w (some ⟨g13, 0, none⟩) [0, 12]) (h14 : Is w (some ⟨g14, 0, none⟩) [0]) (h15 : Is w (some ⟨g15, 0, none⟩) [0, 14]) (h16 : Is w (some ⟨g16, 0, none⟩) [13, 15]) : NsAt w (some ⟨g, 0, none⟩) woN := fun _ => ⟨g, 0, rfl, hg.lt, fun i q hq => by
  have hi : i < 17 := by
    rcases Nat.lt_or_ge i 17 with z | z
    · exact z
    · rw [List.getElem?_eq_none (by simpa [woN] using z)] at hq
      cases hq
  rcases (show i = 0 ∨ i = 1 ∨ i = 2 ∨ i = 3 ∨ i = 4 ∨ i = 5 ∨ i = 6 ∨ i = 7 ∨ i = 8 ∨ i = 9 ∨ i = 10 ∨ i = 11 ∨ i = 12 ∨ i = 13 ∨ i = 14 ∨ i = 15 ∨ i = 16 by omega) with rfl | rfl | rfl | rfl | rfl | rfl | rfl | rfl | rfl | rfl | rfl | rfl | rfl | rfl | rfl | rfl | rfl
  all_goals (simp [woN] at hq; subst hq)
  · exact ⟨(hg.cell _).trans rfl, (hg.cell _).trans rfl, (hg.cell _).trans rfl, (hg.cell _).trans rfl, by unfold maxLen; decide, none, 0, (hg.cell _).trans rfl, Nat.le_refl _, Nat.zero_le _, is_nil _ _⟩
  · exact ⟨(hg.cell _).trans rfl, (hg.cell _).trans rfl, (hg.cell _).trans rfl, (hg.cell _).trans rfl, by unfold maxLen; decide, none, 0, (hg.cell _).trans rfl, Nat.le_refl _, Nat.zero_le _, is_nil _ _⟩
  · exact ⟨(hg.cell _).trans rfl, (hg.cell _).trans rfl, (hg.cell _).trans rfl, (hg.cell _).trans rfl, by unfold maxLen; decide, some ⟨g2, 0, none⟩, 2, (hg.cell _).trans rfl, by decide, by unfold maxLen; decide, h2⟩
  · exact ⟨(hg.cell _).trans rfl, (hg.cell _).trans rfl, (hg.cell _).trans rfl, (hg.cell _).trans rfl, by unfold maxLen; decide, some ⟨g3, 0, none⟩, 2, (hg.cell _).trans rfl, by decide, by unfold maxLen; decide, h3⟩
  · exact ⟨(hg.cell _).trans rfl, (hg.cell _).trans rfl, (hg.cell _).trans rfl, (hg.cell _).trans rfl, by unfold maxLen; decide, some ⟨g4, 0, none⟩, 2, (hg.cell _).trans rfl, by decide, by unfold maxLen; decide, h4⟩
  · exact ⟨(hg.cell _).trans rfl, (hg.cell _).trans rfl, (hg.cell _).trans rfl, (hg.cell _).trans rfl, by unfold maxLen; decide, some ⟨g5, 0, none⟩, 1, (hg.cell _).trans rfl, by decide, by unfold maxLen; decide, h5⟩
  · exact ⟨(hg.cell _).trans rfl, (hg.cell _).trans rfl, (hg.cell _).trans rfl, (hg.cell _).trans rfl, by unfold maxLen; decide, some ⟨g6, 0, none⟩, 2, (hg.cell _).trans rfl, by decide, by unfold maxLen; decide, h6⟩
  · exact ⟨(hg.cell _).trans rfl, (hg.cell _).trans rfl, (hg.cell _).trans rfl, (hg.cell _).trans rfl, by unfold maxLen; decide, some ⟨g7, 0, none⟩, 2, (hg.cell _).trans rfl, by decide, by unfold maxLen; decide, h7⟩
  · exact ⟨(hg.cell _).trans rfl, (hg.cell _).trans rfl, (hg.cell _).trans rfl, (hg.cell _).trans rfl, by unfold maxLen; decide, some ⟨g8, 0, none⟩, 1, (hg.cell _).trans rfl, by decide, by unfold maxLen; decide, h8⟩
  · exact ⟨(hg.cell _).trans rfl, (hg.cell _).trans rfl, (hg.cell _).trans rfl, (hg.cell _).trans rfl, by unfold maxLen; decide, some ⟨g9, 0, none⟩, 2, (hg.cell _).trans rfl, by decide, by unfold maxLen; decide, h9⟩
  · exact ⟨(hg.cell _).trans rfl, (hg.cell _).trans rfl, (hg.cell _).trans rfl, (hg.cell _).trans rfl, by unfold maxLen; decide, none, 0, (hg.cell _).trans rfl, Nat.le_refl _, Nat.zero_le _, is_nil _ _⟩
  · exact ⟨(hg.cell _).trans rfl, (hg.cell _).trans rfl, (hg.cell _).trans rfl, (hg.cell _).trans rfl, by unfold maxLen; decide, some ⟨g11, 0, none⟩, 2, (hg.cell _).trans rfl, by decide, by unfold maxLen; decide, h11⟩
  · exact ⟨(hg.cell _).trans rfl, (hg.cell _).trans rfl, (hg.cell _).trans rfl, (hg.cell _).trans rfl, by unfold maxLen; decide, none, 0, (hg.cell _).trans rfl, Nat.le_refl _, Nat.zero_le _, is_nil _ _⟩
  · exact ⟨(hg.cell _).trans rfl, (hg.cell _).trans rfl, (hg.cell _).trans rfl, (hg.cell _).trans rfl, by unfold maxLen; decide, some ⟨g13, 0, none⟩, 2, (hg.cell _).trans rfl, by decide, by unfold maxLen; decide, h13⟩
  · exact ⟨(hg.cell _).trans rfl, (hg.cell _).trans rfl, (hg.cell _).trans rfl, (hg.cell _).trans rfl, by unfold maxLen; decide, some ⟨g14, 0, none⟩, 1, (hg.cell _).trans rfl, by decide, by unfold maxLen; decide, h14⟩
  · exact ⟨(hg.cell _).trans rfl, (hg.cell _).trans rfl, (hg.cell _).trans rfl, (hg.cell _).trans rfl, by unfold maxLen; decide, some ⟨g15, 0, none⟩, 2, (hg.cell _).trans rfl, by decide, by unfold maxLen; decide, h15⟩
  · exact ⟨(hg.cell _).trans rfl, (hg.cell _).trans rfl, (hg.cell _).trans rfl, (hg.cell _).trans rfl, by unfold maxLen; decide, some ⟨g16, 0, none⟩, 2, (hg.cell _).trans rfl, by decide, by unfold maxLen; decide, h16⟩⟩
/-- Seventeen values, of which three are true. -/
def SevQ (w : World) (e : Ending) (w' : World) : Prop := ∃ (b c : Nat), e = .returned (.tuple #[.slice (some ⟨b, 0, none⟩) 17 c, .bool true]) ∧ w'.cell? ⟨b, 28, none⟩ = some (.int .i64 1) ∧ w'.cell? ⟨b, 44, none⟩ = some (.int .i64 1) ∧ w'.cell? ⟨b, 64, none⟩ = some (.int .i64 1) ∧ b < w'.heap.size ∧ Below w.heap.size w w'
theorem sev_at {vs : List Vl} {B C c : Nat} {A : Option Addr} {w : World} {ps : List (Vl × Value)} (hp : ps.length = 17) (h2 : VMk B C (.slice A 17 c) w ps) (h3 : ps.map (·.1) = vs) {k : Nat} (hk : k < 17) (h9 : (vn vs k).num = 1) : ∃ b, A = some ⟨b, 0, none⟩ ∧ b < w.heap.size ∧ w.cell? ⟨b, k * 4, none⟩ = some (.int .i64 1) := by
  obtain ⟨p, hp⟩ : ∃ p, ps[k]? = some p := ⟨_, List.getElem?_eq_getElem (by omega)⟩
  obtain ⟨b, rfl, lb, c0, -⟩ := vm_at h2 hp
  have e9 : vn vs k = p.1 := by
    rw [← h3]
    simp [vn, List.getD, hp]
  rw [e9] at h9
  rw [h9] at c0
  exact ⟨b, rfl, lb, c0⟩
theorem sev_of {vs : List Vl} (hl : vs.length = 17) (h9 : (vn vs 7).num = 1 ∧ (vn vs 11).num = 1 ∧ (vn vs 16).num = 1) {w : World} {e : Ending} {w' : World} (h : ValdS vs w e w') : SevQ w e w' := by
  obtain ⟨A, c, ps, rfl, h2, h3, h4⟩ := h
  have hpl : ps.length = 17 := by rw [← hl, ← h3, List.length_map]
  rw [hpl] at h2
  obtain ⟨b, rfl, lb, c0⟩ := sev_at hpl h2 h3 (k := 7) (by decide) h9.1
  obtain ⟨b1, e1, _, c1⟩ := sev_at hpl h2 h3 (k := 11) (by decide) h9.2.1
  obtain ⟨b2, e2, _, c2⟩ := sev_at hpl h2 h3 (k := 16) (by decide) h9.2.2
  injection e1 with e1
  injection e1 with e1
  injection e2 with e2
  injection e2 with e2
  subst e1 e2
  exact ⟨b, c, by rw [hpl], c0, c1, c2, lb, h4⟩
set_option maxRecDepth 100000 in
set_option maxHeartbeats 4000000 in
theorem meanwords_any (zs : List Int) (A : Option Addr) (c : Nat) (hz : zs.length ≤ maxLen) (w : World) (h : Is w A zs) :
    Calls Try.prog 4 #[.slice A zs.length c] w fun e w' => e = .returned (.bool true) ∧ Below w.heap.size w w' := by
  have XW := Lib.hid (fun (W : World) (k : Below w.heap.size w W) => worldof_any zs A c hz W (h.below k))
  clear h hz
  generalize zs.length = zl at *
  go_enter Try.func4, Try.ntmps4
  go_wp2_with fail
  have X1 := func2_any ⟨#[118]⟩ w
  unfold nmV at X1
  refine X1.mono ?_
  rintro e w1 ⟨rfl, hb1⟩
  clear X1
  have HM0 : Hid (HB (w1.alloc (.cells #[.int .i64 9, .slice none 0 0, .int .i64 0, .int .i64 0, .string ⟨#[118]⟩] 24)) w1.heap.size 24 #[.int .i64 9, .slice none 0 0, .int .i64 0, .int .i64 0, .string ⟨#[118]⟩]) := Lib.hid (HB.new _ _ _)
  have BM0 : Hid (Below w.heap.size w (w1.alloc (.cells #[.int .i64 9, .slice none 0 0, .int .i64 0, .int .i64 0, .string ⟨#[118]⟩] 24))) := Lib.hid (below_after hb1 (new_below _ _))
  go_wp2_with fail
  generalize (w1.alloc (.cells #[.int .i64 9, .slice none 0 0, .int .i64 0, .int .i64 0, .string ⟨#[118]⟩] 24)) = w2 at *
  clear hb1
  generalize w1.heap.size = gm at *
  have X2 := func2_any ⟨#[119]⟩ w2
  unfold nmV at X2
  refine X2.mono ?_
  rintro e w3 ⟨rfl, hb3⟩
  clear X2
  have HM1 : Hid (HB w3 gm 24 #[.int .i64 9, .slice none 0 0, .int .i64 0, .int .i64 0, .string ⟨#[118]⟩]) := Lib.hid (HM0.out.below hb3)
  have BM1 : Hid (Below w.heap.size w w3) := Lib.hid (below_after BM0.out hb3)
  clear HM0 BM0 hb3
  go_upto_region 3 with fail
  rename_i Q0 Kx hx
  refine wp_region_any (by kernel_rfl) ?_
  have HQ : Hid (HB (World.drew (w3.alloc (.cells #[.int .i64 9, .slice none 0 0, .int .i64 0, .int .i64 0, .string ⟨#[119]⟩] 24))) w3.heap.size 24 #[.int .i64 9, .slice none 0 0, .int .i64 0, .int .i64 0, .string ⟨#[119]⟩]) := Lib.hid (HB.new _ _ _)
  have HM : Hid (HB (World.drew (w3.alloc (.cells #[.int .i64 9, .slice none 0 0, .int .i64 0, .int .i64 0, .string ⟨#[119]⟩] 24))) gm 24 #[.int .i64 9, .slice none 0 0, .int .i64 0, .int .i64 0, .string ⟨#[118]⟩]) := Lib.hid (HM1.out.below (new_below _ _).drew)
  have BM : Hid (Below w.heap.size w (World.drew (w3.alloc (.cells #[.int .i64 9, .slice none 0 0, .int .i64 0, .int .i64 0, .string ⟨#[119]⟩] 24)))) := Lib.hid (below_after BM1.out (new_below _ _)).drew
  change wpAny Try.prog .any _ _ _ _ _ (World.drew (w3.alloc (.cells #[.int .i64 9, .slice none 0 0, .int .i64 0, .int .i64 0, .string ⟨#[119]⟩] 24)))
  generalize World.drew (w3.alloc (.cells #[.int .i64 9, .slice none 0 0, .int .i64 0, .int .i64 0, .string ⟨#[119]⟩] 24)) = W0 at *
  clear HM1 BM1
  generalize w3.heap.size = gq at *
  refine any_grow (n := 34) (d := woD) (G := fun i => SpG W0.heap.size (woS i)) (by kernel_rfl)
    (fun i o hi ho => ?_) wod_inj (fun i hi => ?_)
    (fun i o ho => ?_) (fun i o ho e he => ?_) (fun o ho j hj => ?_)
    (fun i v w w' h k => spg_below h k) (fun i o hi ho => ?_) (fun o ho => ?_) 35 _ _ _ (by decide) ⟨Below.refl _ _, rfl, rfl, rfl, rfl, fun _ _ => rfl, fun i hi h => ?_⟩
  · have := ops_all (p := fun i o => decide (34 ≤ i) || o.dst == some (woD i)) (by kernel_rfl) i o ho
    simp only [Bool.or_eq_true, decide_eq_true_eq, beq_iff_eq] at this
    exact this.resolve_left (by omega)
  · show woD i < 80
    exact wod_in hi
  · have := ops_all (p := fun _ o => o.guard.isNone) (by kernel_rfl) i o ho
    simpa using this
  · have := ops_all (p := fun i o => o.after.toList.all fun e => decide (e.on < i)) (by kernel_rfl) i o ho
    exact of_decide_eq_true (List.all_eq_true.1 this e (by simpa using he))
  · have := ops_all (p := fun i o => decide (i ≠ 34) || (List.range 34).all fun j => o.after.toList.any fun e => Region.binds .any e && e.on == j) (by kernel_rfl) 34 o ho
    simp only [ne_eq, not_true_eq_false, decide_false, Bool.false_or] at this
    obtain ⟨e, h1, h2⟩ := List.any_eq_true.1 (List.all_eq_true.1 this j (List.mem_range.2 hj))
    rw [Bool.and_eq_true, beq_iff_eq] at h2
    exact ⟨e, by simpa using h1, h2.1, h2.2⟩
  · refine arr_at (R := Stp Try.prog _ 34 woD (fun i => SpG W0.heap.size (woS i)) _ _) ?_ ho hi
    clear ho hi o i hx
    refine ⟨?_, ?_, ?_, ?_, ?_, ?_, ?_, ?_, ?_, ?_, ?_, ?_, ?_, ?_, ?_, ?_, ?_, ?_, ?_, ?_, ?_, ?_, ?_, ?_, ?_, ?_, ?_, ?_, ?_, ?_, ?_, ?_, ?_, ?_, ?_, trivial⟩
    all_goals (intro hi a W hW hA hG K hK)
    · go_wp2_with fail
      refine (decls_any _).mono ?_
      rintro e w' ⟨g, rfl, hd, hb⟩
      (first | exact hK _ _ ⟨g, rfl, hd⟩ hb | (go_wp2_with fail; exact hK _ _ ⟨g, rfl, hd⟩ hb))
    · have h3 : a.tmps[3]?.getD undef = .pointer (some ⟨gm, 0, none⟩) := slot_get ((hA 3 (fun j _ => by unfold woD; split <;> omega)).trans rfl)
      have H := HM.out.below hW
      have c0 : W.cell? ⟨gm, 0, none⟩ = some (.int .i64 9) := H.cell 0
      have c1 : W.cell? ⟨gm, 1, none⟩ = some (.slice none 0 0) := H.cell 1
      have c2 : W.cell? ⟨gm, 2, none⟩ = some (.int .i64 0) := H.cell 2
      have c3 : W.cell? ⟨gm, 3, none⟩ = some (.int .i64 0) := H.cell 3
      have c4 : W.cell? ⟨gm, 4, none⟩ = some (.string ⟨#[118]⟩) := H.cell 4
      go_simp
      exact hK _ _ rfl (Below.refl _ _)
    · have h3 : a.tmps[4]?.getD undef = .pointer (some ⟨gq, 0, none⟩) := slot_get ((hA 4 (fun j _ => by unfold woD; split <;> omega)).trans rfl)
      have H := HQ.out.below hW
      have c0 : W.cell? ⟨gq, 0, none⟩ = some (.int .i64 9) := H.cell 0
      have c1 : W.cell? ⟨gq, 1, none⟩ = some (.slice none 0 0) := H.cell 1
      have c2 : W.cell? ⟨gq, 2, none⟩ = some (.int .i64 0) := H.cell 2
      have c3 : W.cell? ⟨gq, 3, none⟩ = some (.int .i64 0) := H.cell 3
      have c4 : W.cell? ⟨gq, 4, none⟩ = some (.string ⟨#[119]⟩) := H.cell 4
      go_simp
      exact hK _ _ rfl (Below.refl _ _)
    · go_wp2_with fail
      exact hK _ _ (ks_new W [0, 1] rfl) (new_below _ _)
    · obtain ⟨g, h1, h2⟩ : KsG [0, 1] (a.tmps.getD 13 undef) W := hG ⟨3, .data⟩ (by simp) rfl
      have h1 : a.tmps[13]?.getD undef = .slice (some ⟨g, 0, none⟩) 2 2 := slot_get h1
      go_simp
      exact hK _ _ ⟨g, rfl, h2⟩ (Below.refl _ _)
    · go_wp2_with fail
      exact hK _ _ (ks_new W [0, 1] rfl) (new_below _ _)
    · obtain ⟨g, h1, h2⟩ : KsG [0, 1] (a.tmps.getD 15 undef) W := hG ⟨5, .data⟩ (by simp) rfl
      have h1 : a.tmps[15]?.getD undef = .slice (some ⟨g, 0, none⟩) 2 2 := slot_get h1
      go_simp
      exact hK _ _ ⟨g, rfl, h2⟩ (Below.refl _ _)
    · go_wp2_with fail
      exact hK _ _ (ks_new W [0, 1] rfl) (new_below _ _)
    · obtain ⟨g, h1, h2⟩ : KsG [0, 1] (a.tmps.getD 17 undef) W := hG ⟨7, .data⟩ (by simp) rfl
      have h1 : a.tmps[17]?.getD undef = .slice (some ⟨g, 0, none⟩) 2 2 := slot_get h1
      go_simp
      exact hK _ _ ⟨g, rfl, h2⟩ (Below.refl _ _)
    · go_wp2_with fail
      exact hK _ _ (ks_new W [4] rfl) (new_below _ _)
    · obtain ⟨g, h1, h2⟩ : KsG [4] (a.tmps.getD 19 undef) W := hG ⟨9, .data⟩ (by simp) rfl
      have h1 : a.tmps[19]?.getD undef = .slice (some ⟨g, 0, none⟩) 1 1 := slot_get h1
      go_simp
      exact hK _ _ ⟨g, rfl, h2⟩ (Below.refl _ _)
    · go_wp2_with fail
      exact hK _ _ (ks_new W [3, 5] rfl) (new_below _ _)
    · obtain ⟨g, h1, h2⟩ : KsG [3, 5] (a.tmps.getD 21 undef) W := hG ⟨11, .data⟩ (by simp) rfl
      have h1 : a.tmps[21]?.getD undef = .slice (some ⟨g, 0, none⟩) 2 2 := slot_get h1
      go_simp
      exact hK _ _ ⟨g, rfl, h2⟩ (Below.refl _ _)
    · go_wp2_with fail
      exact hK _ _ (ks_new W [2, 6] rfl) (new_below _ _)
    · obtain ⟨g, h1, h2⟩ : KsG [2, 6] (a.tmps.getD 23 undef) W := hG ⟨13, .data⟩ (by simp) rfl
      have h1 : a.tmps[23]?.getD undef = .slice (some ⟨g, 0, none⟩) 2 2 := slot_get h1
      go_simp
      exact hK _ _ ⟨g, rfl, h2⟩ (Below.refl _ _)
    · go_wp2_with fail
      exact hK _ _ (ks_new W [0] rfl) (new_below _ _)
    · obtain ⟨g, h1, h2⟩ : KsG [0] (a.tmps.getD 25 undef) W := hG ⟨15, .data⟩ (by simp) rfl
      have h1 : a.tmps[25]?.getD undef = .slice (some ⟨g, 0, none⟩) 1 1 := slot_get h1
      go_simp
      exact hK _ _ ⟨g, rfl, h2⟩ (Below.refl _ _)
    · go_wp2_with fail
      exact hK _ _ (ks_new W [0, 8] rfl) (new_below _ _)
    · obtain ⟨g, h1, h2⟩ : KsG [0, 8] (a.tmps.getD 27 undef) W := hG ⟨17, .data⟩ (by simp) rfl
      have h1 : a.tmps[27]?.getD undef = .slice (some ⟨g, 0, none⟩) 2 2 := slot_get h1
      go_simp
      exact hK _ _ ⟨g, rfl, h2⟩ (Below.refl _ _)
    · go_simp
      exact hK _ _ rfl (Below.refl _ _)
    · go_wp2_with fail
      exact hK _ _ (ks_new W [9, 10] rfl) (new_below _ _)
    · obtain ⟨g, h1, h2⟩ : KsG [9, 10] (a.tmps.getD 30 undef) W := hG ⟨20, .data⟩ (by simp) rfl
      have h1 : a.tmps[30]?.getD undef = .slice (some ⟨g, 0, none⟩) 2 2 := slot_get h1
      go_simp
      exact hK _ _ ⟨g, rfl, h2⟩ (Below.refl _ _)
    · go_simp
      exact hK _ _ rfl (Below.refl _ _)
    · go_wp2_with fail
      exact hK _ _ (ks_new W [0, 12] rfl) (new_below _ _)
    · obtain ⟨g, h1, h2⟩ : KsG [0, 12] (a.tmps.getD 33 undef) W := hG ⟨23, .data⟩ (by simp) rfl
      have h1 : a.tmps[33]?.getD undef = .slice (some ⟨g, 0, none⟩) 2 2 := slot_get h1
      go_simp
      exact hK _ _ ⟨g, rfl, h2⟩ (Below.refl _ _)
    · go_wp2_with fail
      exact hK _ _ (ks_new W [0] rfl) (new_below _ _)
    · obtain ⟨g, h1, h2⟩ : KsG [0] (a.tmps.getD 35 undef) W := hG ⟨25, .data⟩ (by simp) rfl
      have h1 : a.tmps[35]?.getD undef = .slice (some ⟨g, 0, none⟩) 1 1 := slot_get h1
      go_simp
      exact hK _ _ ⟨g, rfl, h2⟩ (Below.refl _ _)
    · go_wp2_with fail
      exact hK _ _ (ks_new W [0, 14] rfl) (new_below _ _)
    · obtain ⟨g, h1, h2⟩ : KsG [0, 14] (a.tmps.getD 37 undef) W := hG ⟨27, .data⟩ (by simp) rfl
      have h1 : a.tmps[37]?.getD undef = .slice (some ⟨g, 0, none⟩) 2 2 := slot_get h1
      go_simp
      exact hK _ _ ⟨g, rfl, h2⟩ (Below.refl _ _)
    · go_wp2_with fail
      exact hK _ _ (ks_new W [13, 15] rfl) (new_below _ _)
    · obtain ⟨g, h1, h2⟩ : KsG [13, 15] (a.tmps.getD 39 undef) W := hG ⟨29, .data⟩ (by simp) rfl
      have h1 : a.tmps[39]?.getD undef = .slice (some ⟨g, 0, none⟩) 2 2 := slot_get h1
      go_simp
      exact hK _ _ ⟨g, rfl, h2⟩ (Below.refl _ _)
    · have h0 : a.tmps[11]?.getD undef = .agg #[.int .i64 9, .slice none 0 0, .int .i64 0, .int .i64 0, .string ⟨#[118]⟩] := slot_get (hG ⟨1, .data⟩ (by simp) rfl)
      have h1 : a.tmps[12]?.getD undef = .agg #[.int .i64 9, .slice none 0 0, .int .i64 0, .int .i64 0, .string ⟨#[119]⟩] := slot_get (hG ⟨2, .data⟩ (by simp) rfl)
      obtain ⟨g2, e2, i2⟩ : NdG 20 0 0 [0, 1] (a.tmps.getD 14 undef) W := hG ⟨4, .data⟩ (by simp) rfl
      have h2 : a.tmps[14]?.getD undef = .agg #[.int .i64 20, .slice (some ⟨g2, 0, none⟩) 2 2, .int .i64 0, .int .i64 0, .string ⟨#[]⟩] := slot_get e2
      obtain ⟨g3, e3, i3⟩ : NdG 19 0 0 [0, 1] (a.tmps.getD 16 undef) W := hG ⟨6, .data⟩ (by simp) rfl
      have h3 : a.tmps[16]?.getD undef = .agg #[.int .i64 19, .slice (some ⟨g3, 0, none⟩) 2 2, .int .i64 0, .int .i64 0, .string ⟨#[]⟩] := slot_get e3
      obtain ⟨g4, e4, i4⟩ : NdG 17 0 0 [0, 1] (a.tmps.getD 18 undef) W := hG ⟨8, .data⟩ (by simp) rfl
      have h4 : a.tmps[18]?.getD undef = .agg #[.int .i64 17, .slice (some ⟨g4, 0, none⟩) 2 2, .int .i64 0, .int .i64 0, .string ⟨#[]⟩] := slot_get e4
      obtain ⟨g5, e5, i5⟩ : NdG 23 1 0 [4] (a.tmps.getD 20 undef) W := hG ⟨10, .data⟩ (by simp) rfl
      have h5 : a.tmps[20]?.getD undef = .agg #[.int .i64 23, .slice (some ⟨g5, 0, none⟩) 1 1, .int .i64 1, .int .i64 0, .string ⟨#[]⟩] := slot_get e5
      obtain ⟨g6, e6, i6⟩ : NdG 20 0 0 [3, 5] (a.tmps.getD 22 undef) W := hG ⟨12, .data⟩ (by simp) rfl
      have h6 : a.tmps[22]?.getD undef = .agg #[.int .i64 20, .slice (some ⟨g6, 0, none⟩) 2 2, .int .i64 0, .int .i64 0, .string ⟨#[]⟩] := slot_get e6
      obtain ⟨g7, e7, i7⟩ : NdG 8 0 0 [2, 6] (a.tmps.getD 24 undef) W := hG ⟨14, .data⟩ (by simp) rfl
      have h7 : a.tmps[24]?.getD undef = .agg #[.int .i64 8, .slice (some ⟨g7, 0, none⟩) 2 2, .int .i64 0, .int .i64 0, .string ⟨#[]⟩] := slot_get e7
      obtain ⟨g8, e8, i8⟩ : NdG 16 0 0 [0] (a.tmps.getD 26 undef) W := hG ⟨16, .data⟩ (by simp) rfl
      have h8 : a.tmps[26]?.getD undef = .agg #[.int .i64 16, .slice (some ⟨g8, 0, none⟩) 1 1, .int .i64 0, .int .i64 0, .string ⟨#[]⟩] := slot_get e8
      obtain ⟨g9, e9, i9⟩ : NdG 20 0 0 [0, 8] (a.tmps.getD 28 undef) W := hG ⟨18, .data⟩ (by simp) rfl
      have h9 : a.tmps[28]?.getD undef = .agg #[.int .i64 20, .slice (some ⟨g9, 0, none⟩) 2 2, .int .i64 0, .int .i64 0, .string ⟨#[]⟩] := slot_get e9
      have h10 : a.tmps[29]?.getD undef = .agg #[.int .i64 15, .slice none 0 0, .int .i64 7, .int .i64 3, .string ⟨#[]⟩] := slot_get (hG ⟨19, .data⟩ (by simp) rfl)
      obtain ⟨g11, e11, i11⟩ : NdG 8 0 0 [9, 10] (a.tmps.getD 31 undef) W := hG ⟨21, .data⟩ (by simp) rfl
      have h11 : a.tmps[31]?.getD undef = .agg #[.int .i64 8, .slice (some ⟨g11, 0, none⟩) 2 2, .int .i64 0, .int .i64 0, .string ⟨#[]⟩] := slot_get e11
      have h12 : a.tmps[32]?.getD undef = .agg #[.int .i64 15, .slice none 0 0, .int .i64 3, .int .i64 3, .string ⟨#[]⟩] := slot_get (hG ⟨22, .data⟩ (by simp) rfl)
      obtain ⟨g13, e13, i13⟩ : NdG 21 0 0 [0, 12] (a.tmps.getD 34 undef) W := hG ⟨24, .data⟩ (by simp) rfl
      have h13 : a.tmps[34]?.getD undef = .agg #[.int .i64 21, .slice (some ⟨g13, 0, none⟩) 2 2, .int .i64 0, .int .i64 0, .string ⟨#[]⟩] := slot_get e13
      obtain ⟨g14, e14, i14⟩ : NdG 23 1 0 [0] (a.tmps.getD 36 undef) W := hG ⟨26, .data⟩ (by simp) rfl
      have h14 : a.tmps[36]?.getD undef = .agg #[.int .i64 23, .slice (some ⟨g14, 0, none⟩) 1 1, .int .i64 1, .int .i64 0, .string ⟨#[]⟩] := slot_get e14
      obtain ⟨g15, e15, i15⟩ : NdG 20 0 0 [0, 14] (a.tmps.getD 38 undef) W := hG ⟨28, .data⟩ (by simp) rfl
      have h15 : a.tmps[38]?.getD undef = .agg #[.int .i64 20, .slice (some ⟨g15, 0, none⟩) 2 2, .int .i64 0, .int .i64 0, .string ⟨#[]⟩] := slot_get e15
      obtain ⟨g16, e16, i16⟩ : NdG 8 0 0 [13, 15] (a.tmps.getD 40 undef) W := hG ⟨30, .data⟩ (by simp) rfl
      have h16 : a.tmps[40]?.getD undef = .agg #[.int .i64 8, .slice (some ⟨g16, 0, none⟩) 2 2, .int .i64 0, .int .i64 0, .string ⟨#[]⟩] := slot_get e16
      go_simp
      exact hK _ _ ⟨_, rfl, won_at (HB.new _ _ _) (i2.below (new_below _ _)) (i3.below (new_below _ _)) (i4.below (new_below _ _)) (i5.below (new_below _ _)) (i6.below (new_below _ _)) (i7.below (new_below _ _)) (i8.below (new_below _ _)) (i9.below (new_below _ _)) (i11.below (new_below _ _)) (i13.below (new_below _ _)) (i14.below (new_below _ _)) (i15.below (new_below _ _)) (i16.below (new_below _ _))⟩ (new_below _ _)
    · obtain ⟨gd, e0, i0⟩ : DcG (a.tmps.getD 10 undef) W := hG ⟨0, .data⟩ (by simp) rfl
      obtain ⟨gn, e1, i1⟩ : NsG woN (a.tmps.getD 41 undef) W := hG ⟨31, .data⟩ (by simp) rfl
      have h0 : a.tmps[10]?.getD undef = .slice (some ⟨gd, 0, none⟩) 14 14 := slot_get e0
      have h1 : a.tmps[41]?.getD undef = .slice (some ⟨gn, 0, none⟩) 17 17 := slot_get e1
      go_simp
      exact hK _ _ ⟨gd, gn, rfl, i0, i1⟩ (Below.refl _ _)
    · go_wp2_with fail
      exact hK _ _ ⟨_, rfl, hW.size, HB.new _ _ _⟩ (new_below _ _)
    · exfalso; revert hi; decide
  · refine arr_at (R := Fin Try.prog _ 34 woD (fun i => SpG W0.heap.size (woS i)) _ _) ?_ ho rfl
    clear ho o
    refine ⟨?_, ?_, ?_, ?_, ?_, ?_, ?_, ?_, ?_, ?_, ?_, ?_, ?_, ?_, ?_, ?_, ?_, ?_, ?_, ?_, ?_, ?_, ?_, ?_, ?_, ?_, ?_, ?_, ?_, ?_, ?_, ?_, ?_, ?_, ?_, trivial⟩
    all_goals intro hi
    · exfalso; clear hx; revert hi; decide
    · exfalso; clear hx; revert hi; decide
    · exfalso; clear hx; revert hi; decide
    · exfalso; clear hx; revert hi; decide
    · exfalso; clear hx; revert hi; decide
    · exfalso; clear hx; revert hi; decide
    · exfalso; clear hx; revert hi; decide
    · exfalso; clear hx; revert hi; decide
    · exfalso; clear hx; revert hi; decide
    · exfalso; clear hx; revert hi; decide
    · exfalso; clear hx; revert hi; decide
    · exfalso; clear hx; revert hi; decide
    · exfalso; clear hx; revert hi; decide
    · exfalso; clear hx; revert hi; decide
    · exfalso; clear hx; revert hi; decide
    · exfalso; clear hx; revert hi; decide
    · exfalso; clear hx; revert hi; decide
    · exfalso; clear hx; revert hi; decide
    · exfalso; clear hx; revert hi; decide
    · exfalso; clear hx; revert hi; decide
    · exfalso; clear hx; revert hi; decide
    · exfalso; clear hx; revert hi; decide
    · exfalso; clear hx; revert hi; decide
    · exfalso; clear hx; revert hi; decide
    · exfalso; clear hx; revert hi; decide
    · exfalso; clear hx; revert hi; decide
    · exfalso; clear hx; revert hi; decide
    · exfalso; clear hx; revert hi; decide
    · exfalso; clear hx; revert hi; decide
    · exfalso; clear hx; revert hi; decide
    · exfalso; clear hx; revert hi; decide
    · exfalso; clear hx; revert hi; decide
    · exfalso; clear hx; revert hi; decide
    · exfalso; clear hx; revert hi; decide
    · intro vs W hW hG
      have e : puts ⟨#[.slice A zl c, undef, .bool false, .pointer (some ⟨gm, 0, none⟩), .pointer (some ⟨gq, 0, none⟩), undef, undef, undef, .agg #[.int .i64 9, .slice none 0 0, .int .i64 0, .int .i64 0, .string ⟨#[118]⟩], .agg #[.int .i64 9, .slice none 0 0, .int .i64 0, .int .i64 0, .string ⟨#[119]⟩], undef, undef, undef, undef, undef, undef, undef, undef, undef, undef, undef, undef, undef, undef, undef, undef, undef, undef, undef, undef, undef, undef, undef, undef, undef, undef, undef, undef, undef, undef, undef, undef, undef, undef, undef, undef, undef, undef, undef, undef, undef, undef, undef, undef, undef, undef, undef, undef, undef, undef, undef, undef, undef, undef, undef, undef, undef, undef, undef, undef, undef, undef, undef, undef, undef, undef, undef, undef, undef, undef], []⟩ woD vs 34 = ⟨#[.slice A zl c, undef, .bool false, .pointer (some ⟨gm, 0, none⟩), .pointer (some ⟨gq, 0, none⟩), vs 33, undef, undef, .agg #[.int .i64 9, .slice none 0 0, .int .i64 0, .int .i64 0, .string ⟨#[118]⟩], .agg #[.int .i64 9, .slice none 0 0, .int .i64 0, .int .i64 0, .string ⟨#[119]⟩], vs 0, vs 1, vs 2, vs 3, vs 4, vs 5, vs 6, vs 7, vs 8, vs 9, vs 10, vs 11, vs 12, vs 13, vs 14, vs 15, vs 16, vs 17, vs 18, vs 19, vs 20, vs 21, vs 22, vs 23, vs 24, vs 25, vs 26, vs 27, vs 28, vs 29, vs 30, vs 31, vs 32, undef, undef, undef, undef, undef, undef, undef, undef, undef, undef, undef, undef, undef, undef, undef, undef, undef, undef, undef, undef, undef, undef, undef, undef, undef, undef, undef, undef, undef, undef, undef, undef, undef, undef, undef, undef, undef], []⟩ := by kernel_rfl
      rw [e]
      clear e hi
      obtain ⟨gd, gn, e18, hd, hn⟩ : AkG woN (vs 32) W := hG 32 (by decide)
      obtain ⟨g, e19, hbg, hg⟩ : PtG W0.heap.size (vs 33) W := hG 33 (by decide)
      have e18 : vs 32 = .agg #[.slice (some ⟨gd, 0, none⟩) 14 14, .slice (some ⟨gn, 0, none⟩) 17 17, .slice none 0 0] := e18
      rw [e18, e19]
      have HG := Lib.hid hg
      obtain ⟨a0, a1, a2, f0, f1, f2⟩ := HG.out.three
      have HB1 : Hid (Below w.heap.size w (((W.setCell ⟨g, 0, none⟩ (.slice (some ⟨gd, 0, none⟩) 14 14)).setCell ⟨g, 1, none⟩ (.slice (some ⟨gn, 0, none⟩) 17 17)).setCell ⟨g, 2, none⟩ (.slice none 0 0))) := Lib.hid (bw_far (below_after BM.out hW) (Nat.le_trans BM.out.size hbg) (far3 _ _ _ _ _))
      have HD1 : Hid (DsAt (((W.setCell ⟨g, 0, none⟩ (.slice (some ⟨gd, 0, none⟩) 14 14)).setCell ⟨g, 1, none⟩ (.slice (some ⟨gn, 0, none⟩) 17 17)).setCell ⟨g, 2, none⟩ (.slice none 0 0)) (some ⟨gd, 0, none⟩) dqs) := Lib.hid (((gx_refl g W).far (far3 _ _ _ _ _)).ds hg hd)
      have HN1 : Hid (NsAt (((W.setCell ⟨g, 0, none⟩ (.slice (some ⟨gd, 0, none⟩) 14 14)).setCell ⟨g, 1, none⟩ (.slice (some ⟨gn, 0, none⟩) 17 17)).setCell ⟨g, 2, none⟩ (.slice none 0 0)) (some ⟨gn, 0, none⟩) woN) := Lib.hid (((gx_refl g W).far (far3 _ _ _ _ _)).ns hg hn)
      have HG1 : Hid (HB (((W.setCell ⟨g, 0, none⟩ (.slice (some ⟨gd, 0, none⟩) 14 14)).setCell ⟨g, 1, none⟩ (.slice (some ⟨gn, 0, none⟩) 17 17)).setCell ⟨g, 2, none⟩ (.slice none 0 0)) g 30 #[.slice (some ⟨gd, 0, none⟩) 14 14, .slice (some ⟨gn, 0, none⟩) 17 17, .slice none 0 0]) := Lib.hid (hb_set3 hg)
      clear hd hn hG hg hW hbg BM HM HQ e18 e19
      go_wp2_with fail
      generalize (((W.setCell ⟨g, 0, none⟩ (.slice (some ⟨gd, 0, none⟩) 14 14)).setCell ⟨g, 1, none⟩ (.slice (some ⟨gn, 0, none⟩) 17 17)).setCell ⟨g, 2, none⟩ (.slice none 0 0)) = X1 at *
      clear HG a0 a1 a2 f0 f1 f2 W0
      have KA : Hid (∀ V, Below X1.heap.size X1 V → ArE g (.slice (some ⟨gd, 0, none⟩) 14 14) (.slice (some ⟨gn, 0, none⟩) 17 17) (.slice none 0 0) V) := Lib.hid (fun V k => ⟨(HG1.out.below k).cell 0, (HG1.out.below k).cell 1, (HG1.out.below k).cell 2⟩)
      have DR : Hid (Below X1.heap.size X1 X1.drew) := Lib.hid (Below.refl _ _).drew
      have XV : Hid (∀ (V : World) (Am : Option Addr) (mc : Nat) (ms : List Mg), Below X1.heap.size X1 V → ms.length = 14 → 14 ≤ mc → mc ≤ maxLen → MsAt V Am ms → (∀ i, i < 14 → mcF dqs ms i = 0) → (∀ q ∈ ms, q.wf) → Calls Try.prog 7 #[.agg #[.slice (some ⟨gd, 0, none⟩) 14 14, .slice (some ⟨gn, 0, none⟩) 17 17, .slice none 0 0], .agg #[.slice Am 14 mc]] V (SevQ V)) := Lib.hid (fun V Am mc ms k q1 q2 q3 q4 q5 q6 => by
        obtain ⟨vs, hv, hl, h9⟩ := wo_last (world_zero wo_ak q1 q5)
        have := valued_ok dqs woN [] ms (some ⟨gd, 0, none⟩) (some ⟨gn, 0, none⟩) none Am 14 17 0 mc V ⟨Nat.le_refl _, by decide, Nat.le_refl _, by decide, Nat.zero_le _, trivial, by rw [q1]; exact q2, q3, HD1.out.below k, HN1.out.below k, is_nil _ _, q4, q6⟩ vs (by unfold mvR; rw [if_pos (world_zero wo_ak q1 q5)]; exact hv) hl
        rw [q1] at this
        exact this.mono fun e w' hx => sev_of hl h9 hx)
      clear HD1 HN1
      go_region_held3 (fun V => ArE g (.slice (some ⟨gd, 0, none⟩) 14 14) (.slice (some ⟨gn, 0, none⟩) 17 17) (.slice none 0 0) V)
        ((first | (with_reducible exact KA.out _ DR.out) | (with_reducible exact KA.out _ F3.out) | (with_reducible exact KA.out _ F4.out)))
        (first
          | (go_at_call 8; refine (XW.out _ (bw_below (Nat.le_refl _) HB1.out DR.out)).mono ?_; rintro e w3 ⟨Am, mc, ms, rfl, hml, hm1, hm2, hms, hmg, hmw, hb3⟩; have F3 := Lib.hid (below_after DR.out hb3); have MS3 := hms; have MG3 := hmg; have MW3 := hmw; have HML := Lib.hid hml; clear hb3 hms hmg hmw hml)
          | (go_at_call 7; refine (XV.out _ Am mc ms F3.out HML.out hm1 hm2 MS3.out MG3.out MW3.out).mono ?_; rintro e w4 ⟨b4, c4, rfl, c7, c11, c16, l9, hb4⟩; have F4 := Lib.hid (below_after F3.out hb4); clear hb4))
      all_goals
        have B4 := Lib.hid (bw_below (Nat.le_refl _) HB1.out F4.out)
        clear XV XW KA DR HB1 HG1
        go_wp2_with fail
        go_ret
        exact ⟨rfl, B4.out⟩
  · exfalso
    rcases lt34 hi with rfl | rfl | rfl | rfl | rfl | rfl | rfl | rfl | rfl | rfl | rfl | rfl | rfl | rfl | rfl | rfl | rfl | rfl | rfl | rfl | rfl | rfl | rfl | rfl | rfl | rfl | rfl | rfl | rfl | rfl | rfl | rfl | rfl | rfl <;> exact absurd h (by decide)
end Go.Proofs.Ytibpgcdaommjeaa
