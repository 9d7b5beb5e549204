/-
  RowTimes' walk, put together; what a row that is handed in weighs.
-/
import Derived.Test.YtkjollifghmkbaaRowTimA
import Derived.Test.YtkjollifghmkbaaRowU
import Derived.SizedLaws
namespace Go.Proofs.Ytkjollifghmkbaa
open Go.ChangeShapes Go.WideShapes Go.ChangeAt Go.RowKit Go.Joins Go.Deep

theorem tdL_len (kind tt : Int) (xs : List Int) : (tdL kind tt xs).length ≤ 1073741824 := by
  unfold tdL
  by_cases h : chkC kind tt xs 12 = 0
  · rw [if_pos h]
    obtain ⟨_, _, _, _, l, _⟩ := chk_zero h
    have := rK_le xs
    unfold tidyL
    by_cases hz : rK xs = 0
    · rw [if_pos hz]; simp
    · rw [if_neg hz, upL_len, quotL_len]; omega
  · rw [if_neg h]; simp
theorem rowtimes_any (A : Option Addr) (xs : List Int) (L c : Nat) (kind tt b : Int) (hL : L = xs.length) (hc : L ≤ c) (hreach : L * 8 ≤ 140737488351232) (w : World) (h : Is w A xs) :
    Calls Try.prog 6 #[.agg #[.slice A L c, .int .i64 kind, .int .i64 tt], .int .i64 b] w fun e w' => e = .returned (.bool true) ∧ Below w.heap.size w w' := by
  by_cases hb : b < 1 ∨ 1000 < b
  · exact rowtimes_out A L c kind tt b hb w
  · have b1 : 1 ≤ b := by omega
    have b2 : b ≤ 1000 := by omega
    have hl2 : L = (xs.map (b * ·)).length := by rw [List.length_map]; exact hL
    refine rowtimes_in A xs (tdL kind tt xs) (tdL kind (b * tt) (xs.map (b * ·))) L c kind tt b b1 b2 hL hreach w h (tdK kind tt xs) (tdT kind tt xs) (tdK kind (b * tt) (xs.map (b * ·))) (tdT kind (b * tt) (xs.map (b * ·))) (chkC kind tt xs 12) (chkI kind tt xs 12) (chkC kind (b * tt) (xs.map (b * ·)) 12) (chkI kind (b * tt) (xs.map (b * ·)) 12) _
      (fun W hW => tidy_any A xs L c kind tt hL hc W hW) (fun _ W A2 c2 h1 h2 => tidy_any A2 (xs.map (b * ·)) L c2 kind (b * tt) hl2 h1 W h2)
      (fun W A2 A3 c2 c3 h1 h2 => samerow_any A2 A3 _ _ _ c2 _ c3 _ _ _ _ rfl rfl (tdL_len _ _ _) (tdL_len _ _ _) W h1 h2) ?_
    by_cases h0 : chkC kind tt xs 12 = 0
    · right
      by_cases h1 : chkC kind (b * tt) (xs.map (b * ·)) 12 = 0
      · right
        obtain ⟨e1, e2⟩ := tidy_times kind tt xs b (by omega)
        refine ⟨by simpa using h0, by simpa using h1, ?_⟩
        unfold tdL tdK tdT
        simp only [if_pos h0, if_pos h1, e1, e2]
        simp
      · left
        exact ⟨by simpa using h0, by simpa using h1⟩
    · left
      simpa using h0
theorem Try.bytes3 : Try.prog.bytesOf 3 = 8 := by kernel_rfl
set_option maxRecDepth 100000 in
theorem row_reach {H : Type} {enc : TypeId × Value → H} {W : World} {base : Nat} {A : Option Addr} {L c : Nat} {v1 v2 : Value} {d : DataW H} {p : List MemPlace} (hval : Value.okWide Try.prog W .any base 24 (.agg #[.slice A L c, v1, v2])) (h : DataW.Trod enc Try.prog W 0 (fun _ => true) true 24 (.agg #[.slice A L c, v1, v2]) d p)
    {ts : List TypeId} {ds : List (DataW H)} (hsz : (DataW.weightsEach Try.prog ts ds).all (· ≤ reachBytes) = true) {j : Nat} (ht : ts[j]? = some 24) (hd : ds[j]? = some d) : L * 8 ≤ 140737488351232 := by
  obtain ⟨c0, c1, c2, y0, y1, y2, k, e, rfl, _, hy0, hy1, hy2⟩ := open_agg3 Try.underlying24 (by kernel_rfl) Try.cells24 hval h
  simp at e
  obtain ⟨rfl, rfl, rfl⟩ := e
  have hall := List.all_eq_true.1 hsz
  rcases open_ints Try.underlying22 Try.underlying3 Try.cells3 hy0 with ⟨hcs, _⟩ | ⟨a, len, cap, zs, hcs, _, hl, hm, hz, hx, hcell, hw⟩
  · simp at hcs
    omega
  · simp at hcs
    obtain ⟨rfl, rfl, rfl⟩ := hcs
    simp only [if_true] at hz
    have hmem : ((lits (H := H) .i64 (zs.take L)).length + (lits (H := H) .i64 (zs.drop L)).length) * Try.prog.bytesOf 3 ∈ DataW.weightsEach Try.prog ts ds := by
      refine DataW.weights_mem_each ht hd _ ?_
      rw [hx]
      simp only [DataW.weights, Try.underlying24, DataW.weightsEach]
      simp [DataW.weights, Try.underlying22, DataW.weightsEach]
    have := hall _ hmem
    rw [Try.bytes3] at this
    simp [lits, reachBytes] at this
    omega
end Go.Proofs.Ytkjollifghmkbaa
