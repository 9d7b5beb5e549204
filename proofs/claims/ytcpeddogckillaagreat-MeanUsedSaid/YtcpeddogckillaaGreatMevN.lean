/-
  What is used is all that matters: of an ask's values in two worlds.
-/
import Derived.Test.YtcpeddogckillaaGreatAskBa
import Derived.Test.YtcpeddogckillaaGreatMevM
import Derived.Test.YtcpeddogckillaaGreatMevI
import Derived.Test.YtcpeddogckillaaGreatMevG
namespace Go.Proofs.YtcpeddogckillaaGreat
open Go.RowKit

theorem evv_nine {op s N D : Int} {m m' : Mg} {kids : List Vl} (h : op ≠ 9) : evV op s N D m kids = evV op s N D m' kids := by
  unfold evV evF
  simp only [h, if_false]
theorem any_ext {f g : Int → Bool} : ∀ {l : List Int}, (∀ x ∈ l, f x = g x) → l.any f = l.any g := by
  intro l
  induction l with
  | nil => intro _; rfl
  | cons a r ih =>
    intro h
    rw [List.any_cons, List.any_cons, h a (by simp), ih (fun x hx => h x (by simp [hx]))]
theorem used_same {ns : List Nd} {hs : List Int} {ms ms' : List Mg} {vs ws : List Vl} (hkk : ∀ m, m < ns.length → kIn m (nn ns m).kids = true)
    (hv : valsE (evOf dqs ns ms) ns.length = .ok vs) (hw : valsE (evOf dqs ns ms') ns.length = .ok ws) (hm : ∀ j, j < ns.length → Rch ns hs j → (nn ns j).op = 9 → mn ms (fdI dqs (nn ns j).name) = mn ms' (fdI dqs (nn ns j).name)) :
    ∀ n j, j < n → j < ns.length → Rch ns hs j → vn vs j = vn ws j := by
  intro n
  induction n with
  | zero => intro j h; omega
  | succ n ih =>
    intro j hj hl hr
    have kk : ∀ k ∈ (nn ns j).kids, 0 ≤ k ∧ k < j := fun k hk => by
      have := List.all_eq_true.1 (hkk j hl) k hk
      simpa using this
    rw [node_val hv hl kk, node_val hw hl kk]
    have e : (nn ns j).kids.map (fun k => vn vs k.toNat) = (nn ns j).kids.map fun k => vn ws k.toNat := List.map_congr_left fun k hk => by
      have h1 := kk k hk
      obtain ⟨i, hi, rfl⟩ := List.getElem_of_mem hk
      rw [← nth_of hi] at h1 ⊢
      exact ih _ (by omega) (by omega) (.kid j i hr hl hi)
    rw [e]
    by_cases h9 : (nn ns j).op = 9
    · rw [hm j hl hr h9]
    · rw [evv_nine (m := mn ms (fdI dqs (nn ns j).name)) (m' := mn ms' (fdI dqs (nn ns j).name)) h9]
theorem used_holds {ns : List Nd} {ss hs : List Int} {ms ms' : List Mg} (hok : Ok ns ss) (h200 : ns.length ≤ 200) (hh2 : hs.length ≤ 200) (hho : ∀ i, i < hs.length → 0 ≤ nth hs i ∧ nth hs i < ss.length ∧ nth ss (nth hs i).toNat = 1)
    (h1 : ms.length = 14) (h2 : ms'.length = 14) (g1 : ∀ i, i < 14 → mcF dqs ms i = 0) (g2 : ∀ i, i < 14 → mcF dqs ms' i = 0)
    (hm : ∀ j, j < ns.length → Rch ns hs j → (nn ns j).op = 9 → mn ms (fdI dqs (nn ns j).name) = mn ms' (fdI dqs (nn ns j).name)) :
    (errC (mvR dqs ns hs ms) = 0 ∨ errC (mvR dqs ns hs ms) = 10) ∧ (errC (mvR dqs ns hs ms') = 0 ∨ errC (mvR dqs ns hs ms') = 10) ∧ (errC (mvR dqs ns hs ms) = 0 → errC (mvR dqs ns hs ms') = 0 → hoR (mvR dqs ns hs ms) hs = hoR (mvR dqs ns hs ms') hs) := by
  have z1 := world_fine (ms := ms) hok h200 hh2 hho h1 g1
  have z2 := world_fine (ms := ms') hok h200 hh2 hho h2 g2
  have hl := ok_len hok
  obtain ⟨_, _, hkk, _⟩ := ak_sound (ask_fine hok h200 hh2 hho).1
  have e1 : mvR dqs ns hs ms = valsE (evOf dqs ns ms) ns.length := if_pos z1
  have e2 : mvR dqs ns hs ms' = valsE (evOf dqs ns ms') ns.length := if_pos z2
  rw [e1, e2]
  cases hv : valsE (evOf dqs ns ms) ns.length with
  | error e =>
    have t := vals_ten (nd_known z1).2 (Nat.le_refl _) hv
    refine ⟨.inr t, ?_, fun z => ?_⟩
    · cases hw : valsE (evOf dqs ns ms') ns.length with
      | error e' => exact .inr (vals_ten (nd_known z2).2 (Nat.le_refl _) hw)
      | ok ws => exact .inl rfl
    · have z' : e.1 = 0 := z
      omega
  | ok vs =>
    cases hw : valsE (evOf dqs ns ms') ns.length with
    | error e' =>
      have t := vals_ten (nd_known z2).2 (Nat.le_refl _) hw
      refine ⟨.inl rfl, .inr t, fun _ z => ?_⟩
      have z' : e'.1 = 0 := z
      omega
    | ok ws =>
      refine ⟨.inl rfl, .inl rfl, fun _ _ => ?_⟩
      have key := used_same (hs := hs) (fun m hm' => (hkk m hm').1) hv hw hm ns.length
      unfold hoR
      dsimp only
      rw [any_ext (f := fun n => (vn vs n.toNat).num == 0) (g := fun n => (vn ws n.toNat).num == 0) fun x hx => by
        obtain ⟨i, hi, rfl⟩ := List.getElem_of_mem hx
        rw [← nth_of hi]
        have := hho i hi
        rw [key _ (by omega) (by omega) (.hold i hi)]]
end Go.Proofs.YtcpeddogckillaaGreat
