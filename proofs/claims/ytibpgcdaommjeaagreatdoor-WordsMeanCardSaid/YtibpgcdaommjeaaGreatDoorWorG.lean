/-
  Words: words.Do, of any operation.
-/
import Derived.Test.YtibpgcdaommjeaaGreatDoorWorF
namespace Go.Proofs.YtibpgcdaommjeaaGreatDoor.Wds
open Go.RowKit

theorem two_at {w : World} {A : Option Addr} {xs : List Int} (h : Is w A xs) (hl : (xs.length : Int) = 2) : xs.length = 2 ∧ ∃ b o, A = some ⟨b, o, none⟩ ∧ b < w.heap.size ∧ w.cell? ⟨b, o, none⟩ = some (.int .i64 (nth xs 0)) ∧ w.cell? ⟨b, o + 1, none⟩ = some (.int .i64 (nth xs 1)) := by
  have hl2 : xs.length = 2 := by omega
  obtain ⟨b, o, e, l, c⟩ := h (by omega)
  exact ⟨hl2, b, o, e, l, by simpa using c 0 (by omega), c 1 (by omega)⟩
theorem one_at {w : World} {A : Option Addr} {xs : List Int} (h : Is w A xs) (hl : (xs.length : Int) = 1) : xs.length = 1 ∧ ∃ b o, A = some ⟨b, o, none⟩ ∧ b < w.heap.size ∧ w.cell? ⟨b, o, none⟩ = some (.int .i64 (nth xs 0)) := by
  have hl2 : xs.length = 1 := by omega
  obtain ⟨b, o, e, l, c⟩ := h (by omega)
  exact ⟨hl2, b, o, e, l, by simpa using c 0 (by omega)⟩
theorem below_drewN (w : World) (k : Nat) : Below w.heap.size w (w.drewN k) := bw_dn (Below.refl _ _) k
set_option maxRecDepth 100000 in
set_option maxHeartbeats 2000000 in
theorem do_any (op z M n : Int) (xs : List Int) (A : Option Addr) (c : Nat) (hwf : (Lit.int .i64 op).wf = true) (hz : nwB z = false → Wb z M) (hl : xs.length ≤ maxLen) (w : World) (h : Is w A xs) (ht : TabW w) :
    Calls Tryz.prog 5 #[.int .i64 op, .int .i64 z, .slice A xs.length c, .int .i64 n] w fun e w' => e = .returned (.tuple #[.int .i64 (doR op z M xs n), .agg #[.int .i64 (wfC op z M xs n), .int .i64 (wfA op z M xs)]]) ∧ Below w.heap.size w w' := by
  by_cases hop : op < 15 ∨ 23 < op
  · exact do_none op z M n xs A c hop hwf w
  · have key : ∀ (k : Nat), op = k → wfC op z M xs n = 0 → (xs.length : Int) = arF k ∧ 0 ≤ n ∧ n ≤ moF k M ∧ (∀ j, j < xs.length → 0 ≤ nth xs j ∧ nth xs j ≤ 255) := fun k e hc => by
      obtain ⟨_, o2, o3, o4, o5, o6, _⟩ := wfC_zero hc
      have := (wb_rng (hz o2)).2.2.2
      rw [e] at o3 o6
      exact ⟨o3, o5, o6, fun j hj => by have := noB_bd (o4 j hj); omega⟩
    have : op = 15 ∨ op = 16 ∨ op = 17 ∨ op = 18 ∨ op = 19 ∨ op = 20 ∨ op = 21 ∨ op = 22 ∨ op = 23 := by omega
    rcases this with rfl | rfl | rfl | rfl | rfl | rfl | rfl | rfl | rfl
    · exact do_some 15 (by decide) (by decide) 20 rfl rfl (fun _ _ => by kernel_rfl) z M n xs A c hz hl w h ht (fun hc W hW => (c1_any A xs.length c n W).mono fun e w' ⟨h1, h2⟩ => ⟨h1, by rw [← h2]; exact Below.refl _ _⟩)
    · exact do_some 16 (by decide) (by decide) 21 rfl rfl (fun _ _ => by kernel_rfl) z M n xs A c hz hl w h ht (fun hc W hW => by
        obtain ⟨a1, _, _, a4⟩ := key 16 rfl hc
        obtain ⟨hl1, b, o, rfl, _, c0⟩ := one_at (h.below hW) a1
        have := a4 0 (by omega)
        exact (c2_any b o xs.length c (nth xs 0) n W (by omega) (by omega) (by omega) c0).mono fun e w' ⟨h1, h2⟩ => ⟨h1, by rw [← h2]; exact Below.refl _ _⟩)
    · exact do_some 17 (by decide) (by decide) 22 rfl rfl (fun _ _ => by kernel_rfl) z M n xs A c hz hl w h ht (fun hc W hW => by
        obtain ⟨a1, _, _, a4⟩ := key 17 rfl hc
        obtain ⟨hl1, b, o, rfl, _, c0, c1⟩ := two_at (h.below hW) a1
        rw [hl1]
        exact (c3_any b o c (nth xs 0) (nth xs 1) n W c0 c1).mono fun e w' ⟨h1, k, h2⟩ => ⟨h1, by rw [h2]; exact below_drewN _ _⟩)
    · exact do_some 18 (by decide) (by decide) 23 rfl rfl (fun _ _ => by kernel_rfl) z M n xs A c hz hl w h ht (fun hc W hW => by
        obtain ⟨a1, _, _, a4⟩ := key 18 rfl hc
        obtain ⟨hl1, b, o, rfl, _, c0, c1⟩ := two_at (h.below hW) a1
        rw [hl1]
        exact (c4_any b o c (nth xs 0) (nth xs 1) n W c0 c1).mono fun e w' ⟨h1, k, h2⟩ => ⟨h1, by rw [h2]; exact below_drewN _ _⟩)
    · exact do_some 19 (by decide) (by decide) 24 rfl rfl (fun _ _ => by kernel_rfl) z M n xs A c hz hl w h ht (fun hc W hW => by
        obtain ⟨a1, _, _, a4⟩ := key 19 rfl hc
        obtain ⟨hl1, b, o, rfl, _, c0, c1⟩ := two_at (h.below hW) a1
        rw [hl1]
        exact (c5_any b o c (nth xs 0) (nth xs 1) n W c0 c1).mono fun e w' ⟨h1, k, h2⟩ => ⟨h1, by rw [h2]; exact below_drewN _ _⟩)
    · exact do_some 20 (by decide) (by decide) 25 rfl rfl (fun _ _ => by kernel_rfl) z M n xs A c hz hl w h ht (fun hc W hW => by
        obtain ⟨a1, _, _, a4⟩ := key 20 rfl hc
        obtain ⟨hl1, b, o, rfl, _, c0, c1⟩ := two_at (h.below hW) a1
        have := a4 0 (by omega)
        have := a4 1 (by omega)
        rw [hl1]
        exact (c6_any b o c (nth xs 0) (nth xs 1) n W (by omega) (by omega) (by omega) (by omega) c0 c1).mono fun e w' ⟨h1, k, h2⟩ => ⟨h1, by rw [h2]; exact below_drewN _ _⟩)
    · exact do_some 21 (by decide) (by decide) 26 rfl rfl (fun _ _ => by kernel_rfl) z M n xs A c hz hl w h ht (fun hc W hW => by
        obtain ⟨a1, _, _, a4⟩ := key 21 rfl hc
        obtain ⟨hl1, b, o, rfl, _, c0, c1⟩ := two_at (h.below hW) a1
        have := a4 0 (by omega)
        have := a4 1 (by omega)
        rw [hl1]
        exact (c7_any b o c (nth xs 0) (nth xs 1) n W (by omega) (by omega) (by omega) (by omega) c0 c1).mono fun e w' ⟨h1, k, h2⟩ => ⟨h1, by rw [h2]; exact below_drewN _ _⟩)
    · exact do_some 22 (by decide) (by decide) 27 rfl rfl (fun _ _ => by kernel_rfl) z M n xs A c hz hl w h ht (fun hc W hW => by
        obtain ⟨a1, _, _, a4⟩ := key 22 rfl hc
        obtain ⟨hl1, b, o, rfl, _, c0, c1⟩ := two_at (h.below hW) a1
        rw [hl1]
        exact (c8_any b o c (nth xs 0) (nth xs 1) n W c0 c1).mono fun e w' ⟨h1, k, h2⟩ => ⟨h1, by rw [h2]; exact below_drewN _ _⟩)
    · exact do_some 23 (by decide) (by decide) 29 rfl rfl (fun _ _ => by kernel_rfl) z M n xs A c hz hl w h ht (fun hc W hW => by
        obtain ⟨a1, a2, a3, a4⟩ := key 23 rfl hc
        obtain ⟨hl1, b, o, rfl, _, c0⟩ := one_at (h.below hW) a1
        have := a4 0 (by omega)
        obtain ⟨k, rfl⟩ : ∃ k : Nat, n = k := ⟨n.toNat, by omega⟩
        have a3' : k ≤ 8 := by have : moF ((23 : Nat) : Int) M = 8 := rfl; omega
        exact (c9_any b o xs.length c (nth xs 0) k W (by omega) (by omega) (by omega) a3' c0).mono fun e w' ⟨h1, h2⟩ => ⟨h1, by rw [← h2]; exact Below.refl _ _⟩)
end Go.Proofs.YtibpgcdaommjeaaGreatDoor.Wds
