/-
  Asks: how many kids a node has, and its sort, as the program tells them.
-/
import Derived.Test.YtaodebpogibimaaGreatAskM
import Derived.Test.YtaodebpogibimaaGreatAskN
namespace Go.Proofs.YtaodebpogibimaaGreat
open Go.RowKit

theorem op_cases {op : Int} (h1 : 1 ≤ op) (h2 : op ≤ 25) : op = 1 ∨ op = 2 ∨ op = 3 ∨ op = 4 ∨ op = 5 ∨ op = 6 ∨ op = 7 ∨ op = 8 ∨ op = 9 ∨ op = 10 ∨ op = 11 ∨ op = 12 ∨ op = 13 ∨ op = 14 ∨ op = 15 ∨ op = 16 ∨ op = 17 ∨ op = 18 ∨ op = 19 ∨ op = 20 ∨ op = 21 ∨ op = 22 ∨ op = 23 ∨ op = 24 ∨ op = 25 := by omega
set_option maxHeartbeats 2000000 in
theorem kidcount_any (op : Int) (h1 : 1 ≤ op) (h2 : op ≤ 25) (w : World) : Calls Tryz.prog 71 #[.int .i64 op] w fun e w' => e = .returned (.int .i64 (kcN op)) ∧ w = w' := by
  rcases op_cases h1 h2 with rfl | rfl | rfl | rfl | rfl | rfl | rfl | rfl | rfl | rfl | rfl | rfl | rfl | rfl | rfl | rfl | rfl | rfl | rfl | rfl | rfl | rfl | rfl | rfl | rfl
  · rw [show kcN 1 = 0 by decide]
    clear h1 h2
    go_enter Tryz.func71, Tryz.ntmps71
    go_wp2
    go_ret
    exact ⟨rfl, rfl⟩
  · rw [show kcN 2 = 0 by decide]
    clear h1 h2
    go_enter Tryz.func71, Tryz.ntmps71
    go_wp2
    go_ret
    exact ⟨rfl, rfl⟩
  · rw [show kcN 3 = 1 by decide]
    clear h1 h2
    go_enter Tryz.func71, Tryz.ntmps71
    go_wp2
    go_ret
    exact ⟨rfl, rfl⟩
  · rw [show kcN 4 = -1 by decide]
    clear h1 h2
    go_enter Tryz.func71, Tryz.ntmps71
    go_wp2
    go_ret
    exact ⟨rfl, rfl⟩
  · rw [show kcN 5 = -1 by decide]
    clear h1 h2
    go_enter Tryz.func71, Tryz.ntmps71
    go_wp2
    go_ret
    exact ⟨rfl, rfl⟩
  · rw [show kcN 6 = 2 by decide]
    clear h1 h2
    go_enter Tryz.func71, Tryz.ntmps71
    go_wp2
    go_ret
    exact ⟨rfl, rfl⟩
  · rw [show kcN 7 = 3 by decide]
    clear h1 h2
    go_enter Tryz.func71, Tryz.ntmps71
    go_wp2
    go_ret
    exact ⟨rfl, rfl⟩
  · rw [show kcN 8 = 2 by decide]
    clear h1 h2
    go_enter Tryz.func71, Tryz.ntmps71
    go_wp2
    go_ret
    exact ⟨rfl, rfl⟩
  · rw [show kcN 9 = 2 by decide]
    clear h1 h2
    go_enter Tryz.func71, Tryz.ntmps71
    go_wp2
    go_ret
    exact ⟨rfl, rfl⟩
  · rw [show kcN 10 = 0 by decide]
    clear h1 h2
    go_enter Tryz.func71, Tryz.ntmps71
    go_wp2
    go_ret
    exact ⟨rfl, rfl⟩
  · rw [show kcN 11 = -1 by decide]
    clear h1 h2
    go_enter Tryz.func71, Tryz.ntmps71
    go_wp2
    go_ret
    exact ⟨rfl, rfl⟩
  · rw [show kcN 12 = 1 by decide]
    clear h1 h2
    go_enter Tryz.func71, Tryz.ntmps71
    go_wp2
    go_ret
    exact ⟨rfl, rfl⟩
  · rw [show kcN 13 = 2 by decide]
    clear h1 h2
    go_enter Tryz.func71, Tryz.ntmps71
    go_wp2
    go_ret
    exact ⟨rfl, rfl⟩
  · rw [show kcN 14 = 2 by decide]
    clear h1 h2
    go_enter Tryz.func71, Tryz.ntmps71
    go_wp2
    go_ret
    exact ⟨rfl, rfl⟩
  · rw [show kcN 15 = 0 by decide]
    clear h1 h2
    go_enter Tryz.func71, Tryz.ntmps71
    go_wp2
    go_ret
    exact ⟨rfl, rfl⟩
  · rw [show kcN 16 = 1 by decide]
    clear h1 h2
    go_enter Tryz.func71, Tryz.ntmps71
    go_wp2
    go_ret
    exact ⟨rfl, rfl⟩
  · rw [show kcN 17 = 2 by decide]
    clear h1 h2
    go_enter Tryz.func71, Tryz.ntmps71
    go_wp2
    go_ret
    exact ⟨rfl, rfl⟩
  · rw [show kcN 18 = 2 by decide]
    clear h1 h2
    go_enter Tryz.func71, Tryz.ntmps71
    go_wp2
    go_ret
    exact ⟨rfl, rfl⟩
  · rw [show kcN 19 = 2 by decide]
    clear h1 h2
    go_enter Tryz.func71, Tryz.ntmps71
    go_wp2
    go_ret
    exact ⟨rfl, rfl⟩
  · rw [show kcN 20 = 2 by decide]
    clear h1 h2
    go_enter Tryz.func71, Tryz.ntmps71
    go_wp2
    go_ret
    exact ⟨rfl, rfl⟩
  · rw [show kcN 21 = 2 by decide]
    clear h1 h2
    go_enter Tryz.func71, Tryz.ntmps71
    go_wp2
    go_ret
    exact ⟨rfl, rfl⟩
  · rw [show kcN 22 = 2 by decide]
    clear h1 h2
    go_enter Tryz.func71, Tryz.ntmps71
    go_wp2
    go_ret
    exact ⟨rfl, rfl⟩
  · rw [show kcN 23 = 1 by decide]
    clear h1 h2
    go_enter Tryz.func71, Tryz.ntmps71
    go_wp2
    go_ret
    exact ⟨rfl, rfl⟩
  · rw [show kcN 24 = 2 by decide]
    clear h1 h2
    go_enter Tryz.func71, Tryz.ntmps71
    go_wp2
    go_ret
    exact ⟨rfl, rfl⟩
  · rw [show kcN 25 = 3 by decide]
    clear h1 h2
    go_enter Tryz.func71, Tryz.ntmps71
    go_wp2
    go_ret
    exact ⟨rfl, rfl⟩
theorem sortof_any (op n d : Int) (nm : ByteArray) (A0 : Option Addr) (k0 c0 : Nat) (ds : Int) (ks : List Int) (A : Option Addr) (c : Nat) (hl : ks.length ≤ c) (hcm : c ≤ maxLen) (w : World) (h : Is w A ks) (h1 : 1 ≤ op) (h2 : op ≤ 25) (hk : op ≠ 9 → kcN op = -1 ∨ kcN op = ks.length) (hd : op = 15 → -1000 ≤ d ∧ d ≤ 1000) :
    Calls Tryz.prog 74 #[.agg #[.int .i64 op, .slice A0 k0 c0, .int .i64 n, .int .i64 d, .string nm], .int .i64 ds, .slice A ks.length c] w fun e w' => e = .returned (.int .i64 (srt op d ds ks)) ∧ Below w.heap.size w w' := by
  rcases op_cases h1 h2 with rfl | rfl | rfl | rfl | rfl | rfl | rfl | rfl | rfl | rfl | rfl | rfl | rfl | rfl | rfl | rfl | rfl | rfl | rfl | rfl | rfl | rfl | rfl | rfl | rfl
  · exact so43_1 n d nm A0 k0 c0 ds ks A c hl hcm w h
  · exact so43_2 n d nm A0 k0 c0 ds ks A c hl hcm w h
  · exact so43_3 n d nm A0 k0 c0 ds ks A c hl hcm w h
  · exact so43_4 n d nm A0 k0 c0 ds ks A c hl hcm w h
  · exact so43_5 n d nm A0 k0 c0 ds ks A c hl hcm w h
  · exact so43_6 n d nm A0 k0 c0 ds ks A c hl hcm w h
  · exact so43_7 n d nm A0 k0 c0 ds ks A c hl hcm w h (by have z := hk (by decide); rw [show kcN 7 = 3 by decide] at z; omega)
  · exact so43_8 n d nm A0 k0 c0 ds ks A c hl hcm w h (by have z := hk (by decide); rw [show kcN 8 = 2 by decide] at z; omega)
  · exact so43_9 n d nm A0 k0 c0 ds ks A c hl hcm w h
  · exact so43_10 n d nm A0 k0 c0 ds ks A c hl hcm w h
  · exact so43_11 n d nm A0 k0 c0 ds ks A c hl hcm w h
  · exact so43_12 n d nm A0 k0 c0 ds ks A c hl hcm w h
  · exact so43_13 n d nm A0 k0 c0 ds ks A c hl hcm w h
  · exact so43_14 n d nm A0 k0 c0 ds ks A c hl hcm w h
  · exact so43_15 n d nm A0 k0 c0 ds ks A c hl hcm w h (hd rfl).1 (hd rfl).2
  · exact so43_16 n d nm A0 k0 c0 ds ks A c hl hcm w h (by have z := hk (by decide); rw [show kcN 16 = 1 by decide] at z; omega)
  · exact so43_17 n d nm A0 k0 c0 ds ks A c hl hcm w h (by have z := hk (by decide); rw [show kcN 17 = 2 by decide] at z; omega)
  · exact so43_18 n d nm A0 k0 c0 ds ks A c hl hcm w h (by have z := hk (by decide); rw [show kcN 18 = 2 by decide] at z; omega)
  · exact so43_19 n d nm A0 k0 c0 ds ks A c hl hcm w h (by have z := hk (by decide); rw [show kcN 19 = 2 by decide] at z; omega)
  · exact so43_20 n d nm A0 k0 c0 ds ks A c hl hcm w h (by have z := hk (by decide); rw [show kcN 20 = 2 by decide] at z; omega)
  · exact so43_21 n d nm A0 k0 c0 ds ks A c hl hcm w h (by have z := hk (by decide); rw [show kcN 21 = 2 by decide] at z; omega)
  · exact so43_22 n d nm A0 k0 c0 ds ks A c hl hcm w h (by have z := hk (by decide); rw [show kcN 22 = 2 by decide] at z; omega)
  · exact so43_23 n d nm A0 k0 c0 ds ks A c hl hcm w h (by have z := hk (by decide); rw [show kcN 23 = 1 by decide] at z; omega)
  · exact so43_24 n d nm A0 k0 c0 ds ks A c hl hcm w h (by have z := hk (by decide); rw [show kcN 24 = 2 by decide] at z; omega)
  · exact so43_25 n d nm A0 k0 c0 ds ks A c hl hcm w h (by have z := hk (by decide); rw [show kcN 25 = 3 by decide] at z; omega)
end Go.Proofs.YtaodebpogibimaaGreat
