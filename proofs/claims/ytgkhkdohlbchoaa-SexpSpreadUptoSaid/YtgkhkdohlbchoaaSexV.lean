/-
  The reference tells that a forest is the same as itself, wherever it lies.
-/
import Derived.Test.YtgkhkdohlbchoaaSexB
import Derived.BigQuiet
namespace Go.Proofs.Ytgkhkdohlbchoaa
open Go.RowKit
theorem At.drewN {f : Fo} {w : World} {A : Option Addr} (h : f.At w A) (n : Nat) : f.At (w.drewN n) A := h.below (below_dn (Below.refl _ _) n)
set_option maxRecDepth 100000 in
set_option maxHeartbeats 4000000 in
theorem same_any (n : Nat) : ∀ (f : Fo) (A A' : Option Addr) (c c' : Nat) (w : World), f.size < n → f.len ≤ maxLen → f.At w A → f.At w A' →
    Calls Try.prog 13 #[.slice A f.len c, .slice A' f.len c'] w fun e w' => e = .returned (.bool true) ∧ ∃ m, w' = w.drewN m := by
  induction n with
  | zero => intro f A A' c c' w hn; omega
  | succ n ih =>
    intro f A A' c c' w hn hl h h'
    have HA := Lib.hid h
    have HA' := Lib.hid h'
    have HN := Lib.hid hn
    have IH := Lib.hid ih
    unfold maxLen at hl
    generalize hL : f.len = L at *
    have HL := Lib.hid hL
    clear h h' hn ih hL
    go_enter Try.func13, Try.ntmps13
    go_wp2_with fail
    go_loopw [5] (fun k wr => ∃ i m : Nat, i ≤ L ∧ k = .int .i64 i ∧ Hid (wr = w.drewN m)) (fun k _ => L - (intOf k).toNat)
    case atStart => exact ⟨0, 0, by omega, rfl, rfl⟩
    case round =>
      obtain ⟨i, m, hi, rfl, HW⟩ := hrel
      by_cases hlt : i < L
      · have hA := At.drewN HA.out m
        have hA' := At.drewN HA'.out m
        rw [← HW.out] at hA hA'
        obtain ⟨b, o, s, l, k, B, d, rfl, hb, hd, c0, c1, c2, hs, hk1, hk2, hk3⟩ := fo_cell hA (by rw [HL.out]; exact hlt)
        obtain ⟨b', o', s', l', k', B', d', rfl, hb', hd', c0', c1', c2', hs', hk1', hk2', hk3'⟩ := fo_cell hA' (by rw [HL.out]; exact hlt)
        rw [hd] at hd'
        injection hd' with e1 e2 e3 _
        subst e1 e2 e3
        have t3 : decide ((i : Int) < L) = true := by simpa using hlt
        have HD := Lib.hid hd
        have HK := Lib.hid hk3
        have HK' := Lib.hid hk3'
        have LK := Lib.hid (Nat.le_trans hk1 hk2)
        clear hd hk3 hk3' hk1 hk2 hk1' hk2' hs hs' hA hA'
        have HC : Hid (∀ q, Calls Try.prog 13 #[.slice B k.len d, .slice B' k.len d'] (wr.drewN q) fun e w' => e = .returned (.bool true) ∧ ∃ m, w' = (wr.drewN q).drewN m) := Lib.hid (fun q => IH.out k B B' d d' _ (by have := (kid_size HD.out).1; have := HN.out; omega) LK.out (At.drewN HK.out q) (At.drewN HK'.out q))
        go_wp2_with fail
        go_quiet ((go_at_call 13; exact Calls.quiet_of (HC.out _)))
        rename_i nq
        go_wp2_with fail
        go_round
        case rel => exact ⟨i + 1, m + nq, by omega, by go_num, by refine Lib.hid ?_; rw [HW.out]; simp⟩
        case measure => simp [intOf]; omega
      · obtain rfl : i = L := by omega
        have t3 : decide ((i : Int) < i) = false := by simp
        go_wp2_with fail
        go_ret
        exact ⟨rfl, m, HW.out⟩
end Go.Proofs.Ytgkhkdohlbchoaa
