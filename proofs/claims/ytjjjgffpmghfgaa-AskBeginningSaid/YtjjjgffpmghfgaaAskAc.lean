/-
  Asks: ask.Check; lists that are the same; the laws that compare.
-/
import Derived.Test.YtjjjgffpmghfgaaAskU
namespace Go.Proofs.Ytjjjgffpmghfgaa
open Go.RowKit

theorem check_any (qs : List Dc) (ns : List Nd) (hs : List Int) (Ad An Ah : Option Addr) (dc nc hc : Nat) (h1 : qs.length ≤ dc) (h2 : dc ≤ maxLen) (h3 : ns.length ≤ maxLen) (h4 : hs.length ≤ maxLen) (w : World) (hd : DsAt w Ad qs) (hn : NsAt w An ns) (hh : Is w Ah hs) :
    Calls Try.prog 29 #[.agg #[.slice Ad qs.length dc, .slice An ns.length nc, .slice Ah hs.length hc]] w fun e w' => e = .returned (.agg #[.int .i64 (akC qs ns hs), .int .i64 (akA qs ns hs)]) ∧ Below w.heap.size w w' := by
  have N1 : Hid (HB ((w.alloc (.cells #[.slice Ad qs.length dc, .slice An ns.length nc, .slice Ah hs.length hc] 26)).alloc (.cells #[.int .i64 0, .int .i64 0] 29)) (w.heap.size + 1) 29 #[.int .i64 0, .int .i64 0]) := Lib.hid (HB.new1 _ _ _ _)
  have G1 : Hid (Below w.heap.size w ((w.alloc (.cells #[.slice Ad qs.length dc, .slice An ns.length nc, .slice Ah hs.length hc] 26)).alloc (.cells #[.int .i64 0, .int .i64 0] 29))) := Lib.hid (by go_grown)
  have X := Lib.hid (sorts_any qs ns hs Ad An Ah dc nc hc h1 h2 h3 h4 _ (hd.below G1.out) (hn.below G1.out) (hh.below G1.out))
  clear hd hn hh h1 h2 h3 h4
  unfold GivesS at X
  generalize akL qs ns hs = L at *
  generalize akC qs ns hs = C at *
  generalize akA qs ns hs = A at *
  generalize qs.length = ql at *
  generalize ns.length = nl at *
  generalize hs.length = hl at *
  go_enter Try.func29, Try.ntmps29
  go_wp2_with fail
  refine X.out.mono ?_
  rintro e w1 ⟨S, sc, rfl, _, _, _, hb1⟩
  have G2 : Hid (Below w.heap.size w w1) := bw_below (Nat.le_refl _) G1.out hb1
  have N2 := Lib.hid (N1.out.below hb1)
  clear hb1 X N1 G1
  obtain ⟨r0, r1, r2, r3⟩ := N2.out.two
  have lr := N2.out.lt
  have RR := (hb_set2 (n := .int .i64 C) (d := .int .i64 A) N2.out).alloc (.cells #[.int .i64 C, .int .i64 A] 29)
  have FF := bw_far G2.out (Nat.le_succ _) (far2 w1 (w.heap.size + 1) (.int .i64 C) (.int .i64 A))
  obtain ⟨y0, y1, _, _⟩ := RR.two
  go_wp2_with fail
  refine bodyPost_ret (v := .agg #[.int .i64 C, .int .i64 A]) (by simp [results, Try.results29, go_sem, y0, y1]) rfl ⟨rfl, Below.alloc FF FF.size _⟩
set_option maxHeartbeats 1000000 in
theorem ints_same (xs : List Int) (A B : Option Addr) (c d : Nat) (hl : xs.length ≤ maxLen) (w : World) (ha : Is w A xs) (hb : Is w B xs) :
    Calls Try.prog 11 #[.slice A xs.length c, .slice B xs.length d] w fun e w' => e = .returned (.bool true) ∧ Below w.heap.size w w' := by
  have HA := Lib.hid ha
  have HB' := Lib.hid hb
  unfold maxLen at hl
  generalize hL : xs.length = L at *
  have HL := Lib.hid hL
  clear ha hb hL
  go_enter Try.func11, Try.ntmps11
  go_wp2_with fail
  go_loopw [5] (fun k wr => ∃ i : Nat, i ≤ L ∧ k = .int .i64 i ∧ Hid (∃ n, wr = w.drewN n)) (fun k _ => L - (intOf k).toNat)
  case atStart => exact ⟨0, by omega, rfl, 0, rfl⟩
  case round =>
    obtain ⟨i, hi, rfl, HW⟩ := hrel
    obtain ⟨n, hn⟩ := HW.out
    subst hn
    by_cases hlt : i < L
    · have t3 : decide ((i : Int) < L) = true := by simpa using hlt
      obtain ⟨b1, o1, rfl, _, c0⟩ := is_at (i := i) HA.out (by rw [HL.out]; exact hlt)
      obtain ⟨b2, o2, rfl, _, d0⟩ := is_at (i := i) HB'.out (by rw [HL.out]; exact hlt)
      generalize nth xs i = x at *
      go_wp2_with fail
      go_quiet (fail)
      go_wp2_with fail
      go_round
      case rel => exact ⟨i + 1, by omega, by go_num, Lib.hid ⟨n + nq, by simp⟩⟩
      case measure => simp [intOf]; omega
    · obtain rfl : i = L := by omega
      have t3 : decide ((i : Int) < i) = false := by simp
      go_wp2_with fail
      go_ret
      exact ⟨rfl, below_dn (Below.refl _ _) _⟩
end Go.Proofs.Ytjjjgffpmghfgaa
