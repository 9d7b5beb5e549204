/-
  The expressions that the law makes of raw numbers.
-/
import Derived.Test.YtgkhkdohlbchoaaSPA
import Derived.Test.YtgkhkdohlbchoaaSexT
import Derived.Test.YtgkhkdohlbchoaaSexO
namespace Go.Proofs.Ytgkhkdohlbchoaa
open Go.RowKit
def lenOf : Value → Nat
  | .slice _ n _ => n
  | _ => 0
theorem w_ok : okW ⟨#[45, 51, 47, 50]⟩ = true ∧ okW ⟨#[120, 95, 49]⟩ = true ∧ okW ⟨#[43]⟩ = true ∧ okW ⟨#[39, 34]⟩ = true := by decide +kernel
theorem is_cons {w : World} {A : Option Addr} {zs : List Int} (h : Is w A zs) (h0 : 0 < zs.length) : ∃ b o, A = some ⟨b, o, none⟩ ∧ b < w.heap.size ∧ w.cell? ⟨b, o, none⟩ = some (.int .i64 (nth zs 0)) := by
  obtain ⟨b, o, e, hb, hc⟩ := h h0
  exact ⟨b, o, e, hb, by simpa using hc 0 h0⟩
theorem is_tail {w : World} {b o c : Nat} {zs : List Int} (h : Is w (some ⟨b, o, none⟩) zs) (hc : zs.length ≤ c) : Is w (if c = 1 then some ⟨b, o, none⟩ else some ⟨b, o + 1, none⟩) (zs.drop 1) := fun z => by
  simp at z
  obtain ⟨b', o', e, hb, hcell⟩ := h (by omega)
  injection e with e
  injection e with e1 e2 _
  subst e1 e2
  rw [if_neg (by omega)]
  refine ⟨b, o + 1, rfl, hb, fun k hk => ?_⟩
  simp at hk
  rw [show o + 1 + k = o + (k + 1) by omega, hcell (k + 1) (by omega)]
  simp [nth, List.getD_eq_getElem?_getD]
/-- What the law's expressions are. -/
def ThingsQ (A : Option Addr) (zs : List Int) (deep : Nat) (w : World) (e : Ending) (w' : World) : Prop :=
  ∃ (v : Value) (f : Fo) (A' : Option Addr) (c' : Nat) (zs' : List Int), e = .returned (.tuple #[v, .slice A' zs'.length c']) ∧ Rw w' w.heap.size v f ∧ (∀ d, d + deep ≤ 40 → f.bad d = 0) ∧ f.len + zs'.length ≤ zs.length ∧ zs'.length ≤ c' ∧ c' ≤ 9223372036854775807 ∧ (∀ W, Is W A zs → Is W A' zs') ∧ Below w.heap.size w w'
set_option maxRecDepth 100000 in
set_option maxHeartbeats 16000000 in
theorem things_any (deep : Nat) : ∀ (A : Option Addr) (c : Nat) (zs : List Int) (w : World), deep ≤ 40 → zs.length ≤ 2000000 → zs.length ≤ c → c ≤ 9223372036854775807 → Is w A zs → Calls Try.prog 9 #[.slice A zs.length c, .int .i64 deep] w (ThingsQ A zs deep w) := by
  induction deep with
  | zero =>
    intro A c zs w hd hN hc hm hz
    have HZ := Lib.hid hz
    generalize hNN : zs.length = N at *
    have HNN := Lib.hid hNN
    clear hz hNN
    rw [show ((0 : Nat) : Int) = 0 by rfl]
    go_enter Try.func9, Try.ntmps9
    go_wp2_with fail
    go_loopw [0, 6] (fun q v wr => ∃ (A1 : Option Addr) (c1 : Nat) (zs1 : List Int) (f : Fo) (Af : Option Addr) (cf n1 : Nat), q = .slice A1 n1 c1 ∧ v = .slice Af f.len cf ∧ Hid (n1 = zs1.length) ∧ n1 ≤ c1 ∧ c1 ≤ 9223372036854775807 ∧ f.len + n1 ≤ N ∧ Hid (∀ W, Is W A zs → Is W A1 zs1) ∧ Hid (Rw wr w.heap.size (.slice Af f.len cf) f) ∧ Hid (∀ d, d + (0) ≤ 40 → f.bad d = 0) ∧ Hid (Below w.heap.size w wr)) (fun q _ _ => lenOf q)
    case atStart => exact ⟨A, c, zs, .nil, none, 0, N, rfl, rfl, Lib.hid HNN.out.symm, hc, by omega, by simp [Fo.len], fun _ h => h, Rw.nil _ _, fun _ _ => rfl, Below.refl _ _⟩
    case round =>
      obtain ⟨A1, c1, zs1, f, Af, cf, n1, rfl, rfl, HN1, hc1, hm1, hfl, HI, HRW, HB0, HG⟩ := hrel
      by_cases hpos : 0 < n1
      · obtain ⟨b, o, rfl, hb, hcell⟩ := is_cons (HI.out _ (HZ.out.below HG.out)) (by have := HN1.out; omega)
        have hcell0 : wr.cell? ⟨b, o, none⟩ = some (.int .i64 (nth zs1 0)) := hcell
        have HT0 : Hid (∀ W, Is W A zs → Is W (if c1 = 1 then some ⟨b, o, none⟩ else some ⟨b, o + 1, none⟩) (zs1.drop 1)) := Lib.hid (fun W h => is_tail (c := c1) (HI.out W h) (by have := HN1.out; omega))
        have HLT := Lib.hid (show n1 - 1 = (zs1.drop 1).length by have := HN1.out; simp; omega)
        have t1 : (0 : Int) < n1 := by omega
        have HPK : Hid (Calls Try.prog 14 #[.int .i64 (nth zs1 0), .int .i64 5] wr fun e w' => e = .returned (.int .i64 (nth zs1 0 % 5)) ∧ w' = wr) := Lib.hid (picked_any (nth zs1 0) 5 (by omega) (by omega) wr)
        have hr0 : 0 ≤ nth zs1 0 % (5 : Int) := Int.emod_nonneg _ (by decide)
        have hr1 : nth zs1 0 % (5 : Int) < 5 := Int.emod_lt_of_pos _ (by decide)
        generalize nth zs1 0 % (5 : Int) = r at *
        have u1 : (1 : Int) ≤ n1 := by omega
        have u2 : (n1 : Int) ≤ c1 := by omega
        have u3 : (0 : Int) ≤ 1 := by omega
        obtain ⟨A2, hA2⟩ : ∃ A2, (if c1 = 1 then some ⟨b, o, none⟩ else some ⟨b, o + 1, none⟩ : Option Addr) = A2 := ⟨_, rfl⟩
        rw [hA2] at HT0
        go_wp2_with fail
        refine HPK.out.mono ?_
        rintro e w1 ⟨rfl, rfl⟩
        have hrr : r = 0 ∨ r = 1 ∨ r = 2 ∨ r = 3 ∨ r = 4 := by omega
        rcases hrr with rfl | rfl | rfl | rfl | rfl
        · go_wp2_with fail
          go_ret2
          exact ⟨_, f, A2, c1 - 1, zs1.drop 1, by rw [← HLT.out]; rfl, HRW.out, HB0.out, by have := HLT.out; have := HNN.out; omega, by have := HLT.out; omega, by omega, HT0.out, HG.out⟩
        · skip
          obtain ⟨xs, hxo, hxr⟩ := HRW.out
          have HXO := Lib.hid hxo
          have HXR := Lib.hid hxr
          have hle := HG.out.size
          clear hxo hxr
          go_wp2_with (at_builtin; refine wpl_app2 23 42 Try.underlying23 (.agg #[.string ⟨#[]⟩, .bool false, .slice none 0 0]) 3 48 info42 rfl (by decide) rfl _ _ rfl w.heap.size (.slice Af f.len cf) f.len xs rfl (own_alloc (own_alloc HXO.out _) _) (w1.heap.size + 1) #[.string ⟨#[45, 51, 47, 50]⟩, .bool false, .slice none 0 0] rfl (HB.new1 _ _ _ _) rfl (by simp [Value.oneCell']) (by omega) (by unfold maxLen; omega) (by simp; omega) ?_)
          intro g4 cap4 w4 hown4 hkp4 hb4 hfr4
          have K4 : Hid (∀ g t cs, some g ≠ (Value.slice Af f.len cf).ownBlock → HB w1 g t cs → HB w4 g t cs) := fun g t cs h1 h2 => hkp4 g t cs h1 ((h2.alloc _).alloc _)
          have G4 : Hid (Below w.heap.size w w4) := Lib.hid (hb4 w (Below.alloc (Below.alloc HG.out (by omega) _) (by simp; omega) _))
          have hfr5 : Hid ((Value.slice Af f.len cf).ownBlock = some g4 ∨ w1.heap.size ≤ g4) := Lib.hid (hfr4.out.imp_right (fun z => by first | omega | (rw [z]; simp; omega) | (rw [z]; simp) | (simp at z; omega)))
          have W4 := Lib.hid (Rw.app (x := ⟨#[45, 51, 47, 50]⟩) (l := false) (k := .nil) (A := none) (c := 0) (by unfold maxLen; decide) HXO.out HXR.out (fun S _ => ⟨Nat.le_refl _, by unfold maxLen; omega, fun z => absurd z (by simp [Fo.len])⟩) K4.out hown4.out hfr5.out)
          clear hkp4 hb4 hfr4
          go_wp2_with fail
          go_round
          case rel => exact ⟨A2, c1 - 1, zs1.drop 1, f.snoc ⟨#[45, 51, 47, 50]⟩ false .nil, some ⟨g4, 0, none⟩, cap4, n1 - 1, rfl, by rw [Fo.len_snoc], HLT.out, by omega, by omega, by rw [Fo.len_snoc]; omega, HT0.out, by rw [Fo.len_snoc]; exact W4.out, fun d hd => Fo.bad_snoc (wrong_ok w_ok.1 (by omega)) rfl (HB0.out d hd), G4.out⟩
          case measure => simp [lenOf]; omega
        · skip
          obtain ⟨xs, hxo, hxr⟩ := HRW.out
          have HXO := Lib.hid hxo
          have HXR := Lib.hid hxr
          have hle := HG.out.size
          clear hxo hxr
          go_wp2_with (at_builtin; refine wpl_app2 23 42 Try.underlying23 (.agg #[.string ⟨#[]⟩, .bool false, .slice none 0 0]) 3 48 info42 rfl (by decide) rfl _ _ rfl w.heap.size (.slice Af f.len cf) f.len xs rfl (own_alloc (own_alloc HXO.out _) _) (w1.heap.size + 1) #[.string ⟨#[120, 95, 49]⟩, .bool false, .slice none 0 0] rfl (HB.new1 _ _ _ _) rfl (by simp [Value.oneCell']) (by omega) (by unfold maxLen; omega) (by simp; omega) ?_)
          intro g4 cap4 w4 hown4 hkp4 hb4 hfr4
          have K4 : Hid (∀ g t cs, some g ≠ (Value.slice Af f.len cf).ownBlock → HB w1 g t cs → HB w4 g t cs) := fun g t cs h1 h2 => hkp4 g t cs h1 ((h2.alloc _).alloc _)
          have G4 : Hid (Below w.heap.size w w4) := Lib.hid (hb4 w (Below.alloc (Below.alloc HG.out (by omega) _) (by simp; omega) _))
          have hfr5 : Hid ((Value.slice Af f.len cf).ownBlock = some g4 ∨ w1.heap.size ≤ g4) := Lib.hid (hfr4.out.imp_right (fun z => by first | omega | (rw [z]; simp; omega) | (rw [z]; simp) | (simp at z; omega)))
          have W4 := Lib.hid (Rw.app (x := ⟨#[120, 95, 49]⟩) (l := false) (k := .nil) (A := none) (c := 0) (by unfold maxLen; decide) HXO.out HXR.out (fun S _ => ⟨Nat.le_refl _, by unfold maxLen; omega, fun z => absurd z (by simp [Fo.len])⟩) K4.out hown4.out hfr5.out)
          clear hkp4 hb4 hfr4
          go_wp2_with fail
          go_round
          case rel => exact ⟨A2, c1 - 1, zs1.drop 1, f.snoc ⟨#[120, 95, 49]⟩ false .nil, some ⟨g4, 0, none⟩, cap4, n1 - 1, rfl, by rw [Fo.len_snoc], HLT.out, by omega, by omega, by rw [Fo.len_snoc]; omega, HT0.out, by rw [Fo.len_snoc]; exact W4.out, fun d hd => Fo.bad_snoc (wrong_ok w_ok.2.1 (by omega)) rfl (HB0.out d hd), G4.out⟩
          case measure => simp [lenOf]; omega
        · skip
          obtain ⟨xs, hxo, hxr⟩ := HRW.out
          have HXO := Lib.hid hxo
          have HXR := Lib.hid hxr
          have hle := HG.out.size
          clear hxo hxr
          go_wp2_with (at_builtin; refine wpl_app2 23 42 Try.underlying23 (.agg #[.string ⟨#[]⟩, .bool false, .slice none 0 0]) 3 48 info42 rfl (by decide) rfl _ _ rfl w.heap.size (.slice Af f.len cf) f.len xs rfl (own_alloc (own_alloc HXO.out _) _) (w1.heap.size + 1) #[.string ⟨#[43]⟩, .bool false, .slice none 0 0] rfl (HB.new1 _ _ _ _) rfl (by simp [Value.oneCell']) (by omega) (by unfold maxLen; omega) (by simp; omega) ?_)
          intro g4 cap4 w4 hown4 hkp4 hb4 hfr4
          have K4 : Hid (∀ g t cs, some g ≠ (Value.slice Af f.len cf).ownBlock → HB w1 g t cs → HB w4 g t cs) := fun g t cs h1 h2 => hkp4 g t cs h1 ((h2.alloc _).alloc _)
          have G4 : Hid (Below w.heap.size w w4) := Lib.hid (hb4 w (Below.alloc (Below.alloc HG.out (by omega) _) (by simp; omega) _))
          have hfr5 : Hid ((Value.slice Af f.len cf).ownBlock = some g4 ∨ w1.heap.size ≤ g4) := Lib.hid (hfr4.out.imp_right (fun z => by first | omega | (rw [z]; simp; omega) | (rw [z]; simp) | (simp at z; omega)))
          have W4 := Lib.hid (Rw.app (x := ⟨#[43]⟩) (l := false) (k := .nil) (A := none) (c := 0) (by unfold maxLen; decide) HXO.out HXR.out (fun S _ => ⟨Nat.le_refl _, by unfold maxLen; omega, fun z => absurd z (by simp [Fo.len])⟩) K4.out hown4.out hfr5.out)
          clear hkp4 hb4 hfr4
          go_wp2_with fail
          go_round
          case rel => exact ⟨A2, c1 - 1, zs1.drop 1, f.snoc ⟨#[43]⟩ false .nil, some ⟨g4, 0, none⟩, cap4, n1 - 1, rfl, by rw [Fo.len_snoc], HLT.out, by omega, by omega, by rw [Fo.len_snoc]; omega, HT0.out, by rw [Fo.len_snoc]; exact W4.out, fun d hd => Fo.bad_snoc (wrong_ok w_ok.2.2.1 (by omega)) rfl (HB0.out d hd), G4.out⟩
          case measure => simp [lenOf]; omega
        · skip
          obtain ⟨xs, hxo, hxr⟩ := HRW.out
          have HXO := Lib.hid hxo
          have HXR := Lib.hid hxr
          have hle := HG.out.size
          clear hxo hxr
          go_wp2_with (at_builtin; refine wpl_app2 23 42 Try.underlying23 (.agg #[.string ⟨#[]⟩, .bool false, .slice none 0 0]) 3 48 info42 rfl (by decide) rfl _ _ rfl w.heap.size (.slice Af f.len cf) f.len xs rfl (own_alloc (own_alloc HXO.out _) _) (w1.heap.size + 1) #[.string ⟨#[39, 34]⟩, .bool false, .slice none 0 0] rfl (HB.new1 _ _ _ _) rfl (by simp [Value.oneCell']) (by omega) (by unfold maxLen; omega) (by simp; omega) ?_)
          intro g4 cap4 w4 hown4 hkp4 hb4 hfr4
          have K4 : Hid (∀ g t cs, some g ≠ (Value.slice Af f.len cf).ownBlock → HB w1 g t cs → HB w4 g t cs) := fun g t cs h1 h2 => hkp4 g t cs h1 ((h2.alloc _).alloc _)
          have G4 : Hid (Below w.heap.size w w4) := Lib.hid (hb4 w (Below.alloc (Below.alloc HG.out (by omega) _) (by simp; omega) _))
          have hfr5 : Hid ((Value.slice Af f.len cf).ownBlock = some g4 ∨ w1.heap.size ≤ g4) := Lib.hid (hfr4.out.imp_right (fun z => by first | omega | (rw [z]; simp; omega) | (rw [z]; simp) | (simp at z; omega)))
          have W4 := Lib.hid (Rw.app (x := ⟨#[39, 34]⟩) (l := false) (k := .nil) (A := none) (c := 0) (by unfold maxLen; decide) HXO.out HXR.out (fun S _ => ⟨Nat.le_refl _, by unfold maxLen; omega, fun z => absurd z (by simp [Fo.len])⟩) K4.out hown4.out hfr5.out)
          clear hkp4 hb4 hfr4
          go_wp2_with fail
          go_round
          case rel => exact ⟨A2, c1 - 1, zs1.drop 1, f.snoc ⟨#[39, 34]⟩ false .nil, some ⟨g4, 0, none⟩, cap4, n1 - 1, rfl, by rw [Fo.len_snoc], HLT.out, by omega, by omega, by rw [Fo.len_snoc]; omega, HT0.out, by rw [Fo.len_snoc]; exact W4.out, fun d hd => Fo.bad_snoc (wrong_ok w_ok.2.2.2 (by omega)) rfl (HB0.out d hd), G4.out⟩
          case measure => simp [lenOf]; omega
      · have hz0 : n1 = 0 := by omega
        have t1 : ¬ (0 : Int) < n1 := by omega
        go_wp2_with fail
        go_ret2
        exact ⟨_, f, A1, c1, zs1, by rw [← HN1.out, hz0]; rfl, HRW.out, HB0.out, by have := HN1.out; have := HNN.out; omega, by have := HN1.out; omega, hm1, HI.out, HG.out⟩
  | succ deep ih =>
    intro A c zs w hd hN hc hm hz
    have HZ := Lib.hid hz
    have IH := Lib.hid ih
    generalize hNN : zs.length = N at *
    have HNN := Lib.hid hNN
    clear hz hNN ih
    rw [show ((deep + 1 : Nat) : Int) = (deep : Int) + 1 by omega]
    go_enter Try.func9, Try.ntmps9
    go_wp2_with fail
    go_loopw [0, 6] (fun q v wr => ∃ (A1 : Option Addr) (c1 : Nat) (zs1 : List Int) (f : Fo) (Af : Option Addr) (cf n1 : Nat), q = .slice A1 n1 c1 ∧ v = .slice Af f.len cf ∧ Hid (n1 = zs1.length) ∧ n1 ≤ c1 ∧ c1 ≤ 9223372036854775807 ∧ f.len + n1 ≤ N ∧ Hid (∀ W, Is W A zs → Is W A1 zs1) ∧ Hid (Rw wr w.heap.size (.slice Af f.len cf) f) ∧ Hid (∀ d, d + (deep + 1) ≤ 40 → f.bad d = 0) ∧ Hid (Below w.heap.size w wr)) (fun q _ _ => lenOf q)
    case atStart => exact ⟨A, c, zs, .nil, none, 0, N, rfl, rfl, Lib.hid HNN.out.symm, hc, by omega, by simp [Fo.len], fun _ h => h, Rw.nil _ _, fun _ _ => rfl, Below.refl _ _⟩
    case round =>
      obtain ⟨A1, c1, zs1, f, Af, cf, n1, rfl, rfl, HN1, hc1, hm1, hfl, HI, HRW, HB0, HG⟩ := hrel
      by_cases hpos : 0 < n1
      · obtain ⟨b, o, rfl, hb, hcell⟩ := is_cons (HI.out _ (HZ.out.below HG.out)) (by have := HN1.out; omega)
        have hcell0 : wr.cell? ⟨b, o, none⟩ = some (.int .i64 (nth zs1 0)) := hcell
        have HT0 : Hid (∀ W, Is W A zs → Is W (if c1 = 1 then some ⟨b, o, none⟩ else some ⟨b, o + 1, none⟩) (zs1.drop 1)) := Lib.hid (fun W h => is_tail (c := c1) (HI.out W h) (by have := HN1.out; omega))
        have HLT := Lib.hid (show n1 - 1 = (zs1.drop 1).length by have := HN1.out; simp; omega)
        have t1 : (0 : Int) < n1 := by omega
        have HPK : Hid (Calls Try.prog 14 #[.int .i64 (nth zs1 0), .int .i64 5] wr fun e w' => e = .returned (.int .i64 (nth zs1 0 % 5)) ∧ w' = wr) := Lib.hid (picked_any (nth zs1 0) 5 (by omega) (by omega) wr)
        have hr0 : 0 ≤ nth zs1 0 % (5 : Int) := Int.emod_nonneg _ (by decide)
        have hr1 : nth zs1 0 % (5 : Int) < 5 := Int.emod_lt_of_pos _ (by decide)
        generalize nth zs1 0 % (5 : Int) = r at *
        have u1 : (1 : Int) ≤ n1 := by omega
        have u2 : (n1 : Int) ≤ c1 := by omega
        have u3 : (0 : Int) ≤ 1 := by omega
        obtain ⟨A2, hA2⟩ : ∃ A2, (if c1 = 1 then some ⟨b, o, none⟩ else some ⟨b, o + 1, none⟩ : Option Addr) = A2 := ⟨_, rfl⟩
        rw [hA2] at HT0
        go_wp2_with fail
        refine HPK.out.mono ?_
        rintro e w1 ⟨rfl, rfl⟩
        have hrr : r = 0 ∨ r = 1 ∨ r = 2 ∨ r = 3 ∨ r = 4 := by omega
        rcases hrr with rfl | rfl | rfl | rfl | rfl
        · go_wp2_with fail
          go_ret2
          exact ⟨_, f, A2, c1 - 1, zs1.drop 1, by rw [← HLT.out]; rfl, HRW.out, HB0.out, by have := HLT.out; have := HNN.out; omega, by have := HLT.out; omega, by omega, HT0.out, HG.out⟩
        · have hle := HG.out.size
          go_wp2_with fail
          have hcall := IH.out A2 (c1 - 1) (zs1.drop 1) w1 (by omega) (by have := HLT.out; omega) (by have := HLT.out; omega) (by omega) (HT0.out _ (HZ.out.below HG.out))
          rw [← HLT.out] at hcall
          refine hcall.mono ?_
          rintro e w2 ⟨v2, f2, A3, c3, zs3, rfl, hrw2, hbad2, hlen2, hc3, hm3, his3, hb2⟩
          have HBAD2 := Lib.hid hbad2
          have HIS3 := Lib.hid his3
          have HRW2 := Lib.hid hrw2
          have G2 : Hid (Below w.heap.size w w2) := bw_below (Nat.le_refl _) HG.out hb2
          have K2 : Hid (Ke w1 w2) := Ke.below hb2
          have hsz := hb2.size
          have hl3 : f2.len + zs3.length ≤ n1 - 1 := by have := HLT.out; omega
          have HZ3 := Lib.hid (show zs3.length = zs3.length from rfl)
          generalize hn3 : zs3.length = n3 at *
          obtain ⟨Ak, ck, hv2, _⟩ := hrw2.kid [] (by simp)
          subst hv2
          obtain ⟨xs, hxo, hxr⟩ := HRW.out.ke K2.out
          have HXO := Lib.hid hxo
          have HXR := Lib.hid hxr
          have hkid : Hid (∀ S : List Nat, (∀ g ∈ S, g < w.heap.size) → Kid w2 (act [.slice Af f.len cf] ++ S) f2 Ak ck) := Lib.hid (fun S hS => by
            obtain ⟨A4, c4, e4, hk4⟩ := HRW2.out.kid (act [.slice Af f.len cf] ++ S) (fun g hg => by
              rcases List.mem_append.1 hg with z | z
              · obtain ⟨cs, hh⟩ := own_mem (st := [f]) (vs := [.slice Af f.len cf]) ⟨HRW.out.lv [] (by simp), trivial⟩ g z
                exact hh.lt
              · have := hS g z
                omega)
            injection e4 with e4 _ e5
            subst e4 e5
            exact hk4)
          have HN3 := Lib.hid hn3
          clear hcall hrw2 hbad2 his3 hb2 hxo hxr hn3
          go_wp2_with (at_builtin; refine wpl_app2 23 42 Try.underlying23 (.agg #[.string ⟨#[]⟩, .bool false, .slice none 0 0]) 3 48 info42 rfl (by decide) rfl _ _ rfl w.heap.size (.slice Af f.len cf) f.len xs rfl (own_alloc HXO.out _) w2.heap.size #[.string ⟨#[]⟩, .bool true, .slice Ak f2.len ck] rfl (HB.new _ _ _) rfl (by simp [Value.oneCell']) (by omega) (by unfold maxLen; omega) (by simp; omega) ?_)
          intro g4 cap4 w4 hown4 hkp4 hb4 hfr4
          have K4 : Hid (∀ g t cs, some g ≠ (Value.slice Af f.len cf).ownBlock → HB w2 g t cs → HB w4 g t cs) := fun g t cs h1 h2 => hkp4 g t cs h1 (h2.alloc _)
          have G4 : Hid (Below w.heap.size w w4) := Lib.hid (hb4 w (Below.alloc G2.out (by omega) _))
          have hfr5 : Hid ((Value.slice Af f.len cf).ownBlock = some g4 ∨ w2.heap.size ≤ g4) := Lib.hid (hfr4.out.imp_right (fun z => by first | omega | (rw [z]; simp; omega) | (rw [z]; simp) | (simp at z; omega)))
          have W4 := Lib.hid (Rw.app (x := ⟨#[]⟩) (l := true) (by unfold maxLen; exact Nat.zero_le _) HXO.out HXR.out hkid.out K4.out hown4.out hfr5.out)
          clear hkp4 hb4 hfr4
          go_wp2_with fail
          go_round
          case rel => exact ⟨A3, c3, zs3, f.snoc ⟨#[]⟩ true f2, some ⟨g4, 0, none⟩, cap4, n3, rfl, by rw [Fo.len_snoc], Lib.hid HN3.out.symm, hc3, hm3, by rw [Fo.len_snoc]; omega, fun W h => HIS3.out W (HT0.out W h), by rw [Fo.len_snoc]; exact W4.out, fun d hd => Fo.bad_snoc (wrong_list (by omega)) (HBAD2.out (d + 1) (by omega)) (HB0.out d hd), G4.out⟩
          case measure => simp [lenOf]; omega
        · have hle := HG.out.size
          go_wp2_with fail
          have hcall := IH.out A2 (c1 - 1) (zs1.drop 1) w1 (by omega) (by have := HLT.out; omega) (by have := HLT.out; omega) (by omega) (HT0.out _ (HZ.out.below HG.out))
          rw [← HLT.out] at hcall
          refine hcall.mono ?_
          rintro e w2 ⟨v2, f2, A3, c3, zs3, rfl, hrw2, hbad2, hlen2, hc3, hm3, his3, hb2⟩
          have HBAD2 := Lib.hid hbad2
          have HIS3 := Lib.hid his3
          have HRW2 := Lib.hid hrw2
          have G2 : Hid (Below w.heap.size w w2) := bw_below (Nat.le_refl _) HG.out hb2
          have K2 : Hid (Ke w1 w2) := Ke.below hb2
          have hsz := hb2.size
          have hl3 : f2.len + zs3.length ≤ n1 - 1 := by have := HLT.out; omega
          have HZ3 := Lib.hid (show zs3.length = zs3.length from rfl)
          generalize hn3 : zs3.length = n3 at *
          obtain ⟨Ak, ck, hv2, _⟩ := hrw2.kid [] (by simp)
          subst hv2
          obtain ⟨xs, hxo, hxr⟩ := HRW.out.ke K2.out
          have HXO := Lib.hid hxo
          have HXR := Lib.hid hxr
          have hkid : Hid (∀ S : List Nat, (∀ g ∈ S, g < w.heap.size) → Kid w2 (act [.slice Af f.len cf] ++ S) f2 Ak ck) := Lib.hid (fun S hS => by
            obtain ⟨A4, c4, e4, hk4⟩ := HRW2.out.kid (act [.slice Af f.len cf] ++ S) (fun g hg => by
              rcases List.mem_append.1 hg with z | z
              · obtain ⟨cs, hh⟩ := own_mem (st := [f]) (vs := [.slice Af f.len cf]) ⟨HRW.out.lv [] (by simp), trivial⟩ g z
                exact hh.lt
              · have := hS g z
                omega)
            injection e4 with e4 _ e5
            subst e4 e5
            exact hk4)
          have HN3 := Lib.hid hn3
          clear hcall hrw2 hbad2 his3 hb2 hxo hxr hn3
          go_wp2_with (at_builtin; refine wpl_app2 23 42 Try.underlying23 (.agg #[.string ⟨#[]⟩, .bool false, .slice none 0 0]) 3 48 info42 rfl (by decide) rfl _ _ rfl w.heap.size (.slice Af f.len cf) f.len xs rfl (own_alloc HXO.out _) w2.heap.size #[.string ⟨#[]⟩, .bool true, .slice Ak f2.len ck] rfl (HB.new _ _ _) rfl (by simp [Value.oneCell']) (by omega) (by unfold maxLen; omega) (by simp; omega) ?_)
          intro g4 cap4 w4 hown4 hkp4 hb4 hfr4
          have K4 : Hid (∀ g t cs, some g ≠ (Value.slice Af f.len cf).ownBlock → HB w2 g t cs → HB w4 g t cs) := fun g t cs h1 h2 => hkp4 g t cs h1 (h2.alloc _)
          have G4 : Hid (Below w.heap.size w w4) := Lib.hid (hb4 w (Below.alloc G2.out (by omega) _))
          have hfr5 : Hid ((Value.slice Af f.len cf).ownBlock = some g4 ∨ w2.heap.size ≤ g4) := Lib.hid (hfr4.out.imp_right (fun z => by first | omega | (rw [z]; simp; omega) | (rw [z]; simp) | (simp at z; omega)))
          have W4 := Lib.hid (Rw.app (x := ⟨#[]⟩) (l := true) (by unfold maxLen; exact Nat.zero_le _) HXO.out HXR.out hkid.out K4.out hown4.out hfr5.out)
          clear hkp4 hb4 hfr4
          go_wp2_with fail
          go_round
          case rel => exact ⟨A3, c3, zs3, f.snoc ⟨#[]⟩ true f2, some ⟨g4, 0, none⟩, cap4, n3, rfl, by rw [Fo.len_snoc], Lib.hid HN3.out.symm, hc3, hm3, by rw [Fo.len_snoc]; omega, fun W h => HIS3.out W (HT0.out W h), by rw [Fo.len_snoc]; exact W4.out, fun d hd => Fo.bad_snoc (wrong_list (by omega)) (HBAD2.out (d + 1) (by omega)) (HB0.out d hd), G4.out⟩
          case measure => simp [lenOf]; omega
        · skip
          obtain ⟨xs, hxo, hxr⟩ := HRW.out
          have HXO := Lib.hid hxo
          have HXR := Lib.hid hxr
          have hle := HG.out.size
          clear hxo hxr
          go_wp2_with (at_builtin; refine wpl_app2 23 42 Try.underlying23 (.agg #[.string ⟨#[]⟩, .bool false, .slice none 0 0]) 3 48 info42 rfl (by decide) rfl _ _ rfl w.heap.size (.slice Af f.len cf) f.len xs rfl (own_alloc (own_alloc HXO.out _) _) (w1.heap.size + 1) #[.string ⟨#[43]⟩, .bool false, .slice none 0 0] rfl (HB.new1 _ _ _ _) rfl (by simp [Value.oneCell']) (by omega) (by unfold maxLen; omega) (by simp; omega) ?_)
          intro g4 cap4 w4 hown4 hkp4 hb4 hfr4
          have K4 : Hid (∀ g t cs, some g ≠ (Value.slice Af f.len cf).ownBlock → HB w1 g t cs → HB w4 g t cs) := fun g t cs h1 h2 => hkp4 g t cs h1 ((h2.alloc _).alloc _)
          have G4 : Hid (Below w.heap.size w w4) := Lib.hid (hb4 w (Below.alloc (Below.alloc HG.out (by omega) _) (by simp; omega) _))
          have hfr5 : Hid ((Value.slice Af f.len cf).ownBlock = some g4 ∨ w1.heap.size ≤ g4) := Lib.hid (hfr4.out.imp_right (fun z => by first | omega | (rw [z]; simp; omega) | (rw [z]; simp) | (simp at z; omega)))
          have W4 := Lib.hid (Rw.app (x := ⟨#[43]⟩) (l := false) (k := .nil) (A := none) (c := 0) (by unfold maxLen; decide) HXO.out HXR.out (fun S _ => ⟨Nat.le_refl _, by unfold maxLen; omega, fun z => absurd z (by simp [Fo.len])⟩) K4.out hown4.out hfr5.out)
          clear hkp4 hb4 hfr4
          go_wp2_with fail
          go_round
          case rel => exact ⟨A2, c1 - 1, zs1.drop 1, f.snoc ⟨#[43]⟩ false .nil, some ⟨g4, 0, none⟩, cap4, n1 - 1, rfl, by rw [Fo.len_snoc], HLT.out, by omega, by omega, by rw [Fo.len_snoc]; omega, HT0.out, by rw [Fo.len_snoc]; exact W4.out, fun d hd => Fo.bad_snoc (wrong_ok w_ok.2.2.1 (by omega)) rfl (HB0.out d hd), G4.out⟩
          case measure => simp [lenOf]; omega
        · skip
          obtain ⟨xs, hxo, hxr⟩ := HRW.out
          have HXO := Lib.hid hxo
          have HXR := Lib.hid hxr
          have hle := HG.out.size
          clear hxo hxr
          go_wp2_with (at_builtin; refine wpl_app2 23 42 Try.underlying23 (.agg #[.string ⟨#[]⟩, .bool false, .slice none 0 0]) 3 48 info42 rfl (by decide) rfl _ _ rfl w.heap.size (.slice Af f.len cf) f.len xs rfl (own_alloc (own_alloc HXO.out _) _) (w1.heap.size + 1) #[.string ⟨#[39, 34]⟩, .bool false, .slice none 0 0] rfl (HB.new1 _ _ _ _) rfl (by simp [Value.oneCell']) (by omega) (by unfold maxLen; omega) (by simp; omega) ?_)
          intro g4 cap4 w4 hown4 hkp4 hb4 hfr4
          have K4 : Hid (∀ g t cs, some g ≠ (Value.slice Af f.len cf).ownBlock → HB w1 g t cs → HB w4 g t cs) := fun g t cs h1 h2 => hkp4 g t cs h1 ((h2.alloc _).alloc _)
          have G4 : Hid (Below w.heap.size w w4) := Lib.hid (hb4 w (Below.alloc (Below.alloc HG.out (by omega) _) (by simp; omega) _))
          have hfr5 : Hid ((Value.slice Af f.len cf).ownBlock = some g4 ∨ w1.heap.size ≤ g4) := Lib.hid (hfr4.out.imp_right (fun z => by first | omega | (rw [z]; simp; omega) | (rw [z]; simp) | (simp at z; omega)))
          have W4 := Lib.hid (Rw.app (x := ⟨#[39, 34]⟩) (l := false) (k := .nil) (A := none) (c := 0) (by unfold maxLen; decide) HXO.out HXR.out (fun S _ => ⟨Nat.le_refl _, by unfold maxLen; omega, fun z => absurd z (by simp [Fo.len])⟩) K4.out hown4.out hfr5.out)
          clear hkp4 hb4 hfr4
          go_wp2_with fail
          go_round
          case rel => exact ⟨A2, c1 - 1, zs1.drop 1, f.snoc ⟨#[39, 34]⟩ false .nil, some ⟨g4, 0, none⟩, cap4, n1 - 1, rfl, by rw [Fo.len_snoc], HLT.out, by omega, by omega, by rw [Fo.len_snoc]; omega, HT0.out, by rw [Fo.len_snoc]; exact W4.out, fun d hd => Fo.bad_snoc (wrong_ok w_ok.2.2.2 (by omega)) rfl (HB0.out d hd), G4.out⟩
          case measure => simp [lenOf]; omega
      · have hz0 : n1 = 0 := by omega
        have t1 : ¬ (0 : Int) < n1 := by omega
        go_wp2_with fail
        go_ret2
        exact ⟨_, f, A1, c1, zs1, by rw [← HN1.out, hz0]; rfl, HRW.out, HB0.out, by have := HN1.out; have := HNN.out; omega, by have := HN1.out; omega, hm1, HI.out, HG.out⟩
end Go.Proofs.Ytgkhkdohlbchoaa
