/-
  Package sexp: what is wrong with an expression, and with a list of them; the same of the reference.
-/
import Derived.Test.YtgkhkdohlbchoaaSexB
namespace Go.Proofs.Ytgkhkdohlbchoaa
open Go.RowKit

/-- What is wrong with an expression of so many children at a depth. -/
def wrongC (s : ByteArray) (l : Bool) (kl : Nat) (d : Nat) : Int :=
  if (l = true ∧ ¬ s.size = 0) ∨ (l = false ∧ 0 < kl) then 5 else if l = false ∧ okW s = false then 12 else if 40 < d then 10 else 0
theorem wrongC_cases (s : ByteArray) (l : Bool) (kl d : Nat) : wrongC s l kl d = 5 ∨ wrongC s l kl d = 12 ∨ wrongC s l kl d = 10 ∨ wrongC s l kl d = 0 := by
  unfold wrongC
  split
  · exact .inl rfl
  · split
    · exact .inr (.inl rfl)
    · split
      · exact .inr (.inr (.inl rfl))
      · exact .inr (.inr (.inr rfl))
theorem tl_e {s : ByteArray} (h : s.size = 0) : s.toList.isEmpty = true := by
  rw [empty_of h, ByteArray.toList_eq]; rfl
set_option maxHeartbeats 2000000 in
theorem wrong_any (s : ByteArray) (l : Bool) (A : Option Addr) (kl c d : Nat) (hs : s.size ≤ maxLen) (w : World) :
    Calls Try.prog 38 #[.agg #[.string s, .bool l, .slice A kl c], .int .i64 d] w fun e w' => e = .returned (.int .i64 (wrongC s l kl d)) ∧ Below w.heap.size w w' := by
  have HS := Lib.hid hs
  clear hs
  cases l with
  | true =>
    by_cases h1 : s.size = 0
    · have d1 := tl_e h1
      by_cases h2 : 40 < d
      · have d2 : decide ((40 : Int) < d) = true := by simp; omega
        have HE := Lib.hid (show wrongC s true kl d = 10 by simp [wrongC, h1, h2])
        clear h1 h2
        go_enter Try.func38, Try.ntmps38
        go_wp2_with fail
        go_ret
        refine ⟨by rw [HE.out]; rfl, ?_⟩
        go_grown
      · have d2 : decide ((40 : Int) < d) = false := by simp; omega
        have HE := Lib.hid (show wrongC s true kl d = 0 by simp [wrongC, h1, h2])
        clear h1 h2
        go_enter Try.func38, Try.ntmps38
        go_wp2_with fail
        go_ret
        refine ⟨by rw [HE.out]; rfl, ?_⟩
        go_grown
    · have d1 := tl_ne h1
      have HE := Lib.hid (show wrongC s true kl d = 5 by simp [wrongC, h1])
      clear h1
      go_enter Try.func38, Try.ntmps38
      go_wp2_with fail
      go_ret
      refine ⟨by rw [HE.out]; rfl, ?_⟩
      go_grown
  | false =>
    by_cases h1 : 0 < kl
    · have HE := Lib.hid (show wrongC s false kl d = 5 by simp [wrongC, h1])
      go_enter Try.func38, Try.ntmps38
      go_wp2_with fail
      go_ret
      refine ⟨by rw [HE.out]; rfl, ?_⟩
      go_grown
    · obtain rfl : kl = 0 := by omega
      clear h1
      by_cases h3 : okW s = true
      · have H3 := Lib.hid h3
        by_cases h2 : 40 < d
        · have d2 : decide ((40 : Int) < d) = true := by simp; omega
          have HE := Lib.hid (show wrongC s false 0 d = 10 by simp [wrongC, h2, h3])
          clear h2 h3
          go_enter Try.func38, Try.ntmps38
          go_wp2_with fail
          refine (isword_any s HS.out _).mono ?_
          rintro e w1 ⟨rfl, rfl⟩
          rw [H3.out]
          go_wp2_with fail
          go_ret
          refine ⟨by rw [HE.out]; rfl, ?_⟩
          go_grown
        · have d2 : decide ((40 : Int) < d) = false := by simp; omega
          have HE := Lib.hid (show wrongC s false 0 d = 0 by simp [wrongC, h2, h3])
          clear h2 h3
          go_enter Try.func38, Try.ntmps38
          go_wp2_with fail
          refine (isword_any s HS.out _).mono ?_
          rintro e w1 ⟨rfl, rfl⟩
          rw [H3.out]
          go_wp2_with fail
          go_ret
          refine ⟨by rw [HE.out]; rfl, ?_⟩
          go_grown
      · have H3 := Lib.hid (show okW s = false by simpa using h3)
        have HE := Lib.hid (show wrongC s false 0 d = 12 by simp [wrongC, h3])
        clear h3
        go_enter Try.func38, Try.ntmps38
        go_wp2_with fail
        refine (isword_any s HS.out _).mono ?_
        rintro e w1 ⟨rfl, rfl⟩
        rw [H3.out]
        go_wp2_with fail
        go_ret
        refine ⟨by rw [HE.out]; rfl, ?_⟩
        go_grown
/-- The code of what is wrong first, in preorder; and the number at which the look ends. -/
def Fo.bad : Fo → Nat → Int
  | .nil, _ => 0
  | .cons s l k r, d => if wrongC s l k.len d = 0 then (if k.bad (d + 1) = 0 then r.bad d else k.bad (d + 1)) else wrongC s l k.len d
def Fo.end_ : Fo → Nat → Nat → Nat
  | .nil, _, n => n
  | .cons s l k r, d, n => if wrongC s l k.len d = 0 then (if k.bad (d + 1) = 0 then r.end_ d (n + 1 + k.size) else k.end_ (d + 1) (n + 1)) else n
theorem Fo.size_cons (s : ByteArray) (l : Bool) (k r : Fo) : (Fo.cons s l k r).size = k.size + r.size + 1 := rfl
theorem Fo.end_good (f : Fo) : ∀ d n, f.bad d = 0 → f.end_ d n = n + f.size := by
  induction f with
  | nil => intro d n _; rfl
  | cons s l k r ihk ihr =>
    intro d n h
    unfold Fo.bad at h
    unfold Fo.end_
    rw [Fo.size_cons]
    by_cases h1 : wrongC s l k.len d = 0
    · rw [if_pos h1] at h ⊢
      by_cases h2 : k.bad (d + 1) = 0
      · rw [if_pos h2] at h ⊢
        rw [ihr d _ h]; omega
      · rw [if_neg h2] at h; exact absurd h h2
    · rw [if_neg h1] at h; exact absurd h h1
theorem Fo.end_le (f : Fo) : ∀ d n, n ≤ f.end_ d n ∧ f.end_ d n ≤ n + f.size := by
  induction f with
  | nil => intro d n; simp [Fo.end_, Fo.size]
  | cons s l k r ihk ihr =>
    intro d n
    unfold Fo.end_
    rw [Fo.size_cons]
    split
    · split
      · have := ihr d (n + 1 + k.size); omega
      · have := ihk (d + 1) (n + 1); omega
    · omega
/-- What both looks yield. -/
def GivesC (f : Fo) (d n : Nat) (w : World) (e : Ending) (w' : World) : Prop :=
  e = .returned (.tuple #[.agg #[.int .i64 (f.bad d), .int .i64 (if f.bad d = 0 then 0 else (f.end_ d n : Int))], .int .i64 (f.end_ d n)]) ∧ Below w.heap.size w w'
set_option maxHeartbeats 4000000 in
theorem checkfrom_any (n : Nat) : ∀ (f : Fo) (A : Option Addr) (c d n0 : Nat) (w : World), f.size < n → f.len ≤ maxLen → d + f.size ≤ 1000000000000000000 → n0 + f.size ≤ 1000000000000000000 → f.At w A →
    Calls Try.prog 26 #[.slice A f.len c, .int .i64 d, .int .i64 n0] w (GivesC f d n0 w) := by
  induction n with
  | zero => intro f A c d n0 w hn; omega
  | succ n ih =>
    intro f A c d n0 w hn hl hd0 hn0 h
    have HA := Lib.hid h
    have HN := Lib.hid hn
    have IH := Lib.hid ih
    unfold maxLen at hl
    generalize hL : f.len = L at *
    have HL := Lib.hid hL
    clear h hn ih hL
    go_enter Try.func26, Try.ntmps26
    go_wp2_with fail
    go_loopw [2, 15] (fun m k wr => ∃ i a : Nat, i ≤ L ∧ m = .int .i64 a ∧ k = .int .i64 i ∧ a + (f.drop i).size = n0 + f.size ∧ Hid (f.bad d = (f.drop i).bad d ∧ f.end_ d n0 = (f.drop i).end_ d a) ∧ Hid (HB wr w.heap.size 27 #[.int .i64 0, .int .i64 0]) ∧ Hid (Below w.heap.size w wr)) (fun _ k _ => L - (intOf k).toNat)
    case atStart => exact ⟨0, n0, by omega, rfl, rfl, by rw [Fo.drop_zero], ⟨by rw [Fo.drop_zero], by rw [Fo.drop_zero]⟩, HB.new _ _ _, new_below _ _⟩
    case round =>
      obtain ⟨i, a, hi, rfl, rfl, hm, HM, HR, HG⟩ := hrel
      by_cases hlt : i < L
      · obtain ⟨b, o, s, l, k, A', c', rfl, hb, hd, c0, c1, c2, hs, hk1, hk2, hk3⟩ := fo_cell (HA.out.below HG.out) (by rw [HL.out]; exact hlt)
        have t3 : decide ((i : Int) < L) = true := by simpa using hlt
        have hz := kid_size hd
        have HD := Lib.hid hd
        have HK := Lib.hid hk3
        have LK := Lib.hid (Nat.le_trans hk1 hk2)
        have HS := Lib.hid hs
        clear hd hk3 hk1 hk2 hs
        go_wp2_with fail
        refine (wrong_any s l A' k.len c' d HS.out _).mono ?_
        rintro e w1 ⟨rfl, hb1⟩
        have G1 : Hid (Below w.heap.size w w1) := bw_below (Nat.le_refl _) (Below.alloc HG.out HG.out.size _) hb1
        have R1 := (HR.out.alloc (.cells #[.string s, .bool l, .slice A' k.len c'] 42)).below hb1
        have N1 := (HB.new wr 42 #[.string s, .bool l, .slice A' k.len c']).below hb1
        have K1 := Lib.hid ((HK.out.below (new_below _ _)).below hb1)
        have S1 := hb1.size
        have HR1 := Lib.hid R1
        obtain ⟨r0, r1, r2, r3⟩ := R1.two
        obtain ⟨x0, x1, x2, _⟩ := N1.three
        generalize hq : wrongC s l k.len d = q at *
        have HQ := Lib.hid hq
        clear hb1 R1 N1 c0 c1 c2 hq
        by_cases hq0 : q = 0
        · subst hq0
          go_wp2_with fail
          rw [show (d : Int) + 1 = ((d + 1 : Nat) : Int) by omega, show (a : Int) + 1 = ((a + 1 : Nat) : Int) by omega]
          refine (IH.out k A' c' (d + 1) (a + 1) _ (by have := HN.out; omega) LK.out (by omega) (by omega) K1.out).mono ?_
          rintro e w2 ⟨rfl, hb2⟩
          have G2 : Hid (Below w.heap.size w w2) := bw_below (Nat.le_refl _) G1.out hb2
          have R2 := HR1.out.below hb2
          have HR2 := Lib.hid R2
          have S2 := hb2.size
          have l2 := R2.lt
          clear r0 r1 r2 r3 x0 x1 x2
          obtain ⟨r0, r1, r2, r3⟩ := R2.two
          have hle := Fo.end_le k (d + 1) (a + 1)
          generalize hp : k.bad (d + 1) = p at *
          generalize he : k.end_ (d + 1) (a + 1) = e1 at *
          have HP := Lib.hid hp
          have HE := Lib.hid he
          clear hb2 R2 hp he
          by_cases hp0 : p = 0
          · subst hp0
            have hee := Lib.hid (show e1 = a + 1 + k.size by rw [← HE.out]; exact Fo.end_good _ _ _ HP.out)
            rw [if_pos rfl]
            go_wp2_with fail
            go_round
            case rel => exact ⟨i + 1, e1, by omega, by go_num, by go_num, by have := hee.out; omega, by
              refine ⟨?_, ?_⟩
              · rw [HM.out.1, HD.out, Fo.bad, HQ.out, if_pos rfl, HP.out, if_pos rfl]
              · rw [HM.out.2, HD.out, Fo.end_, HQ.out, if_pos rfl, HP.out, if_pos rfl, hee.out], HR2.out.alloc _, Below.alloc G2.out G2.out.size _⟩
            case measure => simp [intOf]; omega
          · have HP0 := Lib.hid hp0
            rw [if_neg hp0]
            have d1 : (p != 0) = true := by simpa using hp0
            have HX := Lib.hid (show f.bad d = p ∧ f.end_ d n0 = e1 by
              rw [HM.out.1, HM.out.2, HD.out]
              unfold Fo.bad Fo.end_
              rw [HQ.out, if_pos rfl, HP.out, if_neg hp0, if_pos rfl, if_neg hp0]
              exact ⟨rfl, HE.out⟩)
            clear hp0
            go_wp2_with fail
            have RR := (hb_set2 (n := .int .i64 p) (d := .int .i64 e1) HR2.out).alloc (.cells #[.int .i64 p, .int .i64 e1] 27)
            obtain ⟨y0, y1, _, _⟩ := RR.two
            refine bodyPost_ret (v := .tuple #[.agg #[.int .i64 p, .int .i64 e1], .int .i64 e1]) (by simp [results, Try.results26, go_sem, y0, y1]) rfl ⟨by rw [HX.out.1, HX.out.2, if_neg HP0.out], ?_⟩
            have F := bw_far G2.out (Nat.le_refl _) (far2 w2 w.heap.size (.int .i64 p) (.int .i64 e1))
            exact Below.alloc F F.size _
        · have d1 : (q != 0) = true := by simpa using hq0
          have HE := Lib.hid (show f.bad d = q ∧ f.end_ d n0 = a by
            rw [HM.out.1, HM.out.2, HD.out]
            unfold Fo.bad Fo.end_
            rw [HQ.out, if_neg hq0, if_neg hq0]
            exact ⟨rfl, rfl⟩)
          have HQ0 := Lib.hid hq0
          clear hq0
          go_wp2_with fail
          refine bodyPost_ret (v := .tuple #[.agg #[.int .i64 q, .int .i64 a], .int .i64 a]) (by simp [results, Try.results26, go_sem, r0, r1]) rfl ⟨by rw [HE.out.1, HE.out.2, if_neg HQ0.out], ?_⟩
          exact bw_far G1.out (Nat.le_refl _) (far2 _ _ _ _)
      · obtain rfl : i = L := by omega
        have t3 : decide ((i : Int) < i) = false := by simp
        obtain ⟨r0, r1, r2, r3⟩ := HR.out.two
        have HE := Lib.hid (show f.bad d = 0 ∧ f.end_ d n0 = a by
          rw [HM.out.1, HM.out.2, drop_here HL.out hlt hi]
          exact ⟨rfl, rfl⟩)
        clear hlt
        go_wp2_with fail
        refine bodyPost_ret (v := .tuple #[.agg #[.int .i64 0, .int .i64 0], .int .i64 a]) (by simp [results, Try.results26, go_sem, r0, r1]) rfl ⟨by rw [HE.out.1, HE.out.2, if_pos rfl], ?_⟩
        exact bw_far HG.out (Nat.le_refl _) (far2 _ _ _ _)
end Go.Proofs.Ytgkhkdohlbchoaa
