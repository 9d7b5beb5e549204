/-
  The contracts of row's sumAt and of a sum's sign.
-/
import Derived.Test.YtkjollifghmkbaaRowD
import Derived.Test.YtkjollifghmkbaaRowF
namespace Go.Proofs.Ytkjollifghmkbaa
open Go.RowKit

def sA (xs : List Int) (ps : List (Int × Int)) : Nat → Nat × Nat × Nat
  | 0 => (0, 0, 1)
  | i + 1 => (plusA (sA xs ps i).1 (sA xs ps i).2.2 (nth xs i) (fnum ps i) (fden ps i).toNat, plusB (sA xs ps i).2.1 (sA xs ps i).2.2 (nth xs i) (fnum ps i) (fden ps i).toNat, (sA xs ps i).2.2 * (fden ps i).toNat)
def densOf (ps : List (Int × Int)) (i : Nat) : List Int := (List.range i).map (fden ps)
theorem densOf_succ (ps : List (Int × Int)) (i : Nat) : densOf ps (i + 1) = densOf ps i ++ [fden ps i] := by simp [densOf, List.range_succ]
theorem own_base {w : World} {base base' m : Nat} {e : TypeId} {v : Value} {xs : List Value} (h : w.ownsRow base e 1 v m xs) (hb : base' ≤ base) : w.ownsRow base' e 1 v m xs := by
  refine ⟨h.1, ?_⟩
  rcases h.2 with z | ⟨g, cap, cur, e1, hb', r⟩
  · exact .inl z
  · exact .inr ⟨g, cap, cur, e1, by omega, r⟩
theorem own_nil (w : World) (base : Nat) (e : TypeId) : w.ownsRow base e 1 (.slice none 0 0) 0 [] := ⟨rfl, .inl ⟨rfl, rfl⟩⟩
theorem lg_nil (w : World) : Lg w none 0 0 := ⟨⟨by simp, fun z => by omega⟩, fun z => by omega⟩
theorem lg_one {w : World} {g : Nat} (h : HB w g 87 #[.int .u32 1]) : Lg w (some ⟨g, 0, none⟩) 1 1 := by
  refine ⟨⟨by decide, fun _ => ⟨g, rfl, #[.int .u32 1], h, fun k hk => ?_⟩⟩, fun _ => by simp⟩
  obtain rfl : k = 0 := by omega
  simp [dig]
set_option maxHeartbeats 1000000 in
theorem sign_any' (base K a b u : Nat) (ds : List Int) (v : Value) (hK : K ≤ 1000) (w : World) (h : SumAt w base v K a b u ds) :
    Calls Try.prog 36 #[v] w fun e w' => e = .returned (.int .i64 (cmpN a b)) ∧ Below w.heap.size w w' := by
  obtain ⟨A1, L1, c1, A2, L2, c2, A3, L3, c3, A4, n4, c4, rfl, h1, h2, h3, r1, r2, r3, hn, ho⟩ := h
  have R1 := Lib.hid r1
  have R2 := Lib.hid r2
  clear r1 r2 r3 hn ho
  go_enter Try.func36, Try.ntmps36
  go_wp2_with fail
  refine (compare_any A1 A2 L1 L2 c1 c2 a b (by omega) (by omega) _ (R1.out.below (by go_grown)).1 (R2.out.below (by go_grown)).1).mono ?_
  rintro e w1 ⟨rfl, rfl⟩
  go_wp2
  go_ret
  exact ⟨rfl, by go_grown⟩
set_option maxRecDepth 100000 in
set_option maxHeartbeats 4000000 in
theorem sumat_any (A A' : Option Addr) (xs : List Int) (ps : List (Int × Int)) (L c L' c' : Nat) (kind tt : Int) (hL : L = xs.length) (hLL : L ≤ ps.length) (h12 : L ≤ 12) (hL' : L' = ps.length) (w : World) (h : Is w A xs) (hp : Fs w A' ps)
    (hx : ∀ i, i < L → inB (nth xs i) = true) (hf : ∀ i, i < L → fvalid (fnum ps i) (fden ps i) = true) :
    Calls Try.prog 33 #[.agg #[.slice A L c, .int .i64 kind, .int .i64 tt], .slice A' L' c'] w (GivesSum w.heap.size (4 * L + 1) (sA xs ps L).1 (sA xs ps L).2.1 (sA xs ps L).2.2 (densOf ps L) w) := by
  have HX := Lib.hid h
  have HP := Lib.hid hp
  have HL := Lib.hid hL
  have HLL := Lib.hid hLL
  have HL' := Lib.hid hL'
  have HIN := Lib.hid hx
  have HFV := Lib.hid hf
  clear h hp hL hLL hL' hx hf
  go_enter Try.func33, Try.ntmps33
  have HN4 : Hid (HB (((w.alloc (.cells #[.slice A L c, .int .i64 kind, .int .i64 tt] 24)).alloc (.cells #[.slice none 0 0, .slice none 0 0, .slice none 0 0, .slice none 0 0] 65)).alloc (.cells #[.int .u32 1] 87)) (w.heap.size + 1) 65 #[.slice none 0 0, .slice none 0 0, .slice none 0 0, .slice none 0 0]) :=
    (by simpa using HB.new (w.alloc (.cells #[.slice A L c, .int .i64 kind, .int .i64 tt] 24)) 65 #[.slice none 0 0, .slice none 0 0, .slice none 0 0, .slice none 0 0] : HB ((w.alloc (.cells #[.slice A L c, .int .i64 kind, .int .i64 tt] 24)).alloc (.cells #[.slice none 0 0, .slice none 0 0, .slice none 0 0, .slice none 0 0] 65)) (w.heap.size + 1) 65 #[.slice none 0 0, .slice none 0 0, .slice none 0 0, .slice none 0 0]).alloc _
  have HU : Hid (Lg (((w.alloc (.cells #[.slice A L c, .int .i64 kind, .int .i64 tt] 24)).alloc (.cells #[.slice none 0 0, .slice none 0 0, .slice none 0 0, .slice none 0 0] 65)).alloc (.cells #[.int .u32 1] 87)) (some ⟨w.heap.size + 1 + 1, 0, none⟩) 1 1) :=
    lg_one (by simpa using HB.new ((w.alloc (.cells #[.slice A L c, .int .i64 kind, .int .i64 tt] 24)).alloc (.cells #[.slice none 0 0, .slice none 0 0, .slice none 0 0, .slice none 0 0] 65)) 87 #[.int .u32 1])
  have HS3 : Hid (HB ((((w.alloc (.cells #[.slice A L c, .int .i64 kind, .int .i64 tt] 24)).alloc (.cells #[.slice none 0 0, .slice none 0 0, .slice none 0 0, .slice none 0 0] 65)).alloc (.cells #[.int .u32 1] 87)).alloc (.cells #[.slice none 0 0, .slice none 0 0, .slice (some ⟨w.heap.size + 1 + 1, 0, none⟩) 1 1, .slice none 0 0] 65)) (w.heap.size + 3) 65 #[.slice none 0 0, .slice none 0 0, .slice (some ⟨w.heap.size + 1 + 1, 0, none⟩) 1 1, .slice none 0 0]) :=
    (by simpa using HB.new (((w.alloc (.cells #[.slice A L c, .int .i64 kind, .int .i64 tt] 24)).alloc (.cells #[.slice none 0 0, .slice none 0 0, .slice none 0 0, .slice none 0 0] 65)).alloc (.cells #[.int .u32 1] 87)) 65 #[.slice none 0 0, .slice none 0 0, .slice (some ⟨w.heap.size + 1 + 1, 0, none⟩) 1 1, .slice none 0 0] : HB ((((w.alloc (.cells #[.slice A L c, .int .i64 kind, .int .i64 tt] 24)).alloc (.cells #[.slice none 0 0, .slice none 0 0, .slice none 0 0, .slice none 0 0] 65)).alloc (.cells #[.int .u32 1] 87)).alloc (.cells #[.slice none 0 0, .slice none 0 0, .slice (some ⟨w.heap.size + 1 + 1, 0, none⟩) 1 1, .slice none 0 0] 65)) (w.heap.size + 3) 65 #[.slice none 0 0, .slice none 0 0, .slice (some ⟨w.heap.size + 1 + 1, 0, none⟩) 1 1, .slice none 0 0])
  go_wp2
  go_loopw [13] (fun k wr => ∃ i : Nat, i ≤ L ∧ k = .int .i64 i ∧ ∃ v1 v2 v3 v4 : Value, Hid (HB wr (w.heap.size + 3) 65 #[v1, v2, v3, v4]) ∧ Hid (SumAt wr (w.heap.size + 4) (.agg #[v1, v2, v3, v4]) (4 * i + 1) (sA xs ps i).1 (sA xs ps i).2.1 (sA xs ps i).2.2 (densOf ps i)) ∧
    Hid (HB wr (w.heap.size + 1) 65 #[.slice none 0 0, .slice none 0 0, .slice none 0 0, .slice none 0 0]) ∧ w.heap.size + 4 ≤ wr.heap.size ∧ Hid (Below w.heap.size w wr)) (fun k _ => L - (intOf k).toNat)
  case atStart =>
    refine ⟨0, by omega, rfl, _, _, _, _, HS3, ?_, HN4.out.alloc _, by simp, ?_⟩
    · exact ⟨none, 0, 0, none, 0, 0, some ⟨w.heap.size + 1 + 1, 0, none⟩, 1, 1, none, 0, 0, rfl, by omega, by omega, by omega, lg_nil _, lg_nil _, HU.out.alloc _, rfl, own_nil _ _ _⟩
    · show Below _ _ _; go_grown
  case round =>
    obtain ⟨i, hi, rfl, v1, v2, v3, v4, HS, HSum, HN, lz, HBl⟩ := hrel
    by_cases hlt : i < L
    · obtain ⟨b, o, rfl, hb, hc⟩ := (HX.out.below HBl.out) (by rw [← HL.out]; omega)
      have cx := hc i (by rw [← HL.out]; exact hlt)
      obtain ⟨b', o', rfl, hb', hc'⟩ := (HP.out.below HBl.out) (by have := HLL.out; omega)
      obtain ⟨cn, cd⟩ := hc' i (by have := HLL.out; omega)
      obtain ⟨d1, d2, d3, d4, _⟩ := fvalid_bd (HFV.out i hlt)
      have hin := inB_iff.1 (HIN.out i hlt)
      obtain ⟨d, hd⟩ : ∃ d : Nat, fden ps i = d := ⟨(fden ps i).toNat, by omega⟩
      have HD := Lib.hid hd
      rw [hd] at cd
      obtain ⟨hin1, hin2⟩ := hin
      have dd : d ≤ 1073741824 := by omega
      have t1 : (0 : Int) ≤ i := by omega
      have t2 : (i : Int) < L := by omega
      have t3 : decide (i < L) = true := by simpa using hlt
      have t4 : (i : Int) < L' := by have := HLL.out; have := HL'.out; omega
      obtain ⟨A1, L1, c1, A2, L2, c2, A3, L3, c3, A4, n4, c4, he, h1, h2, h3, r1, r2, r3, hn, ho⟩ := HSum.out
      injection he with he
      simp only [Array.mk.injEq, List.cons.injEq, and_true] at he
      obtain ⟨rfl, rfl, rfl, rfl⟩ := he
      have R1 := Lib.hid r1
      have R2 := Lib.hid r2
      have R3 := Lib.hid r3
      have RO := Lib.hid ho
      have n12 : n4 ≤ 100 := by rw [hn]; simp [densOf]; omega
      obtain ⟨f0, f1, f2, f3, f4, f5, f6, f7⟩ := HB.four HS.out
      clear hc hc' hd r1 r2 r3 ho hn HSum d1 d2
      go_wp2_with fail
      go_region_law (first
        | (go_simp; go_at_call 35; refine (splus_any (w.heap.size + 4) (4 * i + 1) (sA xs ps i).1 (sA xs ps i).2.1 (sA xs ps i).2.2 (densOf ps i) A1 A2 A3 A4 L1 c1 L2 c2 L3 c3 n4 c4 (nth xs i) (fnum ps i) d (by omega) n12 hin1 hin2 d3 d4 dd wr.drew lz h1 h2 h3 R1.out.drew R2.out.drew R3.out.drew (World.ownsRow.drew RO.out)).mono ?_; rintro e w5 ⟨v5, rfl, ⟨B1, M1, e1, B2, M2, e2, B3, M3, e3, B4, m4, e4, rfl, q1, q2, q3, s1, s2, s3, sn, so⟩, hb5⟩; have SN := Lib.hid sn; clear sn; have F5 : HB w5 (w.heap.size + 3) 65 _ := (hb5.block (w.heap.size + 3) (by omega)).trans HS.out; obtain ⟨k0, k1, k2, k3, k4, k5, k6, k7⟩ := HB.four F5))
      all_goals
        have l5 : w.heap.size + 4 ≤ w5.heap.size := by have := hb5.size; simp at this; omega
        have S1 := Lib.hid s1
        have S2 := Lib.hid s2
        have S3 := Lib.hid s3
        have SO := Lib.hid so
        have FF := Lib.hid F5
        have N5 : Hid (HB w5 (w.heap.size + 1) 65 #[.slice none 0 0, .slice none 0 0, .slice none 0 0, .slice none 0 0]) := (hb5.block (w.heap.size + 1) (by omega)).trans HN.out
        have W5 : Hid (Below w.heap.size w w5) := HBl.out.drew.trans (hb5.mono (by omega))
        clear s1 s2 s3 so F5 hb5
        go_wp2
        go_roundw
        case rel =>
          refine ⟨i + 1, by omega, by go_num, .slice B1 M1 e1, .slice B2 M2 e2, .slice B3 M3 e3, .slice B4 m4 e4, HB.set4 FF.out _ _ _ _, ?_, N5.out.far_ (by omega) (far4 w5 _ _ _ _ _), by simp; omega, bw_far W5.out (by omega) (far4 w5 _ _ _ _ _)⟩
          refine ⟨B1, M1, e1, B2, M2, e2, B3, M3, e3, B4, m4, e4, rfl, by omega, by omega, by omega, ?_, ?_, ?_, ?_, ?_⟩
          · have := S1.out.far_ FF.out (far4 w5 (w.heap.size + 3) (.slice B1 M1 e1) (.slice B2 M2 e2) (.slice B3 M3 e3) (.slice B4 m4 e4))
            unfold sA; rw [HD.out]; exact this
          · have := S2.out.far_ FF.out (far4 w5 (w.heap.size + 3) (.slice B1 M1 e1) (.slice B2 M2 e2) (.slice B3 M3 e3) (.slice B4 m4 e4))
            unfold sA; rw [HD.out]; exact this
          · have := S3.out.far_ FF.out (far4 w5 (w.heap.size + 3) (.slice B1 M1 e1) (.slice B2 M2 e2) (.slice B3 M3 e3) (.slice B4 m4 e4))
            unfold sA; rw [HD.out]; exact this
          · rw [densOf_succ, HD.out]; exact SN.out
          · rw [densOf_succ, HD.out]; exact own_farg SO.out FF.out (far4 w5 _ _ _ _ _)
        case measure => simp [intOf]; omega
    · obtain rfl : i = L := by omega
      obtain ⟨A1, L1, c1, A2, L2, c2, A3, L3, c3, A4, n4, c4, he, h1, h2, h3, r1, r2, r3, hn, ho⟩ := HSum.out
      injection he with he
      simp only [Array.mk.injEq, List.cons.injEq, and_true] at he
      obtain ⟨rfl, rfl, rfl, rfl⟩ := he
      have R1 := Lib.hid r1
      have R2 := Lib.hid r2
      have R3 := Lib.hid r3
      have RO := Lib.hid ho
      have RN := Lib.hid hn
      have t3 : decide (i < i) = false := by simp
      obtain ⟨f0, f1, f2, f3, f4, f5, f6, f7⟩ := HB.four HS.out
      obtain ⟨g0, g1, g2, g3, g4, g5, g6, g7⟩ := HB.four HN.out
      have l1 : w.heap.size + 1 < wr.heap.size := by omega
      clear r1 r2 r3 ho hn HSum hlt
      go_wp2
      have x3 := far4 wr (w.heap.size + 1) (.slice A1 L1 c1) (.slice A2 L2 c2) (.slice A3 L3 c3) (.slice A4 n4 c4)
      obtain ⟨y0, y1, y2, y3, _⟩ := HB.four (HN.out.set4 (.slice A1 L1 c1) (.slice A2 L2 c2) (.slice A3 L3 c3) (.slice A4 n4 c4))
      simp only [set4] at y0 y1 y2 y3
      refine bodyPost_ret (v := .agg #[.slice A1 L1 c1, .slice A2 L2 c2, .slice A3 L3 c3, .slice A4 n4 c4]) (by simp [results, Try.results33, go_sem, y0, y1, y2, y3]) rfl ⟨_, rfl, ⟨A1, L1, c1, A2, L2, c2, A3, L3, c3, A4, n4, c4, rfl, h1, h2, h3, R1.out.far_ HN.out x3, R2.out.far_ HN.out x3, R3.out.far_ HN.out x3, RN.out, own_base (own_farg RO.out HN.out x3) (by omega)⟩, bw_far HBl.out (by omega) x3⟩
end Go.Proofs.Ytkjollifghmkbaa
