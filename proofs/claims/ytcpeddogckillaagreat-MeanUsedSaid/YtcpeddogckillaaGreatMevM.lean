/-
  An ask in a world: does it hold: mean.Holds.
-/
import Derived.Test.YtcpeddogckillaaGreatG23
namespace Go.Proofs.YtcpeddogckillaaGreat
open Go.RowKit

theorem enters_holds1 : Enters 31 := fun args w => by kernel_rfl
set_option maxHeartbeats 1000000 in
theorem containsint_any {fid : Nat} (hc : Enters fid) (xs : List Int) (A : Option Addr) (c : Nat) (caps : Array Value) (p : Int → Bool) (C : World → Prop) (hC : ∀ W W', C W → Below W.heap.size W W' → C W') (hl : xs.length ≤ maxLen)
    (H : ∀ i W, i < xs.length → C W → Calls Tryz.prog fid (#[.int .i64 (nth xs i)] ++ caps) W fun e w' => e = .returned (.bool (p (nth xs i))) ∧ Below W.heap.size W w')
    (w : World) (h : Is w A xs) (hw : C w) :
    Calls Tryz.prog 30 #[.slice A xs.length c, .func (.func fid) #[] caps] w fun e w' => e = .returned (.bool (xs.any p)) ∧ Below w.heap.size w w' := by
  have HX := Lib.hid (indexint_any hc xs A c caps p C hC hl H w h hw)
  clear hc hC hl H hw h
  generalize xs.length = L at *
  go_enter Tryz.func30, Tryz.ntmps30
  go_wp2_with fail
  refine HX.out.mono ?_
  rintro e w1 ⟨k, rfl, hk, hb1⟩
  have HB1 := Lib.hid hb1
  clear hb1
  go_wp2_with fail
  rw [hk.out]
  go_ret
  exact ⟨rfl, HB1.out⟩
/-- Values lie in memory by their numbers. -/
def NumAt (w : World) (A : Option Addr) (vs : List Vl) : Prop := ∀ i, i < vs.length → ∃ b, A = some ⟨b, 0, none⟩ ∧ b < w.heap.size ∧ w.cell? ⟨b, i * 4, none⟩ = some (.int .i64 (vn vs i).num) ∧ w.cell? ⟨b, i * 4 + 1, none⟩ = some (.int .i64 (vn vs i).den)
theorem NumAt.below {w w' : World} {A : Option Addr} {vs : List Vl} (h : NumAt w A vs) (k : Below w.heap.size w w') : NumAt w' A vs := fun i hi => by
  obtain ⟨b, e, l, c0, c1⟩ := h i hi
  exact ⟨b, e, Nat.lt_of_lt_of_le l k.size, (k.cell (p := ⟨b, i * 4, none⟩) l).trans c0, (k.cell (p := ⟨b, i * 4 + 1, none⟩) l).trans c1⟩
theorem vm_num {B C c n : Nat} {A : Option Addr} {w : World} {ps : List (Vl × Value)} {vs : List Vl} (h : VMk B C (.slice A n c) w ps) (hp : ps.map (·.1) = vs) : NumAt w A vs := fun i hi => by
  subst hp
  have hi' : i < ps.length := by rwa [List.length_map] at hi
  have e : ps[i]? = some ps[i] := List.getElem?_eq_getElem hi'
  obtain ⟨b, e1, l, c0, c1, _⟩ := vm_at h e
  refine ⟨b, e1, l, ?_, ?_⟩
  · rw [c0]; simp [vn, List.getD, e]
  · rw [c1]; simp [vn, List.getD, e]
set_option maxHeartbeats 1000000 in
theorem holds1_any (vs : List Vl) (A : Option Addr) (c g : Nat) (n : Int) (h0 : 0 ≤ n) (h1 : n < vs.length) (w : World) (hg : HB w g 53 #[.slice A vs.length c]) (hv : NumAt w A vs) :
    Calls Tryz.prog 31 #[.int .i64 n, .pointer (some ⟨g, 0, none⟩)] w fun e w' => e = .returned (.bool ((vn vs n.toNat).num == 0)) ∧ Below w.heap.size w w' := by
  obtain ⟨k, rfl⟩ : ∃ k : Nat, n = k := ⟨n.toNat, by omega⟩
  rw [Int.toNat_natCast]
  obtain ⟨b, rfl, lb, c0, c1⟩ := hv k (by omega)
  have x0 := hg.cell 0
  have hk : k < vs.length := by omega
  have XF := Lib.hid (isfalse_any (vn vs k).num (vn vs k).den w)
  clear hv h0 h1
  generalize vs.length = vl at *
  generalize (vn vs k).num = N at *
  generalize (vn vs k).den = D at *
  go_enter Tryz.func31, Tryz.ntmps31
  go_wp2_with fail
  refine XF.out.mono ?_
  rintro e w1 ⟨rfl, hb1⟩
  have HB1 := Lib.hid hb1
  clear hb1
  go_wp2_with fail
  go_ret
  exact ⟨rfl, HB1.out⟩
/-- Does it hold? -/
def hoR (r : Except (Int × Int) (List Vl)) (hs : List Int) : Bool := match r with
  | .ok vs => !(hs.any fun n => (vn vs n.toNat).num == 0)
  | .error _ => false
def errC (r : Except (Int × Int) (List Vl)) : Int := match r with
  | .ok _ => 0
  | .error p => p.1
def errA (r : Except (Int × Int) (List Vl)) : Int := match r with
  | .ok _ => 0
  | .error p => p.2
def HoldsQ (r : Except (Int × Int) (List Vl)) (hs : List Int) (w : World) (e : Ending) (w' : World) : Prop := e = .returned (.tuple #[.bool (hoR r hs), .agg #[.int .i64 (errC r), .int .i64 (errA r)]]) ∧ Below w.heap.size w w'
set_option maxRecDepth 100000 in
set_option maxHeartbeats 8000000 in
theorem holds_ok (qs : List Dc) (ns : List Nd) (hs : List Int) (ms : List Mg) (Ad An Ah Am : Option Addr) (dc nc hc mc : Nat) (w : World) (h : AwAt w qs ns hs ms Ad An Ah Am dc nc hc mc) (vs : List Vl) (hr : mvR qs ns hs ms = .ok vs) (hh : ∀ i, i < hs.length → 0 ≤ nth hs i ∧ nth hs i < vs.length) :
    Calls Tryz.prog 13 #[.agg #[.slice Ad qs.length dc, .slice An ns.length nc, .slice Ah hs.length hc], .agg #[.slice Am ms.length mc]] w (HoldsQ (.ok vs) hs w) := by
  have X1 := Lib.hid (fun (W : World) (k : Below w.heap.size w W) => value_any qs ns hs ms Ad An Ah Am dc nc hc mc W (h.below k))
  rw [hr] at X1
  have HI := Lib.hid h.fh
  have HL := Lib.hid h.h1
  have BX : Hid (Below w.heap.size w (((w.alloc (.cells #[.slice Ad qs.length dc, .slice An ns.length nc, .slice Ah hs.length hc] 26)).alloc (.cells #[.slice Am ms.length mc] 36)).alloc (.cells #[.int .i64 0, .int .i64 0] 30))) := Lib.hid (by go_grown)
  have HX := Lib.hid (((HB.new w 26 #[.slice Ad qs.length dc, .slice An ns.length nc, .slice Ah hs.length hc]).alloc (.cells #[.slice Am ms.length mc] 36)).alloc (.cells #[.int .i64 0, .int .i64 0] 30))
  have FX := Lib.hid (HB.new2 w (.cells #[.slice Ad qs.length dc, .slice An ns.length nc, .slice Ah hs.length hc] 26) (.cells #[.slice Am ms.length mc] 36) 30 #[.int .i64 0, .int .i64 0])
  have XC := Lib.hid (fun (A : Option Addr) (c g : Nat) (W : World) (k : Below w.heap.size w W) (hg : HB W g 53 #[.slice A vs.length c]) (hv : NumAt W A vs) =>
    containsint_any enters_holds1 hs Ah hc #[.pointer (some ⟨g, 0, none⟩)] (fun n => (vn vs n.toNat).num == 0) (fun W => HB W g 53 #[.slice A vs.length c] ∧ NumAt W A vs) (fun W W' h1 h2 => ⟨h1.1.below h2, h1.2.below h2⟩) h.h1
      (fun i W hi hW => holds1_any vs A c g (nth hs i) (hh i hi).1 (hh i hi).2 W hW.1 hW.2) W (h.fh.below k) ⟨hg, hv⟩)
  clear h hr hh HI HL
  generalize hQ : HoldsQ (.ok vs) hs w = Q0 at *
  have HQ0 := Lib.hid (fun e w' (z : HoldsQ (.ok vs) hs w e w') => (show Q0 e w' by rw [← hQ]; exact z))
  clear hQ
  unfold HoldsQ hoR errC errA at HQ0
  dsimp only at HQ0
  generalize hs.any (fun n => (vn vs n.toNat).num == 0) = B at *
  generalize qs.length = ql at *
  generalize ns.length = nl at *
  generalize hs.length = hl at *
  generalize ms.length = ml at *
  generalize hvl : vs.length = vl at *
  go_enter Tryz.func13, Tryz.ntmps13
  go_wp2_with fail
  refine (X1.out _ BX.out).mono ?_
  rintro e w1 hq1
  obtain ⟨A, c, ps, rfl, hvm, hpv, hb1⟩ : ∃ A c ps, e = .returned (.tuple #[.slice A vs.length c, .agg #[.int .i64 0, .int .i64 0]]) ∧ VMk _ _ (.slice A vs.length c) w1 ps ∧ ps.map (·.1) = vs ∧ Below _ _ w1 := hq1
  have NA := Lib.hid (vm_num hvm hpv)
  rw [hvl] at *
  have B1 := Lib.hid (below_after BX.out hb1)
  have H1 := Lib.hid (HX.out.below hb1)
  have F1 := Lib.hid (FX.out.below hb1)
  clear hvm hpv hb1 X1 HX BX FX
  have BY := Lib.hid (new_below w1 (.cells #[.slice A vl c] 53))
  have BZ := Lib.hid (new_below (w1.alloc (.cells #[.slice A vl c] 53)) (.cells #[.int .i64 0, .int .i64 0] 30))
  have BB := Lib.hid (below_after BY.out BZ.out)
  have HG := Lib.hid ((HB.new w1 53 #[.slice A vl c]).below BZ.out)
  have HF := Lib.hid (HB.new1 w1 (.cells #[.slice A vl c] 53) 30 #[.int .i64 0, .int .i64 0])
  have H2 := Lib.hid (H1.out.below BB.out)
  have F2 := Lib.hid (F1.out.below BB.out)
  have X3 := Lib.hid (XC.out A c w1.heap.size _ (below_after B1.out BB.out) HG.out (NA.out.below BB.out))
  clear XC
  obtain ⟨a0, a1, a2, -⟩ := H2.out.three
  obtain ⟨f0, f1, -⟩ := F2.out.two
  go_wp2_with fail
  refine X3.out.mono ?_
  rintro e w3 ⟨rfl, hb3⟩
  have F3 := Lib.hid (F2.out.below hb3)
  have B3 := Lib.hid (below_after (below_after B1.out BB.out) hb3)
  clear hb3
  obtain ⟨f0', f1', f2', f3'⟩ := F3.out.two
  have FW := Lib.hid (far2 w3 (w.heap.size + 1 + 1) (.int .i64 0) (.int .i64 0))
  have FIN := Lib.hid (HQ0.out _ _ ⟨rfl, bw_far B3.out (by omega) FW.out⟩)
  obtain ⟨c0, c1, -⟩ := (hb_set2 (n := .int .i64 0) (d := .int .i64 0) F3.out).two
  go_wp2_with fail
  exact bodyPost_ret (v := .tuple #[.bool !B, .agg #[.int .i64 0, .int .i64 0]]) (by simp [results, Tryz.results13, go_sem, c0, c1]) rfl FIN.out
set_option maxRecDepth 100000 in
set_option maxHeartbeats 8000000 in
theorem holds_err (qs : List Dc) (ns : List Nd) (hs : List Int) (ms : List Mg) (Ad An Ah Am : Option Addr) (dc nc hc mc : Nat) (w : World) (h : AwAt w qs ns hs ms Ad An Ah Am dc nc hc mc) (C D : Int) (hr : mvR qs ns hs ms = .error (C, D)) (hC : C ≠ 0) :
    Calls Tryz.prog 13 #[.agg #[.slice Ad qs.length dc, .slice An ns.length nc, .slice Ah hs.length hc], .agg #[.slice Am ms.length mc]] w (HoldsQ (.error (C, D)) hs w) := by
  have X1 := Lib.hid (fun (W : World) (k : Below w.heap.size w W) => value_any qs ns hs ms Ad An Ah Am dc nc hc mc W (h.below k))
  rw [hr] at X1
  have BX : Hid (Below w.heap.size w (((w.alloc (.cells #[.slice Ad qs.length dc, .slice An ns.length nc, .slice Ah hs.length hc] 26)).alloc (.cells #[.slice Am ms.length mc] 36)).alloc (.cells #[.int .i64 0, .int .i64 0] 30))) := Lib.hid (by go_grown)
  have FX := Lib.hid (HB.new2 w (.cells #[.slice Ad qs.length dc, .slice An ns.length nc, .slice Ah hs.length hc] 26) (.cells #[.slice Am ms.length mc] 36) 30 #[.int .i64 0, .int .i64 0])
  clear h hr
  generalize hQ : HoldsQ (.error (C, D)) hs w = Q0 at *
  have HQ0 := Lib.hid (fun e w' (z : HoldsQ (.error (C, D)) hs w e w') => (show Q0 e w' by rw [← hQ]; exact z))
  clear hQ
  unfold HoldsQ hoR errC errA at HQ0
  dsimp only at HQ0
  generalize qs.length = ql at *
  generalize ns.length = nl at *
  generalize hs.length = hl at *
  generalize ms.length = ml at *
  have hC' : (C == 0) = false := by simpa using hC
  go_enter Tryz.func13, Tryz.ntmps13
  go_wp2_with fail
  refine (X1.out _ BX.out).mono ?_
  rintro e w1 ⟨rfl, hb1⟩
  have B1 := Lib.hid (below_after BX.out hb1)
  have F1 := Lib.hid (FX.out.below hb1)
  clear hb1 X1 BX FX
  dsimp only
  have BY := Lib.hid (new_below w1 (.cells #[.slice none 0 0] 53))
  have BZ := Lib.hid (new_below (w1.alloc (.cells #[.slice none 0 0] 53)) (.cells #[.int .i64 C, .int .i64 D] 30))
  have BB := Lib.hid (below_after BY.out BZ.out)
  have HF := Lib.hid (HB.new1 w1 (.cells #[.slice none 0 0] 53) 30 #[.int .i64 C, .int .i64 D])
  have F2 := Lib.hid (F1.out.below BB.out)
  have B2 := Lib.hid (below_after B1.out BB.out)
  obtain ⟨f0, f1, f2, f3⟩ := F2.out.two
  have tc2 : (C != 0) = true := by simpa using hC
  clear hC
  go_wp2_with fail
  have Z2 := Lib.hid (hb_set2 (n := .int .i64 C) (d := .int .i64 D) F2.out)
  have FW := Lib.hid (far2 ((w1.alloc (.cells #[.slice none 0 0] 53)).alloc (.cells #[.int .i64 C, .int .i64 D] 30)) (w.heap.size + 1 + 1) (.int .i64 C) (.int .i64 D))
  have BF := Lib.hid (bw_far B2.out (by omega) FW.out)
  clear BY BZ BB HF F2 B2 FW
  go_region
  all_goals
    obtain ⟨z0, z1, -⟩ := Z2.out.drew.two
    have FIN := Lib.hid (HQ0.out _ _ ⟨rfl, BF.out.drew⟩)
    clear f0 f1 f2 f3 Z2 BF
    go_wp2_with fail
    exact bodyPost_ret (v := .tuple #[.bool false, .agg #[.int .i64 C, .int .i64 D]]) (by simp [results, Tryz.results13, go_sem, z0, z1]) rfl FIN.out
theorem holds_any (qs : List Dc) (ns : List Nd) (hs : List Int) (ms : List Mg) (Ad An Ah Am : Option Addr) (dc nc hc mc : Nat) (w : World) (h : AwAt w qs ns hs ms Ad An Ah Am dc nc hc mc) (h0 : ∀ C D, mvR qs ns hs ms = .error (C, D) → C ≠ 0) (hh : ∀ vs, mvR qs ns hs ms = .ok vs → ∀ i, i < hs.length → 0 ≤ nth hs i ∧ nth hs i < vs.length) :
    Calls Tryz.prog 13 #[.agg #[.slice Ad qs.length dc, .slice An ns.length nc, .slice Ah hs.length hc], .agg #[.slice Am ms.length mc]] w (HoldsQ (mvR qs ns hs ms) hs w) := by
  cases hr : mvR qs ns hs ms with
  | ok vs => exact holds_ok qs ns hs ms Ad An Ah Am dc nc hc mc w h vs hr (hh vs hr)
  | error e =>
    obtain ⟨C, D⟩ := e
    exact holds_err qs ns hs ms Ad An Ah Am dc nc hc mc w h C D hr (h0 C D hr)
end Go.Proofs.YtcpeddogckillaaGreat
