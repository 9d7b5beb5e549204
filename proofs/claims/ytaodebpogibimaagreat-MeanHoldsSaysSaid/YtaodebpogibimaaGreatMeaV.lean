/-
  Values of nodes: the value of a node.
-/
import Derived.Test.YtaodebpogibimaaGreatG07
namespace Go.Proofs.YtaodebpogibimaaGreat
open Go.RowKit

/-- The numbers of values. -/
def numsOf (kids : List Vl) : List (Int × Int) := kids.map fun q => (q.num, q.den)
theorem numsOf_len (kids : List Vl) : (numsOf kids).length = kids.length := by simp [numsOf]
theorem csV_snoc (cs : List (Int × Int)) (q : Int × Int) : csV (cs ++ [q]) = csV cs ++ [.int .i64 q.1, .int .i64 q.2] := by simp [csV]
theorem numsOf_take {kids : List Vl} {i : Nat} (h : i < kids.length) : numsOf (kids.take (i + 1)) = numsOf (kids.take i) ++ [((vn kids i).num, (vn kids i).den)] := by
  rw [List.take_add_one, getD_of h (d := default)]
  simp [numsOf, vn]
/-- A row of the call's own reads as fractions. -/
theorem csV_get {cs : List (Int × Int)} : ∀ {i : Nat} {q : Int × Int}, cs[i]? = some q → (csV cs)[i * 2]? = some (.int .i64 q.1) ∧ (csV cs)[i * 2 + 1]? = some (.int .i64 q.2) := by
  induction cs with
  | nil => intro i q h; cases h
  | cons p cs ih =>
    intro i q h
    cases i with
    | zero =>
      simp at h
      subst h
      exact ⟨rfl, rfl⟩
    | succ i =>
      simp at h
      have := ih h
      rw [show (i + 1) * 2 = i * 2 + 1 + 1 by omega]
      exact this
theorem infoFrac : (Tryz.prog.info? 44).map (fun i => (i.zero, i.size, i.bytes)) = some (some (.agg #[.int .i64 0, .int .i64 0]), 2, 16) := by kernel_rfl
theorem own_cs {w : World} {base n c : Nat} {e : TypeId} {A : Option Addr} {fs : List (Int × Int)} (h : w.ownsRow base e 2 (.slice A n c) n (csV fs)) (hl : fs.length = n) : CsAt w A fs := by
  rcases h.2 with ⟨h0, h1⟩ | ⟨g, cap, cur, h0, hb, hh, hc, _, hsz, htk⟩
  · intro z
    omega
  · injection h0 with h0 _ _
    intro z
    refine ⟨g, 0, h0, HB.lt hh, fun i q hq => ?_⟩
    have hi : i < fs.length := by
      rcases Nat.lt_or_ge i fs.length with y | y
      · exact y
      · rw [List.getElem?_eq_none y] at hq; cases hq
    have e1 : (csV fs)[i * 2]? = some (.int .i64 q.1) ∧ (csV fs)[i * 2 + 1]? = some (.int .i64 q.2) := csV_get hq
    obtain ⟨e1, e2⟩ := e1
    rw [← htk, List.getElem?_take_of_lt (by omega)] at e1 e2
    rw [cell_of_row w g (0 + i * 2) cur e (0, 0) hh, show 0 + i * 2 + 1 = i * 2 + 1 by omega, cell_of_row w g (i * 2 + 1) cur e (0, 0) hh, show 0 + i * 2 = i * 2 by omega]
    exact ⟨by simpa using e1, by simpa using e2⟩
/-- A whole number, a fraction as a value. -/
def whV (n : Int) : Vl := ⟨n, 1, [], 0⟩
def frVl (p : Int × Int) : Vl := ⟨p.1, p.2, [], 0⟩
/-- What the reckoning of a node yields: a value, and a fault. -/
def EvQ (q : Vl) (f : Int) (w : World) (e : Ending) (w' : World) : Prop := ∃ A c, e = .returned (.tuple #[.agg #[.int .i64 q.num, .int .i64 q.den, .slice A q.cells.length c, .int .i64 q.rest], .agg #[.int .i64 f, .int .i64 0]]) ∧ Hid (w'.ownsRow w.heap.size 96 2 (.slice A q.cells.length c) q.cells.length (csV q.cells)) ∧ Below w.heap.size w w'
/-- The value of a node, and its fault. -/
def evF (op sort N D : Int) (m : Mg) (fs : List (Int × Int)) : Vl × Int :=
  if op = 9 then (tolF m fs, 0) else if op = 7 then (frVl (pickF fs), 0) else if op = 10 ∨ op = 11 ∨ op = 12 then (frVl (numF op N D fs).1, (numF op N D fs).2) else if sort = 1 then (whV (if truF op fs then 1 else 0), 0) else (whV (wrdF op N (mds sort) fs), 0)
theorem ev_new (w : World) (op N D : Int) (nm : ByteArray) (Ak : Option Addr) (kl kc : Nat) : HB (((w.alloc (.cells #[.int .i64 op, .slice Ak kl kc, .int .i64 N, .int .i64 D, .string nm] 56)).alloc (.cells #[.int .i64 0, .int .i64 0, .slice none 0 0, .int .i64 0] 47)).alloc (.cells #[.int .i64 0, .int .i64 0] 32)) w.heap.size 56 #[.int .i64 op, .slice Ak kl kc, .int .i64 N, .int .i64 D, .string nm] ∧ HB (((w.alloc (.cells #[.int .i64 op, .slice Ak kl kc, .int .i64 N, .int .i64 D, .string nm] 56)).alloc (.cells #[.int .i64 0, .int .i64 0, .slice none 0 0, .int .i64 0] 47)).alloc (.cells #[.int .i64 0, .int .i64 0] 32)) (w.heap.size + 1) 47 #[.int .i64 0, .int .i64 0, .slice none 0 0, .int .i64 0] ∧ HB (((w.alloc (.cells #[.int .i64 op, .slice Ak kl kc, .int .i64 N, .int .i64 D, .string nm] 56)).alloc (.cells #[.int .i64 0, .int .i64 0, .slice none 0 0, .int .i64 0] 47)).alloc (.cells #[.int .i64 0, .int .i64 0] 32)) (w.heap.size + 1 + 1) 32 #[.int .i64 0, .int .i64 0] ∧ Below w.heap.size w (((w.alloc (.cells #[.int .i64 op, .slice Ak kl kc, .int .i64 N, .int .i64 D, .string nm] 56)).alloc (.cells #[.int .i64 0, .int .i64 0, .slice none 0 0, .int .i64 0] 47)).alloc (.cells #[.int .i64 0, .int .i64 0] 32)) :=
  ⟨((HB.new _ _ _).alloc _).alloc _, (HB.new1 _ _ _ _).alloc _, HB.new2 _ _ _ _ _, by go_grown⟩
/-- The three variables of the reckoning. -/
structure EvM (w0 : World) (op N D : Int) (nm : ByteArray) (Ak : Option Addr) (kl kc : Nat) (w : World) : Prop where
  n : HB w w0.heap.size 56 #[.int .i64 op, .slice Ak kl kc, .int .i64 N, .int .i64 D, .string nm]
  v : HB w (w0.heap.size + 1) 47 #[.int .i64 0, .int .i64 0, .slice none 0 0, .int .i64 0]
  f : HB w (w0.heap.size + 1 + 1) 32 #[.int .i64 0, .int .i64 0]
  b : Below w0.heap.size w0 w
theorem EvM.below {w0 w w' : World} {op N D : Int} {nm : ByteArray} {Ak : Option Addr} {kl kc : Nat} (h : EvM w0 op N D nm Ak kl kc w) (k : Below w.heap.size w w') : EvM w0 op N D nm Ak kl kc w' := ⟨h.n.below k, h.v.below k, h.f.below k, below_after h.b k⟩
theorem ev_put {w0 W : World} {op N D : Int} {nm : ByteArray} {Ak : Option Addr} {kl kc : Nat} (h : EvM w0 op N D nm Ak kl kc W) (q : Vl) (A : Option Addr) (c : Nat) (f : Int) :
    HB ((((((W.setCell ⟨w0.heap.size + 1, 0, none⟩ (.int .i64 q.num)).setCell ⟨w0.heap.size + 1, 1, none⟩ (.int .i64 q.den)).setCell ⟨w0.heap.size + 1, 2, none⟩ (.slice A q.cells.length c)).setCell ⟨w0.heap.size + 1, 3, none⟩ (.int .i64 q.rest)).setCell ⟨w0.heap.size + 1 + 1, 0, none⟩ (.int .i64 f)).setCell ⟨w0.heap.size + 1 + 1, 1, none⟩ (.int .i64 0)) (w0.heap.size + 1) 47 #[.int .i64 q.num, .int .i64 q.den, .slice A q.cells.length c, .int .i64 q.rest] ∧ HB ((((((W.setCell ⟨w0.heap.size + 1, 0, none⟩ (.int .i64 q.num)).setCell ⟨w0.heap.size + 1, 1, none⟩ (.int .i64 q.den)).setCell ⟨w0.heap.size + 1, 2, none⟩ (.slice A q.cells.length c)).setCell ⟨w0.heap.size + 1, 3, none⟩ (.int .i64 q.rest)).setCell ⟨w0.heap.size + 1 + 1, 0, none⟩ (.int .i64 f)).setCell ⟨w0.heap.size + 1 + 1, 1, none⟩ (.int .i64 0)) (w0.heap.size + 1 + 1) 32 #[.int .i64 f, .int .i64 0] ∧ Below w0.heap.size w0 ((((((W.setCell ⟨w0.heap.size + 1, 0, none⟩ (.int .i64 q.num)).setCell ⟨w0.heap.size + 1, 1, none⟩ (.int .i64 q.den)).setCell ⟨w0.heap.size + 1, 2, none⟩ (.slice A q.cells.length c)).setCell ⟨w0.heap.size + 1, 3, none⟩ (.int .i64 q.rest)).setCell ⟨w0.heap.size + 1 + 1, 0, none⟩ (.int .i64 f)).setCell ⟨w0.heap.size + 1 + 1, 1, none⟩ (.int .i64 0)) ∧
    (∀ B v n xs, W.ownsRow B 96 2 v n xs → World.ownsRow ((((((W.setCell ⟨w0.heap.size + 1, 0, none⟩ (.int .i64 q.num)).setCell ⟨w0.heap.size + 1, 1, none⟩ (.int .i64 q.den)).setCell ⟨w0.heap.size + 1, 2, none⟩ (.slice A q.cells.length c)).setCell ⟨w0.heap.size + 1, 3, none⟩ (.int .i64 q.rest)).setCell ⟨w0.heap.size + 1 + 1, 0, none⟩ (.int .i64 f)).setCell ⟨w0.heap.size + 1 + 1, 1, none⟩ (.int .i64 0)) B 96 2 v n xs) := by
  have F1 := far4 W (w0.heap.size + 1) (.int .i64 q.num) (.int .i64 q.den) (.slice A q.cells.length c) (.int .i64 q.rest)
  have h1 := hb_set4 (n := .int .i64 q.num) (d := .int .i64 q.den) (e := .slice A q.cells.length c) (f := .int .i64 q.rest) h.v
  have h2 := hb_far h.f (by omega) F1
  have F2 := far2 ((((W.setCell ⟨w0.heap.size + 1, 0, none⟩ (.int .i64 q.num)).setCell ⟨w0.heap.size + 1, 1, none⟩ (.int .i64 q.den)).setCell ⟨w0.heap.size + 1, 2, none⟩ (.slice A q.cells.length c)).setCell ⟨w0.heap.size + 1, 3, none⟩ (.int .i64 q.rest)) (w0.heap.size + 1 + 1) (.int .i64 f) (.int .i64 0)
  exact ⟨hb_far h1 (by omega) F2, hb_set2 h2, bw_far (bw_far h.b (by omega) F1) (by omega) F2, fun B v n xs ho => own_far (own_far ho (own_ne ho h.v (by decide)) F1) (own_ne (own_far ho (own_ne ho h.v (by decide)) F1) h2 (by decide)) F2⟩
set_option maxRecDepth 100000 in
set_option maxHeartbeats 8000000 in
theorem eval_name {fid : Nat} (hc : Enters fid) (caps : Array Value) (sort : Int) (N D : Int) (nm : ByteArray) (Ak Av : Option Addr) (kl kc vc : Nat) (kids : List Vl) (hk : kids.length ≤ 1000) (w : World) (hv : VsAt w Av kids) (m : Mg) (Ar Ac : Option Addr) (cr cc : Nat) (hr : m.rows.length ≤ maxLen) (hc0 : m.rest.cells.length ≤ 2000) (hc1 : ∀ i, i < m.rows.length → (en m.rows i).too.cells.length ≤ 2000) (h1 : EsAt w Ar m.rows) (h3 : CsAt w Ac m.rest.cells)
    (hm : ∀ W, Below w.heap.size w W → Calls Tryz.prog fid (#[.string nm] ++ caps) W fun e w' => e = .returned (.agg #[.slice Ar m.rows.length cr, .int .i64 m.rest.num, .int .i64 m.rest.den, .slice Ac m.rest.cells.length cc, .int .i64 m.rest.rest]) ∧ Below W.heap.size W w') :
    Calls Tryz.prog 15 #[.agg #[.int .i64 9, .slice Ak kl kc, .int .i64 N, .int .i64 D, .string nm], .int .i64 sort, .slice Av kids.length vc, .func (.func fid) #[] caps] w (EvQ (tolF m (numsOf kids)) 0 w) := by
  have HN := Lib.hid (ev_new w 9 N D nm Ak kl kc)
  have HV := Lib.hid hv
  have HLN := Lib.hid (numsOf_len kids)
  have HCC := Lib.hid hc
  have HME := Lib.hid hm
  have HTO := Lib.hid (fun (W : World) (A2 : Option Addr) (c2 : Nat) (k : Below w.heap.size w W) (h2 : CsAt W A2 (numsOf kids)) => told_any m Ar Ac A2 cr cc c2 (numsOf kids) (by rw [numsOf_len]; unfold maxLen; omega) hr hc0 hc1 W (h1.below k) h2 (h3.below k))
  clear hm h1 h3
  unfold ValQ at HTO
  generalize tolF m (numsOf kids) = q at *
  generalize hL : kids.length = L at *
  have HL := Lib.hid hL
  clear hv hL
  go_enter Tryz.func15, Tryz.ntmps15
  go_wp2_with fail
  go_loopw [10, 12, 17] (fun nv _ k wr => ∃ i : Nat, i ≤ L ∧ k = .int .i64 i ∧ Hid (wr.ownsRow w.heap.size 44 2 nv i (csV (numsOf (kids.take i)))) ∧ Hid (EvM w 9 N D nm Ak kl kc wr)) (fun _ _ k _ => L - (intOf k).toNat)
  case atStart => exact ⟨0, by omega, rfl, Lib.hid (own_nil _ _ _ _), Lib.hid ⟨HN.out.1, HN.out.2.1, HN.out.2.2.1, HN.out.2.2.2⟩⟩
  case round =>
    clear HN
    obtain ⟨i, hi, rfl, HO, HM⟩ := hrel
    by_cases hlt : i < L
    · obtain ⟨b, o, rfl, hb, c0, c1, c3, Ac, cc, c2, _⟩ := vs_at (i := i) (HV.out.below HM.out.b) (by rw [HL.out]; exact hlt)
      have t3 : decide ((i : Int) < L) = true := by simpa using hlt
      have HT := Lib.hid (numsOf_take (kids := kids) (i := i) (by rw [HL.out]; exact hlt))
      simp only [Nat.add_zero, Nat.zero_add] at c0 c1 c2 c3
      generalize (vn kids i).num = qn at *
      generalize (vn kids i).den = qd at *
      generalize (vn kids i).rest = qr at *
      generalize (vn kids i).cells.length = ql at *
      generalize u10 = kv at *
      have B1 := Lib.hid (new_below wr (.cells #[.int .i64 qn, .int .i64 qd, .slice Ac ql cc, .int .i64 qr] 47))
      have B2 := Lib.hid (new_below (wr.alloc (.cells #[.int .i64 qn, .int .i64 qd, .slice Ac ql cc, .int .i64 qr] 47)) (.cells #[.int .i64 qn, .int .i64 qd] 44))
      have HO3 := Lib.hid (own_below (own_below HO.out B1.out) B2.out)
      have HM3 := Lib.hid ((HM.out.below B1.out).below B2.out)
      go_wp2_with (at_builtin; refine wpl_app2 73 44 Tryz.underlying73 (.agg #[.int .i64 0, .int .i64 0]) 2 16 infoFrac rfl (by decide) rfl _ _ rfl w.heap.size kv i (csV (numsOf (kids.take i))) rfl HO3.out (wr.heap.size + 1) #[.int .i64 qn, .int .i64 qd] rfl (HB.new1 _ _ _ _) rfl (by simp [Value.oneCell']) (by omega) (by unfold maxLen; omega) HM3.out.b.size ?_)
      intro g4 cap4 w4 hown4 hkp4 hbw4 _
      have M4 : Hid (EvM w 9 N D nm Ak kl kc w4) := Lib.hid ⟨hkp4 _ _ _ (own_ne HO3.out HM3.out.n (by decide)) HM3.out.n, hkp4 _ _ _ (own_ne HO3.out HM3.out.v (by decide)) HM3.out.v, hkp4 _ _ _ (own_ne HO3.out HM3.out.f (by decide)) HM3.out.f, hbw4 _ HM3.out.b⟩
      have O4 := hown4
      clear hkp4 hbw4 hown4
      go_wp2_with fail
      go_round
      case rel => exact ⟨i + 1, by omega, by go_num, Lib.hid (by rw [HT.out, csV_snoc]; exact O4.out), M4⟩
      case measure => simp [intOf]; omega
    · obtain rfl : i = L := by omega
      have t3 : decide ((i : Int) < i) = false := by simp
      obtain ⟨An, nc, hkv⟩ := own_val HO.out
      subst hkv
      have HFS : Hid (numsOf (kids.take i) = numsOf kids) := Lib.hid (by rw [List.take_of_length_le (by rw [HL.out]; exact Nat.le_refl _)])
      have HC : Hid (CsAt wr An (numsOf kids)) := Lib.hid (by
        rw [← HFS.out]
        exact own_cs HO.out (by rw [HFS.out, HLN.out]))
      have HLEN : Hid ((numsOf kids).length = i) := HLN
      obtain ⟨k0, k1, k2, k3, k4⟩ := HM.out.n.five
      go_wp2_with fail
      rw [HCC.out, Oper.upon_enter]
      refine (HME.out _ HM.out.b).mono ?_
      rintro e w1 ⟨rfl, hb1⟩
      have M1 := Lib.hid (HM.out.below hb1)
      have C1 := Lib.hid (HC.out.below hb1)
      have T1 := Lib.hid (HTO.out w1 An nc M1.out.b C1.out)
      rw [HLEN.out] at T1
      clear hb1
      go_wp2_with fail
      refine T1.out.mono ?_
      rintro e w2 ⟨A9, c9, rfl, ho9, hb2⟩
      have M9 := Lib.hid (M1.out.below hb2)
      have O9 := ho9
      clear hb2 ho9 k0 k1 k2 k3 k4
      have P8 := ev_put M9.out q A9 c9 0
      try dsimp only [List.length_nil] at P8
      have P9 := Lib.hid P8
      clear P8
      have FIN : Hid (EvQ q 0 w (.returned (.tuple #[.agg #[.int .i64 (q).num, .int .i64 (q).den, .slice A9 (q).cells.length c9, .int .i64 (q).rest], .agg #[.int .i64 0, .int .i64 0]])) _) := Lib.hid ⟨A9, c9, rfl, Lib.hid (P9.out.2.2.2 _ _ _ _ (own_base O9.out M1.out.b.size)), P9.out.2.2.1⟩
      obtain ⟨e0, e1, e2, e3, fe0, fe1, fe2, fe3⟩ := M9.out.v.four
      obtain ⟨g0, g1, fg0, fg1⟩ := M9.out.f.two
      obtain ⟨z0, z1, z2, z3, -⟩ := P9.out.1.four
      obtain ⟨y0, y1, -⟩ := P9.out.2.1.two
      clear P9
      go_wp2_with fail
      exact bodyPost_ret (v := .tuple #[.agg #[.int .i64 (q).num, .int .i64 (q).den, .slice A9 (q).cells.length c9, .int .i64 (q).rest], .agg #[.int .i64 0, .int .i64 0]]) (by simp [results, Tryz.results15, go_sem, z0, z1, z2, z3, y0, y1]) rfl FIN.out
      
set_option maxRecDepth 100000 in
set_option maxHeartbeats 8000000 in
theorem eval_pick {fidd : Nat} (capss : Array Value) (sort : Int) (N D : Int) (nm : ByteArray) (Ak Av : Option Addr) (kl kc vc : Nat) (kids : List Vl) (hk : kids.length ≤ 1000) (w : World) (hv : VsAt w Av kids) (h3 : 3 ≤ kids.length) :
    Calls Tryz.prog 15 #[.agg #[.int .i64 7, .slice Ak kl kc, .int .i64 N, .int .i64 D, .string nm], .int .i64 sort, .slice Av kids.length vc, .func (.func fidd) #[] capss] w (EvQ (Vl.mk (pickF (numsOf kids)).1 (pickF (numsOf kids)).2 [] 0) 0 w) := by
  have HN := Lib.hid (ev_new w 7 N D nm Ak kl kc)
  have HV := Lib.hid hv
  have HLN := Lib.hid (numsOf_len kids)
  have HPK := Lib.hid (fun (W : World) (A : Option Addr) (c : Nat) (h : CsAt W A (numsOf kids)) => pick_any' (numsOf kids) A c (by rw [numsOf_len]; exact h3) (by rw [numsOf_len]; unfold maxLen; omega) W h)
  generalize pickF (numsOf kids) = p at *
  obtain ⟨pn, pd⟩ := p
  dsimp only at HPK ⊢
  generalize hL : kids.length = L at *
  have HL := Lib.hid hL
  clear hv hL
  go_enter Tryz.func15, Tryz.ntmps15
  go_wp2_with fail
  go_loopw [10, 12, 17] (fun nv _ k wr => ∃ i : Nat, i ≤ L ∧ k = .int .i64 i ∧ Hid (wr.ownsRow w.heap.size 44 2 nv i (csV (numsOf (kids.take i)))) ∧ Hid (EvM w 7 N D nm Ak kl kc wr)) (fun _ _ k _ => L - (intOf k).toNat)
  case atStart => exact ⟨0, by omega, rfl, Lib.hid (own_nil _ _ _ _), Lib.hid ⟨HN.out.1, HN.out.2.1, HN.out.2.2.1, HN.out.2.2.2⟩⟩
  case round =>
    clear HN
    obtain ⟨i, hi, rfl, HO, HM⟩ := hrel
    by_cases hlt : i < L
    · obtain ⟨b, o, rfl, hb, c0, c1, c3, Ac, cc, c2, _⟩ := vs_at (i := i) (HV.out.below HM.out.b) (by rw [HL.out]; exact hlt)
      have t3 : decide ((i : Int) < L) = true := by simpa using hlt
      have HT := Lib.hid (numsOf_take (kids := kids) (i := i) (by rw [HL.out]; exact hlt))
      simp only [Nat.add_zero, Nat.zero_add] at c0 c1 c2 c3
      generalize (vn kids i).num = qn at *
      generalize (vn kids i).den = qd at *
      generalize (vn kids i).rest = qr at *
      generalize (vn kids i).cells.length = ql at *
      generalize u10 = kv at *
      have B1 := Lib.hid (new_below wr (.cells #[.int .i64 qn, .int .i64 qd, .slice Ac ql cc, .int .i64 qr] 47))
      have B2 := Lib.hid (new_below (wr.alloc (.cells #[.int .i64 qn, .int .i64 qd, .slice Ac ql cc, .int .i64 qr] 47)) (.cells #[.int .i64 qn, .int .i64 qd] 44))
      have HO3 := Lib.hid (own_below (own_below HO.out B1.out) B2.out)
      have HM3 := Lib.hid ((HM.out.below B1.out).below B2.out)
      go_wp2_with (at_builtin; refine wpl_app2 73 44 Tryz.underlying73 (.agg #[.int .i64 0, .int .i64 0]) 2 16 infoFrac rfl (by decide) rfl _ _ rfl w.heap.size kv i (csV (numsOf (kids.take i))) rfl HO3.out (wr.heap.size + 1) #[.int .i64 qn, .int .i64 qd] rfl (HB.new1 _ _ _ _) rfl (by simp [Value.oneCell']) (by omega) (by unfold maxLen; omega) HM3.out.b.size ?_)
      intro g4 cap4 w4 hown4 hkp4 hbw4 _
      have M4 : Hid (EvM w 7 N D nm Ak kl kc w4) := Lib.hid ⟨hkp4 _ _ _ (own_ne HO3.out HM3.out.n (by decide)) HM3.out.n, hkp4 _ _ _ (own_ne HO3.out HM3.out.v (by decide)) HM3.out.v, hkp4 _ _ _ (own_ne HO3.out HM3.out.f (by decide)) HM3.out.f, hbw4 _ HM3.out.b⟩
      have O4 := hown4
      clear hkp4 hbw4 hown4
      go_wp2_with fail
      go_round
      case rel => exact ⟨i + 1, by omega, by go_num, Lib.hid (by rw [HT.out, csV_snoc]; exact O4.out), M4⟩
      case measure => simp [intOf]; omega
    · obtain rfl : i = L := by omega
      have t3 : decide ((i : Int) < i) = false := by simp
      obtain ⟨An, nc, hkv⟩ := own_val HO.out
      subst hkv
      have HFS : Hid (numsOf (kids.take i) = numsOf kids) := Lib.hid (by rw [List.take_of_length_le (by rw [HL.out]; exact Nat.le_refl _)])
      have HC : Hid (CsAt wr An (numsOf kids)) := Lib.hid (by
        rw [← HFS.out]
        exact own_cs HO.out (by rw [HFS.out, HLN.out]))
      have HLEN : Hid ((numsOf kids).length = i) := HLN
      obtain ⟨k0, k1, k2, k3, k4⟩ := HM.out.n.five
      have T1 := Lib.hid (HPK.out wr An nc HC.out)
      rw [HLEN.out] at T1
      go_wp2_with fail
      refine T1.out.mono ?_
      rintro e w1 ⟨rfl, hb1⟩
      have M9 := Lib.hid (HM.out.below hb1)
      clear hb1 k0 k1 k2 k3 k4
      have P8 := ev_put M9.out (Vl.mk pn pd [] 0) none 0 0
      try dsimp only [List.length_nil] at P8
      have P9 := Lib.hid P8
      clear P8
      have FIN : Hid (EvQ (Vl.mk pn pd [] 0) 0 w (.returned (.tuple #[.agg #[.int .i64 (Vl.mk pn pd [] 0).num, .int .i64 (Vl.mk pn pd [] 0).den, .slice none (Vl.mk pn pd [] 0).cells.length 0, .int .i64 (Vl.mk pn pd [] 0).rest], .agg #[.int .i64 0, .int .i64 0]])) _) := Lib.hid ⟨none, 0, rfl, Lib.hid (P9.out.2.2.2 _ _ _ _ (own_nil _ _ _ _)), P9.out.2.2.1⟩
      obtain ⟨e0, e1, e2, e3, fe0, fe1, fe2, fe3⟩ := M9.out.v.four
      obtain ⟨g0, g1, fg0, fg1⟩ := M9.out.f.two
      obtain ⟨z0, z1, z2, z3, -⟩ := P9.out.1.four
      obtain ⟨y0, y1, -⟩ := P9.out.2.1.two
      clear P9
      go_wp2_with fail
      exact bodyPost_ret (v := .tuple #[.agg #[.int .i64 (Vl.mk pn pd [] 0).num, .int .i64 (Vl.mk pn pd [] 0).den, .slice none (Vl.mk pn pd [] 0).cells.length 0, .int .i64 (Vl.mk pn pd [] 0).rest], .agg #[.int .i64 0, .int .i64 0]]) (by simp [results, Tryz.results15, go_sem, z0, z1, z2, z3, y0, y1]) rfl FIN.out
      
set_option maxRecDepth 100000 in
set_option maxHeartbeats 8000000 in
theorem eval_truth {fidd : Nat} (capss : Array Value) (op : Int) (N D : Int) (nm : ByteArray) (Ak Av : Option Addr) (kl kc vc : Nat) (kids : List Vl) (hk : kids.length ≤ 1000) (w : World) (hv : VsAt w Av kids) (hop : op = 1 ∨ op = 2 ∨ op = 3 ∨ op = 4 ∨ op = 5 ∨ op = 6 ∨ op = 8 ∨ op = 13 ∨ op = 14 ∨ op = 22) (h1 : op = 3 → 1 ≤ kids.length) (h2 : op = 6 ∨ op = 8 ∨ op = 13 ∨ op = 14 ∨ op = 22 → 2 ≤ kids.length) (hvv : op = 13 ∨ op = 14 ∨ op = 22 → fvalid (cn (numsOf kids) 0).1 (cn (numsOf kids) 0).2 = true ∧ fvalid (cn (numsOf kids) 1).1 (cn (numsOf kids) 1).2 = true) :
    Calls Tryz.prog 15 #[.agg #[.int .i64 op, .slice Ak kl kc, .int .i64 N, .int .i64 D, .string nm], .int .i64 1, .slice Av kids.length vc, .func (.func fidd) #[] capss] w (EvQ (Vl.mk (if truF op (numsOf kids) = true then 1 else 0) 1 [] 0) 0 w) := by
  have HN := Lib.hid (ev_new w op N D nm Ak kl kc)
  have HV := Lib.hid hv
  have HLN := Lib.hid (numsOf_len kids)
  have HPK := Lib.hid (fun (W : World) (A : Option Addr) (c : Nat) (h : CsAt W A (numsOf kids)) => truth_any op (numsOf kids) A c hop (by rw [numsOf_len]; unfold maxLen; omega) (by rw [numsOf_len]; exact h1) (by rw [numsOf_len]; exact h2) hvv W h)
  generalize truF op (numsOf kids) = r at *
  have HAS := Lib.hid (fun W => asnumber_any r W)
  generalize (if r = true then (1 : Int) else 0) = x at *
  obtain ⟨t9, t7, t10, t11, t12, t24, t25⟩ : (op == 9) = false ∧ (op == 7) = false ∧ (op == 10) = false ∧ (op == 11) = false ∧ (op == 12) = false ∧ (op == 24) = false ∧ (op == 25) = false := by
    refine ⟨?_, ?_, ?_, ?_, ?_, ?_, ?_⟩ <;> (rw [beq_eq_false_iff_ne]; omega)
  clear hop h1 h2 hvv
  generalize hL : kids.length = L at *
  have HL := Lib.hid hL
  clear hv hL
  go_enter Tryz.func15, Tryz.ntmps15
  go_wp2_with fail
  go_loopw [10, 12, 17] (fun nv _ k wr => ∃ i : Nat, i ≤ L ∧ k = .int .i64 i ∧ Hid (wr.ownsRow w.heap.size 44 2 nv i (csV (numsOf (kids.take i)))) ∧ Hid (EvM w op N D nm Ak kl kc wr)) (fun _ _ k _ => L - (intOf k).toNat)
  case atStart => exact ⟨0, by omega, rfl, Lib.hid (own_nil _ _ _ _), Lib.hid ⟨HN.out.1, HN.out.2.1, HN.out.2.2.1, HN.out.2.2.2⟩⟩
  case round =>
    clear HN
    obtain ⟨i, hi, rfl, HO, HM⟩ := hrel
    by_cases hlt : i < L
    · obtain ⟨b, o, rfl, hb, c0, c1, c3, Ac, cc, c2, _⟩ := vs_at (i := i) (HV.out.below HM.out.b) (by rw [HL.out]; exact hlt)
      have t3 : decide ((i : Int) < L) = true := by simpa using hlt
      have HT := Lib.hid (numsOf_take (kids := kids) (i := i) (by rw [HL.out]; exact hlt))
      simp only [Nat.add_zero, Nat.zero_add] at c0 c1 c2 c3
      generalize (vn kids i).num = qn at *
      generalize (vn kids i).den = qd at *
      generalize (vn kids i).rest = qr at *
      generalize (vn kids i).cells.length = ql at *
      generalize u10 = kv at *
      have B1 := Lib.hid (new_below wr (.cells #[.int .i64 qn, .int .i64 qd, .slice Ac ql cc, .int .i64 qr] 47))
      have B2 := Lib.hid (new_below (wr.alloc (.cells #[.int .i64 qn, .int .i64 qd, .slice Ac ql cc, .int .i64 qr] 47)) (.cells #[.int .i64 qn, .int .i64 qd] 44))
      have HO3 := Lib.hid (own_below (own_below HO.out B1.out) B2.out)
      have HM3 := Lib.hid ((HM.out.below B1.out).below B2.out)
      go_wp2_with (at_builtin; refine wpl_app2 73 44 Tryz.underlying73 (.agg #[.int .i64 0, .int .i64 0]) 2 16 infoFrac rfl (by decide) rfl _ _ rfl w.heap.size kv i (csV (numsOf (kids.take i))) rfl HO3.out (wr.heap.size + 1) #[.int .i64 qn, .int .i64 qd] rfl (HB.new1 _ _ _ _) rfl (by simp [Value.oneCell']) (by omega) (by unfold maxLen; omega) HM3.out.b.size ?_)
      intro g4 cap4 w4 hown4 hkp4 hbw4 _
      have M4 : Hid (EvM w op N D nm Ak kl kc w4) := Lib.hid ⟨hkp4 _ _ _ (own_ne HO3.out HM3.out.n (by decide)) HM3.out.n, hkp4 _ _ _ (own_ne HO3.out HM3.out.v (by decide)) HM3.out.v, hkp4 _ _ _ (own_ne HO3.out HM3.out.f (by decide)) HM3.out.f, hbw4 _ HM3.out.b⟩
      have O4 := hown4
      clear hkp4 hbw4 hown4
      go_wp2_with fail
      go_round
      case rel => exact ⟨i + 1, by omega, by go_num, Lib.hid (by rw [HT.out, csV_snoc]; exact O4.out), M4⟩
      case measure => simp [intOf]; omega
    · obtain rfl : i = L := by omega
      have t3 : decide ((i : Int) < i) = false := by simp
      obtain ⟨An, nc, hkv⟩ := own_val HO.out
      subst hkv
      have HFS : Hid (numsOf (kids.take i) = numsOf kids) := Lib.hid (by rw [List.take_of_length_le (by rw [HL.out]; exact Nat.le_refl _)])
      have HC : Hid (CsAt wr An (numsOf kids)) := Lib.hid (by
        rw [← HFS.out]
        exact own_cs HO.out (by rw [HFS.out, HLN.out]))
      have HLEN : Hid ((numsOf kids).length = i) := HLN
      obtain ⟨k0, k1, k2, k3, k4⟩ := HM.out.n.five
      have T1 := Lib.hid (HPK.out wr An nc HC.out)
      rw [HLEN.out] at T1
      go_wp2_with fail
      refine T1.out.mono ?_
      rintro e w1 ⟨rfl, hb1⟩
      have M1 := Lib.hid (HM.out.below hb1)
      clear hb1
      go_wp2_with fail
      refine (HAS.out _).mono ?_
      rintro e w2 ⟨rfl, rfl⟩
      go_wp2_with fail
      refine (whole_any _ _).mono ?_
      rintro e w3 ⟨rfl, hb3⟩
      have M9 := Lib.hid (M1.out.below hb3)
      clear hb3 k0 k1 k2 k3 k4
      have P8 := ev_put M9.out (Vl.mk x 1 [] 0) none 0 0
      try dsimp only [List.length_nil] at P8
      have P9 := Lib.hid P8
      clear P8
      have FIN : Hid (EvQ (Vl.mk x 1 [] 0) 0 w (.returned (.tuple #[.agg #[.int .i64 (Vl.mk x 1 [] 0).num, .int .i64 (Vl.mk x 1 [] 0).den, .slice none (Vl.mk x 1 [] 0).cells.length 0, .int .i64 (Vl.mk x 1 [] 0).rest], .agg #[.int .i64 0, .int .i64 0]])) _) := Lib.hid ⟨none, 0, rfl, Lib.hid (P9.out.2.2.2 _ _ _ _ (own_nil _ _ _ _)), P9.out.2.2.1⟩
      obtain ⟨e0, e1, e2, e3, fe0, fe1, fe2, fe3⟩ := M9.out.v.four
      obtain ⟨g0, g1, fg0, fg1⟩ := M9.out.f.two
      obtain ⟨z0, z1, z2, z3, -⟩ := P9.out.1.four
      obtain ⟨y0, y1, -⟩ := P9.out.2.1.two
      clear P9
      go_wp2_with fail
      exact bodyPost_ret (v := .tuple #[.agg #[.int .i64 (Vl.mk x 1 [] 0).num, .int .i64 (Vl.mk x 1 [] 0).den, .slice none (Vl.mk x 1 [] 0).cells.length 0, .int .i64 (Vl.mk x 1 [] 0).rest], .agg #[.int .i64 0, .int .i64 0]]) (by simp [results, Tryz.results15, go_sem, z0, z1, z2, z3, y0, y1]) rfl FIN.out
      
/-- What the end of a number reads. -/
@[reducible] def NumE (g : Nat) (a b c : Int) (W : World) : Prop := W.cell? ⟨g, 0, none⟩ = some (.int .i64 a) ∧ W.cell? ⟨g, 1, none⟩ = some (.int .i64 b) ∧ W.cell? ⟨g + 1, 0, none⟩ = some (.int .i64 c) ∧ W.cell? ⟨g + 1, 1, none⟩ = some (.int .i64 0)
theorem nume_far {g h : Nat} {a b c : Int} {W W' : World} (k : NumE g a b c W) (h1 : g ≠ h) (h2 : g + 1 ≠ h) (F : Far h W W') : NumE g a b c W' :=
  ⟨(World.cell?_of_block (F.block _ h1)).trans k.1, (World.cell?_of_block (F.block _ h1)).trans k.2.1, (World.cell?_of_block (F.block _ h2)).trans k.2.2.1, (World.cell?_of_block (F.block _ h2)).trans k.2.2.2⟩
theorem nume_dr {g : Nat} {a b c : Int} {W : World} (k : NumE g a b c W) : NumE g a b c W.drew := k
theorem nume_set {g h : Nat} {a b c : Int} {W : World} (k : NumE g a b c W) (h1 : h + 1 + 1 < g) :
    (∀ x0 x1 x2 x3, NumE g a b c ((((W.setCell ⟨h + 1, 0, none⟩ x0).setCell ⟨h + 1, 1, none⟩ x1).setCell ⟨h + 1, 2, none⟩ x2).setCell ⟨h + 1, 3, none⟩ x3)) ∧ (∀ y0 y1, NumE g a b c ((W.setCell ⟨h + 1 + 1, 0, none⟩ y0).setCell ⟨h + 1 + 1, 1, none⟩ y1)) ∧
    (∀ x0 x1 x2 x3 y0 y1, NumE g a b c ((((((W.setCell ⟨h + 1, 0, none⟩ x0).setCell ⟨h + 1, 1, none⟩ x1).setCell ⟨h + 1, 2, none⟩ x2).setCell ⟨h + 1, 3, none⟩ x3).setCell ⟨h + 1 + 1, 0, none⟩ y0).setCell ⟨h + 1 + 1, 1, none⟩ y1)) ∧
    (∀ x0 x1 x2 x3 y0 y1, NumE g a b c ((((((W.setCell ⟨h + 1 + 1, 0, none⟩ y0).setCell ⟨h + 1 + 1, 1, none⟩ y1).setCell ⟨h + 1, 0, none⟩ x0).setCell ⟨h + 1, 1, none⟩ x1).setCell ⟨h + 1, 2, none⟩ x2).setCell ⟨h + 1, 3, none⟩ x3)) := by
  have a1 : g ≠ h + 1 := by omega
  have a2 : g + 1 ≠ h + 1 := by omega
  have a3 : g ≠ h + 1 + 1 := by omega
  have a4 : g + 1 ≠ h + 1 + 1 := by omega
  exact ⟨fun x0 x1 x2 x3 => nume_far k a1 a2 (far4 _ _ _ _ _ _), fun y0 y1 => nume_far k a3 a4 (far2 _ _ _ _), fun x0 x1 x2 x3 y0 y1 => nume_far (nume_far k a1 a2 (far4 _ _ _ _ _ _)) a3 a4 (far2 _ _ _ _), fun x0 x1 x2 x3 y0 y1 => nume_far (nume_far k a3 a4 (far2 _ _ _ _)) a1 a2 (far4 _ _ _ _ _ _)⟩
set_option maxRecDepth 100000 in
set_option maxHeartbeats 8000000 in
theorem eval_number {fidd : Nat} (capss : Array Value) (op sort : Int) (N D : Int) (nm : ByteArray) (Ak Av : Option Addr) (kl kc vc : Nat) (kids : List Vl) (hk : kids.length ≤ 1000) (w : World) (hv : VsAt w Av kids) (hop : op = 10 ∨ op = 11 ∨ op = 12) (hvv : ∀ i, i < kids.length → fvalid (cn (numsOf kids) i).1 (cn (numsOf kids) i).2 = true) (h1 : op = 12 → 1 ≤ kids.length ∧ fvalid N D = true) :
    Calls Tryz.prog 15 #[.agg #[.int .i64 op, .slice Ak kl kc, .int .i64 N, .int .i64 D, .string nm], .int .i64 sort, .slice Av kids.length vc, .func (.func fidd) #[] capss] w (EvQ (Vl.mk (numF op N D (numsOf kids)).1.1 (numF op N D (numsOf kids)).1.2 [] 0) (numF op N D (numsOf kids)).2 w) := by
  have HN := Lib.hid (ev_new w op N D nm Ak kl kc)
  have HV := Lib.hid hv
  have HLN := Lib.hid (numsOf_len kids)
  have HPK := Lib.hid (fun (W : World) (A : Option Addr) (c : Nat) (h : CsAt W A (numsOf kids)) => numv_any op N D nm Ak kl kc (numsOf kids) A c hop (by rw [numsOf_len]; unfold maxLen; omega) (by rw [numsOf_len]; exact hvv) (by rw [numsOf_len]; exact h1) W h)
  unfold Gives at HPK
  generalize numF op N D (numsOf kids) = R at *
  obtain ⟨⟨Rn, Rd⟩, Rc⟩ := R
  dsimp only at HPK ⊢
  clear hvv h1
  have HOP := Lib.hid hop
  clear hop
  generalize hL : kids.length = L at *
  have HL := Lib.hid hL
  clear hv hL
  go_enter Tryz.func15, Tryz.ntmps15
  go_wp2_with fail
  go_loopw [10, 12, 17] (fun nv _ k wr => ∃ i : Nat, i ≤ L ∧ k = .int .i64 i ∧ Hid (wr.ownsRow w.heap.size 44 2 nv i (csV (numsOf (kids.take i)))) ∧ Hid (EvM w op N D nm Ak kl kc wr)) (fun _ _ k _ => L - (intOf k).toNat)
  case atStart => exact ⟨0, by omega, rfl, Lib.hid (own_nil _ _ _ _), Lib.hid ⟨HN.out.1, HN.out.2.1, HN.out.2.2.1, HN.out.2.2.2⟩⟩
  case round =>
    clear HN
    obtain ⟨i, hi, rfl, HO, HM⟩ := hrel
    by_cases hlt : i < L
    · obtain ⟨b, o, rfl, hb, c0, c1, c3, Ac, cc, c2, _⟩ := vs_at (i := i) (HV.out.below HM.out.b) (by rw [HL.out]; exact hlt)
      have t3 : decide ((i : Int) < L) = true := by simpa using hlt
      have HT := Lib.hid (numsOf_take (kids := kids) (i := i) (by rw [HL.out]; exact hlt))
      simp only [Nat.add_zero, Nat.zero_add] at c0 c1 c2 c3
      generalize (vn kids i).num = qn at *
      generalize (vn kids i).den = qd at *
      generalize (vn kids i).rest = qr at *
      generalize (vn kids i).cells.length = ql at *
      generalize u10 = kv at *
      have B1 := Lib.hid (new_below wr (.cells #[.int .i64 qn, .int .i64 qd, .slice Ac ql cc, .int .i64 qr] 47))
      have B2 := Lib.hid (new_below (wr.alloc (.cells #[.int .i64 qn, .int .i64 qd, .slice Ac ql cc, .int .i64 qr] 47)) (.cells #[.int .i64 qn, .int .i64 qd] 44))
      have HO3 := Lib.hid (own_below (own_below HO.out B1.out) B2.out)
      have HM3 := Lib.hid ((HM.out.below B1.out).below B2.out)
      go_wp2_with (at_builtin; refine wpl_app2 73 44 Tryz.underlying73 (.agg #[.int .i64 0, .int .i64 0]) 2 16 infoFrac rfl (by decide) rfl _ _ rfl w.heap.size kv i (csV (numsOf (kids.take i))) rfl HO3.out (wr.heap.size + 1) #[.int .i64 qn, .int .i64 qd] rfl (HB.new1 _ _ _ _) rfl (by simp [Value.oneCell']) (by omega) (by unfold maxLen; omega) HM3.out.b.size ?_)
      intro g4 cap4 w4 hown4 hkp4 hbw4 _
      have M4 : Hid (EvM w op N D nm Ak kl kc w4) := Lib.hid ⟨hkp4 _ _ _ (own_ne HO3.out HM3.out.n (by decide)) HM3.out.n, hkp4 _ _ _ (own_ne HO3.out HM3.out.v (by decide)) HM3.out.v, hkp4 _ _ _ (own_ne HO3.out HM3.out.f (by decide)) HM3.out.f, hbw4 _ HM3.out.b⟩
      have O4 := hown4
      clear hkp4 hbw4 hown4
      go_wp2_with fail
      go_round
      case rel => exact ⟨i + 1, by omega, by go_num, Lib.hid (by rw [HT.out, csV_snoc]; exact O4.out), M4⟩
      case measure => simp [intOf]; omega
    · obtain rfl : i = L := by omega
      have t3 : decide ((i : Int) < i) = false := by simp
      obtain ⟨An, nc, hkv⟩ := own_val HO.out
      subst hkv
      have HFS : Hid (numsOf (kids.take i) = numsOf kids) := Lib.hid (by rw [List.take_of_length_le (by rw [HL.out]; exact Nat.le_refl _)])
      have HC : Hid (CsAt wr An (numsOf kids)) := Lib.hid (by
        rw [← HFS.out]
        exact own_cs HO.out (by rw [HFS.out, HLN.out]))
      have HLEN : Hid ((numsOf kids).length = i) := HLN
      obtain ⟨k0, k1, k2, k3, k4⟩ := HM.out.n.five
      have T1 := Lib.hid (HPK.out wr An nc HC.out)
      rw [HLEN.out] at T1
      rcases HOP.out with rfl | rfl | rfl
      all_goals
        go_wp2_with fail
        refine T1.out.mono ?_
        rintro e w1 ⟨rfl, hb1⟩
        have M1 := Lib.hid (HM.out.below hb1)
        have M9 := Lib.hid ((M1.out.below (new_below w1 (.cells #[.int .i64 Rn, .int .i64 Rd] 44))).below (new_below _ (.cells #[.int .i64 Rc, .int .i64 0] 32)))
        have HE1 := Lib.hid (And.intro ((HB.new w1 44 #[.int .i64 Rn, .int .i64 Rd]).alloc (.cells #[.int .i64 Rc, .int .i64 0] 32)) (HB.new1 w1 (.cells #[.int .i64 Rn, .int .i64 Rd] 44) 32 #[.int .i64 Rc, .int .i64 0]))
        have HLT : Hid (w.heap.size + 1 + 1 < w1.heap.size) := Lib.hid M1.out.f.lt
        clear hb1 k0 k1 k2 k3 k4
        go_upto_region 16 with fail
        generalize ((w1.alloc (.cells #[.int .i64 Rn, .int .i64 Rd] 44)).alloc (.cells #[.int .i64 Rc, .int .i64 0] 32)) = X at *
        have KE : Hid (NumE w1.heap.size Rn Rd Rc X) := Lib.hid ⟨HE1.out.1.cell 0, HE1.out.1.cell 1, HE1.out.2.cell 0, HE1.out.2.cell 1⟩
        have KS := Lib.hid (nume_set KE.out HLT.out)
        obtain ⟨q0, q1, q2, q3⟩ := KE.out
        obtain ⟨e0, e1, e2, e3, fe0, fe1, fe2, fe3⟩ := M9.out.v.four
        obtain ⟨g0, g1, fg0, fg1⟩ := M9.out.f.two
        have P8 := ev_put M9.out (Vl.mk Rn Rd [] 0) none 0 Rc
        dsimp only [List.length_nil] at P8
        have P9 := Lib.hid P8
        clear P8 HE1
        go_region_held3 (fun W => W.cell? ⟨w1.heap.size, 0, none⟩ = some (.int .i64 Rn) ∧ W.cell? ⟨w1.heap.size, 1, none⟩ = some (.int .i64 Rd) ∧ W.cell? ⟨w1.heap.size + 1, 0, none⟩ = some (.int .i64 Rc) ∧ W.cell? ⟨w1.heap.size + 1, 1, none⟩ = some (.int .i64 0))
          ((first | (with_reducible exact KE.out) | (with_reducible exact nume_dr KE.out) | (with_reducible exact KS.out.1 _ _ _ _) | (with_reducible exact KS.out.2.1 _ _) | (with_reducible exact KS.out.2.2.1 _ _ _ _ _ _) | (with_reducible exact KS.out.2.2.2 _ _ _ _ _ _) | (with_reducible exact nume_dr (KS.out.1 _ _ _ _)) | (with_reducible exact nume_dr (KS.out.2.1 _ _)) | (with_reducible exact nume_dr (KS.out.2.2.1 _ _ _ _ _ _)) | (with_reducible exact nume_dr (KS.out.2.2.2 _ _ _ _ _ _))))
          (fail)
        all_goals
          obtain ⟨z0, z1, z2, z3, -⟩ := P9.out.1.drew.four
          obtain ⟨y0, y1, -⟩ := P9.out.2.1.drew.two
          have FIN : Hid (EvQ (Vl.mk Rn Rd [] 0) Rc w (.returned (.tuple #[.agg #[.int .i64 Rn, .int .i64 Rd, .slice none 0 0, .int .i64 0], .agg #[.int .i64 Rc, .int .i64 0]])) _) := Lib.hid ⟨none, 0, rfl, Lib.hid (own_nil _ _ _ _), P9.out.2.2.1.drew⟩
          clear q0 q1 q2 q3 e0 e1 e2 e3 fe0 fe1 fe2 fe3 g0 g1 fg0 fg1 P9
          go_wp2_with fail
          exact bodyPost_ret (v := .tuple #[.agg #[.int .i64 Rn, .int .i64 Rd, .slice none 0 0, .int .i64 0], .agg #[.int .i64 Rc, .int .i64 0]]) (by simp [results, Tryz.results15, go_sem, z0, z1, z2, z3, y0, y1]) rfl FIN.out
/-- A node in memory, whole. -/
@[reducible] def NodeE (g : Nat) (op N D : Int) (nm : ByteArray) (Ak : Option Addr) (kl kc : Nat) (W : World) : Prop := W.cell? ⟨g, 0, none⟩ = some (.int .i64 op) ∧ W.cell? ⟨g, 1, none⟩ = some (.slice Ak kl kc) ∧ W.cell? ⟨g, 2, none⟩ = some (.int .i64 N) ∧ W.cell? ⟨g, 3, none⟩ = some (.int .i64 D) ∧ W.cell? ⟨g, 4, none⟩ = some (.string nm)
theorem nodee_far {g h : Nat} {op N D : Int} {nm : ByteArray} {Ak : Option Addr} {kl kc : Nat} {W W' : World} (k : NodeE g op N D nm Ak kl kc W) (h1 : g ≠ h) (F : Far h W W') : NodeE g op N D nm Ak kl kc W' :=
  ⟨(World.cell?_of_block (F.block _ h1)).trans k.1, (World.cell?_of_block (F.block _ h1)).trans k.2.1, (World.cell?_of_block (F.block _ h1)).trans k.2.2.1, (World.cell?_of_block (F.block _ h1)).trans k.2.2.2.1, (World.cell?_of_block (F.block _ h1)).trans k.2.2.2.2⟩
theorem nodee_dr {g : Nat} {op N D : Int} {nm : ByteArray} {Ak : Option Addr} {kl kc : Nat} {W : World} (k : NodeE g op N D nm Ak kl kc W) : NodeE g op N D nm Ak kl kc W.drew := k
theorem nodee_set {w0 : World} {op N D : Int} {nm : ByteArray} {Ak : Option Addr} {kl kc : Nat} {X : World} (h : EvM w0 op N D nm Ak kl kc X) (W : World) (b : Below X.heap.size X W) : NodeE w0.heap.size op N D nm Ak kl kc W ∧
    (∀ x0 x1 x2 x3, NodeE w0.heap.size op N D nm Ak kl kc ((((W.setCell ⟨w0.heap.size + 1, 0, none⟩ x0).setCell ⟨w0.heap.size + 1, 1, none⟩ x1).setCell ⟨w0.heap.size + 1, 2, none⟩ x2).setCell ⟨w0.heap.size + 1, 3, none⟩ x3)) ∧ (∀ y0 y1, NodeE w0.heap.size op N D nm Ak kl kc ((W.setCell ⟨w0.heap.size + 1 + 1, 0, none⟩ y0).setCell ⟨w0.heap.size + 1 + 1, 1, none⟩ y1)) ∧
    (∀ x0 x1 x2 x3 y0 y1, NodeE w0.heap.size op N D nm Ak kl kc ((((((W.setCell ⟨w0.heap.size + 1, 0, none⟩ x0).setCell ⟨w0.heap.size + 1, 1, none⟩ x1).setCell ⟨w0.heap.size + 1, 2, none⟩ x2).setCell ⟨w0.heap.size + 1, 3, none⟩ x3).setCell ⟨w0.heap.size + 1 + 1, 0, none⟩ y0).setCell ⟨w0.heap.size + 1 + 1, 1, none⟩ y1)) ∧
    (∀ x0 x1 x2 x3 y0 y1, NodeE w0.heap.size op N D nm Ak kl kc ((((((W.setCell ⟨w0.heap.size + 1 + 1, 0, none⟩ y0).setCell ⟨w0.heap.size + 1 + 1, 1, none⟩ y1).setCell ⟨w0.heap.size + 1, 0, none⟩ x0).setCell ⟨w0.heap.size + 1, 1, none⟩ x1).setCell ⟨w0.heap.size + 1, 2, none⟩ x2).setCell ⟨w0.heap.size + 1, 3, none⟩ x3)) := by
  have hn := h.n.below b
  have k : NodeE w0.heap.size op N D nm Ak kl kc W := ⟨hn.cell 0, hn.cell 1, hn.cell 2, hn.cell 3, hn.cell 4⟩
  have a1 : w0.heap.size ≠ w0.heap.size + 1 := by omega
  have a2 : w0.heap.size ≠ w0.heap.size + 1 + 1 := by omega
  exact ⟨k, fun x0 x1 x2 x3 => nodee_far k a1 (far4 _ _ _ _ _ _), fun y0 y1 => nodee_far k a2 (far2 _ _ _ _), fun x0 x1 x2 x3 y0 y1 => nodee_far (nodee_far k a1 (far4 _ _ _ _ _ _)) a2 (far2 _ _ _ _), fun x0 x1 x2 x3 y0 y1 => nodee_far (nodee_far k a2 (far2 _ _ _ _)) a1 (far4 _ _ _ _ _ _)⟩
set_option maxRecDepth 100000 in
set_option maxHeartbeats 8000000 in
theorem eval_word {fidd : Nat} (capss : Array Value) (op sort : Int) (N D : Int) (nm : ByteArray) (Ak Av : Option Addr) (kl kc vc : Nat) (kids : List Vl) (hk : kids.length ≤ 1000) (w : World) (hv : VsAt w Av kids) (hop : op = 15 ∨ op = 16 ∨ op = 17 ∨ op = 18 ∨ op = 19 ∨ op = 20 ∨ op = 21 ∨ op = 23) (hs : 11 ≤ sort ∧ sort ≤ 18)
    (h1 : op ≠ 15 → 1 ≤ kids.length ∧ 2 ≤ mds sort ∧ mds sort ≤ 256 ∧ 0 ≤ (cn (numsOf kids) 0).1 ∧ (cn (numsOf kids) 0).1 < mds sort) (h2 : op = 17 ∨ op = 18 ∨ op = 19 ∨ op = 20 ∨ op = 21 → 2 ≤ kids.length ∧ 0 ≤ (cn (numsOf kids) 1).1 ∧ (cn (numsOf kids) 1).1 < mds sort) (h3 : op = 23 → 0 ≤ N ∧ N ≤ 8) :
    Calls Tryz.prog 15 #[.agg #[.int .i64 op, .slice Ak kl kc, .int .i64 N, .int .i64 D, .string nm], .int .i64 sort, .slice Av kids.length vc, .func (.func fidd) #[] capss] w (EvQ (Vl.mk (wrdF op N (mds sort) (numsOf kids)) 1 [] 0) 0 w) := by
  have HN := Lib.hid (ev_new w op N D nm Ak kl kc)
  have HV := Lib.hid hv
  have HLN := Lib.hid (numsOf_len kids)
  have HPK := Lib.hid (fun (W : World) (A : Option Addr) (c : Nat) (h : CsAt W A (numsOf kids)) => word_any op N D (mds sort) nm Ak kl kc (numsOf kids) A c hop (by rw [numsOf_len]; unfold maxLen; omega) (by rw [numsOf_len]; exact h1) (by rw [numsOf_len]; exact h2) h3 W h)
  have HMD := Lib.hid (fun W => modulus_any sort hs W)
  generalize wrdF op N (mds sort) (numsOf kids) = x at *
  generalize mds sort = md at *
  obtain ⟨t9, t7, t10, t11, t12, t24, t25⟩ : (op == 9) = false ∧ (op == 7) = false ∧ (op == 10) = false ∧ (op == 11) = false ∧ (op == 12) = false ∧ (op == 24) = false ∧ (op == 25) = false := by
    refine ⟨?_, ?_, ?_, ?_, ?_, ?_, ?_⟩ <;> (rw [beq_eq_false_iff_ne]; omega)
  have ts : (sort == 1) = false := by rw [beq_eq_false_iff_ne]; omega
  clear hop h1 h2 h3 hs
  generalize hL : kids.length = L at *
  have HL := Lib.hid hL
  clear hv hL
  go_enter Tryz.func15, Tryz.ntmps15
  go_wp2_with fail
  go_loopw [10, 12, 17] (fun nv _ k wr => ∃ i : Nat, i ≤ L ∧ k = .int .i64 i ∧ Hid (wr.ownsRow w.heap.size 44 2 nv i (csV (numsOf (kids.take i)))) ∧ Hid (EvM w op N D nm Ak kl kc wr)) (fun _ _ k _ => L - (intOf k).toNat)
  case atStart => exact ⟨0, by omega, rfl, Lib.hid (own_nil _ _ _ _), Lib.hid ⟨HN.out.1, HN.out.2.1, HN.out.2.2.1, HN.out.2.2.2⟩⟩
  case round =>
    clear HN
    obtain ⟨i, hi, rfl, HO, HM⟩ := hrel
    by_cases hlt : i < L
    · obtain ⟨b, o, rfl, hb, c0, c1, c3, Ac, cc, c2, _⟩ := vs_at (i := i) (HV.out.below HM.out.b) (by rw [HL.out]; exact hlt)
      have t3 : decide ((i : Int) < L) = true := by simpa using hlt
      have HT := Lib.hid (numsOf_take (kids := kids) (i := i) (by rw [HL.out]; exact hlt))
      simp only [Nat.add_zero, Nat.zero_add] at c0 c1 c2 c3
      generalize (vn kids i).num = qn at *
      generalize (vn kids i).den = qd at *
      generalize (vn kids i).rest = qr at *
      generalize (vn kids i).cells.length = ql at *
      generalize u10 = kv at *
      have B1 := Lib.hid (new_below wr (.cells #[.int .i64 qn, .int .i64 qd, .slice Ac ql cc, .int .i64 qr] 47))
      have B2 := Lib.hid (new_below (wr.alloc (.cells #[.int .i64 qn, .int .i64 qd, .slice Ac ql cc, .int .i64 qr] 47)) (.cells #[.int .i64 qn, .int .i64 qd] 44))
      have HO3 := Lib.hid (own_below (own_below HO.out B1.out) B2.out)
      have HM3 := Lib.hid ((HM.out.below B1.out).below B2.out)
      go_wp2_with (at_builtin; refine wpl_app2 73 44 Tryz.underlying73 (.agg #[.int .i64 0, .int .i64 0]) 2 16 infoFrac rfl (by decide) rfl _ _ rfl w.heap.size kv i (csV (numsOf (kids.take i))) rfl HO3.out (wr.heap.size + 1) #[.int .i64 qn, .int .i64 qd] rfl (HB.new1 _ _ _ _) rfl (by simp [Value.oneCell']) (by omega) (by unfold maxLen; omega) HM3.out.b.size ?_)
      intro g4 cap4 w4 hown4 hkp4 hbw4 _
      have M4 : Hid (EvM w op N D nm Ak kl kc w4) := Lib.hid ⟨hkp4 _ _ _ (own_ne HO3.out HM3.out.n (by decide)) HM3.out.n, hkp4 _ _ _ (own_ne HO3.out HM3.out.v (by decide)) HM3.out.v, hkp4 _ _ _ (own_ne HO3.out HM3.out.f (by decide)) HM3.out.f, hbw4 _ HM3.out.b⟩
      have O4 := hown4
      clear hkp4 hbw4 hown4
      go_wp2_with fail
      go_round
      case rel => exact ⟨i + 1, by omega, by go_num, Lib.hid (by rw [HT.out, csV_snoc]; exact O4.out), M4⟩
      case measure => simp [intOf]; omega
    · obtain rfl : i = L := by omega
      have t3 : decide ((i : Int) < i) = false := by simp
      obtain ⟨An, nc, hkv⟩ := own_val HO.out
      subst hkv
      have HFS : Hid (numsOf (kids.take i) = numsOf kids) := Lib.hid (by rw [List.take_of_length_le (by rw [HL.out]; exact Nat.le_refl _)])
      have HC : Hid (CsAt wr An (numsOf kids)) := Lib.hid (by
        rw [← HFS.out]
        exact own_cs HO.out (by rw [HFS.out, HLN.out]))
      have HLEN : Hid ((numsOf kids).length = i) := HLN
      obtain ⟨k0, k1, k2, k3, k4⟩ := HM.out.n.five
      have T1 : Hid (∀ W, Below wr.heap.size wr W → Calls Tryz.prog 40 #[.agg #[.int .i64 op, .slice Ak kl kc, .int .i64 N, .int .i64 D, .string nm], .int .i64 md, .slice An i nc] W fun e w' => e = .returned (.int .i64 x) ∧ Below W.heap.size W w') := Lib.hid (fun W k => by
        have := HPK.out W An nc (HC.out.below k)
        rw [HLEN.out] at this
        exact this)
      have KN := Lib.hid (nodee_set HM.out)
      have BD := Lib.hid ((Below.refl wr.heap.size wr).drew)
      have BR := Lib.hid (Below.refl wr.heap.size wr)
      go_upto_region 23 with fail
      go_region_held3 (fun W => W.cell? ⟨w.heap.size, 0, none⟩ = some (.int .i64 op) ∧ W.cell? ⟨w.heap.size, 1, none⟩ = some (.slice Ak kl kc) ∧ W.cell? ⟨w.heap.size, 2, none⟩ = some (.int .i64 N) ∧ W.cell? ⟨w.heap.size, 3, none⟩ = some (.int .i64 D) ∧ W.cell? ⟨w.heap.size, 4, none⟩ = some (.string nm))
        ((first | (with_reducible exact (KN.out _ G2.out).1) | (with_reducible exact nodee_dr ((KN.out _ G2.out).1)) | (with_reducible exact (KN.out _ G1.out).1) | (with_reducible exact nodee_dr ((KN.out _ G1.out).1)) | (with_reducible exact (KN.out _ G1.out.drew).1) | (with_reducible exact nodee_dr ((KN.out _ G1.out.drew).1)) | (with_reducible exact (KN.out _ BD.out).1) | (with_reducible exact nodee_dr ((KN.out _ BD.out).1)) | (with_reducible exact (KN.out _ BR.out).1) | (with_reducible exact nodee_dr ((KN.out _ BR.out).1)) | (with_reducible exact (KN.out _ G2.out).2.1 _ _ _ _) | (with_reducible exact nodee_dr ((KN.out _ G2.out).2.1 _ _ _ _)) | (with_reducible exact (KN.out _ G2.out).2.2.1 _ _) | (with_reducible exact nodee_dr ((KN.out _ G2.out).2.2.1 _ _)) | (with_reducible exact (KN.out _ G2.out).2.2.2.1 _ _ _ _ _ _) | (with_reducible exact nodee_dr ((KN.out _ G2.out).2.2.2.1 _ _ _ _ _ _)) | (with_reducible exact (KN.out _ G2.out).2.2.2.2 _ _ _ _ _ _) | (with_reducible exact nodee_dr ((KN.out _ G2.out).2.2.2.2 _ _ _ _ _ _))))
        (first
          | (go_at_call 41; (with_reducible refine (HMD.out _).mono ?_); rintro e wm ⟨rfl, rfl⟩)
          | (go_at_call 40; refine (T1.out _ (by go_grown)).mono ?_; rintro e w1 ⟨rfl, hb1⟩; have G1 : Hid (Below wr.heap.size wr w1) := Lib.hid (below_after (show Below wr.heap.size wr _ by go_grown) hb1); clear hb1)
          | (go_at_call 35; refine (whole_any _ _).mono ?_; rintro e w2 ⟨rfl, hb2⟩; have G2 : Hid (Below wr.heap.size wr w2) := Lib.hid (below_after (by first | exact G1.out | exact G1.out.drew) hb2); obtain ⟨e0, e1, e2, e3, fe0, fe1, fe2, fe3⟩ := (HM.out.below G2.out).v.four; obtain ⟨g0, g1, fg0, fg1⟩ := (HM.out.below G2.out).f.two; clear hb2))
      all_goals
        have M9 := Lib.hid (HM.out.below G2.out)
        have P8 := ev_put M9.out (Vl.mk x 1 [] 0) none 0 0
        dsimp only [List.length_nil] at P8
        have P9 := Lib.hid P8
        obtain ⟨z0, z1, z2, z3, -⟩ := P9.out.1.four
        obtain ⟨y0, y1, -⟩ := P9.out.2.1.two
        have FIN : Hid (EvQ (Vl.mk x 1 [] 0) 0 w (.returned (.tuple #[.agg #[.int .i64 x, .int .i64 1, .slice none 0 0, .int .i64 0], .agg #[.int .i64 0, .int .i64 0]])) _) := Lib.hid ⟨none, 0, rfl, Lib.hid (own_nil _ _ _ _), P9.out.2.2.1⟩
        clear P8 P9
        go_wp2_with fail
        exact bodyPost_ret (v := .tuple #[.agg #[.int .i64 x, .int .i64 1, .slice none 0 0, .int .i64 0], .agg #[.int .i64 0, .int .i64 0]]) (by simp [results, Tryz.results15, go_sem, z0, z1, z2, z3, y0, y1]) rfl FIN.out
end Go.Proofs.YtaodebpogibimaaGreat
