/-
  Values of nodes: mean.Value.
-/
import Derived.Test.YtaodebpogibimaaGreatG11
namespace Go.Proofs.YtaodebpogibimaaGreat
open Go.RowKit

/-- The variables of mean.Value that stay. -/
structure VaM (w0 : World) (sa sn sh sm : Value) (W : World) : Prop where
  a : HB W w0.heap.size 26 #[sa, sn, sh]
  m : HB W (w0.heap.size + 1) 29 #[sm]
  f : HB W (w0.heap.size + 1 + 1) 32 #[.int .i64 0, .int .i64 0]
  b : Below w0.heap.size w0 W
theorem VaM.below {w0 w w' : World} {sa sn sh sm : Value} (h : VaM w0 sa sn sh sm w) (k : Below w.heap.size w w') : VaM w0 sa sn sh sm w' := ⟨h.a.below k, h.m.below k, h.f.below k, below_after h.b k⟩
theorem va_new (w : World) (sa sn sh sm : Value) : VaM w sa sn sh sm (((w.alloc (.cells #[sa, sn, sh] 26)).alloc (.cells #[sm] 29)).alloc (.cells #[.int .i64 0, .int .i64 0] 32)) := ⟨((HB.new _ _ _).alloc _).alloc _, (HB.new1 _ _ _ _).alloc _, HB.new2 _ _ _ _ _, by go_grown⟩
/-- The values of a node's kids. -/
def kidsV (ns : List Nd) (i : Nat) (vs : List Vl) : List Vl := (nn ns i).kids.map fun k => vn vs k.toNat
theorem take_snoc {l : List Int} {i : Nat} (h : i < l.length) : l.take (i + 1) = l.take i ++ [nth l i] := by
  rw [List.take_add_one, List.getElem?_eq_getElem h, nth_of h]
  rfl
theorem vm_at {B C c n : Nat} {A : Option Addr} {w : World} {ps : List (Vl × Value)} (h : VMk B C (.slice A n c) w ps) {k : Nat} {p : Vl × Value} (hp : ps[k]? = some p) :
    ∃ b, A = some ⟨b, 0, none⟩ ∧ b < w.heap.size ∧ w.cell? ⟨b, k * 4, none⟩ = some (.int .i64 p.1.num) ∧ w.cell? ⟨b, k * 4 + 1, none⟩ = some (.int .i64 p.1.den) ∧ w.cell? ⟨b, k * 4 + 2, none⟩ = some p.2 ∧ w.cell? ⟨b, k * 4 + 3, none⟩ = some (.int .i64 p.1.rest) := by
  have hk : k < ps.length := by
    rcases Nat.lt_or_ge k ps.length with y | y
    · exact y
    · rw [List.getElem?_eq_none y] at hp; cases hp
  rcases h.1.2 with ⟨h0, h1⟩ | ⟨g, cap, cur, h0, hb, hh, hc, hm, hsz, htk⟩
  · omega
  · injection h0 with h0 _ _
    have hcell : ∀ j u, j < 4 → (vlV p)[j]? = some u → w.cell? ⟨g, k * 4 + j, none⟩ = some u := fun j u hj hu => by
      have e1 := flat4 hp hj
      rw [hu, ← htk, List.getElem?_take_of_lt (by omega)] at e1
      rw [cell_of_row w g (k * 4 + j) cur 47 (0, 0) hh]
      simpa using e1
    exact ⟨g, h0, HB.lt hh, hcell 0 _ (by omega) rfl, hcell 1 _ (by omega) rfl, hcell 2 _ (by omega) rfl, hcell 3 _ (by omega) rfl⟩
/-- A node's five cells and a sort, in memory. -/
@[reducible] def SixE (g b o : Nat) (op N D sort : Int) (nm : ByteArray) (Ak : Option Addr) (kl kc : Nat) (W : World) : Prop := W.cell? ⟨g, 0, none⟩ = some (.int .i64 op) ∧ W.cell? ⟨g, 1, none⟩ = some (.slice Ak kl kc) ∧ W.cell? ⟨g, 2, none⟩ = some (.int .i64 N) ∧ W.cell? ⟨g, 3, none⟩ = some (.int .i64 D) ∧ W.cell? ⟨g, 4, none⟩ = some (.string nm) ∧ W.cell? ⟨b, o, none⟩ = some (.int .i64 sort)
theorem six_of {g b o : Nat} {op N D sort : Int} {nm : ByteArray} {Ak : Option Addr} {kl kc : Nat} {W W' : World} (h : SixE g b o op N D sort nm Ak kl kc W) (h1 : W'.heap[g]? = W.heap[g]?) (h2 : W'.heap[b]? = W.heap[b]?) : SixE g b o op N D sort nm Ak kl kc W' :=
  ⟨(World.cell?_of_block h1).trans h.1, (World.cell?_of_block h1).trans h.2.1, (World.cell?_of_block h1).trans h.2.2.1, (World.cell?_of_block h1).trans h.2.2.2.1, (World.cell?_of_block h1).trans h.2.2.2.2.1, (World.cell?_of_block h2).trans h.2.2.2.2.2⟩
theorem four_up {w : World} {g t : Nat} {a b c d : Value} (h : HB w g t #[a, b, c, d]) :
    (∀ o, (w.alloc o).cell? ⟨g, 0, none⟩ = some a) ∧ (∀ o, (w.alloc o).cell? ⟨g, 1, none⟩ = some b) ∧ (∀ o, (w.alloc o).cell? ⟨g, 2, none⟩ = some c) ∧ (∀ o, (w.alloc o).cell? ⟨g, 3, none⟩ = some d) ∧ (∀ o, (w.alloc o).frozen? ⟨g, 0, none⟩ = false) ∧ (∀ o, (w.alloc o).frozen? ⟨g, 1, none⟩ = false) ∧ (∀ o, (w.alloc o).frozen? ⟨g, 2, none⟩ = false) ∧ (∀ o, (w.alloc o).frozen? ⟨g, 3, none⟩ = false) :=
  ⟨fun o => (h.alloc o).cell 0, fun o => (h.alloc o).cell 1, fun o => (h.alloc o).cell 2, fun o => (h.alloc o).cell 3, fun o => (h.alloc o).frozen 0, fun o => (h.alloc o).frozen 1, fun o => (h.alloc o).frozen 2, fun o => (h.alloc o).frozen 3⟩
theorem two_up {w : World} {g t : Nat} {a b : Value} (h : HB w g t #[a, b]) : (∀ o, (w.alloc o).cell? ⟨g, 0, none⟩ = some a) ∧ (∀ o, (w.alloc o).cell? ⟨g, 1, none⟩ = some b) ∧ (∀ o, (w.alloc o).frozen? ⟨g, 0, none⟩ = false) ∧ (∀ o, (w.alloc o).frozen? ⟨g, 1, none⟩ = false) :=
  ⟨fun o => (h.alloc o).cell 0, fun o => (h.alloc o).cell 1, fun o => (h.alloc o).frozen 0, fun o => (h.alloc o).frozen 1⟩
theorem v_new {w w' : World} (k : Below (w.alloc (.cells #[.int .i64 0, .int .i64 0, .slice none 0 0, .int .i64 0] 47)).drew.heap.size (w.alloc (.cells #[.int .i64 0, .int .i64 0, .slice none 0 0, .int .i64 0] 47)).drew w') : (Hid (HB w' w.heap.size 47 #[.int .i64 0, .int .i64 0, .slice none 0 0, .int .i64 0]) ∧ w'.cell? ⟨w.heap.size, 0, none⟩ = some (.int .i64 0) ∧ w'.cell? ⟨w.heap.size, 1, none⟩ = some (.int .i64 0) ∧ w'.cell? ⟨w.heap.size, 2, none⟩ = some (.slice none 0 0) ∧ w'.cell? ⟨w.heap.size, 3, none⟩ = some (.int .i64 0) ∧ w'.frozen? ⟨w.heap.size, 0, none⟩ = false ∧ w'.frozen? ⟨w.heap.size, 1, none⟩ = false ∧ w'.frozen? ⟨w.heap.size, 2, none⟩ = false ∧ w'.frozen? ⟨w.heap.size, 3, none⟩ = false) ∧ ¬ w'.heap.size = w.heap.size ∧ ¬ w.heap.size = w'.heap.size := by
  have h := ((HB.new w _ _).drew).below k
  have z := k.size
  rw [sz_drew, sz_alloc] at z
  exact ⟨⟨Lib.hid h, h.four⟩, by omega, by omega⟩
theorem f_new {w w' : World} (k : Below (w.alloc (.cells #[.int .i64 0, .int .i64 0] 32)).drew.heap.size (w.alloc (.cells #[.int .i64 0, .int .i64 0] 32)).drew w') : (Hid (HB w' w.heap.size 32 #[.int .i64 0, .int .i64 0]) ∧ w'.cell? ⟨w.heap.size, 0, none⟩ = some (.int .i64 0) ∧ w'.cell? ⟨w.heap.size, 1, none⟩ = some (.int .i64 0) ∧ w'.frozen? ⟨w.heap.size, 0, none⟩ = false ∧ w'.frozen? ⟨w.heap.size, 1, none⟩ = false) ∧ ¬ w'.heap.size = w.heap.size ∧ ¬ w.heap.size = w'.heap.size := by
  have h := ((HB.new w _ _).drew).below k
  have z := k.size
  rw [sz_drew, sz_alloc] at z
  exact ⟨⟨Lib.hid h, h.two⟩, by omega, by omega⟩
theorem vf_new {w w' : World} (k : Below ((w.alloc (.cells #[.int .i64 0, .int .i64 0, .slice none 0 0, .int .i64 0] 47)).alloc (.cells #[.int .i64 0, .int .i64 0] 32)).drew.heap.size ((w.alloc (.cells #[.int .i64 0, .int .i64 0, .slice none 0 0, .int .i64 0] 47)).alloc (.cells #[.int .i64 0, .int .i64 0] 32)).drew w') : (Hid (HB w' w.heap.size 47 #[.int .i64 0, .int .i64 0, .slice none 0 0, .int .i64 0]) ∧ w'.cell? ⟨w.heap.size, 0, none⟩ = some (.int .i64 0) ∧ w'.cell? ⟨w.heap.size, 1, none⟩ = some (.int .i64 0) ∧ w'.cell? ⟨w.heap.size, 2, none⟩ = some (.slice none 0 0) ∧ w'.cell? ⟨w.heap.size, 3, none⟩ = some (.int .i64 0) ∧ w'.frozen? ⟨w.heap.size, 0, none⟩ = false ∧ w'.frozen? ⟨w.heap.size, 1, none⟩ = false ∧ w'.frozen? ⟨w.heap.size, 2, none⟩ = false ∧ w'.frozen? ⟨w.heap.size, 3, none⟩ = false) ∧ Hid (HB w' (w.heap.size + 1) 32 #[.int .i64 0, .int .i64 0]) ∧ w'.cell? ⟨w.heap.size + 1, 0, none⟩ = some (.int .i64 0) ∧ w'.cell? ⟨w.heap.size + 1, 1, none⟩ = some (.int .i64 0) ∧ w'.frozen? ⟨w.heap.size + 1, 0, none⟩ = false ∧ w'.frozen? ⟨w.heap.size + 1, 1, none⟩ = false :=
  have h := ((HB.new w _ _).alloc _).drew.below k
  have h' := (HB.new1 w (.cells #[.int .i64 0, .int .i64 0, .slice none 0 0, .int .i64 0] 47) _ _).drew.below k
  ⟨⟨Lib.hid h, h.four⟩, Lib.hid h', h'.two⟩
theorem fv_new {w w' : World} (k : Below ((w.alloc (.cells #[.int .i64 0, .int .i64 0] 32)).alloc (.cells #[.int .i64 0, .int .i64 0, .slice none 0 0, .int .i64 0] 47)).drew.heap.size ((w.alloc (.cells #[.int .i64 0, .int .i64 0] 32)).alloc (.cells #[.int .i64 0, .int .i64 0, .slice none 0 0, .int .i64 0] 47)).drew w') : (Hid (HB w' w.heap.size 32 #[.int .i64 0, .int .i64 0]) ∧ w'.cell? ⟨w.heap.size, 0, none⟩ = some (.int .i64 0) ∧ w'.cell? ⟨w.heap.size, 1, none⟩ = some (.int .i64 0) ∧ w'.frozen? ⟨w.heap.size, 0, none⟩ = false ∧ w'.frozen? ⟨w.heap.size, 1, none⟩ = false) ∧ Hid (HB w' (w.heap.size + 1) 47 #[.int .i64 0, .int .i64 0, .slice none 0 0, .int .i64 0]) ∧ w'.cell? ⟨w.heap.size + 1, 0, none⟩ = some (.int .i64 0) ∧ w'.cell? ⟨w.heap.size + 1, 1, none⟩ = some (.int .i64 0) ∧ w'.cell? ⟨w.heap.size + 1, 2, none⟩ = some (.slice none 0 0) ∧ w'.cell? ⟨w.heap.size + 1, 3, none⟩ = some (.int .i64 0) ∧ w'.frozen? ⟨w.heap.size + 1, 0, none⟩ = false ∧ w'.frozen? ⟨w.heap.size + 1, 1, none⟩ = false ∧ w'.frozen? ⟨w.heap.size + 1, 2, none⟩ = false ∧ w'.frozen? ⟨w.heap.size + 1, 3, none⟩ = false :=
  have h := ((HB.new w _ _).alloc _).drew.below k
  have h' := (HB.new1 w (.cells #[.int .i64 0, .int .i64 0] 32) _ _).drew.below k
  ⟨⟨Lib.hid h, h.two⟩, Lib.hid h', h'.four⟩
/-- A value and a fault that a node's reckoning has left. -/
structure CutX (wr : World) (B : Nat) (v0 v1 v2 v3 f0 kv : Value) (n : Nat) (xs : List Value) (g16 g17 : Nat) (X : World) : Prop where
  v : HB X g16 47 #[v0, v1, v2, v3]
  f : HB X g17 32 #[f0, .int .i64 0]
  o : X.ownsRow B 96 2 kv n xs
  b : Below wr.heap.size wr X
section
variable {wr w5 : World} {B B' n g h : Nat} {v0 v1 v2 v3 f0 kv z0 z1 z2 z3 y0 y1 : Value} {xs : List Value}
theorem cx1 (G : Below wr.heap.size wr w5) (O : w5.ownsRow B' 96 2 kv n xs) (hB : B ≤ B') : CutX wr B v0 v1 v2 v3 f0 kv n xs w5.heap.size (w5.heap.size + 1) ((w5.alloc (.cells #[v0, v1, v2, v3] 47)).alloc (.cells #[f0, .int .i64 0] 32)) :=
  ⟨(HB.new _ _ _).alloc _, HB.new1 _ _ _ _, own_base (own_alloc (own_alloc O _) _) hB, bw_below (Nat.le_refl _) (bw_below (Nat.le_refl _) G (new_below _ _)) (new_below _ _)⟩
theorem cx2 (G : Below wr.heap.size wr w5) (O : w5.ownsRow B' 96 2 kv n xs) (hB : B ≤ B') : CutX wr B v0 v1 v2 v3 f0 kv n xs (w5.heap.size + 1) w5.heap.size ((w5.alloc (.cells #[f0, .int .i64 0] 32)).alloc (.cells #[v0, v1, v2, v3] 47)) :=
  ⟨HB.new1 _ _ _ _, (HB.new _ _ _).alloc _, own_base (own_alloc (own_alloc O _) _) hB, bw_below (Nat.le_refl _) (bw_below (Nat.le_refl _) G (new_below _ _)) (new_below _ _)⟩
theorem cx4 (G : Below wr.heap.size wr w5) (O : w5.ownsRow B' 96 2 kv n xs) (hB : B ≤ B') (P : HB w5 g 47 #[z0, z1, z2, z3]) (R : HB w5 h 32 #[y0, y1]) (hg : wr.heap.size ≤ g) (hh : wr.heap.size ≤ h) :
    CutX wr B v0 v1 v2 v3 f0 kv n xs g h ((((((w5.setCell ⟨g, 0, none⟩ v0).setCell ⟨g, 1, none⟩ v1).setCell ⟨g, 2, none⟩ v2).setCell ⟨g, 3, none⟩ v3).setCell ⟨h, 0, none⟩ f0).setCell ⟨h, 1, none⟩ (.int .i64 0)) := by
  have F1 := far4 w5 g v0 v1 v2 v3
  have ne : g ≠ h := hb_ne P R (by decide)
  have F2 := far2 ((((w5.setCell ⟨g, 0, none⟩ v0).setCell ⟨g, 1, none⟩ v1).setCell ⟨g, 2, none⟩ v2).setCell ⟨g, 3, none⟩ v3) h f0 (.int .i64 0)
  have R1 := hb_far R (Ne.symm ne) F1
  have O1 := own_far O (own_ne O P (by decide)) F1
  exact ⟨hb_far (hb_set4 P) ne F2, hb_set2 R1, own_base (own_far O1 (own_ne O1 R1 (by decide)) F2) hB, bw_far (bw_far G hg F1) hh F2⟩
theorem cx3 (G : Below wr.heap.size wr w5) (O : w5.ownsRow B' 96 2 kv n xs) (hB : B ≤ B') (P : HB w5 g 47 #[z0, z1, z2, z3]) (hg : wr.heap.size ≤ g) :
    CutX wr B v0 v1 v2 v3 f0 kv n xs g w5.heap.size (((((((w5.alloc (.cells #[y0, y1] 32)).setCell ⟨g, 0, none⟩ v0).setCell ⟨g, 1, none⟩ v1).setCell ⟨g, 2, none⟩ v2).setCell ⟨g, 3, none⟩ v3).setCell ⟨w5.heap.size, 0, none⟩ f0).setCell ⟨w5.heap.size, 1, none⟩ (.int .i64 0)) :=
  cx4 (bw_below (Nat.le_refl _) G (new_below _ _)) (own_alloc O _) hB (P.alloc _) (HB.new _ _ _) hg G.size
theorem cx5 (G : Below wr.heap.size wr w5) (O : w5.ownsRow B' 96 2 kv n xs) (hB : B ≤ B') (R : HB w5 h 32 #[y0, y1]) (hh : wr.heap.size ≤ h) :
    CutX wr B v0 v1 v2 v3 f0 kv n xs w5.heap.size h (((w5.alloc (.cells #[v0, v1, v2, v3] 47)).setCell ⟨h, 0, none⟩ f0).setCell ⟨h, 1, none⟩ (.int .i64 0)) := by
  have F := far2 (w5.alloc (.cells #[v0, v1, v2, v3] 47)) h f0 (.int .i64 0)
  have R1 := R.alloc (.cells #[v0, v1, v2, v3] 47)
  have P1 := HB.new w5 47 #[v0, v1, v2, v3]
  have O1 := own_alloc O (.cells #[v0, v1, v2, v3] 47)
  exact ⟨hb_far P1 (hb_ne P1 R1 (by decide)) F, hb_set2 R1, own_base (own_far O1 (own_ne O1 R1 (by decide)) F) hB, bw_far (bw_below (Nat.le_refl _) G (new_below _ _)) hh F⟩
end
theorem is_low {w w' : World} {b o B : Nat} {xs : List Int} (h : Is w (some ⟨b, o, none⟩) xs) (hb : b < B) (k : Below B w w') : Is w' (some ⟨b, o, none⟩) xs := fun z => by
  obtain ⟨b', o', e, l, q⟩ := h z
  injection e with e
  injection e with e1 e2
  subst e1 e2
  exact ⟨b, o, rfl, Nat.lt_of_lt_of_le l k.size, fun j hj => (k.cell (p := ⟨b, o + j, none⟩) hb).trans (q j hj)⟩
theorem VMk.low {B B' C : Nat} {sv : Value} {w : World} {ps : List (Vl × Value)} (h : VMk B C sv w ps) (hb : B' ≤ B) : VMk B' C sv w ps := ⟨own_base h.1 hb, h.2⟩
theorem vm_far {B C g : Nat} {sv : Value} {w w' : World} {ps : List (Vl × Value)} {y0 y1 : Value} (h : VMk B C sv w ps) (R : HB w g 32 #[y0, y1]) (F : Far g w w') : VMk B C sv w' ps :=
  ⟨own_far h.1 (own_ne h.1 R (by decide)) F, fun p hp => own_far (h.2 p hp) (own_ne (h.2 p hp) R (by decide)) F⟩
/-- What mean.Value yields. -/
def ValsQ (r : Except (Int × Int) (List Vl)) (w : World) (e : Ending) (w' : World) : Prop :=
  match r with
  | .ok vs => ∃ A c ps, e = .returned (.tuple #[.slice A vs.length c, .agg #[.int .i64 0, .int .i64 0]]) ∧ VMk w.heap.size w.heap.size (.slice A vs.length c) w' ps ∧ ps.map (·.1) = vs ∧ Below w.heap.size w w'
  | .error p => e = .returned (.tuple #[.slice none 0 0, .agg #[.int .i64 p.1, .int .i64 p.2]]) ∧ Below w.heap.size w w'
set_option maxRecDepth 100000 in
set_option maxHeartbeats 8000000 in
theorem value_ok (qs : List Dc) (ns : List Nd) (hs : List Int) (ms : List Mg) (ss : List Int) (Ad An Ah Am : Option Addr) (dc nc hc mc : Nat) (w : World) (h : AwAt w qs ns hs ms Ad An Ah Am dc nc hc mc)
    (hC : meC qs ns hs ms = 0) (hA : meA qs ns hs ms = 0) (hk0 : akC qs ns hs = 0) (hk1 : akA qs ns hs = 0) (hkL : akL qs ns hs = ss) (hss : ss.length = ns.length) (hn : ns.length ≤ 4000) (hkl : ∀ i, i < ns.length → (nn ns i).kids.length ≤ 1000)
    (hkb : ∀ i, i < ns.length → ∀ j, j < (nn ns i).kids.length → 0 ≤ nth (nn ns i).kids j ∧ nth (nn ns i).kids j < i) (ev : Nat → List Vl → Vl × Int)
    (HE : ∀ (i : Nat) (vs : List Vl) (W : World) (Av Ak : Option Addr) (vc kc : Nat), i < ns.length → valsE ev i = .ok vs → VaM w (.slice Ad qs.length dc) (.slice An ns.length nc) (.slice Ah hs.length hc) (.slice Am ms.length mc) W → VsAt W Av (kidsV ns i vs) →
      Calls Tryz.prog 15 #[.agg #[.int .i64 (nn ns i).op, .slice Ak (nn ns i).kids.length kc, .int .i64 (nn ns i).n, .int .i64 (nn ns i).d, .string (nn ns i).name], .int .i64 (nth ss i), .slice Av (nn ns i).kids.length vc, .func (.func 12) #[] #[.pointer (some ⟨w.heap.size + 1, 0, none⟩), .pointer (some ⟨w.heap.size, 0, none⟩)]] W (EvQ (ev i vs).1 (ev i vs).2 W)) :
    Calls Tryz.prog 5 #[.agg #[.slice Ad qs.length dc, .slice An ns.length nc, .slice Ah hs.length hc], .agg #[.slice Am ms.length mc]] w (ValsQ (valsE ev ns.length) w) := by
  have HH := Lib.hid h
  have HN := Lib.hid (va_new w (.slice Ad qs.length dc) (.slice An ns.length nc) (.slice Ah hs.length hc) (.slice Am ms.length mc))
  have X1 := Lib.hid (fun (W : World) (k : Below w.heap.size w W) => meancheck_any qs ns hs ms Ad An Ah Am dc nc hc mc W (h.below k))
  rw [hC, hA] at X1
  have X2 := Lib.hid (fun (W : World) (k : Below w.heap.size w W) => sorts_any qs ns hs Ad An Ah dc nc hc h.d1 h.d2 (Nat.le_trans h.n1 h.n2) h.h1 W (h.fd.below k) (h.fn.below k) (h.fh.below k))
  rw [hk0, hk1, hkL] at X2
  unfold GivesS at X2
  have HEV := Lib.hid HE
  have HKL := Lib.hid hkl
  have HKB := Lib.hid hkb
  have HSS := Lib.hid hss
  clear h hC hA hk0 hk1 hkL HE hkl hkb hss
  generalize hQ : ValsQ (valsE ev ns.length) w = Q0 at *
  have HQ0 := Lib.hid (fun e w' (z : ValsQ (valsE ev ns.length) w e w') => (show Q0 e w' by rw [← hQ]; exact z))
  clear hQ
  generalize hnl : ns.length = nl at *
  have HNL := Lib.hid hnl
  clear hnl
  generalize qs.length = ql at *
  generalize hs.length = hl at *
  generalize ms.length = ml at *
  obtain ⟨a0, a1, a2, af0, af1, af2⟩ := HN.out.a.three
  go_enter Tryz.func5, Tryz.ntmps5
  go_wp2_with fail
  refine (X1.out _ HN.out.b).mono ?_
  rintro e w1 ⟨rfl, hb1⟩
  have M1 := Lib.hid (HN.out.below hb1)
  have M2 := Lib.hid (M1.out.below (new_below w1 (.cells #[.int .i64 0, .int .i64 0] 32)))
  clear hb1 a0 a1 a2 af0 af1 af2
  obtain ⟨a0, a1, a2, af0, af1, af2⟩ := M2.out.a.three
  go_wp2_with fail
  refine (X2.out _ M2.out.b).mono ?_
  rintro e w2 ⟨S, sc, rfl, hS, hsl, hsm, hb2⟩
  rw [HSS.out]
  have M3 := Lib.hid (M2.out.below hb2)
  have M4 := Lib.hid (M3.out.below (new_below w2 (.cells #[.int .i64 0, .int .i64 0] 32)))
  have HSI := Lib.hid (hS.is.below (new_below w2 (.cells #[.int .i64 0, .int .i64 0] 32)))
  clear hb2 hS a0 a1 a2 af0 af1 af2
  obtain ⟨a0, a1, a2, af0, af1, af2⟩ := M4.out.a.three
  go_wp2_with fail
  have EV0 : Hid (valsE ev 0 = .ok []) := Lib.hid rfl
  have M4S : w.heap.size ≤ w2.heap.size + 1 := by
    have := M3.out.b.size
    omega
  clear a0 a1 a2 af0 af1 af2 X1 X2 HN M1 M2 M3
  go_loopw [10, 11, 12, 13, 15, 16, 17, 34] (fun sv _ _ _ _ _ _ k wr => ∃ (i : Nat) (vs : List Vl) (ps : List (Vl × Value)), i ≤ nl ∧ k = .int .i64 i ∧ Hid (valsE ev i = .ok vs) ∧ Hid (ps.map (·.1) = vs) ∧ w2.heap.size + 1 ≤ wr.heap.size ∧ Hid (VMk (w2.heap.size + 1) w.heap.size sv wr ps) ∧ Hid (VaM w (.slice Ad ql dc) (.slice An nl nc) (.slice Ah hl hc) (.slice Am ml mc) wr) ∧ Hid (Is wr S ss)) (fun _ _ _ _ _ _ _ k _ => nl - (intOf k).toNat)
  case atStart => exact ⟨0, [], [], by omega, rfl, EV0, Lib.hid rfl, by simp, Lib.hid (vm_nil _ _ _), M4, HSI⟩
  case round =>
    clear M4 EV0
    obtain ⟨i, vs, ps, hi, rfl, HVE, HPV, lw, HVM, HM, HIS⟩ := hrel
    by_cases hlt : i < nl
    · have t3 : decide ((i : Int) < nl) = true := by simpa using hlt
      obtain ⟨b, o, Ak, kc, rfl, hb, c0, c1, c2, c3, c4, _, hkm, hki⟩ := ns_at (i := i) (HH.out.fn.below HM.out.b) (by rw [HNL.out]; exact hlt)
      have HKI := Lib.hid hki
      have XE0 := Lib.hid (fun (W : World) (A2 : Option Addr) (vc kc : Nat) => HEV.out i vs W A2 Ak vc kc hlt HVE.out)
      have hkl := HKL.out i hlt
      have HKB2 := Lib.hid (HKB.out i hlt)
      generalize hsv : u10 = sv at *
      clear hsv
      obtain ⟨Av, vc, hsv⟩ := own_val HVM.out.1
      have hpl : ps.length = i := by
        have e1 := congrArg List.length HPV.out
        rw [List.length_map, valsE_len HVE.out] at e1
        exact e1
      rw [hpl] at hsv
      subst hsv
      have l0 : (i : Int) < nl := by omega
      generalize hkids : (nn ns i).kids = kids at *
      have HKE := Lib.hid hkids
      clear hkids hki hkm
      generalize hkL : kids.length = kl at *
      have HKLE := Lib.hid hkL
      clear hkL
      generalize (nn ns i).op = op at *
      generalize (nn ns i).n = N at *
      generalize (nn ns i).d = D at *
      generalize (nn ns i).name = nm at *
      have B1 := Lib.hid (new_below wr (.cells #[.int .i64 op, .slice Ak kl kc, .int .i64 N, .int .i64 D, .string nm] 56))
      have NB := Lib.hid (HB.new wr 56 #[.int .i64 op, .slice Ak kl kc, .int .i64 N, .int .i64 D, .string nm])
      go_wp2_with fail
      obtain ⟨wo, hwo⟩ : ∃ wo, wo = wr := ⟨wr, rfl⟩
      generalize hX0 : wr.alloc (.cells #[.int .i64 op, .slice Ak kl kc, .int .i64 N, .int .i64 D, .string nm] 56) = X0 at *
      have HKIX := Lib.hid (HKI.out.below B1.out)
      have VMX := Lib.hid (HVM.out.below B1.out)
      clear hX0
      subst hwo
      go_loopw [13, 15, 42] (fun kv _ k wx => ∃ (j : Nat) (ks : List (Vl × Value)), j ≤ kl ∧ k = .int .i64 j ∧ ks.length = j ∧ Hid (ks.map (·.1) = (kids.take j).map fun z => vn vs z.toNat) ∧ Hid (VMk X0.heap.size w.heap.size kv wx ks) ∧ Hid (Below X0.heap.size X0 wx)) (fun _ _ k _ => kl - (intOf k).toNat)
      case atStart => exact ⟨0, [], by omega, rfl, rfl, Lib.hid rfl, Lib.hid (vm_nil _ _ _), Lib.hid (Below.refl _ _)⟩
      case round =>
        obtain ⟨j, ks, hj, rfl, hksl, HKS, HKM, HBX⟩ := hrel
        by_cases hjl : j < kl
        · have t5 : decide ((j : Int) < kl) = true := by simpa using hjl
          obtain ⟨bk, ok, rfl, hbk, d0⟩ := is_at (i := j) (HKIX.out.below HBX.out) (by rw [HKLE.out]; exact hjl)
          obtain ⟨z0, z1⟩ := HKB2.out j hjl
          obtain ⟨kz, hkz⟩ : ∃ kz : Nat, nth kids j = kz := ⟨(nth kids j).toNat, by omega⟩
          have HTK := Lib.hid (take_snoc (l := kids) (i := j) (by rw [HKLE.out]; exact hjl))
          rw [hkz] at d0 z0 z1
          have HKZ := Lib.hid hkz
          clear hkz
          have hzi : kz < i := by omega
          obtain ⟨p, hp⟩ : ∃ p, ps[kz]? = some p := ⟨_, List.getElem?_eq_getElem (by rw [hpl]; exact hzi)⟩
          obtain ⟨bv, rfl, hbv, v0, v1, v2, v3⟩ := vm_at (VMX.out.below HBX.out) hp
          have HOP := Lib.hid ((VMX.out.below HBX.out).2 p (List.mem_of_getElem? hp))
          obtain ⟨Ac, cc, hp2⟩ := own_val HOP.out
          have HPP := Lib.hid hp
          have HP2 := Lib.hid hp2
          rw [hp2] at v2
          have HPN : Hid (vn vs (nth kids j).toNat = p.1) := Lib.hid (by
            rw [HKZ.out, ← HPV.out, Int.toNat_natCast]
            simp [vn, List.getD, hp])
          clear hp hp2
          have hj1000 : ks.length ≤ 1000 := by omega
          have HKSL := Lib.hid hksl
          clear hksl
          generalize hkv : u13 = kv at *
          clear hkv
          have B3 := Lib.hid (new_below wr (.cells #[.int .i64 p.1.num, .int .i64 p.1.den, .slice Ac p.1.cells.length cc, .int .i64 p.1.rest] 47))
          have KM3 := Lib.hid (HKM.out.below B3.out)
          have HBX3 := Lib.hid (below_after HBX.out B3.out)
          have lz : (kz : Int) < i := by omega
          go_wp2_with (at_builtin; refine wpl_app2 30 47 Tryz.underlying30 (.agg #[.int .i64 0, .int .i64 0, .slice none 0 0, .int .i64 0]) 4 48 infoValue rfl (by decide) rfl _ _ rfl X0.heap.size kv ks.length (ks.flatMap vlV) rfl KM3.out.1 wr.heap.size #[.int .i64 p.1.num, .int .i64 p.1.den, .slice Ac p.1.cells.length cc, .int .i64 p.1.rest] rfl (HB.new _ _ _) rfl (by simp [Value.oneCell']) (by omega) (by unfold maxLen; omega) HBX3.out.size ?_)
          intro g4 cap4 w4 hown4 hkp4 hbw4 _
          have VM4 : Hid (VMk X0.heap.size w.heap.size (.slice (some ⟨g4, 0, none⟩) (ks.length + 1) cap4) w4 (ks ++ [p])) := Lib.hid (vm_app KM3.out (own_below HOP.out B3.out) (Nat.le_refl _) (by
            have e : vlV p = [.int .i64 p.1.num, .int .i64 p.1.den, .slice Ac p.1.cells.length cc, .int .i64 p.1.rest] := by
              unfold vlV
              rw [HP2.out]
            rw [e]
            exact hown4.out) hkp4)
          have B4 := Lib.hid (hbw4 _ HBX3.out)
          clear hkp4 hbw4 hown4
          go_wp2_with fail
          go_round
          case rel => exact ⟨j + 1, ks ++ [p], by omega, by go_num, by rw [List.length_append, HKSL.out]; rfl, Lib.hid (by rw [HTK.out, List.map_append, List.map_append, HKS.out]; simp [HPN.out]), VM4, B4⟩
          case measure => simp [intOf]; omega
        · obtain rfl : j = kl := by omega
          have t5 : decide ((j : Int) < j) = false := by simp
          generalize hkv : u13 = kv at *
          clear hkv
          obtain ⟨Aw, wc', hkv⟩ := own_val HKM.out.1
          rw [hksl] at hkv
          subst hkv
          have HKV : Hid (VsAt wr Aw (kidsV ns i vs)) := Lib.hid (by
            have e := vm_vs HKM.out hksl
            rw [HKS.out, List.take_of_length_le (by rw [HKLE.out]; exact Nat.le_refl _)] at e
            unfold kidsV
            rw [HKE.out]
            exact e)
          have HKSL := Lib.hid hksl
          clear hksl
          obtain ⟨bS, oS, rfl, hbS, s0⟩ := is_at (i := i) ((HIS.out.below B1.out).below HBX.out) (by rw [HSS.out]; exact hlt)
          have lbS : bS < w2.heap.size + 1 := by
            obtain ⟨b', o', e', hb', _⟩ := is_at (i := i) HSI.out (by rw [HSS.out]; exact hlt)
            injection e' with e'
            injection e' with e1 e2
            subst e1
            simpa using hb'
          have lw9 : w2.heap.size + 1 ≤ wr.heap.size := Nat.le_trans (Nat.le_trans lw (B1.out.size)) HBX.out.size
          have NB2 := Lib.hid (NB.out.below HBX.out)
          have VM2 := Lib.hid ((HM.out.below B1.out).below HBX.out)
          have HEE : Hid (∀ c2, Hid (ev i vs = c2) → True) := Lib.hid (fun _ _ => trivial)
          have HC : Hid (∀ W, Below wr.heap.size wr W → W.cell? ⟨wo.heap.size, 0, none⟩ = some (.int .i64 op) ∧ W.cell? ⟨wo.heap.size, 1, none⟩ = some (.slice Ak j kc) ∧ W.cell? ⟨wo.heap.size, 2, none⟩ = some (.int .i64 N) ∧ W.cell? ⟨wo.heap.size, 3, none⟩ = some (.int .i64 D) ∧ W.cell? ⟨wo.heap.size, 4, none⟩ = some (.string nm) ∧ W.cell? ⟨bS, oS + i, none⟩ = some (.int .i64 (nth ss i))) := Lib.hid (fun W k => by
            have e := NB2.out.below k
            exact ⟨e.cell 0, e.cell 1, e.cell 2, e.cell 3, e.cell 4, (k.cell (p := ⟨bS, oS + i, none⟩) hbS).trans s0⟩)
          have XE : Hid (∀ W, Below wr.heap.size wr W → Calls Tryz.prog 15 #[.agg #[.int .i64 op, .slice Ak j kc, .int .i64 N, .int .i64 D, .string nm], .int .i64 (nth ss i), .slice Aw j wc', .func (.func 12) #[] #[.pointer (some ⟨w.heap.size + 1, 0, none⟩), .pointer (some ⟨w.heap.size, 0, none⟩)]] W (EvQ (ev i vs).1 (ev i vs).2 W)) := Lib.hid (fun W k => XE0.out W Aw wc' kc (VM2.out.below k) (HKV.out.below k))
          have HST := Lib.hid (valsE_step HVE.out)
          clear HEE s0 XE0
          generalize ev i vs = r at *
          obtain ⟨q, f⟩ := r
          unfold EvQ at XE
          dsimp only at XE HST
          generalize nth ss i = sort at *
          have li : (i : Int) < nl := by omega
          have li2 : i < nl := hlt
          go_upto_region 16 with fail
          go_cut [16, 17] (fun s16 s17 wx => ∃ (g16 g17 : Nat) (A : Option Addr) (c : Nat), s16 = .pointer (some ⟨g16, 0, none⟩) ∧ s17 = .pointer (some ⟨g17, 0, none⟩) ∧ wr.heap.size ≤ g16 ∧ wr.heap.size ≤ g17 ∧ Hid (CutX wr w.heap.size (.int .i64 q.num) (.int .i64 q.den) (.slice A q.cells.length c) (.int .i64 q.rest) (.int .i64 f) (.slice A q.cells.length c) q.cells.length (csV q.cells) g16 g17 wx))
          case first =>
            have KF : Hid (∀ W', W'.heap[wo.heap.size]? = wr.heap[wo.heap.size]? → W'.heap[bS]? = wr.heap[bS]? → SixE wo.heap.size bS (oS + i) op N D sort nm Ak j kc W') := Lib.hid (fun W' h1 h2 => six_of (HC.out wr (Below.refl _ _)) h1 h2)
            have lg : wo.heap.size < wr.heap.size := NB2.out.lt
            clear HKV
            go_region_held3 (fun W => SixE wo.heap.size bS (oS + i) op N D sort nm Ak j kc W)
              ((refine KF.out _ ?_ ?_ <;> (first | (simp (disch := (first | omega | (simp only [sz_drew, sz_set, sz_alloc]; omega))) only [hp_set, hp_alloc, L5.out.1, L5.out.2]; done) | (simp (disch := (first | omega | (simp only [sz_drew, sz_set, sz_alloc]; omega))) only [hp_drew, hp_alloc]; done))))
              (first
                | (go_at_call 15; refine (XE.out _ (by go_grown)).mono ?_; rintro e w5 ⟨A5, c5, rfl, ho5, hb5⟩; have O5 := ho5; have G5 : Hid (Below wr.heap.size wr w5) := Lib.hid (below_after (show Below wr.heap.size wr _ by go_grown) hb5); have L5 : Hid (w5.heap[wo.heap.size]? = wr.heap[wo.heap.size]? ∧ w5.heap[bS]? = wr.heap[bS]?) := Lib.hid ⟨G5.out.block _ lg, G5.out.block _ hbS⟩; have S5 : wr.heap.size ≤ w5.heap.size := G5.out.size; (first | (with_reducible have Q5 := vf_new hb5; obtain ⟨⟨P5, p0, p1, p2, p3, p4, p5, p6, p7⟩, R5, r0, r1, r2, r3⟩ := Q5) | (with_reducible have Q5 := fv_new hb5; obtain ⟨⟨R5, r0, r1, r2, r3⟩, P5, p0, p1, p2, p3, p4, p5, p6, p7⟩ := Q5) | (with_reducible have Q5 := v_new hb5; obtain ⟨⟨P5, p0, p1, p2, p3, p4, p5, p6, p7⟩, n1, n2⟩ := Q5; obtain ⟨u0, u1, u2, u3, u4, u5, u6, u7⟩ := four_up P5.out) | (with_reducible have Q5 := f_new hb5; obtain ⟨⟨R5, r0, r1, r2, r3⟩, n1, n2⟩ := Q5; obtain ⟨u0, u1, u2, u3⟩ := two_up R5.out) | skip); clear ho5))
            all_goals
              go_wp2_with fail
              go_meet
              case rel =>
                first
                | (with_reducible refine ⟨_, _, A5, c5, rfl, rfl, ?_, ?_, Lib.hid (cx4 G5.out O5.out ?_ P5.out R5.out ?_ ?_)⟩ <;> (first | exact S5 | omega | (simp only [sz_drew, sz_alloc]; omega)))
                | (with_reducible refine ⟨_, _, A5, c5, rfl, rfl, ?_, ?_, Lib.hid (cx3 G5.out O5.out ?_ P5.out ?_)⟩ <;> (first | exact S5 | omega | (simp only [sz_drew, sz_alloc]; omega)))
                | (with_reducible refine ⟨_, _, A5, c5, rfl, rfl, ?_, ?_, Lib.hid (cx5 G5.out O5.out ?_ R5.out ?_)⟩ <;> (first | exact S5 | omega | (simp only [sz_drew, sz_alloc]; omega)))
                | (with_reducible refine ⟨_, _, A5, c5, rfl, rfl, ?_, ?_, Lib.hid (cx1 G5.out O5.out ?_)⟩ <;> (first | exact S5 | omega | (simp only [sz_drew]; omega)))
                | (with_reducible refine ⟨_, _, A5, c5, rfl, rfl, ?_, ?_, Lib.hid (cx2 G5.out O5.out ?_)⟩ <;> (first | exact S5 | omega | (simp only [sz_drew]; omega)))
          case rest =>
            obtain ⟨g16, g17, A, c, rfl, rfl, l16, l17, HX⟩ := hcut
            have Mc := Lib.hid (VM2.out.below HX.out.b)
            have VMc := Lib.hid ((VMX.out.below HBX.out).below HX.out.b)
            have ISc := Lib.hid (((HIS.out.below B1.out).below HBX.out).below HX.out.b)
            obtain ⟨x0, x1, x2, x3, -⟩ := HX.out.v.four
            obtain ⟨y0, y1, -⟩ := HX.out.f.two
            obtain ⟨e0, e1, ef0, ef1⟩ := Mc.out.f.two
            clear XE HC HKV HKM NB2 HKIX HIS
            by_cases hf : f = 0
            · have HST1 : Hid (valsE ev (i + 1) = .ok (vs ++ [q])) := Lib.hid (by rw [HST.out, if_pos hf])
              subst hf
              have B7 := Lib.hid (new_below wc (.cells #[.int .i64 q.num, .int .i64 q.den, .slice A q.cells.length c, .int .i64 q.rest] 47))
              have VM7 := Lib.hid (VMc.out.below B7.out)
              have M7 := Lib.hid (Mc.out.below B7.out)
              have OX7 := Lib.hid (own_below HX.out.o B7.out)
              have IS7 := Lib.hid (ISc.out.below B7.out)
              have HOW := Lib.hid VM7.out.1
              rw [hpl] at HOW
              clear e0 e1 ef0 ef1 HST
              go_wp2_with (at_builtin; refine wpl_app2 30 47 Tryz.underlying30 (.agg #[.int .i64 0, .int .i64 0, .slice none 0 0, .int .i64 0]) 4 48 infoValue rfl (by decide) rfl _ _ rfl (w2.heap.size + 1) (.slice Av i vc) i (ps.flatMap vlV) rfl HOW.out wc.heap.size #[.int .i64 q.num, .int .i64 q.den, .slice A q.cells.length c, .int .i64 q.rest] rfl (HB.new _ _ _) rfl (by simp [Value.oneCell']) (by omega) (by unfold maxLen; omega) (Nat.le_trans (Nat.le_trans lw9 HX.out.b.size) B7.out.size) ?_)
              intro g8 cap8 w8 hown8 hkp8 hbw8 _
              have VM8 : Hid (VMk (w2.heap.size + 1) w.heap.size (.slice (some ⟨g8, 0, none⟩) (i + 1) cap8) w8 (ps ++ [(q, .slice A q.cells.length c)])) := Lib.hid (vm_app VM7.out (p := (q, .slice A q.cells.length c)) OX7.out (Nat.le_refl _) (by rw [hpl]; exact hown8.out) hkp8)
              have lw7 : w2.heap.size + 1 ≤ wc.heap.size := Nat.le_trans lw9 HX.out.b.size
              have BW8 := hbw8 _ (Below.refl _ _)
              have M8 : Hid (VaM w (.slice Ad ql dc) (.slice (some ⟨b, o, none⟩) nl nc) (.slice Ah hl hc) (.slice Am ml mc) w8) := Lib.hid ⟨hkp8 _ _ _ (own_ne HOW.out M7.out.a (by decide)) M7.out.a, hkp8 _ _ _ (own_ne HOW.out M7.out.m (by decide)) M7.out.m, hkp8 _ _ _ (own_ne HOW.out M7.out.f (by decide)) M7.out.f, M7.out.b.trans (BW8.mono (Nat.le_trans M4S (Nat.le_refl _)))⟩
              have IS8 : Hid (Is w8 (some ⟨bS, oS, none⟩) ss) := Lib.hid (is_low IS7.out lbS BW8)
              have lw8 : w2.heap.size + 1 ≤ w8.heap.size := Nat.le_trans (Nat.le_trans lw7 B7.out.size) BW8.size
              clear hkp8 hbw8 hown8 BW8
              go_wp2_with fail
              go_round
              case rel => exact ⟨i + 1, vs ++ [q], ps ++ [(q, .slice A q.cells.length c)], by omega, by go_num, HST1, Lib.hid (by rw [List.map_append, HPV.out]; rfl), lw8, VM8, M8, IS8⟩
              case measure => simp [intOf]; omega
            · have HST1 : Hid (valsE ev nl = .error (f, (i : Int))) := Lib.hid (valsE_stop (by rw [HST.out, if_neg hf]) nl (by omega))
              have tf : (f == 0) = false := by simpa using hf
              have tf2 : (f != 0) = true := by simpa using hf
              clear hf HST
              go_wp2_with fail
              have Z2 := Lib.hid (hb_set2 (n := .int .i64 f) (d := .int .i64 (i : Int)) Mc.out.f)
              have BF := Lib.hid (bw_far Mc.out.b (by omega) (far2 wc (w.heap.size + 1 + 1) (.int .i64 f) (.int .i64 (i : Int))))
              go_region
              all_goals
                obtain ⟨z0, z1, -⟩ := Z2.out.drew.two
                have FIN := Lib.hid (HQ0.out (.returned (.tuple #[.slice none 0 0, .agg #[.int .i64 f, .int .i64 (i : Int)]])) _ (by rw [HST1.out]; exact ⟨rfl, BF.out.drew⟩))
                clear e0 e1 ef0 ef1 Z2 BF
                go_wp2_with fail
                exact bodyPost_ret (v := .tuple #[.slice none 0 0, .agg #[.int .i64 f, .int .i64 (i : Int)]]) (by simp [results, Tryz.results5, go_sem, z0, z1]) rfl FIN.out
    · obtain rfl : i = nl := by omega
      have t3 : decide ((i : Int) < i) = false := by simp
      generalize hsv : u10 = sv at *
      clear hsv
      obtain ⟨Av, vc, hsv⟩ := own_val HVM.out.1
      have hpl : ps.length = i := by
        have e1 := congrArg List.length HPV.out
        rw [List.length_map, valsE_len HVE.out] at e1
        exact e1
      rw [hpl] at hsv
      subst hsv
      obtain ⟨a0, a1, a2, af0, af1, af2⟩ := HM.out.a.three
      obtain ⟨e0, e1, ef0, ef1⟩ := HM.out.f.two
      have Z2 := Lib.hid (hb_set2 (n := .int .i64 0) (d := .int .i64 0) HM.out.f)
      have BF := Lib.hid (bw_far HM.out.b (by omega) (far2 wr (w.heap.size + 1 + 1) (.int .i64 0) (.int .i64 0)))
      have FM := Lib.hid (far2 wr (w.heap.size + 1 + 1) (.int .i64 0) (.int .i64 0))
      have VMZ : Hid (VMk w.heap.size w.heap.size (.slice Av i vc) ((wr.setCell ⟨w.heap.size + 1 + 1, 0, none⟩ (.int .i64 0)).setCell ⟨w.heap.size + 1 + 1, 1, none⟩ (.int .i64 0)) ps) := Lib.hid ((vm_far HVM.out HM.out.f FM.out).low M4S)
      have HVL : Hid (vs.length = i) := Lib.hid (valsE_len HVE.out)
      clear HSI
      obtain ⟨z0, z1, -⟩ := Z2.out.two
      have FIN := Lib.hid (HQ0.out (.returned (.tuple #[.slice Av i vc, .agg #[.int .i64 0, .int .i64 0]])) _ (by rw [HVE.out]; exact ⟨Av, vc, ps, by rw [HVL.out], by rw [HVL.out]; exact VMZ.out, HPV.out, BF.out⟩))
      clear Z2 BF VMZ FM
      go_wp2_with fail
      exact bodyPost_ret (v := .tuple #[.slice Av i vc, .agg #[.int .i64 0, .int .i64 0]]) (by simp [results, Tryz.results5, go_sem, z0, z1]) rfl FIN.out
set_option maxRecDepth 100000 in
set_option maxHeartbeats 4000000 in
/-- What is wrong with an ask, or a world, is told. -/
theorem value_bad (qs : List Dc) (ns : List Nd) (hs : List Int) (ms : List Mg) (Ad An Ah Am : Option Addr) (dc nc hc mc : Nat) (w : World) (h : AwAt w qs ns hs ms Ad An Ah Am dc nc hc mc) (h0 : meC qs ns hs ms ≠ 0) :
    Calls Tryz.prog 5 #[.agg #[.slice Ad qs.length dc, .slice An ns.length nc, .slice Ah hs.length hc], .agg #[.slice Am ms.length mc]] w (ValsQ (.error (meC qs ns hs ms, meA qs ns hs ms)) w) := by
  have HN := Lib.hid (va_new w (.slice Ad qs.length dc) (.slice An ns.length nc) (.slice Ah hs.length hc) (.slice Am ms.length mc))
  have X1 := Lib.hid (fun (W : World) (k : Below w.heap.size w W) => meancheck_any qs ns hs ms Ad An Ah Am dc nc hc mc W (h.below k))
  clear h
  generalize meC qs ns hs ms = C at *
  generalize meA qs ns hs ms = A9 at *
  have tc : (C == 0) = false := by simpa using h0
  have tc2 : (C != 0) = true := by simpa using h0
  clear h0
  generalize ns.length = nl at *
  generalize qs.length = ql at *
  generalize hs.length = hl at *
  generalize ms.length = ml at *
  obtain ⟨a0, a1, a2, af0, af1, af2⟩ := HN.out.a.three
  go_enter Tryz.func5, Tryz.ntmps5
  go_wp2_with fail
  refine (X1.out _ HN.out.b).mono ?_
  rintro e w1 ⟨rfl, hb1⟩
  have M1 := Lib.hid (HN.out.below hb1)
  have M2 := Lib.hid (M1.out.below (new_below w1 (.cells #[.int .i64 C, .int .i64 A9] 32)))
  clear hb1 a0 a1 a2 af0 af1 af2
  obtain ⟨e0, e1, ef0, ef1⟩ := M2.out.f.two
  go_wp2_with fail
  have Z2 := Lib.hid (hb_set2 (n := .int .i64 C) (d := .int .i64 A9) M2.out.f)
  have BF := Lib.hid (bw_far M2.out.b (by omega) (far2 (w1.alloc (.cells #[.int .i64 C, .int .i64 A9] 32)) (w.heap.size + 1 + 1) (.int .i64 C) (.int .i64 A9)))
  go_region
  all_goals
    obtain ⟨z0, z1, -⟩ := Z2.out.drew.two
    have FIN : Hid (ValsQ (.error (C, A9)) w (.returned (.tuple #[.slice none 0 0, .agg #[.int .i64 C, .int .i64 A9]])) _) := Lib.hid ⟨rfl, BF.out.drew⟩
    clear e0 e1 ef0 ef1 Z2 BF
    go_wp2_with fail
    exact bodyPost_ret (v := .tuple #[.slice none 0 0, .agg #[.int .i64 C, .int .i64 A9]]) (by simp [results, Tryz.results5, go_sem, z0, z1]) rfl FIN.out
end Go.Proofs.YtaodebpogibimaaGreat
