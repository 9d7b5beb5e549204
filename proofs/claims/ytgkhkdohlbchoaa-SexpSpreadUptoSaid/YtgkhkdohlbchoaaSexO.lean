/-
  The reader takes in one expression more.
-/
import Derived.Test.YtgkhkdohlbchoaaSexN
namespace Go.Proofs.Ytgkhkdohlbchoaa
open Go.RowKit
theorem info42 : (Try.prog.info? 42).map (fun i => (i.zero, i.size, i.bytes)) = some (some (.agg #[.string ⟨#[]⟩, .bool false, .slice none 0 0]), 3, 48) := by kernel_rfl
set_option maxHeartbeats 16000000 in
theorem add_any (B p i : Nat) (s : ByteArray) (f : Fo) (st : List Fo) (vs : List Value) (v : Value) (go cap : Nat) (x : ByteArray) (l : Bool) (k : Fo) (A : Option Addr) (c : Nat) (w : World)
    (hB : B ≤ p) (hb : HB w p 55 #[.string s, .int .i64 i, .slice (some ⟨go, 0, none⟩) (st.length + 1) cap]) (ho : w.ownsRow B 23 1 (.slice (some ⟨go, 0, none⟩) (st.length + 1) cap) (st.length + 1) (v :: vs).reverse)
    (hn : (act (v :: vs)).Nodup) (hk : Stk w B (act (v :: vs)) (f :: st) (v :: vs)) (hx : x.size ≤ maxLen) (hkid : Kid w (act (v :: vs)) k A c) (hl : st.length ≤ 99999) (hf : f.len ≤ 1000000) :
    Calls Try.prog 42 #[.pointer (some ⟨p, 0, none⟩), .agg #[.string x, .bool l, .slice A k.len c]] w fun e w' => e = .returned (.tuple #[]) ∧ PS w' B p s i (f.snoc x l k :: st) ∧ Below B w w' := by
  have h : PS w B p s i (f :: st) := ⟨go, cap, v :: vs, hB, hb, ho, hn, hk⟩
  have HD := Lib.hid (depth_any B p i s (f :: st) (w.alloc (.cells #[.string x, .bool l, .slice A k.len c] 42)) (h.alloc _) (by simp) (by simp; omega))
  have hle := h.le
  simp only [List.length_cons, Nat.add_sub_cancel] at HD
  have HL := Lib.hid hk.len
  have HHB := Lib.hid hb
  have HO := Lib.hid ho
  have HN := Lib.hid hn
  have HK := Lib.hid hk
  have HKID := Lib.hid hkid
  have HXX := Lib.hid hx
  generalize hlen : st.length = n at *
  have HLn := Lib.hid hlen
  clear h hb ho hn hk hkid hx hlen
  go_enter Try.func42, Try.ntmps42
  go_wp2_with fail
  refine HD.out.mono ?_
  rintro e w1 ⟨rfl, rfl⟩
  go_wp2_with fail
  go_region
  · skip
    have HX2 := Lib.hid (((HB.new w 42 #[.string x, .bool l, .slice A k.len c]).alloc (.cells #[.bool false] 4)).drew)
    have HHB2 := Lib.hid (((HHB.out.alloc (.cells #[.string x, .bool l, .slice A k.len c] 42)).alloc (.cells #[.bool false] 4)).drew)
    have HO2 : Hid (((w.alloc (.cells #[.string x, .bool l, .slice A k.len c] 42)).alloc (.cells #[.bool false] 4)).drew.ownsRow B 23 1 (.slice (some ⟨go, 0, none⟩) (n + 1) cap) (n + 1) (v :: vs).reverse) := Lib.hid (own_drewN (own_alloc (own_alloc HO.out (.cells #[.string x, .bool l, .slice A k.len c] 42)) (.cells #[.bool false] 4)) 1)
    have K2 : Hid (Ke w ((w.alloc (.cells #[.string x, .bool l, .slice A k.len c] 42)).alloc (.cells #[.bool false] 4)).drew) := ((Ke.refl w).alloc _).alloc _
    have G2 : Hid (Below B w ((w.alloc (.cells #[.string x, .bool l, .slice A k.len c] 42)).alloc (.cells #[.bool false] 4)).drew) := below_dn (Below.alloc (Below.alloc (Below.refl _ _) hle _) (by simp; omega) _) 1
    have hgo : Hid ((v :: vs).reverse[n]? = some v) := Lib.hid (by
      have h1 := HL.out
      simp only [List.length_cons] at h1
      have h2 := HLn.out
      have h3 : vs.length = n := by omega
      rw [List.reverse_cons, List.getElem?_append_right (by simp [h3])]
      simp [h3])
    generalize hw2 : ((w.alloc (.cells #[.string x, .bool l, .slice A k.len c] 42)).alloc (.cells #[.bool false] 4)).drew = w2 at *
    have hbx : w.heap.size < w2.heap.size := HX2.out.lt
    have HK2 := Lib.hid (HK.out.ke K2.out)
    have HKID2 := Lib.hid (HKID.out.ke K2.out)
    generalize hbox : w.heap.size = box at *
    obtain ⟨c0, c1, c2, f0, f1, f2⟩ := HHB2.out.three
    obtain ⟨x0, x1, x2, _⟩ := HX2.out.three
    obtain ⟨A', c', hv, _, _, _⟩ := HK2.out.1.slice
    have HLV := Lib.hid HK2.out.1
    obtain ⟨cur, hgb, hcur, hBg⟩ := own_hb HO2.out (by omega) hgo.out
    have g0 : w2.cell? ⟨go, n, none⟩ = some v := (hgb.cell n).trans hcur
    have g1 : w2.frozen? ⟨go, n, none⟩ = false := hgb.frozen n
    have HGO := Lib.hid hgb
    have HCUR := Lib.hid hcur
    have lgo := hgb.lt
    have lpp := HHB2.out.lt
    clear hw2 HD HL HHB HO HK HKID K2 hgo
    subst hv
    obtain ⟨xs, hxo, hxr⟩ := HLV.out
    have HXO := Lib.hid hxo
    have HXR := Lib.hid hxr
    clear hxo hxr hbox hgb hcur HLV
    have hgl := HX2.out.lt
    have t1 : (n : Int) < (n : Int) + 1 := by omega
    have t2 : (0 : Int) ≤ (n : Int) := by omega
    have t3 : (f.len : Int) < (f.len : Int) + 1 := by omega
    have t4 : (0 : Int) ≤ (f.len : Int) := by omega
    go_wp2_with fail
    go_region_law (first
      | (refine step_app2 23 42 Try.underlying23 (.agg #[.string ⟨#[]⟩, .bool false, .slice none 0 0]) 3 48 info42 rfl (by decide) rfl _ _ rfl B (.slice A' f.len c') f.len xs rfl ?_ w2.heap.size #[.string x, .bool l, .slice A k.len c] rfl ?_ rfl ?_ (by omega) (by unfold maxLen; omega) ?_ ?_; (first | (exact own_alloc (own_drewN HXO.out 1) _) | (exact own_drewN (own_alloc HXO.out _) 1)); (first | (exact HB.new _ _ _)); (simp [Value.oneCell']); (simp; omega); intro g4 cap4 w4 hown4 hkp4 hb4 hfr4; have K4 : Hid (∀ g t cs, some g ≠ (Value.slice A' f.len c').ownBlock → HB w2 g t cs → HB w4 g t cs) := (fun g t cs h1 h2 => hkp4 g t cs h1 (by first | exact (h2.drewN 1).alloc _ | exact (h2.alloc _).drewN 1)); have Q4 := Lib.hid (K4.out go 23 cur (own_ne HXO.out HGO.out (by decide)) HGO.out); have y0 := (Q4.out.cell n).trans HCUR.out; have y1 := Q4.out.frozen n; have P4 := Lib.hid (K4.out p 55 _ (own_ne HXO.out HHB2.out (by decide)) HHB2.out); have q0 := P4.out.three.1; have q1 := P4.out.three.2.1; have q2 := P4.out.three.2.2.1; have G4 : Hid (Below B w w4) := Lib.hid (hb4 w (by first | exact Below.alloc (below_dn G2.out 1) (by simp; omega) _ | exact below_dn (Below.alloc G2.out (by omega) _) 1)); clear hkp4 hb4))
    all_goals
      have hfr5 : Hid ((Value.slice A' f.len c').ownBlock = some g4 ∨ w2.heap.size ≤ g4) := Lib.hid (hfr4.out.imp_right (fun z => by simp at z; omega))
      go_wp2_with fail
      first | go_end0 | refine bodyPost_ret (results_none rfl _ _ _) rfl ?_
      exact ⟨rfl, add_false hB hBg HN.out HK2.out HLn.out HKID2.out HXX.out HXO.out HXR.out K4.out P4.out Q4.out HGO.out HO2.out hown4.out hfr5.out G4.out⟩
  · skip
    have HX2 := Lib.hid (((HB.new w 42 #[.string x, .bool l, .slice A k.len c]).alloc (.cells #[.bool true] 4)).drew)
    have HHB2 := Lib.hid (((HHB.out.alloc (.cells #[.string x, .bool l, .slice A k.len c] 42)).alloc (.cells #[.bool true] 4)).drew)
    have HO2 : Hid (((w.alloc (.cells #[.string x, .bool l, .slice A k.len c] 42)).alloc (.cells #[.bool true] 4)).drew.ownsRow B 23 1 (.slice (some ⟨go, 0, none⟩) (n + 1) cap) (n + 1) (v :: vs).reverse) := Lib.hid (own_drewN (own_alloc (own_alloc HO.out (.cells #[.string x, .bool l, .slice A k.len c] 42)) (.cells #[.bool true] 4)) 1)
    have K2 : Hid (Ke w ((w.alloc (.cells #[.string x, .bool l, .slice A k.len c] 42)).alloc (.cells #[.bool true] 4)).drew) := ((Ke.refl w).alloc _).alloc _
    have G2 : Hid (Below B w ((w.alloc (.cells #[.string x, .bool l, .slice A k.len c] 42)).alloc (.cells #[.bool true] 4)).drew) := below_dn (Below.alloc (Below.alloc (Below.refl _ _) hle _) (by simp; omega) _) 1
    have hgo : Hid ((v :: vs).reverse[n]? = some v) := Lib.hid (by
      have h1 := HL.out
      simp only [List.length_cons] at h1
      have h2 := HLn.out
      have h3 : vs.length = n := by omega
      rw [List.reverse_cons, List.getElem?_append_right (by simp [h3])]
      simp [h3])
    generalize hw2 : ((w.alloc (.cells #[.string x, .bool l, .slice A k.len c] 42)).alloc (.cells #[.bool true] 4)).drew = w2 at *
    have hbx : w.heap.size < w2.heap.size := HX2.out.lt
    have HK2 := Lib.hid (HK.out.ke K2.out)
    have HKID2 := Lib.hid (HKID.out.ke K2.out)
    generalize hbox : w.heap.size = box at *
    obtain ⟨c0, c1, c2, f0, f1, f2⟩ := HHB2.out.three
    obtain ⟨x0, x1, x2, _⟩ := HX2.out.three
    obtain ⟨A', c', hv, _, _, _⟩ := HK2.out.1.slice
    have HLV := Lib.hid HK2.out.1
    obtain ⟨cur, hgb, hcur, hBg⟩ := own_hb HO2.out (by omega) hgo.out
    have g0 : w2.cell? ⟨go, n, none⟩ = some v := (hgb.cell n).trans hcur
    have g1 : w2.frozen? ⟨go, n, none⟩ = false := hgb.frozen n
    have HGO := Lib.hid hgb
    have HCUR := Lib.hid hcur
    have lgo := hgb.lt
    have lpp := HHB2.out.lt
    clear hw2 HD HL HHB HO HK HKID K2 hgo
    subst hv
    obtain ⟨xs, hxo, hxr⟩ := HLV.out
    have HXO := Lib.hid hxo
    have HXR := Lib.hid hxr
    clear hxo hxr hbox hgb hcur HLV
    have hgl := HX2.out.lt
    have t1 : (n : Int) < (n : Int) + 1 := by omega
    have t2 : (0 : Int) ≤ (n : Int) := by omega
    have t3 : (f.len : Int) < (f.len : Int) + 1 := by omega
    have t4 : (0 : Int) ≤ (f.len : Int) := by omega
    go_wp2_with fail
    go_region_law (first
      | (refine step_app2 23 42 Try.underlying23 (.agg #[.string ⟨#[]⟩, .bool false, .slice none 0 0]) 3 48 info42 rfl (by decide) rfl _ _ rfl B (.slice A' f.len c') f.len xs rfl ?_ w2.heap.size #[.string ⟨#[]⟩, .bool false, .slice none 0 0] rfl ?_ rfl ?_ (by omega) (by unfold maxLen; omega) ?_ ?_; (first | (exact own_alloc (own_drewN HXO.out 1) _) | (exact own_drewN (own_alloc HXO.out _) 1)); (first | (exact HB.new _ _ _)); (simp [Value.oneCell']); (simp; omega); intro g4 cap4 w4 hown4 hkp4 hb4 hfr4; have K4 : Hid (∀ g t cs, some g ≠ (Value.slice A' f.len c').ownBlock → HB w2 g t cs → HB w4 g t cs) := (fun g t cs h1 h2 => hkp4 g t cs h1 (by first | exact (h2.drewN 1).alloc _ | exact (h2.alloc _).drewN 1)); have Q4 := Lib.hid (K4.out go 23 cur (own_ne HXO.out HGO.out (by decide)) HGO.out); have y0 := (Q4.out.cell n).trans HCUR.out; have y1 := Q4.out.frozen n; have P4 := Lib.hid (K4.out p 55 _ (own_ne HXO.out HHB2.out (by decide)) HHB2.out); have q0 := P4.out.three.1; have q1 := P4.out.three.2.1; have q2 := P4.out.three.2.2.1; have G4 : Hid (Below B w w4) := Lib.hid (hb4 w (by first | exact Below.alloc (below_dn G2.out 1) (by simp; omega) _ | exact below_dn (Below.alloc G2.out (by omega) _) 1)); clear hkp4 hb4))
    all_goals
      have hfr5 : Hid ((Value.slice A' f.len c').ownBlock = some g4 ∨ w2.heap.size ≤ g4) := Lib.hid (hfr4.out.imp_right (fun z => by simp at z; omega))
      obtain ⟨cs4, hb4, e0, e1, e2, hBg4⟩ := own_cells3 hown4.out
      have H5 := Lib.hid (hb4.far (p := ⟨go, n, none⟩) (hb_ne hb4 Q4.out (by decide)) (.slice (some ⟨g4, 0, none⟩) (f.len + 1) cap4))
      have z0 := (H5.out.cell (f.len * 3)).trans e0
      have z1 := (H5.out.cell (f.len * 3 + 1)).trans e1
      have z2 := (H5.out.cell (f.len * 3 + 2)).trans e2
      have z3 := H5.out.frozen (f.len * 3)
      have z4 := H5.out.frozen (f.len * 3 + 1)
      have z5 := H5.out.frozen (f.len * 3 + 2)
      clear hb4 e0 e1 e2
      go_wp2_with fail
      first | go_end0 | refine bodyPost_ret (results_none rfl _ _ _) rfl ?_
      exact ⟨rfl, add_true hB hBg hBg4 HN.out HK2.out HLn.out HKID2.out HXX.out HXO.out HXR.out K4.out P4.out Q4.out HGO.out HO2.out hown4.out hfr5.out G4.out⟩
end Go.Proofs.Ytgkhkdohlbchoaa
