/-
  The reader's end of a list.
-/
import Derived.Test.YtgkhkdohlbchoaaSexO
namespace Go.Proofs.Ytgkhkdohlbchoaa
open Go.RowKit
theorem own_pop {w : World} {B g n cap : Nat} {e : TypeId} {xs : List Value} {u : Value} (h : w.ownsRow B e 1 (.slice (some ⟨g, 0, none⟩) (n + 1) cap) (n + 1) (xs ++ [u])) :
    w.ownsRow B e 1 (.slice (some ⟨g, 0, none⟩) n cap) n xs ∧ n + 1 ≤ cap ∧ cap ≤ maxLen := by
  have hl := h.1
  simp at hl
  rcases h.2 with ⟨hv, h1⟩ | ⟨g', cap', cur, hv, hb, hh, hc, hm, hsz, htk⟩
  · omega
  · injection hv with hv _ hv2
    injection hv with hv
    injection hv with hv _ _
    subst hv hv2
    refine ⟨⟨by simp [hl], .inr ⟨g, cap, cur, rfl, hb, hh, by omega, hm, hsz, ?_⟩⟩, hc, hm⟩
    have := congrArg (List.take n) htk
    rw [List.take_take, Nat.min_eq_left (by omega), List.take_left' hl] at this
    simpa using this
theorem end_top (B p i : Nat) (s : ByteArray) (f : Fo) (w : World) (h : PS w B p s i [f]) : Calls Try.prog 34 #[.pointer (some ⟨p, 0, none⟩)] w fun e w' => e = .returned (.int .i64 1) ∧ w' = w := by
  have HD := Lib.hid (depth_any B p i s [f] w h (by simp) (by simp))
  simp only [List.length_cons, List.length_nil, Nat.zero_add, Nat.sub_self] at HD
  clear h
  go_enter Try.func34, Try.ntmps34
  go_wp2_with fail
  refine HD.out.mono ?_
  rintro e w1 ⟨rfl, rfl⟩
  go_wp2_with fail
  go_ret
  exact ⟨rfl, rfl⟩
set_option maxHeartbeats 4000000 in
theorem end_any (B p i : Nat) (s : ByteArray) (k f : Fo) (st : List Fo) (w : World) (h : PS w B p s i (k :: f :: st)) (hi : i ≤ 1000000) (hl : st.length ≤ 99999) (hf : f.len ≤ 1000000) : Calls Try.prog 34 #[.pointer (some ⟨p, 0, none⟩)] w fun e w' => e = .returned (.int .i64 0) ∧ PS w' B p s (i + 1) (f.snoc ⟨#[]⟩ true k :: st) ∧ Below B w w' := by
  have HD := Lib.hid (depth_any B p i s (k :: f :: st) w h (by simp) (by simp; omega))
  have hle := h.le
  obtain ⟨go, cap, vs, hB, hb, ho, hn, hk⟩ := h
  obtain ⟨vk, vs1, rfl⟩ : ∃ v vs', vs = v :: vs' := by cases vs with
    | nil => cases hk
    | cons v vs' => exact ⟨v, vs', rfl⟩
  obtain ⟨vf, vs2, rfl⟩ : ∃ v vs', vs1 = v :: vs' := by cases vs1 with
    | nil => exact hk.2.elim
    | cons v vs' => exact ⟨v, vs', rfl⟩
  obtain ⟨Ak, ck, hvk, hk1, hk2, hk3⟩ := hk.1.slice
  have hnd : (act (vf :: vs2)).Nodup ∧ ∀ b, vk.ownBlock = some b → b ∉ act (vf :: vs2) := by
    have e : act (vk :: vf :: vs2) = (match vk.ownBlock with | none => act (vf :: vs2) | some b => b :: act (vf :: vs2)) := by
      unfold act; rw [List.filterMap_cons]; split <;> simp_all
    rw [e] at hn
    cases hv : vk.ownBlock with
    | none => rw [hv] at hn; exact ⟨hn, fun b z => by cases z⟩
    | some b => rw [hv] at hn; exact ⟨(List.nodup_cons.1 hn).2, fun b' z => by cases z; exact (List.nodup_cons.1 hn).1⟩
  have hsub : ∀ b, b ∉ act (vk :: vf :: vs2) → b ∉ act (vf :: vs2) := fun b hb z => hb (by
    unfold act at z ⊢
    rw [List.filterMap_cons]
    split
    · exact z
    · exact List.mem_cons_of_mem _ z)
  have hkid : Kid w (act (vf :: vs2)) k Ak ck := by
    refine ⟨hk1, hk2, fun z => ?_⟩
    obtain ⟨b, cs, e1, e2, hh, hr⟩ := hk3 z
    exact ⟨b, cs, e1, hnd.2 b e2, hh, Fo.Rel.keep (fun b cs h1 h2 => ⟨h2, hsub b h1⟩) k _ hr⟩
  have hst : Stk w B (act (vf :: vs2)) (f :: st) (vf :: vs2) := hk.2.keep (fun b cs h1 h2 => ⟨h2, hsub b h1⟩) (fun _ _ _ h2 => h2)
  have hvl := hk.len
  simp only [List.length_cons] at hvl hb ho HD
  have hgv : (vk :: vf :: vs2).reverse[st.length + 1]? = some vk := by
    rw [List.reverse_cons, List.getElem?_append_right (by simp; omega)]
    simp [show vs2.length = st.length by omega]
  obtain ⟨cur, hgb, hcur, hBg⟩ := own_hb ho (by omega) hgv
  have g0 : w.cell? ⟨go, st.length + 1, none⟩ = some vk := (hgb.cell _).trans hcur
  rw [List.reverse_cons] at ho
  obtain ⟨hpop, hcap, hcm⟩ := own_pop ho
  have hpp : HB (w.setCell ⟨p, 2, none⟩ (.slice (some ⟨go, 0, none⟩) (st.length + 1) cap)) p 55 #[.string s, .int .i64 i, .slice (some ⟨go, 0, none⟩) (st.length + 1) cap] := by simpa using hb.set_ 2 (.slice (some ⟨go, 0, none⟩) (st.length + 1) cap)
  have hke : Ke w (w.setCell ⟨p, 2, none⟩ (.slice (some ⟨go, 0, none⟩) (st.length + 1) cap)) := (Ke.refl w).cell hb (by decide)
  have HADD := Lib.hid (add_any B p i s f st vs2 vf go cap ⟨#[]⟩ true k Ak ck (w.setCell ⟨p, 2, none⟩ (.slice (some ⟨go, 0, none⟩) (st.length + 1) cap)) hB hpp (own_far hpop (own_ne hpop hb (by decide)) (far_set _ _ _ _)) hnd.1 (hst.ke hke) (by unfold maxLen; exact Nat.zero_le _) (hkid.ke hke) hl hf)
  have G1 : Hid (Below B w (w.setCell ⟨p, 2, none⟩ (.slice (some ⟨go, 0, none⟩) (st.length + 1) cap))) := bw_far (Below.refl _ _) hB (far_set _ _ _ _)
  obtain ⟨c0, c1, c2, f0, f1, f2⟩ := hb.three
  subst hvk
  have hne : go ≠ p := hb_ne hgb hb (by decide)
  generalize hn' : st.length = n at *
  have t1 : (n : Int) + 1 ≤ cap := by omega
  have t2 : (0 : Int) ≤ (n : Int) + 1 := by omega
  have t3 : (n : Int) + 1 < (n : Int) + 1 + 1 := by omega
  have t4 : ((n : Int) + 1 == 0) = false := by simp; omega
  unfold maxLen at hcm
  clear hb ho hn hk hk1 hk2 hk3 hnd hsub hkid hst hvl hgv hgb hcur hpop hpp hke hn'
  go_enter Try.func34, Try.ntmps34
  go_wp2_with fail
  refine HD.out.mono ?_
  rintro e w1 ⟨rfl, rfl⟩
  go_wp2_with fail
  refine HADD.out.mono ?_
  rintro e w2 ⟨rfl, hp2, hb2⟩
  have HP2 := Lib.hid hp2
  have G2 : Hid (Below B w1 w2) := G1.out.trans hb2
  clear c0 c1 c2 f0 f1 f2 g0 hb2
  obtain ⟨go2, cap2, _, hbb⟩ := hp2.cell
  obtain ⟨c0, c1, c2, f0, f1, f2⟩ := hbb.three
  clear hbb hp2
  go_wp2_with fail
  go_ret
  have := HP2.out.move (i + 1)
  exact ⟨rfl, by simpa using this, bw_far G2.out hB (far_set _ _ _ _)⟩
end Go.Proofs.Ytgkhkdohlbchoaa
