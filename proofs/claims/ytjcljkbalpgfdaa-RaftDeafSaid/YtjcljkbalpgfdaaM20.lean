/-
  Parts that the statement rests on, joined: Psayvote, Psayadd, Ppropose.
-/
import Derived.Test.YtjcljkbalpgfdaaM7
import Derived.Test.YtjcljkbalpgfdaaM11
import Derived.Test.YtjcljkbalpgfdaaM14
import Derived.Test.YtjcljkbalpgfdaaM18
import Derived.Test.YtjcljkbalpgfdaaM19
import Derived.BigQuiet
/-
  What sayVote answers and leaves.
-/




namespace Go.Proofs.Ytjcljkbalpgfdaa
open Go.RowKit

set_option maxRecDepth 100000 in
set_option maxHeartbeats 1600000 in
theorem psayvote_any (n : Rf.Id) (F : Foot) (s : Rf.St) (hg : Rf.Good n s) (A : Option Addr) (c : Nat) (w : World) (h : QMem n F w s A c) (k f o t i u cm : Int) (y : Bool) (L : List E) (A2 : Option Addr) (n2 c2 : Nat) (hf : 1 ≤ f ∧ f ≤ n.many) :
    Calls Try.prog 38 #[.pointer (some ⟨F.g, 0, none⟩), .agg (mc k f o t i u cm y (.slice A2 n2 c2))] w fun e w' => ∃ v, e = .returned v ∧ MsgsOut w (Rf.voted n s (k, f, o, t, i, u, cm, y, L)).2 v w' ∧ PTo n F A w (Rf.voted n s (k, f, o, t, i, u, cm, y, L)).1 w' := by
  have HB := Lib.hid ((Below.refl w.heap.size w).alloc (Nat.le_refl _) (.cells (mc k f o t i u cm y (.slice A2 n2 c2)) 41))
  have HX := Lib.hid (Whole.new w 41 (mc k f o t i u cm y (.slice A2 n2 c2)))
  have HR0 := Lib.hid (h.stay HB.out)
  have HK := Lib.hid (show Kept F.has w _ from Below.kept HB.out)
  have hFlt := h.flt
  have hid1 := hg.id1
  have hid2 := hg.id2
  have hmany := hg.many
  have hbb := hg.b
  clear h
  have hst := HR0.out.st
  dsimp only [rmc] at hst
  obtain ⟨k0, k1, k2, k3, k4, k5, k6, k7, k8, k9, k10, k11⟩ := hst.c12
  obtain ⟨q0, q1, q2, q3, q4, q5, q6, q7, q8⟩ := HX.out.c9
  clear hst
  go_enter Try.func38, Try.ntmps38
  go_wp2_with fail
  refine wp_scope_ahead fun J hgo => ?_
  by_cases h1 : s.is = 1
  rotate_left
  · have hno : Rf.voted n s (k, f, o, t, i, u, cm, y, L) = (s, []) := by unfold Rf.voted; rw [if_pos (.inl h1)]
    have HNO := Lib.hid hno
    clear hno
    have e1 : (s.is != 1) = true := by simpa using h1
    clear h1
    go_wp2_with fail
    go_quiet (fail)
    go_wp2_with fail
    go_step3
    refine hgo 0 _ _ _ rfl ?_
    go_wp2_with fail
    refine end_ret ?_
    go_ret
    rw [HNO.out]
    exact ⟨_, rfl, msgsOut_nil _ _, pto_of (HR0.out.stay (below_drewN (Below.refl _ _) _)) (HK.out.trans (Below.kept (below_drewN (Below.refl _ _) _)))⟩
  have e1 : (s.is != 1) = false := by simpa using h1
  by_cases h2 : t = s.b.1
  rotate_left
  · have hno : Rf.voted n s (k, f, o, t, i, u, cm, y, L) = (s, []) := by unfold Rf.voted; rw [if_pos (.inr (.inl h2))]
    have HNO := Lib.hid hno
    clear hno
    have e2 : (t != s.b.1) = true := by simpa using h2
    clear h2 h1
    go_wp2_with fail
    go_quiet (fail)
    go_wp2_with fail
    go_step3
    refine hgo 0 _ _ _ rfl ?_
    go_wp2_with fail
    refine end_ret ?_
    go_ret
    rw [HNO.out]
    exact ⟨_, rfl, msgsOut_nil _ _, pto_of (HR0.out.stay (below_drewN (Below.refl _ _) _)) (HK.out.trans (Below.kept (below_drewN (Below.refl _ _) _)))⟩
  have e2 : (t != s.b.1) = false := by simpa using h2
  rcases y with _ | _
  · have hno : Rf.voted n s (k, f, o, t, i, u, cm, false, L) = (s, []) := by unfold Rf.voted; rw [if_pos (.inr (.inr rfl))]
    have HNO := Lib.hid hno
    clear hno
    clear h2 h1
    go_wp2_with fail
    go_quiet (fail)
    go_wp2_with fail
    go_step3
    refine hgo 0 _ _ _ rfl ?_
    go_wp2_with fail
    refine end_ret ?_
    go_ret
    rw [HNO.out]
    exact ⟨_, rfl, msgsOut_nil _ _, pto_of (HR0.out.stay (below_drewN (Below.refl _ _) _)) (HK.out.trans (Below.kept (below_drewN (Below.refl _ _) _)))⟩
  obtain ⟨sv, hsv⟩ : ∃ sv : Rf.St, sv = { s with votes := s.votes.set (f.toNat - 1) true } := ⟨_, rfl⟩
  have hyes : Rf.voted n s (k, f, o, t, i, u, cm, true, L) = if sv.votes.count true < n.many / 2 + 1 then (sv, []) else Rf.lead n sv := by rw [hsv]; unfold Rf.voted; rw [if_neg (by simp [h1, h2])]
  have HYES := Lib.hid hyes
  have hpos := hg.pos (by omega)
  have hgv : Rf.Good n sv := by rw [hsv]; exact { hg with votes := by show (List.set _ _ _).length = _; rw [List.length_set]; exact hg.votes }
  have HGV := Lib.hid hgv
  have HSVT := Lib.hid (show 1 ≤ sv.b.1 by rw [hsv]; exact hpos)
  have HSV := Lib.hid hsv
  have HVL0 := Lib.hid hg.votes
  clear hyes hgv h1 h2 hg hpos hsv
  go_wp2_with fail
  go_quiet (fail)
  go_wp2_with fail
  clear k0 k1 k2 k3 k4 k5 k6 k7 k8 k9 k10 k11 q0 q1 q2 q3 q4 q5 q6 q7 q8
  replace HR0 := Lib.hid (HR0.out.stay (below_drewN (Below.refl _ _) nq))
  replace HX := Lib.hid (HX.out.below (below_drewN (Below.refl _ _) nq) HX.out.lt)
  replace HK := Lib.hid (HK.out.trans (Below.kept (below_drewN (Below.refl _ _) nq)))
  clear HB
  generalize hw4 : World.drewN _ nq = w4 at *
  clear hw4
  have HM := Lib.hid HR0.out.st
  dsimp only [rmc] at HM
  have HV := Lib.hid HR0.out.v
  have hkw : IntKind.i64.wrap (f - 1) = f - 1 := by rw [IntKind.wrap_i64]; omega
  have hkn : (f - 1).toNat = f.toNat - 1 := by omega
  have hf1 := hf.1
  have hki2 : f - 1 < (n.many : Int) := by omega
  refine z_start ((w4).drew.heap.size) [8] (by kernel_rfl) ?_
  have HC := Lib.hid (Below.refl ((w4).drew.heap.size) (w4).drew)
  have hBz : (w4).drew.heap.size ≤ (w4).drew.heap.size := Nat.le_refl _
  replace HM := Lib.hid (show Whole (w4).drew _ _ _ from HM.out)
  have hltM := HM.out.lt
  replace HX := Lib.hid (show Whole (w4).drew _ _ _ from HX.out)
  have hltX := HX.out.lt
  replace HV := Lib.hid (show Whole (w4).drew _ _ _ from HV.out)
  have hltV := HV.out.lt
  replace HK := Lib.hid (HK.out.trans (Below.kept (Below.refl _ _).drew))
  replace HR0 := Lib.hid (HR0.out.stay (Below.refl _ _).drew)
  generalize (w4).drew = z1 at *
  refine z_take (i := 0) (v := ?_) rfl (by kernel_rfl) (by kernel_rfl) (by kernel_rfl) (k0 := 0) (by kernel_rfl) (by kernel_rfl) (.inl rfl) (fun _ _ _ h => h) (by rfl) HC.out ?_ ?_
  rotate_left
  · intro W hW
    go_simp
    first | done | rfl
  simp only [Act.put, List.setIfInBounds_toArray, List.set_cons_zero, List.set_cons_succ, List.getElem_toArray, List.getElem_cons_zero]
  refine z_take (i := 1) (v := ?_) rfl (by kernel_rfl) (by kernel_rfl) (by kernel_rfl) (k0 := 1) (by kernel_rfl) (by kernel_rfl) (.inl rfl) (fun _ _ _ h => h) (by rfl) HC.out ?_ ?_
  rotate_left
  · intro W hW
    go_simp
    first | done | rfl
  simp only [Act.put, List.setIfInBounds_toArray, List.set_cons_zero, List.set_cons_succ, List.getElem_toArray, List.getElem_cons_zero, List.getElem_cons_succ]
  refine z_take (i := 2) (v := ?_) rfl (by kernel_rfl) (by kernel_rfl) (by kernel_rfl) (k0 := 2) (by kernel_rfl) (by kernel_rfl) (.inl rfl) (fun _ _ _ h => h) (by rfl) HC.out ?_ ?_
  rotate_left
  · intro W hW
    go_simp
    first | done | rfl
  simp only [Act.put, List.setIfInBounds_toArray, List.set_cons_zero, List.set_cons_succ, List.getElem_toArray, List.getElem_cons_zero, List.getElem_cons_succ]
  refine z_take (i := 3) (v := ?_) rfl (by kernel_rfl) (by kernel_rfl) (by kernel_rfl) (k0 := 3) (by kernel_rfl) (by kernel_rfl) (.inl rfl) (fun _ _ _ h => h) (by rfl) HC.out ?_ ?_
  rotate_left
  · intro W hW
    obtain ⟨k0, k1, k2, k3, k4, k5, k6, k7, k8, k9, k10, k11⟩ := (HM.out.below hW hltM).c12
    go_simp
    first | done | rfl
  simp only [Act.put, List.setIfInBounds_toArray, List.set_cons_zero, List.set_cons_succ, List.getElem_toArray, List.getElem_cons_zero, List.getElem_cons_succ]
  refine z_take (i := 4) (v := ?_) rfl (by kernel_rfl) (by kernel_rfl) (by kernel_rfl) (k0 := 4) (by kernel_rfl) (by kernel_rfl) (.inl rfl) (fun _ _ _ h => h) (by rfl) HC.out ?_ ?_
  rotate_left
  · intro W hW
    go_simp
    first | done | rfl
  simp only [Act.put, List.setIfInBounds_toArray, List.set_cons_zero, List.set_cons_succ, List.getElem_toArray, List.getElem_cons_zero, List.getElem_cons_succ]
  refine z_take (i := 5) (v := ?_) rfl (by kernel_rfl) (by kernel_rfl) (by kernel_rfl) (k0 := 5) (by kernel_rfl) (by kernel_rfl) (.inl rfl) (fun _ _ _ h => h) (by rfl) HC.out ?_ ?_
  rotate_left
  · intro W hW
    obtain ⟨q0, q1, q2, q3, q4, q5, q6, q7, q8⟩ := (HX.out.below hW hltX).c9
    go_simp
    first | done | rfl
  simp only [Act.put, List.setIfInBounds_toArray, List.set_cons_zero, List.set_cons_succ, List.getElem_toArray, List.getElem_cons_zero, List.getElem_cons_succ]
  refine z_take (i := 6) (v := ?_) rfl (by kernel_rfl) (by kernel_rfl) (by kernel_rfl) (k0 := 6) (by kernel_rfl) (by kernel_rfl) (.inl rfl) (fun _ _ _ h => h) (by rfl) HC.out ?_ ?_
  rotate_left
  · intro W hW
    go_simp
    first | done | rfl
  simp only [Act.put, List.setIfInBounds_toArray, List.set_cons_zero, List.set_cons_succ, List.getElem_toArray, List.getElem_cons_zero, List.getElem_cons_succ]
  refine z_take (i := 7) (v := ?_) rfl (by kernel_rfl) (by kernel_rfl) (by kernel_rfl) (k0 := 7) (by kernel_rfl) (by kernel_rfl) (.inl rfl) (fun _ _ _ h => h) (by rfl) HC.out ?_ ?_
  rotate_left
  · intro W hW
    go_simp
    first | done | rfl
  simp only [Act.put, List.setIfInBounds_toArray, List.set_cons_zero, List.set_cons_succ, List.getElem_toArray, List.getElem_cons_zero, List.getElem_cons_succ]
  refine z_one (i := 8) (by kernel_rfl) ?_
  have kn := (HV.out.below HC.out hltV).rowN (f.toNat - 1) (by rw [vi_len, HVL0.out]; omega)
  have fn := (HV.out.below HC.out hltV).free (f.toNat - 1)
  refine onez_skip (i := 8) (w' := ?_) rfl (by rfl) ?_ ?_ ?_
  rotate_left 1
  · go_simp
    first | done | rfl
  · exact fun h => absurd (by decide) h
  simp only [Act.put, List.getElem_toArray, List.getElem_cons_zero, List.getElem_cons_succ]
  clear kn fn
  refine z_done (by kernel_rfl) ?_
  replace HR0 := Lib.hid ((HR0.out.stay HC.out).setV (f.toNat - 1))
  replace HK := Lib.hid ((HK.out.trans (Below.kept HC.out)).set (p := ⟨F.gv, (f.toNat - 1), none⟩) (.inl (.inr (.inl rfl))) (.int .i64 1))
  clear HC hBz HM hltM HX hltX HV hltV
  go_simp
  generalize hw8 : World.setCell _ _ _ = w8 at *
  clear hw8
  rw [← HSV.out] at HR0
  have HEL := Lib.hid (pelected_any n F sv HGV.out A c w8 HR0.out)
  go_wp2_with fail
  with_reducible refine HEL.out.mono ?_
  rintro e w9 ⟨rfl, hb9⟩
  replace HR0 := Lib.hid (HR0.out.stay hb9)
  replace HK := Lib.hid (HK.out.trans (Below.kept hb9))
  clear hb9 HEL
  have HY := HYES
  clear HYES
  generalize sv.votes.count true = cn at *
  generalize n.many / 2 + 1 = mj at *
  by_cases hm1 : cn < mj
  · have hno := HY.out
    rw [if_pos hm1] at hno
    have HNO := Lib.hid hno
    have e5 : decide (mj ≤ cn) = false := by simpa using hm1
    clear hno HY hm1
    go_wp2_with fail
    refine wp_label ?_
    go_wp2_with fail
    refine jumps_ret ?_
    go_ret
    rw [HNO.out]
    exact ⟨_, rfl, msgsOut_nil _ _, pto_of HR0.out HK.out⟩
  · have hno := HY.out
    rw [if_neg hm1] at hno
    have HNO := Lib.hid hno
    have e5 : decide (mj ≤ cn) = true := by simpa using hm1
    have HLD := Lib.hid (plead_any n F sv HGV.out HSVT.out A c w9 HR0.out)
    have hz8 := HK.out.size
    clear hno HY hm1
    go_wp2_with fail
    refine HLD.out.mono ?_
    rintro e w10 ⟨v9, rfl, hv9, hp9⟩
    have HV9 := Lib.hid (SlS.wide hv9 (fun b hb _ => Nat.le_trans hz8 hb) : MsgsOut w _ v9 w10)
    have HP9 := Lib.hid (hp9.from_ HK.out.gof)
    clear hv9 hp9 HLD
    go_wp2_with fail
    refine jumps_ret ?_
    go_ret
    rw [HNO.out]
    exact ⟨v9, rfl, HV9.out, HP9.out⟩
end Go.Proofs.Ytjcljkbalpgfdaa

/-
  What sayAdd answers and leaves.
-/





namespace Go.Proofs.Ytjcljkbalpgfdaa
open Go.RowKit

set_option maxRecDepth 100000 in
set_option maxHeartbeats 4000000 in
theorem psayadd_any (n : Rf.Id) (F : Foot) (s : Rf.St) (hg : Rf.Good n s) (A : Option Addr) (c : Nat) (w : World) (h : QMem n F w s A c) (k f o t i u cm : Int) (y : Bool) (L : List E) (A2 : Option Addr) (n2 c2 : Nat) (hf : 1 ≤ f ∧ f ≤ n.many) (hii : -9223372036854775808 ≤ i ∧ i ≤ 9223372036854775807) :
    Calls Try.prog 40 #[.pointer (some ⟨F.g, 0, none⟩), .agg (mc k f o t i u cm y (.slice A2 n2 c2))] w fun e w' => ∃ v, e = .returned v ∧ MsgsOut w (Rf.added n s (k, f, o, t, i, u, cm, y, L)).2 v w' ∧ PTo n F A w (Rf.added n s (k, f, o, t, i, u, cm, y, L)).1 w' := by
  have HB := Lib.hid ((Below.refl w.heap.size w).alloc (Nat.le_refl _) (.cells (mc k f o t i u cm y (.slice A2 n2 c2)) 41))
  have HX := Lib.hid (Whole.new w 41 (mc k f o t i u cm y (.slice A2 n2 c2)))
  have HR0 := Lib.hid (h.stay HB.out)
  have HK := Lib.hid (show Kept F.has w _ from Below.kept HB.out)
  have hFlt := h.flt
  have hid1 := hg.id1
  have hid2 := hg.id2
  have hmany := hg.many
  have hbb := hg.b
  clear h
  have hst := HR0.out.st
  dsimp only [rmc] at hst
  obtain ⟨k0, k1, k2, k3, k4, k5, k6, k7, k8, k9, k10, k11⟩ := hst.c12
  obtain ⟨q0, q1, q2, q3, q4, q5, q6, q7, q8⟩ := HX.out.c9
  clear hst
  go_enter Try.func40, Try.ntmps40
  go_wp2_with fail
  refine wp_scope_ahead fun J hgo => ?_
  have hkw : IntKind.i64.wrap (f - 1) = f - 1 := by rw [IntKind.wrap_i64]; omega
  have hkn : (f - 1).toNat = f.toNat - 1 := by omega
  have hf1 := hf.1
  have hki2 : f - 1 < (n.many : Int) := by omega
  have HLA := Lib.hid (last_any 0 0 _ s.l _ _ (Nat.le_refl _) HR0.out.sl)
  have HL1 := Lib.hid (show (Rf.last s).1 = (Lg.last (0, 0, s.l)).1 from rfl)
  generalize Lg.last (0, 0, s.l) = q at *
  obtain ⟨la1, la2⟩ := q
  simp only at HLA HL1
  clear HB
  go_wp2_with fail
  with_reducible refine HLA.out.mono ?_
  rintro e w2 ⟨rfl, hb⟩
  replace HR0 := Lib.hid (HR0.out.stay hb)
  replace HK := Lib.hid (HK.out.trans (Below.kept hb))
  replace HX := Lib.hid (HX.out.below hb HX.out.lt)
  clear hb HLA
  clear k0 k1 k2 k3 k4 k5 k6 k7 k8 k9 k10 k11 q0 q1 q2 q3 q4 q5 q6 q7 q8
  have hst := HR0.out.st
  dsimp only [rmc] at hst
  obtain ⟨k0, k1, k2, k3, k4, k5, k6, k7, k8, k9, k10, k11⟩ := hst.c12
  clear hst
  obtain ⟨q0, q1, q2, q3, q4, q5, q6, q7, q8⟩ := HX.out.c9
  by_cases h1 : s.is = 2
  rotate_left
  · have hno : Rf.added n s (k, f, o, t, i, u, cm, y, L) = (s, []) := by unfold Rf.added; rw [if_pos (.inl h1)]
    have HNO := Lib.hid hno
    clear hno
    have e1 : (s.is != 2) = true := by simpa using h1
    clear h1 hg
    go_wp2_with fail
    go_quiet (fail)
    go_wp2_with fail
    go_step3
    refine hgo 0 _ _ _ rfl ?_
    go_wp2_with fail
    refine end_ret ?_
    go_ret
    rw [HNO.out]
    exact ⟨_, rfl, msgsOut_nil _ _, pto_of (HR0.out.stay (below_drewN (Below.refl _ _) _)) (HK.out.trans (Below.kept (below_drewN (Below.refl _ _) _)))⟩
  have e1 : (s.is != 2) = false := by simpa using h1
  by_cases h2 : t = s.b.1
  rotate_left
  · have hno : Rf.added n s (k, f, o, t, i, u, cm, y, L) = (s, []) := by unfold Rf.added; rw [if_pos (.inr h2)]
    have HNO := Lib.hid hno
    clear hno
    have e2 : (t != s.b.1) = true := by simpa using h2
    clear h2 h1 hg
    go_wp2_with fail
    go_quiet (fail)
    go_wp2_with fail
    go_step3
    refine hgo 0 _ _ _ rfl ?_
    go_wp2_with fail
    refine end_ret ?_
    go_ret
    rw [HNO.out]
    exact ⟨_, rfl, msgsOut_nil _ _, pto_of (HR0.out.stay (below_drewN (Below.refl _ _) _)) (HK.out.trans (Below.kept (below_drewN (Below.refl _ _) _)))⟩
  have e2 : (t != s.b.1) = false := by simpa using h2
  have hXn : w.heap.size ≠ F.gn := fun hh => by have := hFlt F.gn (.inr (.inr (.inr rfl))); omega
  have hXm : w.heap.size ≠ F.gm := fun hh => by have := hFlt F.gm (.inr (.inr (.inl rfl))); omega
  have hXF : ¬ F.has w.heap.size := fun hh => by have := hFlt _ hh; omega
  rcases y with _ | _
  · have hres : Rf.added n s (k, f, o, t, i, u, cm, false, L) = ({ s with nx := s.nx.set (f.toNat - 1) (max 1 (min (s.nx[f.toNat - 1]?.getD 0 - 1) (i + 1))) }, [Rf.addition n { s with nx := s.nx.set (f.toNat - 1) (max 1 (min (s.nx[f.toNat - 1]?.getD 0 - 1) (i + 1))) } f.toNat]) := by
      unfold Rf.added
      rw [if_neg (by simp [h1, h2])]
      simp only
      rw [if_neg (by simp), show f.toNat - 1 + 1 = f.toNat by omega]
    have hga := hg.added (k, f, o, t, i, u, cm, false, L)
    rw [hres] at hga
    have HRES := Lib.hid hres
    have hnl := hg.nx
    have hbd := Rf.getD_all (k := f.toNat - 1) hg.nxs (by omega)
    have HAD := Lib.hid (fun W (hr : QMem n F W { s with nx := s.nx.set (f.toNat - 1) (max 1 (min (s.nx[f.toNat - 1]?.getD 0 - 1) (i + 1))) } A c) => (show Calls Try.prog 34 #[.pointer (some ⟨F.g, 0, none⟩), .int .i64 f] W (MsgOut W (Rf.addition n { s with nx := s.nx.set (f.toNat - 1) (max 1 (min (s.nx[f.toNat - 1]?.getD 0 - 1) (i + 1))) } f.toNat)) by
      have := paddition_any n F _ hga A c W hr f.toNat (by omega) (by omega)
      rwa [show ((f.toNat : Nat) : Int) = f by omega] at this))
    have HFIT := Lib.hid (Rf.addition_fit hga (k := f.toNat) (by omega))
    have HNL := Lib.hid hnl
    generalize hnk : s.nx[f.toNat - 1]?.getD 0 = nk at *
    have HNK := Lib.hid hnk
    clear hnk hres hga hnl h1 h2 hg HL1
    obtain ⟨mn, hmn⟩ : ∃ mn : Int, mn = min (nk - 2) i := ⟨_, rfl⟩
    obtain ⟨mx, hmx⟩ : ∃ mx : Int, mx = max (mn + 1) 1 := ⟨_, rfl⟩
    have hrmn : ∀ (ts : Array TypeId) (t : TypeId) (W : World), (Builtin.min_ ts t #[.int .i64 (nk - 2), .int .i64 (i)]).run Try.prog W = .ok (.int .i64 mn) W := by
      intro ts t W
      rw [run_min_int2, show (if i < nk - 2 then i else nk - 2) = mn by rw [hmn]; split <;> omega]
    have hrmx : ∀ (ts : Array TypeId) (t : TypeId) (W : World), (Builtin.max_ ts t #[.int .i64 (mn + 1), .int .i64 (1)]).run Try.prog W = .ok (.int .i64 mx) W := by
      intro ts t W
      rw [run_max_int2, show (if 1 > mn + 1 then 1 else mn + 1) = mx by rw [hmx]; split <;> omega]
    have HMX := Lib.hid (show mx = max 1 (min (nk - 1) (i + 1)) by omega)
    have hw1 : IntKind.i64.wrap (nk - 2) = nk - 2 := by rw [IntKind.wrap_i64]; omega
    have hw2 : IntKind.i64.wrap (mn + 1) = mn + 1 := by rw [IntKind.wrap_i64]; omega
    clear hmn hmx
    go_wp2_with fail
    go_quiet (fail)
    go_wp2_with fail
    clear k0 k1 k2 k3 k4 k5 k6 k7 k8 k9 k10 k11 q0 q1 q2 q3 q4 q5 q6 q7 q8
    replace HR0 := Lib.hid (HR0.out.stay (below_drewN (Below.refl _ _) nq))
    replace HX := Lib.hid (HX.out.below (below_drewN (Below.refl _ _) nq) HX.out.lt)
    replace HK := Lib.hid (HK.out.trans (Below.kept (below_drewN (Below.refl _ _) nq)))
    generalize hw4 : World.drewN _ nq = w4 at *
    clear hw4
    have HM := Lib.hid HR0.out.st
    dsimp only [rmc] at HM
    have HN := Lib.hid HR0.out.x
    refine z_start ((w4).drew.heap.size) [19] (by kernel_rfl) ?_
    have HC := Lib.hid (Below.refl ((w4).drew.heap.size) (w4).drew)
    have hBz : (w4).drew.heap.size ≤ (w4).drew.heap.size := Nat.le_refl _
    replace HM := Lib.hid (show Whole (w4).drew _ _ _ from HM.out)
    have hltM := HM.out.lt
    replace HX := Lib.hid (show Whole (w4).drew _ _ _ from HX.out)
    have hltX := HX.out.lt
    replace HN := Lib.hid (show Whole (w4).drew _ _ _ from HN.out)
    have hltN := HN.out.lt
    replace HK := Lib.hid (HK.out.trans (Below.kept (Below.refl _ _).drew))
    replace HR0 := Lib.hid (HR0.out.stay (Below.refl _ _).drew)
    generalize (w4).drew = z1 at *
    refine z_take (i := 0) (v := ?_) rfl (by kernel_rfl) (by kernel_rfl) (by kernel_rfl) (k0 := 0) (by kernel_rfl) (by kernel_rfl) (.inl rfl) (fun _ _ _ h => h) (by rfl) HC.out ?_ ?_
    rotate_left
    · intro W hW
      go_simp
      first | done | rfl
    simp only [Act.put, List.setIfInBounds_toArray, List.set_cons_zero, List.set_cons_succ, List.getElem_toArray, List.getElem_cons_zero]
    refine z_take (i := 1) (v := ?_) rfl (by kernel_rfl) (by kernel_rfl) (by kernel_rfl) (k0 := 1) (by kernel_rfl) (by kernel_rfl) (.inl rfl) (fun _ _ _ h => h) (by rfl) HC.out ?_ ?_
    rotate_left
    · intro W hW
      go_simp
      first | done | rfl
    simp only [Act.put, List.setIfInBounds_toArray, List.set_cons_zero, List.set_cons_succ, List.getElem_toArray, List.getElem_cons_zero, List.getElem_cons_succ]
    refine z_take (i := 2) (v := ?_) rfl (by kernel_rfl) (by kernel_rfl) (by kernel_rfl) (k0 := 2) (by kernel_rfl) (by kernel_rfl) (.inl rfl) (fun _ _ _ h => h) (by rfl) HC.out ?_ ?_
    rotate_left
    · intro W hW
      go_simp
      first | done | rfl
    simp only [Act.put, List.setIfInBounds_toArray, List.set_cons_zero, List.set_cons_succ, List.getElem_toArray, List.getElem_cons_zero, List.getElem_cons_succ]
    refine z_take (i := 3) (v := ?_) rfl (by kernel_rfl) (by kernel_rfl) (by kernel_rfl) (k0 := 3) (by kernel_rfl) (by kernel_rfl) (.inl rfl) (fun _ _ _ h => h) (by rfl) HC.out ?_ ?_
    rotate_left
    · intro W hW
      obtain ⟨k0, k1, k2, k3, k4, k5, k6, k7, k8, k9, k10, k11⟩ := (HM.out.below hW hltM).c12
      go_simp
      first | done | rfl
    simp only [Act.put, List.setIfInBounds_toArray, List.set_cons_zero, List.set_cons_succ, List.getElem_toArray, List.getElem_cons_zero, List.getElem_cons_succ]
    refine z_take (i := 4) (v := ?_) rfl (by kernel_rfl) (by kernel_rfl) (by kernel_rfl) (k0 := 4) (by kernel_rfl) (by kernel_rfl) (.inl rfl) (fun _ _ _ h => h) (by rfl) HC.out ?_ ?_
    rotate_left
    · intro W hW
      go_simp
      first | done | rfl
    simp only [Act.put, List.setIfInBounds_toArray, List.set_cons_zero, List.set_cons_succ, List.getElem_toArray, List.getElem_cons_zero, List.getElem_cons_succ]
    refine z_take (i := 5) (v := ?_) rfl (by kernel_rfl) (by kernel_rfl) (by kernel_rfl) (k0 := 5) (by kernel_rfl) (by kernel_rfl) (.inl rfl) (fun _ _ _ h => h) (by rfl) HC.out ?_ ?_
    rotate_left
    · intro W hW
      go_simp
      first | done | rfl
    simp only [Act.put, List.setIfInBounds_toArray, List.set_cons_zero, List.set_cons_succ, List.getElem_toArray, List.getElem_cons_zero, List.getElem_cons_succ]
    refine z_take (i := 6) (v := ?_) rfl (by kernel_rfl) (by kernel_rfl) (by kernel_rfl) (k0 := 6) (by kernel_rfl) (by kernel_rfl) (.inl rfl) (fun _ _ _ h => h) (by rfl) HC.out ?_ ?_
    rotate_left
    · intro W hW
      go_simp
      first | done | rfl
    simp only [Act.put, List.setIfInBounds_toArray, List.set_cons_zero, List.set_cons_succ, List.getElem_toArray, List.getElem_cons_zero, List.getElem_cons_succ]
    refine z_take (i := 7) (v := ?_) rfl (by kernel_rfl) (by kernel_rfl) (by kernel_rfl) (k0 := 7) (by kernel_rfl) (by kernel_rfl) (.inl rfl) (fun _ _ _ h => h) (by rfl) HC.out ?_ ?_
    rotate_left
    · intro W hW
      go_simp
      first | done | rfl
    simp only [Act.put, List.setIfInBounds_toArray, List.set_cons_zero, List.set_cons_succ, List.getElem_toArray, List.getElem_cons_zero, List.getElem_cons_succ]
    refine z_take (i := 8) (v := ?_) rfl (by kernel_rfl) (by kernel_rfl) (by kernel_rfl) (k0 := 8) (by kernel_rfl) (by kernel_rfl) (.inl rfl) (fun _ _ _ h => h) (by rfl) HC.out ?_ ?_
    rotate_left
    · intro W hW
      obtain ⟨k0, k1, k2, k3, k4, k5, k6, k7, k8, k9, k10, k11⟩ := (HM.out.below hW hltM).c12
      go_simp
      first | done | rfl
    simp only [Act.put, List.setIfInBounds_toArray, List.set_cons_zero, List.set_cons_succ, List.getElem_toArray, List.getElem_cons_zero, List.getElem_cons_succ]
    refine z_take (i := 9) (v := ?_) rfl (by kernel_rfl) (by kernel_rfl) (by kernel_rfl) (k0 := 9) (by kernel_rfl) (by kernel_rfl) (.inl rfl) (fun _ _ _ h => h) (by rfl) HC.out ?_ ?_
    rotate_left
    · intro W hW
      go_simp
      first | done | rfl
    simp only [Act.put, List.setIfInBounds_toArray, List.set_cons_zero, List.set_cons_succ, List.getElem_toArray, List.getElem_cons_zero, List.getElem_cons_succ]
    refine z_take (i := 10) (v := ?_) rfl (by kernel_rfl) (by kernel_rfl) (by kernel_rfl) (k0 := 10) (by kernel_rfl) (by kernel_rfl) (.inl rfl) (fun _ _ _ h => h) (by rfl) HC.out ?_ ?_
    rotate_left
    · intro W hW
      go_simp
      first | done | rfl
    simp only [Act.put, List.setIfInBounds_toArray, List.set_cons_zero, List.set_cons_succ, List.getElem_toArray, List.getElem_cons_zero, List.getElem_cons_succ]
    refine z_take (i := 11) (v := ?_) rfl (by kernel_rfl) (by kernel_rfl) (by kernel_rfl) (k0 := 11) (by kernel_rfl) (by kernel_rfl) (.inl rfl) (fun _ _ _ h => h) (by rfl) HC.out ?_ ?_
    rotate_left
    · intro W hW
      have kn := (HN.out.below hW hltN).rowN (f.toNat - 1) (by rw [HNL.out]; omega)
      rw [HNK.out] at kn
      go_simp
      first | done | rfl
    simp only [Act.put, List.setIfInBounds_toArray, List.set_cons_zero, List.set_cons_succ, List.getElem_toArray, List.getElem_cons_zero, List.getElem_cons_succ]
    refine z_take (i := 12) (v := ?_) rfl (by kernel_rfl) (by kernel_rfl) (by kernel_rfl) (k0 := 12) (by kernel_rfl) (by kernel_rfl) (.inl rfl) (fun _ _ _ h => h) (by rfl) HC.out ?_ ?_
    rotate_left
    · intro W hW
      go_simp
      first | done | rfl
    simp only [Act.put, List.setIfInBounds_toArray, List.set_cons_zero, List.set_cons_succ, List.getElem_toArray, List.getElem_cons_zero, List.getElem_cons_succ]
    refine z_take (i := 13) (v := ?_) rfl (by kernel_rfl) (by kernel_rfl) (by kernel_rfl) (k0 := 13) (by kernel_rfl) (by kernel_rfl) (.inl rfl) (fun _ _ _ h => h) (by rfl) HC.out ?_ ?_
    rotate_left
    · intro W hW
      go_simp
      first | done | rfl
    simp only [Act.put, List.setIfInBounds_toArray, List.set_cons_zero, List.set_cons_succ, List.getElem_toArray, List.getElem_cons_zero, List.getElem_cons_succ]
    refine z_take (i := 14) (v := ?_) rfl (by kernel_rfl) (by kernel_rfl) (by kernel_rfl) (k0 := 14) (by kernel_rfl) (by kernel_rfl) (.inl rfl) (fun _ _ _ h => h) (by rfl) HC.out ?_ ?_
    rotate_left
    · intro W hW
      obtain ⟨q0, q1, q2, q3, q4, q5, q6, q7, q8⟩ := (HX.out.below hW hltX).c9
      go_simp
      first | done | rfl
    simp only [Act.put, List.setIfInBounds_toArray, List.set_cons_zero, List.set_cons_succ, List.getElem_toArray, List.getElem_cons_zero, List.getElem_cons_succ]
    refine z_take (i := 15) (v := ?_) rfl (by kernel_rfl) (by kernel_rfl) (by kernel_rfl) (k0 := 15) (by kernel_rfl) (by kernel_rfl) (.inl rfl) (fun _ _ _ h => h) (by rfl) HC.out ?_ ?_
    rotate_left
    · intro W hW
      go_simp
      first | done | rfl
    simp only [Act.put, List.setIfInBounds_toArray, List.set_cons_zero, List.set_cons_succ, List.getElem_toArray, List.getElem_cons_zero, List.getElem_cons_succ]
    refine z_take (i := 16) (v := ?_) rfl (by kernel_rfl) (by kernel_rfl) (by kernel_rfl) (k0 := 16) (by kernel_rfl) (by kernel_rfl) (.inl rfl) (fun _ _ _ h => h) (by rfl) HC.out ?_ ?_
    rotate_left
    · intro W hW
      go_simp
      first | done | rfl
    simp only [Act.put, List.setIfInBounds_toArray, List.set_cons_zero, List.set_cons_succ, List.getElem_toArray, List.getElem_cons_zero, List.getElem_cons_succ]
    refine z_take (i := 17) (v := ?_) rfl (by kernel_rfl) (by kernel_rfl) (by kernel_rfl) (k0 := 17) (by kernel_rfl) (by kernel_rfl) (.inl rfl) (fun _ _ _ h => h) (by rfl) HC.out ?_ ?_
    rotate_left
    · intro W hW
      go_simp
      first | done | rfl
    simp only [Act.put, List.setIfInBounds_toArray, List.set_cons_zero, List.set_cons_succ, List.getElem_toArray, List.getElem_cons_zero, List.getElem_cons_succ]
    refine z_take (i := 18) (v := ?_) rfl (by kernel_rfl) (by kernel_rfl) (by kernel_rfl) (k0 := 18) (by kernel_rfl) (by kernel_rfl) (.inl rfl) (fun _ _ _ h => h) (by rfl) HC.out ?_ ?_
    rotate_left
    · intro W hW
      go_simp
      first | done | rfl
    simp only [Act.put, List.setIfInBounds_toArray, List.set_cons_zero, List.set_cons_succ, List.getElem_toArray, List.getElem_cons_zero, List.getElem_cons_succ]
    refine z_one (i := 19) (by kernel_rfl) ?_
    have kn := (HN.out.below HC.out hltN).rowN (f.toNat - 1) (by rw [HNL.out]; omega)
    have fn := (HN.out.below HC.out hltN).free (f.toNat - 1)
    refine onez_skip (i := 19) (w' := ?_) rfl (by rfl) ?_ ?_ ?_
    rotate_left 1
    · go_simp
      first | done | rfl
    · exact fun h => absurd (by decide) h
    simp only [Act.put, List.getElem_toArray, List.getElem_cons_zero, List.getElem_cons_succ]
    clear kn fn
    refine z_done (by kernel_rfl) ?_
    replace HR0 := Lib.hid ((HR0.out.stay HC.out).setX (f.toNat - 1) mx)
    try dsimp only at HR0
    replace HK := Lib.hid ((HK.out.trans (Below.kept HC.out)).set (p := ⟨F.gn, f.toNat - 1, none⟩) (.inl (.inr (.inr (.inr rfl)))) (.int .i64 mx))
    replace HX := Lib.hid ((HX.out.below HC.out hltX).far (p := ⟨F.gn, f.toNat - 1, none⟩) hXn (.int .i64 mx))
    clear HC hBz HM hltM hltX HN hltN
    go_simp
    generalize hw6 : World.setCell _ _ _ = w6 at *
    clear hw6 hrmn hrmx
    rw [HMX.out] at HR0
    obtain ⟨q0, q1, q2, q3, q4, q5, q6, q7, q8⟩ := HX.out.c9
    go_wp2_with fail
    refine (HAD.out _ HR0.out).mono ?_
    rintro e w9 ⟨A9, c9_, rfl, hs9, hb9⟩
    have hz9 := HK.out.size
    replace HR0 := Lib.hid (HR0.out.stay hb9)
    replace HK := Lib.hid (HK.out.trans (Below.kept hb9))
    have hfit := HFIT.out
    have HS := Lib.hid hs9
    clear hs9 hb9 HAD HFIT
    generalize Rf.addition n _ f.toNat = x at *
    go_wp2_with fail
    refine jumps_ret ?_
    go_ret
    rw [HRES.out]
    refine ⟨_, rfl, SlS.wide (new1_at _ 41 (α := M) x (mcx x (.slice A9 x.2.2.2.2.2.2.2.2.length c9_)) (fits_msg hfit HS.out) (by simp)) (fun b hb _ => ?_), pto_of (HR0.out.stay ((Below.refl _ _).alloc (Nat.le_refl _) _)) (HK.out.trans (Below.kept ((Below.refl _ _).alloc (Nat.le_refl _) _)))⟩
    have hz10 := HK.out.size
    rcases hb with hb | hb
    · exact Nat.le_trans hz9 hb.1
    · omega
  · have hyes : Rf.added n s (k, f, o, t, i, u, cm, true, L) = if i < 0 ∨ (Rf.last s).1 < i then (s, []) else (if (Rf.last s).1 < max (s.mt[f.toNat - 1]?.getD 0) i + 1 then (Rf.settle { s with mt := s.mt.set (f.toNat - 1) (max (s.mt[f.toNat - 1]?.getD 0) i), nx := s.nx.set (f.toNat - 1) (max (s.mt[f.toNat - 1]?.getD 0) i + 1) }, []) else (Rf.settle { s with mt := s.mt.set (f.toNat - 1) (max (s.mt[f.toNat - 1]?.getD 0) i), nx := s.nx.set (f.toNat - 1) (max (s.mt[f.toNat - 1]?.getD 0) i + 1) }, [Rf.addition n (Rf.settle { s with mt := s.mt.set (f.toNat - 1) (max (s.mt[f.toNat - 1]?.getD 0) i), nx := s.nx.set (f.toNat - 1) (max (s.mt[f.toNat - 1]?.getD 0) i + 1) }) f.toNat])) := by
      unfold Rf.added
      rw [if_neg (by simp [h1, h2])]
      simp only
      rw [if_pos trivial, show f.toNat - 1 + 1 = f.toNat by omega]
    rw [HL1.out] at hyes
    by_cases hi0 : i < 0
    · have hno : Rf.added n s (k, f, o, t, i, u, cm, true, L) = (s, []) := by rw [hyes, if_pos (.inl hi0)]
      have HNO := Lib.hid hno
      clear hno
      clear h1 h2 hg hyes
      go_wp2_with fail
      go_quiet (fail)
      go_wp2_with fail
      go_step3
      refine hgo 0 _ _ _ rfl ?_
      go_wp2_with fail
      refine end_ret ?_
      go_ret
      rw [HNO.out]
      exact ⟨_, rfl, msgsOut_nil _ _, pto_of (HR0.out.stay (below_drewN (Below.refl _ _) _)) (HK.out.trans (Below.kept (below_drewN (Below.refl _ _) _)))⟩
    have di0 : decide (i < 0) = false := by simpa using hi0
    by_cases hi1 : la1 < i
    · have hno : Rf.added n s (k, f, o, t, i, u, cm, true, L) = (s, []) := by rw [hyes, if_pos (.inr hi1)]
      have HNO := Lib.hid hno
      clear hno
      clear h1 h2 hg hyes
      go_wp2_with fail
      go_quiet (fail)
      go_wp2_with fail
      go_step3
      refine hgo 0 _ _ _ rfl ?_
      go_wp2_with fail
      refine end_ret ?_
      go_ret
      rw [HNO.out]
      exact ⟨_, rfl, msgsOut_nil _ _, pto_of (HR0.out.stay (below_drewN (Below.refl _ _) _)) (HK.out.trans (Below.kept (below_drewN (Below.refl _ _) _)))⟩
    have di1 : decide (la1 < i) = false := by simpa using hi1
    have hib : 0 ≤ i ∧ i ≤ la1 := by omega
    rw [if_neg (by omega)] at hyes
    have HRES := Lib.hid hyes
    have hbd := Rf.getD_all (k := f.toNat - 1) hg.mts (by omega)
    have hla := Rf.last_fit hg
    rw [HL1.out] at hla
    have hgt : Rf.Good n { s with mt := s.mt.set (f.toNat - 1) (max (s.mt[f.toNat - 1]?.getD 0) i), nx := s.nx.set (f.toNat - 1) (max (s.mt[f.toNat - 1]?.getD 0) i + 1) } := { hg with mt := by show (List.set _ _ _).length = _; rw [List.length_set]; exact hg.mt, nx := by show (List.set _ _ _).length = _; rw [List.length_set]; exact hg.nx, mts := Rf.set_all hg.mts (by omega), nxs := Rf.set_all hg.nxs (by omega) }
    obtain ⟨st, hst⟩ : ∃ st : Rf.St, st = { s with mt := s.mt.set (f.toNat - 1) (max (s.mt[f.toNat - 1]?.getD 0) i), nx := s.nx.set (f.toNat - 1) (max (s.mt[f.toNat - 1]?.getD 0) i + 1) } := ⟨_, rfl⟩
    rw [← hst] at HRES hgt
    have HT := Lib.hid hst
    have HGT := Lib.hid hgt
    have HNT := Lib.hid (show (Rf.settle st).nx.length = n.many by rw [hgt.settle.nx])
    have HAD2 := Lib.hid (fun W (hr : QMem n F W (Rf.settle st) A c) => (show Calls Try.prog 34 #[.pointer (some ⟨F.g, 0, none⟩), .int .i64 f] W (MsgOut W (Rf.addition n (Rf.settle st) f.toNat)) by
      have := paddition_any n F _ hgt.settle A c W hr f.toNat (by omega) (by omega)
      rwa [show ((f.toNat : Nat) : Int) = f by omega] at this))
    have HFIT := Lib.hid (Rf.addition_fit hgt.settle (k := f.toNat) (by omega))
    have HML := Lib.hid hg.mt
    have HNL := Lib.hid hg.nx
    have hml := hg.mt
    have hnl := hg.nx
    have HKT := Lib.hid (show (Rf.settle st).nx[f.toNat - 1]?.getD 0 = max (s.mt[f.toNat - 1]?.getD 0) i + 1 by show st.nx[f.toNat - 1]?.getD 0 = _; rw [hst]; simp only; rw [List.getElem?_set_self (by rw [hnl]; omega)]; rfl)
    obtain ⟨mx, hmx⟩ : ∃ mx : Int, mx = max (s.mt[f.toNat - 1]?.getD 0) i := ⟨_, rfl⟩
    have HSET := Lib.hid (show (s.mt.set (f.toNat - 1) mx)[f.toNat - 1]?.getD 0 = mx by rw [List.getElem?_set_self (by rw [hml]; omega)]; rfl)
    rw [← hmx] at HRES HT HKT
    clear hst hgt h1 h2 hg hyes hi1 hi0 hml hnl
    generalize hnk : s.mt[f.toNat - 1]?.getD 0 = nk at *
    have HNK := Lib.hid hnk
    clear hnk
    have hrmx : ∀ (ts : Array TypeId) (t : TypeId) (W : World), (Builtin.max_ ts t #[.int .i64 (nk), .int .i64 (i)]).run Try.prog W = .ok (.int .i64 mx) W := by
      intro ts t W
      rw [run_max_int2, show (if i > nk then i else nk) = mx by rw [hmx]; split <;> omega]
    have hw1 : IntKind.i64.wrap (mx + 1) = mx + 1 := by rw [IntKind.wrap_i64]; omega
    have hmx9 : 0 ≤ mx ∧ mx ≤ 64 := by omega
    clear hmx
    go_wp2_with fail
    go_quiet (fail)
    go_wp2_with fail
    clear k0 k1 k2 k3 k4 k5 k6 k7 k8 k9 k10 k11 q0 q1 q2 q3 q4 q5 q6 q7 q8
    replace HR0 := Lib.hid (HR0.out.stay (below_drewN (Below.refl _ _) nq))
    replace HX := Lib.hid (HX.out.below (below_drewN (Below.refl _ _) nq) HX.out.lt)
    replace HK := Lib.hid (HK.out.trans (Below.kept (below_drewN (Below.refl _ _) nq)))
    generalize hw4 : World.drewN _ nq = w4 at *
    clear hw4
    have HM := Lib.hid HR0.out.st
    dsimp only [rmc] at HM
    have HN := Lib.hid HR0.out.m
    refine z_start ((w4).drew.heap.size) [16] (by kernel_rfl) ?_
    have HC := Lib.hid (Below.refl ((w4).drew.heap.size) (w4).drew)
    have hBz : (w4).drew.heap.size ≤ (w4).drew.heap.size := Nat.le_refl _
    replace HM := Lib.hid (show Whole (w4).drew _ _ _ from HM.out)
    have hltM := HM.out.lt
    replace HX := Lib.hid (show Whole (w4).drew _ _ _ from HX.out)
    have hltX := HX.out.lt
    replace HN := Lib.hid (show Whole (w4).drew _ _ _ from HN.out)
    have hltN := HN.out.lt
    replace HK := Lib.hid (HK.out.trans (Below.kept (Below.refl _ _).drew))
    replace HR0 := Lib.hid (HR0.out.stay (Below.refl _ _).drew)
    generalize (w4).drew = z1 at *
    refine z_take (i := 0) (v := ?_) rfl (by kernel_rfl) (by kernel_rfl) (by kernel_rfl) (k0 := 0) (by kernel_rfl) (by kernel_rfl) (.inl rfl) (fun _ _ _ h => h) (by rfl) HC.out ?_ ?_
    rotate_left
    · intro W hW
      go_simp
      first | done | rfl
    simp only [Act.put, List.setIfInBounds_toArray, List.set_cons_zero, List.set_cons_succ, List.getElem_toArray, List.getElem_cons_zero]
    refine z_take (i := 1) (v := ?_) rfl (by kernel_rfl) (by kernel_rfl) (by kernel_rfl) (k0 := 1) (by kernel_rfl) (by kernel_rfl) (.inl rfl) (fun _ _ _ h => h) (by rfl) HC.out ?_ ?_
    rotate_left
    · intro W hW
      go_simp
      first | done | rfl
    simp only [Act.put, List.setIfInBounds_toArray, List.set_cons_zero, List.set_cons_succ, List.getElem_toArray, List.getElem_cons_zero, List.getElem_cons_succ]
    refine z_take (i := 2) (v := ?_) rfl (by kernel_rfl) (by kernel_rfl) (by kernel_rfl) (k0 := 2) (by kernel_rfl) (by kernel_rfl) (.inl rfl) (fun _ _ _ h => h) (by rfl) HC.out ?_ ?_
    rotate_left
    · intro W hW
      go_simp
      first | done | rfl
    simp only [Act.put, List.setIfInBounds_toArray, List.set_cons_zero, List.set_cons_succ, List.getElem_toArray, List.getElem_cons_zero, List.getElem_cons_succ]
    refine z_take (i := 3) (v := ?_) rfl (by kernel_rfl) (by kernel_rfl) (by kernel_rfl) (k0 := 3) (by kernel_rfl) (by kernel_rfl) (.inl rfl) (fun _ _ _ h => h) (by rfl) HC.out ?_ ?_
    rotate_left
    · intro W hW
      obtain ⟨k0, k1, k2, k3, k4, k5, k6, k7, k8, k9, k10, k11⟩ := (HM.out.below hW hltM).c12
      go_simp
      first | done | rfl
    simp only [Act.put, List.setIfInBounds_toArray, List.set_cons_zero, List.set_cons_succ, List.getElem_toArray, List.getElem_cons_zero, List.getElem_cons_succ]
    refine z_take (i := 4) (v := ?_) rfl (by kernel_rfl) (by kernel_rfl) (by kernel_rfl) (k0 := 4) (by kernel_rfl) (by kernel_rfl) (.inl rfl) (fun _ _ _ h => h) (by rfl) HC.out ?_ ?_
    rotate_left
    · intro W hW
      go_simp
      first | done | rfl
    simp only [Act.put, List.setIfInBounds_toArray, List.set_cons_zero, List.set_cons_succ, List.getElem_toArray, List.getElem_cons_zero, List.getElem_cons_succ]
    refine z_take (i := 5) (v := ?_) rfl (by kernel_rfl) (by kernel_rfl) (by kernel_rfl) (k0 := 5) (by kernel_rfl) (by kernel_rfl) (.inl rfl) (fun _ _ _ h => h) (by rfl) HC.out ?_ ?_
    rotate_left
    · intro W hW
      go_simp
      first | done | rfl
    simp only [Act.put, List.setIfInBounds_toArray, List.set_cons_zero, List.set_cons_succ, List.getElem_toArray, List.getElem_cons_zero, List.getElem_cons_succ]
    refine z_take (i := 6) (v := ?_) rfl (by kernel_rfl) (by kernel_rfl) (by kernel_rfl) (k0 := 6) (by kernel_rfl) (by kernel_rfl) (.inl rfl) (fun _ _ _ h => h) (by rfl) HC.out ?_ ?_
    rotate_left
    · intro W hW
      go_simp
      first | done | rfl
    simp only [Act.put, List.setIfInBounds_toArray, List.set_cons_zero, List.set_cons_succ, List.getElem_toArray, List.getElem_cons_zero, List.getElem_cons_succ]
    refine z_take (i := 7) (v := ?_) rfl (by kernel_rfl) (by kernel_rfl) (by kernel_rfl) (k0 := 7) (by kernel_rfl) (by kernel_rfl) (.inl rfl) (fun _ _ _ h => h) (by rfl) HC.out ?_ ?_
    rotate_left
    · intro W hW
      go_simp
      first | done | rfl
    simp only [Act.put, List.setIfInBounds_toArray, List.set_cons_zero, List.set_cons_succ, List.getElem_toArray, List.getElem_cons_zero, List.getElem_cons_succ]
    refine z_take (i := 8) (v := ?_) rfl (by kernel_rfl) (by kernel_rfl) (by kernel_rfl) (k0 := 8) (by kernel_rfl) (by kernel_rfl) (.inl rfl) (fun _ _ _ h => h) (by rfl) HC.out ?_ ?_
    rotate_left
    · intro W hW
      obtain ⟨k0, k1, k2, k3, k4, k5, k6, k7, k8, k9, k10, k11⟩ := (HM.out.below hW hltM).c12
      go_simp
      first | done | rfl
    simp only [Act.put, List.setIfInBounds_toArray, List.set_cons_zero, List.set_cons_succ, List.getElem_toArray, List.getElem_cons_zero, List.getElem_cons_succ]
    refine z_take (i := 9) (v := ?_) rfl (by kernel_rfl) (by kernel_rfl) (by kernel_rfl) (k0 := 9) (by kernel_rfl) (by kernel_rfl) (.inl rfl) (fun _ _ _ h => h) (by rfl) HC.out ?_ ?_
    rotate_left
    · intro W hW
      go_simp
      first | done | rfl
    simp only [Act.put, List.setIfInBounds_toArray, List.set_cons_zero, List.set_cons_succ, List.getElem_toArray, List.getElem_cons_zero, List.getElem_cons_succ]
    refine z_take (i := 10) (v := ?_) rfl (by kernel_rfl) (by kernel_rfl) (by kernel_rfl) (k0 := 10) (by kernel_rfl) (by kernel_rfl) (.inl rfl) (fun _ _ _ h => h) (by rfl) HC.out ?_ ?_
    rotate_left
    · intro W hW
      go_simp
      first | done | rfl
    simp only [Act.put, List.setIfInBounds_toArray, List.set_cons_zero, List.set_cons_succ, List.getElem_toArray, List.getElem_cons_zero, List.getElem_cons_succ]
    refine z_take (i := 11) (v := ?_) rfl (by kernel_rfl) (by kernel_rfl) (by kernel_rfl) (k0 := 11) (by kernel_rfl) (by kernel_rfl) (.inl rfl) (fun _ _ _ h => h) (by rfl) HC.out ?_ ?_
    rotate_left
    · intro W hW
      have kn := (HN.out.below hW hltN).rowN (f.toNat - 1) (by rw [HML.out]; omega)
      rw [HNK.out] at kn
      go_simp
      first | done | rfl
    simp only [Act.put, List.setIfInBounds_toArray, List.set_cons_zero, List.set_cons_succ, List.getElem_toArray, List.getElem_cons_zero, List.getElem_cons_succ]
    refine z_take (i := 12) (v := ?_) rfl (by kernel_rfl) (by kernel_rfl) (by kernel_rfl) (k0 := 12) (by kernel_rfl) (by kernel_rfl) (.inl rfl) (fun _ _ _ h => h) (by rfl) HC.out ?_ ?_
    rotate_left
    · intro W hW
      go_simp
      first | done | rfl
    simp only [Act.put, List.setIfInBounds_toArray, List.set_cons_zero, List.set_cons_succ, List.getElem_toArray, List.getElem_cons_zero, List.getElem_cons_succ]
    refine z_take (i := 13) (v := ?_) rfl (by kernel_rfl) (by kernel_rfl) (by kernel_rfl) (k0 := 13) (by kernel_rfl) (by kernel_rfl) (.inl rfl) (fun _ _ _ h => h) (by rfl) HC.out ?_ ?_
    rotate_left
    · intro W hW
      obtain ⟨q0, q1, q2, q3, q4, q5, q6, q7, q8⟩ := (HX.out.below hW hltX).c9
      go_simp
      first | done | rfl
    simp only [Act.put, List.setIfInBounds_toArray, List.set_cons_zero, List.set_cons_succ, List.getElem_toArray, List.getElem_cons_zero, List.getElem_cons_succ]
    refine z_take (i := 14) (v := ?_) rfl (by kernel_rfl) (by kernel_rfl) (by kernel_rfl) (k0 := 14) (by kernel_rfl) (by kernel_rfl) (.inl rfl) (fun _ _ _ h => h) (by rfl) HC.out ?_ ?_
    rotate_left
    · intro W hW
      go_simp
      first | done | rfl
    simp only [Act.put, List.setIfInBounds_toArray, List.set_cons_zero, List.set_cons_succ, List.getElem_toArray, List.getElem_cons_zero, List.getElem_cons_succ]
    refine z_take (i := 15) (v := ?_) rfl (by kernel_rfl) (by kernel_rfl) (by kernel_rfl) (k0 := 15) (by kernel_rfl) (by kernel_rfl) (.inl rfl) (fun _ _ _ h => h) (by rfl) HC.out ?_ ?_
    rotate_left
    · intro W hW
      go_simp
      first | done | rfl
    simp only [Act.put, List.setIfInBounds_toArray, List.set_cons_zero, List.set_cons_succ, List.getElem_toArray, List.getElem_cons_zero, List.getElem_cons_succ]
    refine z_one (i := 16) (by kernel_rfl) ?_
    have kn := (HN.out.below HC.out hltN).rowN (f.toNat - 1) (by rw [HML.out]; omega)
    have fn := (HN.out.below HC.out hltN).free (f.toNat - 1)
    refine onez_skip (i := 16) (w' := ?_) rfl (by rfl) ?_ ?_ ?_
    rotate_left 1
    · go_simp
      first | done | rfl
    · exact fun h => absurd (by decide) h
    simp only [Act.put, List.getElem_toArray, List.getElem_cons_zero, List.getElem_cons_succ]
    clear kn fn
    refine z_done (by kernel_rfl) ?_
    replace HR0 := Lib.hid ((HR0.out.stay HC.out).setM (f.toNat - 1) mx)
    try dsimp only at HR0
    replace HK := Lib.hid ((HK.out.trans (Below.kept HC.out)).set (p := ⟨F.gm, f.toNat - 1, none⟩) (.inl (.inr (.inr (.inl rfl)))) (.int .i64 mx))
    replace HX := Lib.hid ((HX.out.below HC.out hltX).far (p := ⟨F.gm, f.toNat - 1, none⟩) hXm (.int .i64 mx))
    clear HC hBz HM hltM hltX HN hltN
    go_simp
    generalize hw6 : World.setCell _ _ _ = w6 at *
    clear hw6 hrmx
    go_wp2_with fail
    have HM := Lib.hid HR0.out.st
    dsimp only [rmc] at HM
    have HN := Lib.hid HR0.out.m
    have HNX := Lib.hid HR0.out.x
    try dsimp only at HN HNX
    refine z_start ((w6).drew.heap.size) [14] (by kernel_rfl) ?_
    have HC := Lib.hid (Below.refl ((w6).drew.heap.size) (w6).drew)
    have hBz : (w6).drew.heap.size ≤ (w6).drew.heap.size := Nat.le_refl _
    replace HM := Lib.hid (show Whole (w6).drew _ _ _ from HM.out)
    have hltM := HM.out.lt
    replace HX := Lib.hid (show Whole (w6).drew _ _ _ from HX.out)
    have hltX := HX.out.lt
    replace HN := Lib.hid (show Whole (w6).drew _ _ _ from HN.out)
    have hltN := HN.out.lt
    replace HNX := Lib.hid (show Whole (w6).drew _ _ _ from HNX.out)
    have hltNX := HNX.out.lt
    replace HK := Lib.hid (HK.out.trans (Below.kept (Below.refl _ _).drew))
    replace HR0 := Lib.hid (HR0.out.stay (Below.refl _ _).drew)
    generalize (w6).drew = y1 at *
    refine z_take (i := 0) (v := ?_) rfl (by kernel_rfl) (by kernel_rfl) (by kernel_rfl) (k0 := 0) (by kernel_rfl) (by kernel_rfl) (.inl rfl) (fun _ _ _ h => h) (by rfl) HC.out ?_ ?_
    rotate_left
    · intro W hW
      go_simp
      first | done | rfl
    simp only [Act.put, List.setIfInBounds_toArray, List.set_cons_zero, List.set_cons_succ, List.getElem_toArray, List.getElem_cons_zero]
    refine z_take (i := 1) (v := ?_) rfl (by kernel_rfl) (by kernel_rfl) (by kernel_rfl) (k0 := 1) (by kernel_rfl) (by kernel_rfl) (.inl rfl) (fun _ _ _ h => h) (by rfl) HC.out ?_ ?_
    rotate_left
    · intro W hW
      go_simp
      first | done | rfl
    simp only [Act.put, List.setIfInBounds_toArray, List.set_cons_zero, List.set_cons_succ, List.getElem_toArray, List.getElem_cons_zero, List.getElem_cons_succ]
    refine z_take (i := 2) (v := ?_) rfl (by kernel_rfl) (by kernel_rfl) (by kernel_rfl) (k0 := 2) (by kernel_rfl) (by kernel_rfl) (.inl rfl) (fun _ _ _ h => h) (by rfl) HC.out ?_ ?_
    rotate_left
    · intro W hW
      go_simp
      first | done | rfl
    simp only [Act.put, List.setIfInBounds_toArray, List.set_cons_zero, List.set_cons_succ, List.getElem_toArray, List.getElem_cons_zero, List.getElem_cons_succ]
    refine z_take (i := 3) (v := ?_) rfl (by kernel_rfl) (by kernel_rfl) (by kernel_rfl) (k0 := 3) (by kernel_rfl) (by kernel_rfl) (.inl rfl) (fun _ _ _ h => h) (by rfl) HC.out ?_ ?_
    rotate_left
    · intro W hW
      obtain ⟨k0, k1, k2, k3, k4, k5, k6, k7, k8, k9, k10, k11⟩ := (HM.out.below hW hltM).c12
      go_simp
      first | done | rfl
    simp only [Act.put, List.setIfInBounds_toArray, List.set_cons_zero, List.set_cons_succ, List.getElem_toArray, List.getElem_cons_zero, List.getElem_cons_succ]
    refine z_take (i := 4) (v := ?_) rfl (by kernel_rfl) (by kernel_rfl) (by kernel_rfl) (k0 := 4) (by kernel_rfl) (by kernel_rfl) (.inl rfl) (fun _ _ _ h => h) (by rfl) HC.out ?_ ?_
    rotate_left
    · intro W hW
      go_simp
      first | done | rfl
    simp only [Act.put, List.setIfInBounds_toArray, List.set_cons_zero, List.set_cons_succ, List.getElem_toArray, List.getElem_cons_zero, List.getElem_cons_succ]
    refine z_take (i := 5) (v := ?_) rfl (by kernel_rfl) (by kernel_rfl) (by kernel_rfl) (k0 := 5) (by kernel_rfl) (by kernel_rfl) (.inl rfl) (fun _ _ _ h => h) (by rfl) HC.out ?_ ?_
    rotate_left
    · intro W hW
      go_simp
      first | done | rfl
    simp only [Act.put, List.setIfInBounds_toArray, List.set_cons_zero, List.set_cons_succ, List.getElem_toArray, List.getElem_cons_zero, List.getElem_cons_succ]
    refine z_take (i := 6) (v := ?_) rfl (by kernel_rfl) (by kernel_rfl) (by kernel_rfl) (k0 := 6) (by kernel_rfl) (by kernel_rfl) (.inl rfl) (fun _ _ _ h => h) (by rfl) HC.out ?_ ?_
    rotate_left
    · intro W hW
      go_simp
      first | done | rfl
    simp only [Act.put, List.setIfInBounds_toArray, List.set_cons_zero, List.set_cons_succ, List.getElem_toArray, List.getElem_cons_zero, List.getElem_cons_succ]
    refine z_take (i := 7) (v := ?_) rfl (by kernel_rfl) (by kernel_rfl) (by kernel_rfl) (k0 := 7) (by kernel_rfl) (by kernel_rfl) (.inl rfl) (fun _ _ _ h => h) (by rfl) HC.out ?_ ?_
    rotate_left
    · intro W hW
      go_simp
      first | done | rfl
    simp only [Act.put, List.setIfInBounds_toArray, List.set_cons_zero, List.set_cons_succ, List.getElem_toArray, List.getElem_cons_zero, List.getElem_cons_succ]
    refine z_take (i := 8) (v := ?_) rfl (by kernel_rfl) (by kernel_rfl) (by kernel_rfl) (k0 := 8) (by kernel_rfl) (by kernel_rfl) (.inl rfl) (fun _ _ _ h => h) (by rfl) HC.out ?_ ?_
    rotate_left
    · intro W hW
      obtain ⟨k0, k1, k2, k3, k4, k5, k6, k7, k8, k9, k10, k11⟩ := (HM.out.below hW hltM).c12
      go_simp
      first | done | rfl
    simp only [Act.put, List.setIfInBounds_toArray, List.set_cons_zero, List.set_cons_succ, List.getElem_toArray, List.getElem_cons_zero, List.getElem_cons_succ]
    refine z_take (i := 9) (v := ?_) rfl (by kernel_rfl) (by kernel_rfl) (by kernel_rfl) (k0 := 9) (by kernel_rfl) (by kernel_rfl) (.inl rfl) (fun _ _ _ h => h) (by rfl) HC.out ?_ ?_
    rotate_left
    · intro W hW
      go_simp
      first | done | rfl
    simp only [Act.put, List.setIfInBounds_toArray, List.set_cons_zero, List.set_cons_succ, List.getElem_toArray, List.getElem_cons_zero, List.getElem_cons_succ]
    refine z_take (i := 10) (v := ?_) rfl (by kernel_rfl) (by kernel_rfl) (by kernel_rfl) (k0 := 10) (by kernel_rfl) (by kernel_rfl) (.inl rfl) (fun _ _ _ h => h) (by rfl) HC.out ?_ ?_
    rotate_left
    · intro W hW
      go_simp
      first | done | rfl
    simp only [Act.put, List.setIfInBounds_toArray, List.set_cons_zero, List.set_cons_succ, List.getElem_toArray, List.getElem_cons_zero, List.getElem_cons_succ]
    refine z_take (i := 11) (v := ?_) rfl (by kernel_rfl) (by kernel_rfl) (by kernel_rfl) (k0 := 11) (by kernel_rfl) (by kernel_rfl) (.inl rfl) (fun _ _ _ h => h) (by rfl) HC.out ?_ ?_
    rotate_left
    · intro W hW
      have kn := (HN.out.below hW hltN).rowN (f.toNat - 1) (by rw [List.length_set, HML.out]; omega)
      rw [HSET.out] at kn
      go_simp
      first | done | rfl
    simp only [Act.put, List.setIfInBounds_toArray, List.set_cons_zero, List.set_cons_succ, List.getElem_toArray, List.getElem_cons_zero, List.getElem_cons_succ]
    refine z_take (i := 12) (v := ?_) rfl (by kernel_rfl) (by kernel_rfl) (by kernel_rfl) (k0 := 12) (by kernel_rfl) (by kernel_rfl) (.inl rfl) (fun _ _ _ h => h) (by rfl) HC.out ?_ ?_
    rotate_left
    · intro W hW
      go_simp
      first | done | rfl
    simp only [Act.put, List.setIfInBounds_toArray, List.set_cons_zero, List.set_cons_succ, List.getElem_toArray, List.getElem_cons_zero, List.getElem_cons_succ]
    refine z_take (i := 13) (v := ?_) rfl (by kernel_rfl) (by kernel_rfl) (by kernel_rfl) (k0 := 13) (by kernel_rfl) (by kernel_rfl) (.inl rfl) (fun _ _ _ h => h) (by rfl) HC.out ?_ ?_
    rotate_left
    · intro W hW
      go_simp
      first | done | rfl
    simp only [Act.put, List.setIfInBounds_toArray, List.set_cons_zero, List.set_cons_succ, List.getElem_toArray, List.getElem_cons_zero, List.getElem_cons_succ]
    refine z_one (i := 14) (by kernel_rfl) ?_
    have kn := (HNX.out.below HC.out hltNX).rowN (f.toNat - 1) (by rw [HNL.out]; omega)
    have fn := (HNX.out.below HC.out hltNX).free (f.toNat - 1)
    refine onez_skip (i := 14) (w' := ?_) rfl (by rfl) ?_ ?_ ?_
    rotate_left 1
    · go_simp
      first | done | rfl
    · exact fun h => absurd (by decide) h
    simp only [Act.put, List.getElem_toArray, List.getElem_cons_zero, List.getElem_cons_succ]
    clear kn fn
    refine z_done (by kernel_rfl) ?_
    replace HR0 := Lib.hid ((HR0.out.stay HC.out).setX (f.toNat - 1) (mx + 1))
    try dsimp only at HR0
    replace HK := Lib.hid ((HK.out.trans (Below.kept HC.out)).set (p := ⟨F.gn, f.toNat - 1, none⟩) (.inl (.inr (.inr (.inr rfl)))) (.int .i64 (mx + 1)))
    replace HX := Lib.hid ((HX.out.below HC.out hltX).far (p := ⟨F.gn, f.toNat - 1, none⟩) hXn (.int .i64 (mx + 1)))
    clear HC hBz HM hltM hltX HN hltN HNX hltNX
    go_simp
    generalize hw7 : World.setCell _ _ _ = w7 at *
    clear hw7
    rw [← HT.out] at HR0
    go_wp2_with fail
    with_reducible refine (psettle_any n F _ HGT.out A c _ HR0.out).mono ?_
    rintro e w8 ⟨rfl, hr8, hk8⟩
    replace HR0 := Lib.hid hr8
    replace HX := Lib.hid (hk8.whole HX.out hXF)
    replace HK := Lib.hid (HK.out.trans hk8)
    clear hr8 hk8
    have hst := HR0.out.st
    dsimp only [rmc] at hst
    obtain ⟨k0, k1, k2, k3, k4, k5, k6, k7, k8, k9, k10, k11⟩ := hst.c12
    clear hst
    have knx := HR0.out.x.rowN (f.toNat - 1) (by rw [HNT.out]; omega)
    rw [HKT.out] at knx
    obtain ⟨q0, q1, q2, q3, q4, q5, q6, q7, q8⟩ := HX.out.c9
    have HADD := HAD2
    clear HAD2
    by_cases hlt : la1 < mx + 1
    · have hno := HRES.out
      rw [if_pos hlt] at hno
      have HNO := Lib.hid hno
      have d1 : decide (mx + 1 ≤ la1) = false := by simp; omega
      clear hno
      go_wp2_with fail
      refine wp_label ?_
      go_wp2_with fail
      refine jumps_ret ?_
      go_ret
      rw [HNO.out]
      exact ⟨_, rfl, msgsOut_nil _ _, pto_of HR0.out HK.out⟩
    · have hno := HRES.out
      rw [if_neg hlt] at hno
      have HNO := Lib.hid hno
      have d1 : decide (mx + 1 ≤ la1) = true := by simp; omega
      clear hno
      have HAD := HADD
      clear HADD
      go_wp2_with fail
      refine (HAD.out _ HR0.out).mono ?_
      rintro e w9 ⟨A9, c9_, rfl, hs9, hb9⟩
      have hz9 := HK.out.size
      replace HR0 := Lib.hid (HR0.out.stay hb9)
      replace HK := Lib.hid (HK.out.trans (Below.kept hb9))
      have hfit := HFIT.out
      have HS := Lib.hid hs9
      clear hs9 hb9 HAD HFIT
      generalize Rf.addition n _ f.toNat = x at *
      go_wp2_with fail
      refine jumps_ret ?_
      go_ret
      rw [HNO.out]
      refine ⟨_, rfl, SlS.wide (new1_at _ 41 (α := M) x (mcx x (.slice A9 x.2.2.2.2.2.2.2.2.length c9_)) (fits_msg hfit HS.out) (by simp)) (fun b hb _ => ?_), pto_of (HR0.out.stay ((Below.refl _ _).alloc (Nat.le_refl _) _)) (HK.out.trans (Below.kept ((Below.refl _ _).alloc (Nat.le_refl _) _)))⟩
      have hz10 := HK.out.size
      rcases hb with hb | hb
      · exact Nat.le_trans hz9 hb.1
      · omega
end Go.Proofs.Ytjcljkbalpgfdaa

/-
  What Propose answers and leaves.
-/




namespace Go.Proofs.Ytjcljkbalpgfdaa
open Go.RowKit

set_option maxRecDepth 100000 in
set_option maxHeartbeats 800000 in
theorem ppropose_q (n : Rf.Id) (F : Foot) (s : Rf.St) (hg : Rf.Good n s) (A : Option Addr) (c : Nat) (w : World) (h : QMem n F w s A c) (c1 c2 c3 c4 c5 c6 : Int) (hcf : CmdFit (c1, c2, c3, c4, c5, c6)) :
    Calls Try.prog 20 #[.pointer (some ⟨F.g, 0, none⟩), .agg #[.int .i64 c1, .int .i64 c2, .int .i64 c3, .int .i64 c4, .int .i64 c5, .int .i64 c6]] w fun e w' => ∃ v, e = .returned (.tuple #[.int .i64 (Rf.propose n s (c1, c2, c3, c4, c5, c6)).2.1, v, .int .i64 (Rf.propose n s (c1, c2, c3, c4, c5, c6)).2.2.2]) ∧ MsgsOut w (Rf.propose n s (c1, c2, c3, c4, c5, c6)).2.2.1 v w' ∧ PTo n F A w (Rf.propose n s (c1, c2, c3, c4, c5, c6)).1 w' := by
  have HB := Lib.hid ((Below.refl w.heap.size w).alloc (Nat.le_refl _) (.cells #[.int .i64 c1, .int .i64 c2, .int .i64 c3, .int .i64 c4, .int .i64 c5, .int .i64 c6] 43))
  have HX := Lib.hid (Whole.new w 43 #[.int .i64 c1, .int .i64 c2, .int .i64 c3, .int .i64 c4, .int .i64 c5, .int .i64 c6])
  have HR0 := Lib.hid (h.stay HB.out)
  have hid1 := hg.id1
  have hid2 := hg.id2
  have hmany := hg.many
  clear h
  have hst := HR0.out.st
  dsimp only [rmc] at hst
  obtain ⟨k0, k1, k2, k3, k4, k5, k6, k7, k8, k9, k10, k11⟩ := hst.c12
  obtain ⟨j0, j1, j2, j3, j4, j5⟩ := HX.out.c6
  clear hst
  go_enter Try.func20, Try.ntmps20
  go_wp2_with fail
  refine wp_scope_ahead fun J hgo => ?_
  by_cases h2 : s.is = 2
  rotate_left
  · have hpr : Rf.propose n s (c1, c2, c3, c4, c5, c6) = (s, 0, [], 8) := by unfold Rf.propose; rw [if_pos h2]
    have HPR := Lib.hid hpr
    have e2 : (s.is != 2) = true := by simpa using h2
    clear hpr h2
    go_wp2_with fail
    go_step3
    refine hgo 0 _ _ _ rfl ?_
    go_wp2_with fail
    refine end_ret ?_
    go_ret3
    rw [HPR.out]
    exact ⟨_, rfl, msgsOut_nil _ _, pto_of HR0.out (Below.kept HB.out)⟩
  have e2 : (s.is != 2) = false := by simpa using h2
  by_cases h64 : 64 ≤ s.l.length
  · have hpr : Rf.propose n s (c1, c2, c3, c4, c5, c6) = (s, 0, [], 7) := by unfold Rf.propose; rw [if_neg (by simpa using h2), if_pos h64]
    have HPR := Lib.hid hpr
    clear hpr h2
    go_wp2_with fail
    go_step3
    refine hgo 0 _ _ _ rfl ?_
    go_wp2_with fail
    refine end_ret ?_
    go_ret3
    rw [HPR.out]
    exact ⟨_, rfl, msgsOut_nil _ _, pto_of HR0.out (Below.kept HB.out)⟩
  have hpr : Rf.propose n s (c1, c2, c3, c4, c5, c6) = (Rf.settle (Rf.own n (Rf.put s (c1, c2, c3, c4, c5, c6))), (Rf.last (Rf.settle (Rf.own n (Rf.put s (c1, c2, c3, c4, c5, c6))))).1, Rf.all n (Rf.settle (Rf.own n (Rf.put s (c1, c2, c3, c4, c5, c6)))), 0) := by unfold Rf.propose; rw [if_neg (by simpa using h2), if_neg h64]
  have HPR := Lib.hid hpr
  clear hpr
  have d64 : decide (64 ≤ (s.l.length : Int)) = false := by simp; omega
  have hgp := hg.put (by omega) (hg.pos (by omega)) (c1, c2, c3, c4, c5, c6)
  have HGF := Lib.hid hgp
  have HGO := Lib.hid hgp.own
  have HGS := Lib.hid hgp.own.settle
  have hpl := pput_any n F s hg A c _ HR0.out (by omega) c1 c2 c3 c4 c5 c6 hcf
  have HPL := Lib.hid hpl
  clear hpl hgp hg h2
  have HQ1 := Lib.hid (show (Rf.last (Rf.settle (Rf.own n (Rf.put s (c1, c2, c3, c4, c5, c6))))).1 = (Rf.last (Rf.put s (c1, c2, c3, c4, c5, c6))).1 from rfl)
  generalize Rf.put s (c1, c2, c3, c4, c5, c6) = sf at *
  have HQ : Hid ({ sf with mt := sf.mt.set (n.id - 1) (Rf.last sf).1 } = Rf.own n sf) := Lib.hid rfl
  go_wp2_with fail
  refine HPL.out.mono ?_
  rintro e w3 ⟨rfl, A2, d2, hr3, hA3, hk3⟩
  have hzw := HB.out.size
  replace HR0 := Lib.hid hr3
  have HA2 := Lib.hid (show ∀ b, lbk A2 = some b → lbk A = some b ∨ w.heap.size ≤ b from fun b hb => (hA3 b hb).imp id (fun h => Nat.le_trans hzw h))
  have HK := Lib.hid ((Below.kept HB.out : Kept (Gof F A) w _).trans hk3)
  clear hr3 hk3 hA3 HPL k0 k1 k2 k3 k4 k5 k6 k7 k8 k9 k10 k11 j0 j1 j2 j3 j4 j5
  have hst := HR0.out.st
  dsimp only [rmc] at hst
  obtain ⟨k0, k1, k2, k3, k4, k5, k6, k7, k8, k9, k10, k11⟩ := hst.c12
  clear hst
  have HLL := Lib.hid (last_any 0 0 _ sf.l _ _ (Nat.le_refl _) HR0.out.sl)
  unfold Rf.last Rf.lg at HQ
  generalize hq : Lg.last (0, 0, sf.l) = q at *
  obtain ⟨q1, q2⟩ := q
  replace HQ1 := Lib.hid (show (Rf.last (Rf.settle (Rf.own n sf))).1 = q1 by rw [HQ1.out]; show (Lg.last (0, 0, sf.l)).1 = q1; rw [hq])
  clear hq
  simp only at HLL HQ
  go_wp2_with fail
  with_reducible refine HLL.out.mono ?_
  rintro e w4 ⟨rfl, hb⟩
  replace HR0 := Lib.hid (HR0.out.stay hb)
  replace HK := Lib.hid (HK.out.trans (Below.kept hb))
  clear k0 k1 k2 k3 k4 k5 k6 k7 k8 k9 k10 k11 hb HLL
  go_wp2_with fail
  have HM := Lib.hid HR0.out.st
  dsimp only [rmc] at HM
  have HN := Lib.hid HR0.out.m
  have HML2 := Lib.hid HGF.out.mt
  have hkw : IntKind.i64.wrap ((n.id : Int) - 1) = (n.id : Int) - 1 := by rw [IntKind.wrap_i64]; omega
  have hkn : ((n.id : Int) - 1).toNat = n.id - 1 := by omega
  have hki : (1 : Int) ≤ (n.id : Int) := by omega
  have hki2 : (n.id : Int) - 1 < (n.many : Int) := by omega
  refine z_start ((w4).drew.heap.size) [11] (by kernel_rfl) ?_
  have HC := Lib.hid (Below.refl ((w4).drew.heap.size) (w4).drew)
  have hBz : (w4).drew.heap.size ≤ (w4).drew.heap.size := Nat.le_refl _
  replace HM := Lib.hid (show Whole (w4).drew _ _ _ from HM.out)
  have hltM := HM.out.lt
  replace HN := Lib.hid (show Whole (w4).drew _ _ _ from HN.out)
  have hltN := HN.out.lt
  replace HK := Lib.hid (HK.out.trans (Below.kept (Below.refl _ _).drew))
  replace HR0 := Lib.hid (HR0.out.stay (Below.refl _ _).drew)
  generalize (w4).drew = y1 at *
  refine z_take (i := 0) (v := ?_) rfl (by kernel_rfl) (by kernel_rfl) (by kernel_rfl) (k0 := 0) (by kernel_rfl) (by kernel_rfl) (.inl rfl) (fun _ _ _ h => h) (by rfl) HC.out ?_ ?_
  rotate_left
  · intro W hW
    go_simp
    first | done | rfl
  simp only [Act.put, List.setIfInBounds_toArray, List.set_cons_zero, List.set_cons_succ, List.getElem_toArray, List.getElem_cons_zero]
  refine z_take (i := 1) (v := ?_) rfl (by kernel_rfl) (by kernel_rfl) (by kernel_rfl) (k0 := 1) (by kernel_rfl) (by kernel_rfl) (.inl rfl) (fun _ _ _ h => h) (by rfl) HC.out ?_ ?_
  rotate_left
  · intro W hW
    go_simp
    first | done | rfl
  simp only [Act.put, List.setIfInBounds_toArray, List.set_cons_zero, List.set_cons_succ, List.getElem_toArray, List.getElem_cons_zero, List.getElem_cons_succ]
  refine z_take (i := 2) (v := ?_) rfl (by kernel_rfl) (by kernel_rfl) (by kernel_rfl) (k0 := 2) (by kernel_rfl) (by kernel_rfl) (.inl rfl) (fun _ _ _ h => h) (by rfl) HC.out ?_ ?_
  rotate_left
  · intro W hW
    go_simp
    first | done | rfl
  simp only [Act.put, List.setIfInBounds_toArray, List.set_cons_zero, List.set_cons_succ, List.getElem_toArray, List.getElem_cons_zero, List.getElem_cons_succ]
  refine z_take (i := 3) (v := ?_) rfl (by kernel_rfl) (by kernel_rfl) (by kernel_rfl) (k0 := 3) (by kernel_rfl) (by kernel_rfl) (.inl rfl) (fun _ _ _ h => h) (by rfl) HC.out ?_ ?_
  rotate_left
  · intro W hW
    obtain ⟨k0, k1, k2, k3, k4, k5, k6, k7, k8, k9, k10, k11⟩ := (HM.out.below hW hltM).c12
    go_simp
    first | done | rfl
  simp only [Act.put, List.setIfInBounds_toArray, List.set_cons_zero, List.set_cons_succ, List.getElem_toArray, List.getElem_cons_zero, List.getElem_cons_succ]
  refine z_take (i := 4) (v := ?_) rfl (by kernel_rfl) (by kernel_rfl) (by kernel_rfl) (k0 := 4) (by kernel_rfl) (by kernel_rfl) (.inl rfl) (fun _ _ _ h => h) (by rfl) HC.out ?_ ?_
  rotate_left
  · intro W hW
    go_simp
    first | done | rfl
  simp only [Act.put, List.setIfInBounds_toArray, List.set_cons_zero, List.set_cons_succ, List.getElem_toArray, List.getElem_cons_zero, List.getElem_cons_succ]
  refine z_take (i := 5) (v := ?_) rfl (by kernel_rfl) (by kernel_rfl) (by kernel_rfl) (k0 := 5) (by kernel_rfl) (by kernel_rfl) (.inl rfl) (fun _ _ _ h => h) (by rfl) HC.out ?_ ?_
  rotate_left
  · intro W hW
    go_simp
    first | done | rfl
  simp only [Act.put, List.setIfInBounds_toArray, List.set_cons_zero, List.set_cons_succ, List.getElem_toArray, List.getElem_cons_zero, List.getElem_cons_succ]
  refine z_take (i := 6) (v := ?_) rfl (by kernel_rfl) (by kernel_rfl) (by kernel_rfl) (k0 := 6) (by kernel_rfl) (by kernel_rfl) (.inl rfl) (fun _ _ _ h => h) (by rfl) HC.out ?_ ?_
  rotate_left
  · intro W hW
    go_simp
    first | done | rfl
  simp only [Act.put, List.setIfInBounds_toArray, List.set_cons_zero, List.set_cons_succ, List.getElem_toArray, List.getElem_cons_zero, List.getElem_cons_succ]
  refine z_take (i := 7) (v := ?_) rfl (by kernel_rfl) (by kernel_rfl) (by kernel_rfl) (k0 := 7) (by kernel_rfl) (by kernel_rfl) (.inl rfl) (fun _ _ _ h => h) (by rfl) HC.out ?_ ?_
  rotate_left
  · intro W hW
    obtain ⟨k0, k1, k2, k3, k4, k5, k6, k7, k8, k9, k10, k11⟩ := (HM.out.below hW hltM).c12
    go_simp
    first | done | rfl
  simp only [Act.put, List.setIfInBounds_toArray, List.set_cons_zero, List.set_cons_succ, List.getElem_toArray, List.getElem_cons_zero, List.getElem_cons_succ]
  refine z_take (i := 8) (v := ?_) rfl (by kernel_rfl) (by kernel_rfl) (by kernel_rfl) (k0 := 8) (by kernel_rfl) (by kernel_rfl) (.inl rfl) (fun _ _ _ h => h) (by rfl) HC.out ?_ ?_
  rotate_left
  · intro W hW
    go_simp
    first | done | rfl
  simp only [Act.put, List.setIfInBounds_toArray, List.set_cons_zero, List.set_cons_succ, List.getElem_toArray, List.getElem_cons_zero, List.getElem_cons_succ]
  refine z_take (i := 9) (v := ?_) rfl (by kernel_rfl) (by kernel_rfl) (by kernel_rfl) (k0 := 9) (by kernel_rfl) (by kernel_rfl) (.inl rfl) (fun _ _ _ h => h) (by rfl) HC.out ?_ ?_
  rotate_left
  · intro W hW
    go_simp
    first | done | rfl
  simp only [Act.put, List.setIfInBounds_toArray, List.set_cons_zero, List.set_cons_succ, List.getElem_toArray, List.getElem_cons_zero, List.getElem_cons_succ]
  refine z_take (i := 10) (v := ?_) rfl (by kernel_rfl) (by kernel_rfl) (by kernel_rfl) (k0 := 10) (by kernel_rfl) (by kernel_rfl) (.inl rfl) (fun _ _ _ h => h) (by rfl) HC.out ?_ ?_
  rotate_left
  · intro W hW
    go_simp
    first | done | rfl
  simp only [Act.put, List.setIfInBounds_toArray, List.set_cons_zero, List.set_cons_succ, List.getElem_toArray, List.getElem_cons_zero, List.getElem_cons_succ]
  refine z_one (i := 11) (by kernel_rfl) ?_
  have kn := (HN.out.below HC.out hltN).rowN (n.id - 1) (by rw [HML2.out]; omega)
  have fn := (HN.out.below HC.out hltN).free (n.id - 1)
  refine onez_skip (i := 11) (w' := ?_) rfl (by rfl) ?_ ?_ ?_
  rotate_left 1
  · go_simp
    first | done | rfl
  · exact fun h => absurd (by decide) h
  simp only [Act.put, List.getElem_toArray, List.getElem_cons_zero, List.getElem_cons_succ]
  clear kn fn
  refine z_done (by kernel_rfl) ?_
  replace HR0 := Lib.hid ((HR0.out.stay HC.out).setM (n.id - 1) q1)
  replace HK := Lib.hid ((HK.out.trans (Below.kept HC.out)).set (p := ⟨F.gm, n.id - 1, none⟩) (.inl (.inl (.inr (.inr (.inl rfl))))) (.int .i64 q1))
  clear HC hBz HM hltM HN hltN
  go_simp
  rw [HQ.out] at HR0
  generalize hw5 : World.setCell _ _ _ = w5 at *
  clear hw5
  have hst := HR0.out.st
  clear hst
  go_wp2_with fail
  with_reducible refine (psettle_any n F _ HGO.out A2 d2 _ HR0.out).mono ?_
  rintro e w6 ⟨rfl, hr6, hk6⟩
  replace HR0 := Lib.hid hr6
  replace HK := Lib.hid (HK.out.trans hk6.gof)
  clear hr6 hk6
  have hmf : ∀ (fn : Fn) (first cap : Array Value) (w : World), (Instr.makeFunc fn first cap).run Try.prog w = .ok (.func fn first cap) w := fun _ _ _ _ => rfl
  go_wp2_with fail
  refine (pothers_addition_any n F _ HGS.out A2 d2 _ HR0.out).mono ?_
  rintro e w7 ⟨v7, rfl, hv7, hb7⟩
  replace HR0 := Lib.hid (HR0.out.stay hb7)
  have hz7 := HK.out.size
  replace HK := Lib.hid (HK.out.trans (Below.kept hb7))
  have HV := Lib.hid (SlS.wide hv7 (fun b hb _ => Nat.le_trans hz7 hb) : MsgsOut w _ v7 w7)
  clear hv7 hb7 hz7
  go_wp2_with fail
  refine jumps_ret ?_
  go_ret3
  rw [HPR.out]
  exact ⟨v7, by rw [HQ1.out]; rfl, HV.out, A2, d2, HR0.out, HA2.out, HK.out⟩
end Go.Proofs.Ytjcljkbalpgfdaa
