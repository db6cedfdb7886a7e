/-
  Parts that the statement rests on, joined: Phear.
-/
import Derived.Test.YtjcljkbalpgfdaaM4
import Derived.Test.YtjcljkbalpgfdaaM11
import Derived.Test.YtjcljkbalpgfdaaM13
import Derived.Test.YtjcljkbalpgfdaaM20
import Derived.Test.YtjcljkbalpgfdaaM22
import Derived.BigQuiet
/-
  What Hear answers and leaves.
-/







namespace Go.Proofs.Ytjcljkbalpgfdaa
open Go.RowKit

set_option maxRecDepth 100000 in
set_option maxHeartbeats 20000000 in
theorem phear_q (n : Rf.Id) (F : Foot) (s : Rf.St) (hg : Rf.Good n s) (A : Option Addr) (c : Nat) (w : World) (h : QMem n F w s A c) (k f o t i u cm : Int) (y : Bool) (L : List E) (A2 : Option Addr) (n2 c2 : Nat) (hii : -9223372036854775808 ≤ i ∧ i ≤ 9223372036854775807) (hLl : Rf.mine n (k, f, o, t, i, u, cm, y, L) → L.length ≤ 100000) (S : Nat → Prop) (hS : ∀ b, S b → ¬ F.has b) (hL : SlS w S (.slice A2 n2 c2) L) :
    Calls Try.prog 17 #[.pointer (some ⟨F.g, 0, none⟩), .agg (mc k f o t i u cm y (.slice A2 n2 c2))] w fun e w' => ∃ v, e = .returned v ∧ MsgsOut w (Rf.hear n s (k, f, o, t, i, u, cm, y, L)).2 v w' ∧ PToK (k = 2) n F A w (Rf.hear n s (k, f, o, t, i, u, cm, y, L)).1 (Rf.hear n s (k, f, o, t, i, u, cm, y, L)).2 v w' := by
  have HLS0 := Lib.hid hL
  have HSF := Lib.hid hS
  have HII := Lib.hid hii
  have HLL := Lib.hid hLl
  clear hL hS hii hLl
  have HB := Lib.hid ((Below.refl w.heap.size w).alloc (Nat.le_refl _) (.cells (mc k f o t i u cm y (.slice A2 n2 c2)) 41))
  have HX := Lib.hid (Whole.new w 41 (mc k f o t i u cm y (.slice A2 n2 c2)))
  have HR0 := Lib.hid (h.stay HB.out)
  have HK := Lib.hid (show Kept F.has w _ from Below.kept HB.out)
  have hFlt := h.flt
  have hid1 := hg.id1
  have hid2 := hg.id2
  have hmany := hg.many
  have hbb := hg.b
  clear h
  have hst := HR0.out.st
  dsimp only [rmc] at hst
  obtain ⟨k0, k1, k2, k3, k4, k5, k6, k7, k8, k9, k10, k11⟩ := hst.c12
  obtain ⟨q0, q1, q2, q3, q4, q5, q6, q7, q8⟩ := HX.out.c9
  clear hst
  go_enter Try.func17, Try.ntmps17
  go_wp2_with fail
  refine wp_scope_ahead fun J hgo => ?_
  clear k0 k1 k2 k3 k4 k5 k6 k7 k8 k9 k10 k11 q0 q1 q2 q3 q4 q5 q6 q7 q8
  clear HB
  obtain ⟨hv, kb, hkb, hv0, hv1, hv2, hv3, hlk⟩ := kinds_look (.pointer (some ⟨F.g, 0, none⟩)) k
  have HKB := Lib.hid hkb
  have HV0 := Lib.hid hv0
  have HV1 := Lib.hid hv1
  have HV2 := Lib.hid hv2
  have HV3 := Lib.hid hv3
  have HLK := Lib.hid hlk
  clear hkb hv0 hv1 hv2 hv3 hlk
  have hXg : w.heap.size ≠ F.g := fun hh => by have := hFlt F.g (.inl rfl); omega
  generalize hw1 : World.alloc _ _ = w1 at *
  clear hw1
  go_wp2_with fail
  refine z_start ((w1).drew.heap.size) [] (by kernel_rfl) ?_
  have HC := Lib.hid (Below.refl ((w1).drew.heap.size) (w1).drew)
  have hBz : (w1).drew.heap.size ≤ (w1).drew.heap.size := Nat.le_refl _
  replace HX := Lib.hid (show Whole (w1).drew _ _ _ from HX.out)
  have hltX := HX.out.lt
  replace HK := Lib.hid (HK.out.trans (Below.kept (Below.refl _ _).drew))
  replace HR0 := Lib.hid (HR0.out.stay (Below.refl _ _).drew)
  generalize (w1).drew = z1 at *
  refine z_take (i := 0) (v := ?_) rfl (by kernel_rfl) (by kernel_rfl) (by kernel_rfl) (k0 := 0) (by kernel_rfl) (by kernel_rfl) (.inl rfl) (fun _ _ _ h => h) (by rfl) HC.out ?_ ?_
  rotate_left
  · intro W hW
    go_simp
    first | done | rfl
  simp only [Act.put, List.setIfInBounds_toArray, List.set_cons_zero, List.set_cons_succ, List.getElem_toArray, List.getElem_cons_zero]
  refine z_take (i := 2) (v := ?_) rfl (by kernel_rfl) (by kernel_rfl) (by kernel_rfl) (k0 := 2) (by kernel_rfl) (by kernel_rfl) (.inl rfl) (fun _ _ _ h => h) (by rfl) HC.out ?_ ?_
  rotate_left
  · intro W hW
    go_simp
    first | done | rfl
  simp only [Act.put, List.setIfInBounds_toArray, List.set_cons_zero, List.set_cons_succ, List.getElem_toArray, List.getElem_cons_zero, List.getElem_cons_succ]
  refine z_take (i := 3) (v := ?_) rfl (by kernel_rfl) (by kernel_rfl) (by kernel_rfl) (k0 := 3) (by kernel_rfl) (by kernel_rfl) (.inl rfl) (fun _ _ _ h => h) (by rfl) HC.out ?_ ?_
  rotate_left
  · intro W hW
    obtain ⟨q0, q1, q2, q3, q4, q5, q6, q7, q8⟩ := (HX.out.below hW hltX).c9
    go_simp
    first | done | rfl
  simp only [Act.put, List.setIfInBounds_toArray, List.set_cons_zero, List.set_cons_succ, List.getElem_toArray, List.getElem_cons_zero, List.getElem_cons_succ]
  refine z_one (i := 1) (by kernel_rfl) ?_
  refine onez_call (i := 1) (f := 26) (args := ?_) rfl (by rfl) ?_ ?_
  rotate_left
  · go_simp
    first | done | rfl
  with_reducible refine (pkinds_b _ _).mono ?_
  rintro e z2 ⟨rfl, hmap, hb⟩
  refine ⟨_, rfl, fun _ => HC.out.trans (hb.mono hBz), ?_⟩
  replace HC := Lib.hid (HC.out.trans (hb.mono hBz))
  replace hBz := Nat.le_trans hBz hb.size
  have HMP := Lib.hid hmap
  clear hmap
  clear hb
  simp only [Act.put, List.setIfInBounds_toArray, List.set_cons_zero, List.set_cons_succ, List.getElem_toArray, List.getElem_cons_zero, List.getElem_cons_succ]
  refine z_one (i := 4) (by kernel_rfl) ?_
  have hlook := HLK.out _ _ HMP.out
  refine onez_same (i := 4) (v := ?_) rfl (by rfl) ?_ ?_
  rotate_left 1
  · go_simp
    first | done | rfl
  simp only [Act.put, List.setIfInBounds_toArray, List.set_cons_zero, List.set_cons_succ, List.getElem_toArray, List.getElem_cons_zero, List.getElem_cons_succ]
  clear hlook
  refine z_take (i := 5) (v := ?_) rfl (by kernel_rfl) (by kernel_rfl) (by kernel_rfl) (k0 := 5) (by kernel_rfl) (by kernel_rfl) (.inl rfl) (fun _ _ _ h => h) (by rfl) HC.out ?_ ?_
  rotate_left
  · intro W hW
    go_simp
    first | done | rfl
  simp only [Act.put, List.setIfInBounds_toArray, List.set_cons_zero, List.set_cons_succ, List.getElem_toArray, List.getElem_cons_zero, List.getElem_cons_succ]
  refine z_take (i := 6) (v := ?_) rfl (by kernel_rfl) (by kernel_rfl) (by kernel_rfl) (k0 := 6) (by kernel_rfl) (by kernel_rfl) (.inl rfl) (fun _ _ _ h => h) (by rfl) HC.out ?_ ?_
  rotate_left
  · intro W hW
    go_simp
    first | done | rfl
  simp only [Act.put, List.setIfInBounds_toArray, List.set_cons_zero, List.set_cons_succ, List.getElem_toArray, List.getElem_cons_zero, List.getElem_cons_succ]
  refine z_take (i := 7) (v := ?_) rfl (by kernel_rfl) (by kernel_rfl) (by kernel_rfl) (k0 := 7) (by kernel_rfl) (by kernel_rfl) (.inl rfl) (fun _ _ _ h => h) (by rfl) HC.out ?_ ?_
  rotate_left
  · intro W hW
    go_simp
    first | done | rfl
  simp only [Act.put, List.setIfInBounds_toArray, List.set_cons_zero, List.set_cons_succ, List.getElem_toArray, List.getElem_cons_zero, List.getElem_cons_succ]
  refine z_take (i := 8) (v := ?_) rfl (by kernel_rfl) (by kernel_rfl) (by kernel_rfl) (k0 := 8) (by kernel_rfl) (by kernel_rfl) (.inl rfl) (fun _ _ _ h => h) (by rfl) HC.out ?_ ?_
  rotate_left
  · intro W hW
    go_simp
    first | done | rfl
  simp only [Act.put, List.setIfInBounds_toArray, List.set_cons_zero, List.set_cons_succ, List.getElem_toArray, List.getElem_cons_zero, List.getElem_cons_succ]
  refine z_take (i := 9) (v := ?_) rfl (by kernel_rfl) (by kernel_rfl) (by kernel_rfl) (k0 := 9) (by kernel_rfl) (by kernel_rfl) (.inl rfl) (fun _ _ _ h => h) (by rfl) HC.out ?_ ?_
  rotate_left
  · intro W hW
    go_simp
    first | done | rfl
  simp only [Act.put, List.setIfInBounds_toArray, List.set_cons_zero, List.set_cons_succ, List.getElem_toArray, List.getElem_cons_zero, List.getElem_cons_succ]
  refine z_done (by kernel_rfl) ?_
  replace HR0 := Lib.hid (HR0.out.stay HC.out)
  replace HK := Lib.hid (HK.out.trans (Below.kept HC.out))
  replace HX := Lib.hid (HX.out.below HC.out hltX)
  clear HC hBz hltX HMP HLK
  go_simp
  generalize hw2 : z2 = w2 at *
  clear hw2
  have hst := HR0.out.st
  dsimp only [rmc] at hst
  obtain ⟨k0, k1, k2, k3, k4, k5, k6, k7, k8, k9, k10, k11⟩ := hst.c12
  clear hst
  obtain ⟨q0, q1, q2, q3, q4, q5, q6, q7, q8⟩ := HX.out.c9
  by_cases hk : 0 ≤ k ∧ k ≤ 3
  rotate_left
  · have HNO := Lib.hid (show Rf.hear n s (k, f, o, t, i, u, cm, y, L) = (s, []) by unfold Rf.hear; rw [if_neg (by unfold Rf.mine; simp only; omega)])
    obtain rfl : kb = false := by rw [HKB.out]; simp; omega
    clear hk
    go_wp2_with fail
    go_quiet (fail)
    go_wp2_with fail
    go_step3
    refine hgo 0 _ _ _ rfl ?_
    go_wp2_with fail
    refine end_ret ?_
    go_ret
    rw [HNO.out]
    exact ⟨_, rfl, msgsOut_nil _ _, ptok_nil (HR0.out.stay (below_drewN (Below.refl _ _) _)) (HK.out.trans (Below.kept (below_drewN (Below.refl _ _) _)))⟩
  obtain rfl : kb = true := by rw [HKB.out]; simp; omega
  by_cases ho : o = (n.id : Int)
  rotate_left
  · have HNO := Lib.hid (show Rf.hear n s (k, f, o, t, i, u, cm, y, L) = (s, []) by unfold Rf.hear; rw [if_neg (by unfold Rf.mine; simp only; omega)])
    have e1 : (o != (n.id : Int)) = true := by simpa using ho
    clear ho
    go_wp2_with fail
    go_quiet (fail)
    go_wp2_with fail
    go_step3
    refine hgo 0 _ _ _ rfl ?_
    go_wp2_with fail
    refine end_ret ?_
    go_ret
    rw [HNO.out]
    exact ⟨_, rfl, msgsOut_nil _ _, ptok_nil (HR0.out.stay (below_drewN (Below.refl _ _) _)) (HK.out.trans (Below.kept (below_drewN (Below.refl _ _) _)))⟩
  have e1 : (o != (n.id : Int)) = false := by simpa using ho
  go_wp2_with fail
  go_quiet (fail)
  go_wp2_with fail
  replace HR0 := Lib.hid (HR0.out.stay (below_drewN (Below.refl _ _) nq))
  replace HX := Lib.hid (HX.out.below (below_drewN (Below.refl _ _) nq) HX.out.lt)
  replace HK := Lib.hid (HK.out.trans (Below.kept (below_drewN (Below.refl _ _) nq)))
  clear k0 k1 k2 k3 k4 k5 k6 k7 k8 k9 k10 k11 q0 q1 q2 q3 q4 q5 q6 q7 q8
  generalize hwq : World.drewN _ nq = wq at *
  clear hwq
  have hst := HR0.out.st
  dsimp only [rmc] at hst
  obtain ⟨k0, k1, k2, k3, k4, k5, k6, k7, k8, k9, k10, k11⟩ := hst.c12
  clear hst
  obtain ⟨q0, q1, q2, q3, q4, q5, q6, q7, q8⟩ := HX.out.c9
  by_cases h1 : f = (n.id : Int)
  · have HNO := Lib.hid (show Rf.hear n s (k, f, o, t, i, u, cm, y, L) = (s, []) by unfold Rf.hear; rw [if_neg (by unfold Rf.mine; simp only; omega)])
    have e2 : (f == (n.id : Int)) = true := by simpa using h1
    clear h1
    go_quiet (fail)
    go_wp2_with fail
    go_step3
    refine hgo 0 _ _ _ rfl ?_
    go_wp2_with fail
    refine end_ret ?_
    go_ret
    rw [HNO.out]
    exact ⟨_, rfl, msgsOut_nil _ _, ptok_nil (HR0.out.stay (below_drewN (Below.refl _ _) _)) (HK.out.trans (Below.kept (below_drewN (Below.refl _ _) _)))⟩
  have e2 : (f == (n.id : Int)) = false := by simpa using h1
  by_cases hf1 : f < 1
  · have HNO := Lib.hid (show Rf.hear n s (k, f, o, t, i, u, cm, y, L) = (s, []) by unfold Rf.hear; rw [if_neg (by unfold Rf.mine; simp only; omega)])
    have ex : decide (f < 1) = true := by simpa using hf1
    clear h1
    go_quiet (fail)
    go_wp2_with fail
    go_step3
    refine hgo 0 _ _ _ rfl ?_
    go_wp2_with fail
    refine end_ret ?_
    go_ret
    rw [HNO.out]
    exact ⟨_, rfl, msgsOut_nil _ _, ptok_nil (HR0.out.stay (below_drewN (Below.refl _ _) _)) (HK.out.trans (Below.kept (below_drewN (Below.refl _ _) _)))⟩
  have e3 : decide (f < 1) = false := by simpa using hf1
  by_cases hf2 : (n.many : Int) < f
  · have HNO := Lib.hid (show Rf.hear n s (k, f, o, t, i, u, cm, y, L) = (s, []) by unfold Rf.hear; rw [if_neg (by unfold Rf.mine; simp only; omega)])
    have ex : decide ((n.many : Int) < f) = true := by simpa using hf2
    clear h1
    go_quiet (fail)
    go_wp2_with fail
    go_step3
    refine hgo 0 _ _ _ rfl ?_
    go_wp2_with fail
    refine end_ret ?_
    go_ret
    rw [HNO.out]
    exact ⟨_, rfl, msgsOut_nil _ _, ptok_nil (HR0.out.stay (below_drewN (Below.refl _ _) _)) (HK.out.trans (Below.kept (below_drewN (Below.refl _ _) _)))⟩
  have e4 : decide ((n.many : Int) < f) = false := by simpa using hf2
  have e4 : decide ((n.many : Int) < f) = false := by simpa using hf2
  by_cases ht1 : t < 1
  · have HNO := Lib.hid (show Rf.hear n s (k, f, o, t, i, u, cm, y, L) = (s, []) by unfold Rf.hear; rw [if_neg (by unfold Rf.mine; simp only; omega)])
    have ex : decide (t < 1) = true := by simpa using ht1
    clear h1
    go_quiet (fail)
    go_wp2_with fail
    go_step3
    refine hgo 0 _ _ _ rfl ?_
    go_wp2_with fail
    refine end_ret ?_
    go_ret
    rw [HNO.out]
    exact ⟨_, rfl, msgsOut_nil _ _, ptok_nil (HR0.out.stay (below_drewN (Below.refl _ _) _)) (HK.out.trans (Below.kept (below_drewN (Below.refl _ _) _)))⟩
  have e5 : decide (t < 1) = false := by simpa using ht1
  by_cases ht2 : 1073741824 < t
  · have HNO := Lib.hid (show Rf.hear n s (k, f, o, t, i, u, cm, y, L) = (s, []) by unfold Rf.hear; rw [if_neg (by unfold Rf.mine; simp only; omega)])
    have ex : decide (1073741824 < t) = true := by simpa using ht2
    clear h1
    go_quiet (fail)
    go_wp2_with fail
    go_step3
    refine hgo 0 _ _ _ rfl ?_
    go_wp2_with fail
    refine end_ret ?_
    go_ret
    rw [HNO.out]
    exact ⟨_, rfl, msgsOut_nil _ _, ptok_nil (HR0.out.stay (below_drewN (Below.refl _ _) _)) (HK.out.trans (Below.kept (below_drewN (Below.refl _ _) _)))⟩
  have e6 : decide (1073741824 < t) = false := by simpa using ht2
  replace hf1 : 1 ≤ f := by omega
  replace hf2 : f ≤ (n.many : Int) := by omega
  replace ht1 : 1 ≤ t := by omega
  replace ht2 : t ≤ 1073741824 := by omega
  have hmine : Rf.mine n (k, f, o, t, i, u, cm, y, L) := by unfold Rf.mine; simp only; exact ⟨ho, h1, hf1, hf2, ht1, ht2, hk.1, hk.2⟩
  have HMN := Lib.hid hmine
  have hg1 := hg.sees (k, f, o, t, i, u, cm, y, L)
  have HHH := Lib.hid (show Rf.hear n s (k, f, o, t, i, u, cm, y, L) = (if k = 0 then Rf.asked n (Rf.sees s (k, f, o, t, i, u, cm, y, L)) (k, f, o, t, i, u, cm, y, L) else if k = 1 then Rf.voted n (Rf.sees s (k, f, o, t, i, u, cm, y, L)) (k, f, o, t, i, u, cm, y, L) else if k = 2 then Rf.add n (Rf.sees s (k, f, o, t, i, u, cm, y, L)) (k, f, o, t, i, u, cm, y, L) else Rf.added n (Rf.sees s (k, f, o, t, i, u, cm, y, L)) (k, f, o, t, i, u, cm, y, L)) from if_pos hmine)
  clear ho h1 hmine hg
  go_quiet (fail)
  go_wp2_with fail
  replace HR0 := Lib.hid (HR0.out.stay (below_drewN (Below.refl _ _) nq))
  replace HX := Lib.hid (HX.out.below (below_drewN (Below.refl _ _) nq) HX.out.lt)
  replace HK := Lib.hid (HK.out.trans (Below.kept (below_drewN (Below.refl _ _) nq)))
  clear k0 k1 k2 k3 k4 k5 k6 k7 k8 k9 k10 k11 q0 q1 q2 q3 q4 q5 q6 q7 q8
  generalize hwq : World.drewN _ nq = wq at *
  clear hwq
  clear e1 e2 e3 e4 e5 e6
  have hst := HR0.out.st
  dsimp only [rmc] at hst
  obtain ⟨k0, k1, k2, k3, k4, k5, k6, k7, k8, k9, k10, k11⟩ := hst.c12
  clear hst
  obtain ⟨q0, q1, q2, q3, q4, q5, q6, q7, q8⟩ := HX.out.c9
  by_cases hs : s.b.1 < t
  · have e9 : Rf.sees s (k, f, o, t, i, u, cm, y, L) = { s with b := (t, 0), is := 0 } := by unfold Rf.sees; rw [if_pos hs]; simp only; rw [Vt.see_new hs (by omega)]
    have HSE := Lib.hid (fun W => see_any s.b.1 s.b.2 t W)
    rw [Vt.see_new (b := (s.b.1, s.b.2)) hs (by omega)] at HSE
    simp only at HSE
    rw [e9] at HHH hg1
    obtain ⟨s1, hs1⟩ : ∃ s1 : Rf.St, s1 = { s with b := (t, 0), is := 0 } := ⟨_, rfl⟩
    rw [← hs1] at HHH hg1
    have HS1 := Lib.hid hs1
    have HG1 := Lib.hid hg1
    have HH := HHH
    have d9 : decide (s.b.1 < t) = true := by simpa using hs
    clear e9 hs1 hg1 HHH
    go_quiet (fail)
    go_wp2_with fail
    replace HR0 := Lib.hid (HR0.out.stay (below_drewN (Below.refl _ _) nq))
    replace HX := Lib.hid (HX.out.below (below_drewN (Below.refl _ _) nq) HX.out.lt)
    replace HK := Lib.hid (HK.out.trans (Below.kept (below_drewN (Below.refl _ _) nq)))
    clear k0 k1 k2 k3 k4 k5 k6 k7 k8 k9 k10 k11 q0 q1 q2 q3 q4 q5 q6 q7 q8
    generalize hwq : World.drewN _ nq = wq at *
    clear hwq
    have HM := Lib.hid HR0.out.st
    dsimp only [rmc] at HM
    refine z_start ((wq).drew.heap.size) [10] (by kernel_rfl) ?_
    have HC := Lib.hid (Below.refl ((wq).drew.heap.size) (wq).drew)
    have hBz : (wq).drew.heap.size ≤ (wq).drew.heap.size := Nat.le_refl _
    replace HM := Lib.hid (show Whole (wq).drew _ _ _ from HM.out)
    have hltM := HM.out.lt
    replace HX := Lib.hid (show Whole (wq).drew _ _ _ from HX.out)
    have hltX := HX.out.lt
    replace HK := Lib.hid (HK.out.trans (Below.kept (Below.refl _ _).drew))
    replace HR0 := Lib.hid (HR0.out.stay (Below.refl _ _).drew)
    generalize (wq).drew = y1 at *
    refine z_take (i := 0) (v := ?_) rfl (by kernel_rfl) (by kernel_rfl) (by kernel_rfl) (k0 := 0) (by kernel_rfl) (by kernel_rfl) (.inl rfl) (fun _ _ _ h => h) (by rfl) HC.out ?_ ?_
    rotate_left
    · intro W hW
      go_simp
      first | done | rfl
    simp only [Act.put, List.setIfInBounds_toArray, List.set_cons_zero, List.set_cons_succ, List.getElem_toArray, List.getElem_cons_zero]
    refine z_take (i := 1) (v := ?_) rfl (by kernel_rfl) (by kernel_rfl) (by kernel_rfl) (k0 := 1) (by kernel_rfl) (by kernel_rfl) (.inl rfl) (fun _ _ _ h => h) (by rfl) HC.out ?_ ?_
    rotate_left
    · intro W hW
      go_simp
      first | done | rfl
    simp only [Act.put, List.setIfInBounds_toArray, List.set_cons_zero, List.set_cons_succ, List.getElem_toArray, List.getElem_cons_zero, List.getElem_cons_succ]
    refine z_take (i := 2) (v := ?_) rfl (by kernel_rfl) (by kernel_rfl) (by kernel_rfl) (k0 := 2) (by kernel_rfl) (by kernel_rfl) (.inl rfl) (fun _ _ _ h => h) (by rfl) HC.out ?_ ?_
    rotate_left
    · intro W hW
      go_simp
      first | done | rfl
    simp only [Act.put, List.setIfInBounds_toArray, List.set_cons_zero, List.set_cons_succ, List.getElem_toArray, List.getElem_cons_zero, List.getElem_cons_succ]
    refine z_take (i := 3) (v := ?_) rfl (by kernel_rfl) (by kernel_rfl) (by kernel_rfl) (k0 := 3) (by kernel_rfl) (by kernel_rfl) (.inl rfl) (fun _ _ _ h => h) (by rfl) HC.out ?_ ?_
    rotate_left
    · intro W hW
      go_simp
      first | done | rfl
    simp only [Act.put, List.setIfInBounds_toArray, List.set_cons_zero, List.set_cons_succ, List.getElem_toArray, List.getElem_cons_zero, List.getElem_cons_succ]
    refine z_take (i := 4) (v := ?_) rfl (by kernel_rfl) (by kernel_rfl) (by kernel_rfl) (k0 := 4) (by kernel_rfl) (by kernel_rfl) (.inl rfl) (fun _ _ _ h => h) (by rfl) HC.out ?_ ?_
    rotate_left
    · intro W hW
      obtain ⟨k0, k1, k2, k3, k4, k5, k6, k7, k8, k9, k10, k11⟩ := (HM.out.below hW hltM).c12
      go_simp
      first | done | rfl
    simp only [Act.put, List.setIfInBounds_toArray, List.set_cons_zero, List.set_cons_succ, List.getElem_toArray, List.getElem_cons_zero, List.getElem_cons_succ]
    refine z_take (i := 5) (v := ?_) rfl (by kernel_rfl) (by kernel_rfl) (by kernel_rfl) (k0 := 5) (by kernel_rfl) (by kernel_rfl) (.inl rfl) (fun _ _ _ h => h) (by rfl) HC.out ?_ ?_
    rotate_left
    · intro W hW
      go_simp
      first | done | rfl
    simp only [Act.put, List.setIfInBounds_toArray, List.set_cons_zero, List.set_cons_succ, List.getElem_toArray, List.getElem_cons_zero, List.getElem_cons_succ]
    refine z_take (i := 6) (v := ?_) rfl (by kernel_rfl) (by kernel_rfl) (by kernel_rfl) (k0 := 6) (by kernel_rfl) (by kernel_rfl) (.inl rfl) (fun _ _ _ h => h) (by rfl) HC.out ?_ ?_
    rotate_left
    · intro W hW
      obtain ⟨q0, q1, q2, q3, q4, q5, q6, q7, q8⟩ := (HX.out.below hW hltX).c9
      go_simp
      first | done | rfl
    simp only [Act.put, List.setIfInBounds_toArray, List.set_cons_zero, List.set_cons_succ, List.getElem_toArray, List.getElem_cons_zero, List.getElem_cons_succ]
    refine z_one (i := 7) (by kernel_rfl) ?_
    refine onez_call (i := 7) (f := 27) (args := ?_) rfl (by rfl) ?_ ?_
    rotate_left
    · go_simp
      first | done | rfl
    with_reducible refine (HSE.out _).mono ?_
    rintro e y2 ⟨rfl, hb⟩
    refine ⟨_, rfl, fun _ => HC.out.trans (hb.mono hBz), ?_⟩
    replace HC := Lib.hid (HC.out.trans (hb.mono hBz))
    replace hBz := Nat.le_trans hBz hb.size
    clear hb
    simp only [Act.put, List.setIfInBounds_toArray, List.set_cons_zero, List.set_cons_succ, List.getElem_toArray, List.getElem_cons_zero, List.getElem_cons_succ]
    refine z_take (i := 8) (v := ?_) rfl (by kernel_rfl) (by kernel_rfl) (by kernel_rfl) (k0 := 9) (by kernel_rfl) (by kernel_rfl) (.inr (by kernel_rfl)) (fun _ _ _ h => h) (by rfl) HC.out ?_ ?_
    rotate_left
    · intro W hW
      go_simp
      first | done | rfl
    simp only [Act.put, List.setIfInBounds_toArray, List.set_cons_zero, List.set_cons_succ, List.getElem_toArray, List.getElem_cons_zero, List.getElem_cons_succ]
    refine z_take (i := 9) (v := ?_) rfl (by kernel_rfl) (by kernel_rfl) (by kernel_rfl) (k0 := 9) (by kernel_rfl) (by kernel_rfl) (.inl rfl) (fun _ _ _ h => h) (by rfl) HC.out ?_ ?_
    rotate_left
    · intro W hW
      go_simp
      first | done | rfl
    simp only [Act.put, List.setIfInBounds_toArray, List.set_cons_zero, List.set_cons_succ, List.getElem_toArray, List.getElem_cons_zero, List.getElem_cons_succ]
    refine z_one (i := 10) (by kernel_rfl) ?_
    obtain ⟨k0, k1, k2, k3, k4, k5, k6, k7, k8, k9, k10, k11⟩ := (HM.out.below HC.out hltM).c12
    have f2 := (HM.out.below HC.out hltM).free 2
    have f3 := (HM.out.below HC.out hltM).free 3
    refine onez_skip (i := 10) (w' := ?_) rfl (by rfl) ?_ ?_ ?_
    rotate_left 1
    · go_simp
      first | done | rfl
    · exact fun h => absurd (by decide) h
    simp only [Act.put, List.getElem_toArray, List.getElem_cons_zero, List.getElem_cons_succ]
    clear f2 f3 k0 k1 k2 k3 k4 k5 k6 k7 k8 k9 k10 k11
    refine z_done (by kernel_rfl) ?_
    have hR := (((HR0.out.stay HC.out).cell 2 (.int .i64 t) (s' := { s with b := (t, s.b.2) }) rfl rfl rfl rfl rfl).cell 3 (.int .i64 0) (s' := { s with b := (t, 0) }) rfl rfl rfl rfl rfl)
    replace HR0 := Lib.hid hR
    clear hR
    replace HK := Lib.hid (((HK.out.trans (Below.kept HC.out)).set (p := ⟨F.g, 2, none⟩) (.inl (.inl rfl)) (.int .i64 t)).set (p := ⟨F.g, 3, none⟩) (.inl (.inl rfl)) (.int .i64 0))
    replace HX := Lib.hid (((HX.out.below HC.out hltX).far (p := ⟨F.g, 2, none⟩) hXg (.int .i64 t)).far (p := ⟨F.g, 3, none⟩) hXg (.int .i64 0))
    clear HC hBz HM hltM hltX
    go_simp
    generalize hw8 : World.setCell (World.setCell _ _ _) _ _ = w8 at *
    clear hw8
    have hst := HR0.out.st
    dsimp only [rmc] at hst
    obtain ⟨k0, k1, k2, k3, k4, k5, k6, k7, k8, k9, k10, k11⟩ := hst.c12
    have f7 := hst.free 7
    clear hst
    replace HR0 := Lib.hid (HR0.out.cell 7 (.int .i64 0) (s' := { s with b := (t, 0), is := 0 }) rfl rfl rfl rfl rfl)
    replace HK := Lib.hid (HK.out.set (p := ⟨F.g, 7, none⟩) (.inl (.inl rfl)) (.int .i64 0))
    replace HX := Lib.hid (HX.out.far (p := ⟨F.g, 7, none⟩) hXg (.int .i64 0))
    obtain ⟨q0, q1, q2, q3, q4, q5, q6, q7, q8⟩ := HX.out.c9
    rw [← HS1.out] at HR0
    have hz8 := HK.out.size
    by_cases hk0 : k = 0
    · obtain rfl : k = 0 := by omega
      have hv0 := HV0.out rfl
      subst hv0
      have hh := HH.out
      rw [if_pos rfl] at hh
      have HH2 := Lib.hid hh
      clear hh HH
      go_wp2_with fail
      refine (paskvote_any n F s1 HG1.out A c _ HR0.out 0 f o t i u cm y L A2 n2 c2 ⟨hf1, hf2⟩).mono ?_
      rintro e w9 ⟨v9, rfl, hv9, hp9⟩
      have HVV := Lib.hid (SlS.wide hv9 (fun b hb _ => Nat.le_trans hz8 hb) : MsgsOut w _ v9 w9)
      have HP := Lib.hid (hp9.from_ HK.out.gof)
      clear hv9 hp9
      go_wp2_with fail
      refine jumps_ret ?_
      go_ret
      rw [HH2.out]
      exact ⟨v9, rfl, HVV.out, HP.out.k (by decide)⟩
    by_cases hk1 : k = 1
    · obtain rfl : k = 1 := by omega
      have hv0 := HV1.out rfl
      subst hv0
      have hh := HH.out
      rw [if_neg (by decide)] at hh
      rw [if_pos rfl] at hh
      have HH2 := Lib.hid hh
      clear hh HH
      go_wp2_with fail
      refine (psayvote_any n F s1 HG1.out A c _ HR0.out 1 f o t i u cm y L A2 n2 c2 ⟨hf1, hf2⟩).mono ?_
      rintro e w9 ⟨v9, rfl, hv9, hp9⟩
      have HVV := Lib.hid (SlS.wide hv9 (fun b hb _ => Nat.le_trans hz8 hb) : MsgsOut w _ v9 w9)
      have HP := Lib.hid (hp9.from_ HK.out.gof)
      clear hv9 hp9
      go_wp2_with fail
      refine jumps_ret ?_
      go_ret
      rw [HH2.out]
      exact ⟨v9, rfl, HVV.out, HP.out.k (by decide)⟩
    by_cases hk2 : k = 2
    · obtain rfl : k = 2 := by omega
      have hv0 := HV2.out rfl
      subst hv0
      have hh := HH.out
      rw [if_neg (by decide)] at hh
      rw [if_neg (by decide)] at hh
      rw [if_pos rfl] at hh
      have HH2 := Lib.hid hh
      clear hh HH
      go_wp2_with fail
      refine (paskadd_any n F s1 HG1.out A c _ HR0.out 2 f o t i u cm y L A2 n2 c2 ⟨hf1, hf2⟩ ⟨ht1, ht2⟩ HII.out (HLL.out HMN.out) S HSF.out (HK.out.sl HLS0.out HSF.out)).mono ?_
      rintro e w9 ⟨v9, rfl, hv9, hp9⟩
      have HVV := Lib.hid (SlS.wide hv9 (fun b hb _ => Nat.le_trans hz8 hb) : MsgsOut w _ v9 w9)
      have HP := Lib.hid (hp9.from_ HK.out.gof)
      clear hv9 hp9
      go_wp2_with fail
      refine jumps_ret ?_
      go_ret
      rw [HH2.out]
      exact ⟨v9, rfl, HVV.out, HP.out.ifq (fun _ => trivial)⟩
    obtain rfl : k = 3 := by omega
    have hv0 := HV3.out rfl
    subst hv0
    have hh := HH.out
    rw [if_neg (by decide)] at hh
    rw [if_neg (by decide)] at hh
    rw [if_neg (by decide)] at hh
    have HH2 := Lib.hid hh
    clear hh HH
    go_wp2_with fail
    refine (psayadd_any n F s1 HG1.out A c _ HR0.out 3 f o t i u cm y L A2 n2 c2 ⟨hf1, hf2⟩ HII.out).mono ?_
    rintro e w9 ⟨v9, rfl, hv9, hp9⟩
    have HVV := Lib.hid (SlS.wide hv9 (fun b hb _ => Nat.le_trans hz8 hb) : MsgsOut w _ v9 w9)
    have HP := Lib.hid (hp9.from_ HK.out.gof)
    clear hv9 hp9
    go_wp2_with fail
    refine jumps_ret ?_
    go_ret
    rw [HH2.out]
    exact ⟨v9, rfl, HVV.out, HP.out.k (by decide)⟩
  · have e9 : Rf.sees s (k, f, o, t, i, u, cm, y, L) = s := by unfold Rf.sees; rw [if_neg hs]
    rw [e9] at HHH hg1
    have d9 : decide (s.b.1 < t) = false := by simpa using hs
    obtain ⟨s1, hs1⟩ : ∃ s1 : Rf.St, s1 = s := ⟨_, rfl⟩
    have hh := HHH.out
    have HH := Lib.hid (show Rf.hear n s (k, f, o, t, i, u, cm, y, L) = (if k = 0 then Rf.asked n s1 (k, f, o, t, i, u, cm, y, L) else if k = 1 then Rf.voted n s1 (k, f, o, t, i, u, cm, y, L) else if k = 2 then Rf.add n s1 (k, f, o, t, i, u, cm, y, L) else Rf.added n s1 (k, f, o, t, i, u, cm, y, L)) by rw [hs1]; exact hh)
    have HG1 := Lib.hid (show Rf.Good n s1 by rw [hs1]; exact hg1)
    have HS1 := Lib.hid hs1
    clear hh HHH hs1 hg1 e9
    go_quiet (fail)
    replace HR0 := Lib.hid (HR0.out.stay (below_drewN (Below.refl _ _) nq))
    replace HX := Lib.hid (HX.out.below (below_drewN (Below.refl _ _) nq) HX.out.lt)
    replace HK := Lib.hid (HK.out.trans (Below.kept (below_drewN (Below.refl _ _) nq)))
    clear k0 k1 k2 k3 k4 k5 k6 k7 k8 k9 k10 k11 q0 q1 q2 q3 q4 q5 q6 q7 q8
    generalize hwq : World.drewN _ nq = wq at *
    clear hwq
    rw [← HS1.out] at HR0
    have hst := HR0.out.st
    dsimp only [rmc] at hst
    obtain ⟨k0, k1, k2, k3, k4, k5, k6, k7, k8, k9, k10, k11⟩ := hst.c12
    clear hst
    obtain ⟨q0, q1, q2, q3, q4, q5, q6, q7, q8⟩ := HX.out.c9
    have hz8 := HK.out.size
    by_cases hk0 : k = 0
    · obtain rfl : k = 0 := by omega
      have hv0 := HV0.out rfl
      subst hv0
      have hh := HH.out
      rw [if_pos rfl] at hh
      have HH2 := Lib.hid hh
      clear hh HH
      go_wp2_with fail
      refine (paskvote_any n F s1 HG1.out A c _ HR0.out 0 f o t i u cm y L A2 n2 c2 ⟨hf1, hf2⟩).mono ?_
      rintro e w9 ⟨v9, rfl, hv9, hp9⟩
      have HVV := Lib.hid (SlS.wide hv9 (fun b hb _ => Nat.le_trans hz8 hb) : MsgsOut w _ v9 w9)
      have HP := Lib.hid (hp9.from_ HK.out.gof)
      clear hv9 hp9
      go_wp2_with fail
      refine jumps_ret ?_
      go_ret
      rw [HH2.out]
      exact ⟨v9, rfl, HVV.out, HP.out.k (by decide)⟩
    by_cases hk1 : k = 1
    · obtain rfl : k = 1 := by omega
      have hv0 := HV1.out rfl
      subst hv0
      have hh := HH.out
      rw [if_neg (by decide)] at hh
      rw [if_pos rfl] at hh
      have HH2 := Lib.hid hh
      clear hh HH
      go_wp2_with fail
      refine (psayvote_any n F s1 HG1.out A c _ HR0.out 1 f o t i u cm y L A2 n2 c2 ⟨hf1, hf2⟩).mono ?_
      rintro e w9 ⟨v9, rfl, hv9, hp9⟩
      have HVV := Lib.hid (SlS.wide hv9 (fun b hb _ => Nat.le_trans hz8 hb) : MsgsOut w _ v9 w9)
      have HP := Lib.hid (hp9.from_ HK.out.gof)
      clear hv9 hp9
      go_wp2_with fail
      refine jumps_ret ?_
      go_ret
      rw [HH2.out]
      exact ⟨v9, rfl, HVV.out, HP.out.k (by decide)⟩
    by_cases hk2 : k = 2
    · obtain rfl : k = 2 := by omega
      have hv0 := HV2.out rfl
      subst hv0
      have hh := HH.out
      rw [if_neg (by decide)] at hh
      rw [if_neg (by decide)] at hh
      rw [if_pos rfl] at hh
      have HH2 := Lib.hid hh
      clear hh HH
      go_wp2_with fail
      refine (paskadd_any n F s1 HG1.out A c _ HR0.out 2 f o t i u cm y L A2 n2 c2 ⟨hf1, hf2⟩ ⟨ht1, ht2⟩ HII.out (HLL.out HMN.out) S HSF.out (HK.out.sl HLS0.out HSF.out)).mono ?_
      rintro e w9 ⟨v9, rfl, hv9, hp9⟩
      have HVV := Lib.hid (SlS.wide hv9 (fun b hb _ => Nat.le_trans hz8 hb) : MsgsOut w _ v9 w9)
      have HP := Lib.hid (hp9.from_ HK.out.gof)
      clear hv9 hp9
      go_wp2_with fail
      refine jumps_ret ?_
      go_ret
      rw [HH2.out]
      exact ⟨v9, rfl, HVV.out, HP.out.ifq (fun _ => trivial)⟩
    obtain rfl : k = 3 := by omega
    have hv0 := HV3.out rfl
    subst hv0
    have hh := HH.out
    rw [if_neg (by decide)] at hh
    rw [if_neg (by decide)] at hh
    rw [if_neg (by decide)] at hh
    have HH2 := Lib.hid hh
    clear hh HH
    go_wp2_with fail
    refine (psayadd_any n F s1 HG1.out A c _ HR0.out 3 f o t i u cm y L A2 n2 c2 ⟨hf1, hf2⟩ HII.out).mono ?_
    rintro e w9 ⟨v9, rfl, hv9, hp9⟩
    have HVV := Lib.hid (SlS.wide hv9 (fun b hb _ => Nat.le_trans hz8 hb) : MsgsOut w _ v9 w9)
    have HP := Lib.hid (hp9.from_ HK.out.gof)
    clear hv9 hp9
    go_wp2_with fail
    refine jumps_ret ?_
    go_ret
    rw [HH2.out]
    exact ⟨v9, rfl, HVV.out, HP.out.k (by decide)⟩
end Go.Proofs.Ytjcljkbalpgfdaa
