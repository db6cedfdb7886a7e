/-
  Parts that the statement rests on, joined: Ptimeout.
-/
import Derived.Test.YtjcljkbalpgfdaaM7
import Derived.Test.YtjcljkbalpgfdaaM18
import Derived.Test.YtjcljkbalpgfdaaM19
import Derived.Test.YtjcljkbalpgfdaaM22
import Derived.Test.YtjcljkbalpgfdaaM24
/-
  What Timeout answers and leaves.
-/





namespace Go.Proofs.Ytjcljkbalpgfdaa
open Go.RowKit

set_option maxRecDepth 100000 in
set_option maxHeartbeats 1600000 in
theorem ptimeout_q (n : Rf.Id) (F : Foot) (s : Rf.St) (hg : Rf.Good n s) (A : Option Addr) (c : Nat) (w : World) (h : QMem n F w s A c) :
    Calls Try.prog 19 #[.pointer (some ⟨F.g, 0, none⟩)] w fun e w' => ∃ v, e = .returned v ∧ MsgsOut w (Rf.timeout n s).2 v w' ∧ PTo n F A w (Rf.timeout n s).1 w' := by
  have HR0 := Lib.hid h
  have hid1 := hg.id1
  have hid2 := hg.id2
  have hmany := hg.many
  have hbb := hg.b
  clear h
  have hst := HR0.out.st
  dsimp only [rmc] at hst
  obtain ⟨k0, k1, k2, k3, k4, k5, k6, k7, k8, k9, k10, k11⟩ := hst.c12
  clear hst
  go_enter Try.func19, Try.ntmps19
  go_wp2_with fail
  refine wp_scope_ahead fun J hgo => ?_
  by_cases h2 : s.is = 2
  · have HNO := Lib.hid (show Rf.timeout n s = (s, []) by unfold Rf.timeout; rw [if_pos (.inl h2)])
    have e2 : (s.is == 2) = true := by simpa using h2
    clear h2 hg
    go_wp2_with fail
    go_step3
    refine hgo 0 _ _ _ rfl ?_
    go_wp2_with fail
    refine end_ret ?_
    go_ret
    rw [HNO.out]
    exact ⟨_, rfl, msgsOut_nil _ _, pto_of HR0.out (Kept.refl _ _)⟩
  have e2 : (s.is == 2) = false := by simpa using h2
  by_cases h3 : s.b.1 = 1073741824
  · have HNO := Lib.hid (show Rf.timeout n s = (s, []) by unfold Rf.timeout; rw [if_pos (.inr (by omega))])
    have e3 : (s.b.1 == 1073741824) = true := by simpa using h3
    clear h2 h3 hg
    go_wp2_with fail
    go_step3
    refine hgo 0 _ _ _ rfl ?_
    go_wp2_with fail
    refine end_ret ?_
    go_ret
    rw [HNO.out]
    exact ⟨_, rfl, msgsOut_nil _ _, pto_of HR0.out (Kept.refl _ _)⟩
  have e3 : (s.b.1 == 1073741824) = false := by simpa using h3
  have hlt30 : s.b.1 < 1073741824 := by omega
  have hgs := hg.stand hlt30
  have HGS := Lib.hid hgs
  have HVL := Lib.hid hg.votes
  have ht : Rf.timeout n s = if n.many / 2 + 1 = 1 then Rf.lead n (Rf.stand n s) else (Rf.stand n s, Rf.each n (Rf.ask n (Rf.stand n s)) n.many) := by unfold Rf.timeout; rw [if_neg (by omega)]
  have HT := Lib.hid ht
  have HPS := Lib.hid (show 1 ≤ (Rf.stand n s).b.1 by show 1 ≤ s.b.1 + 1; omega)
  have HCT := Lib.hid (show (Rf.stand n s).votes.count true = 1 from count_one (by omega))
  have HSD : Hid (Rf.stand n s = { s with b := (s.b.1 + 1, (n.id : Int)), is := 1, votes := (List.replicate n.many false).set (n.id - 1) true }) := Lib.hid rfl
  clear ht hgs hg h2 h3
  generalize Rf.stand n s = sd at *
  have hwr : IntKind.i64.wrap (s.b.1 + 1) = s.b.1 + 1 := by rw [IntKind.wrap_i64]; omega
  go_wp2_with fail
  have HM := Lib.hid HR0.out.st
  dsimp only [rmc] at HM
  have HK := Lib.hid (Kept.refl F.has w)
  clear k0 k1 k2 k3 k4 k5 k6 k7 k8 k9 k10 k11
  refine z_start ((w).drew.heap.size) [14] (by kernel_rfl) ?_
  have HC := Lib.hid (Below.refl ((w).drew.heap.size) (w).drew)
  have hBz : (w).drew.heap.size ≤ (w).drew.heap.size := Nat.le_refl _
  replace HM := Lib.hid (show Whole (w).drew _ _ _ from HM.out)
  have hltM := HM.out.lt
  replace HK := Lib.hid (HK.out.trans (Below.kept (Below.refl _ _).drew))
  replace HR0 := Lib.hid (HR0.out.stay (Below.refl _ _).drew)
  generalize (w).drew = z1 at *
  refine z_take (i := 0) (v := ?_) rfl (by kernel_rfl) (by kernel_rfl) (by kernel_rfl) (k0 := 0) (by kernel_rfl) (by kernel_rfl) (.inl rfl) (fun _ _ _ h => h) (by rfl) HC.out ?_ ?_
  rotate_left
  · intro W hW
    go_simp
    first | done | rfl
  simp only [Act.put, List.setIfInBounds_toArray, List.set_cons_zero, List.set_cons_succ, List.getElem_toArray, List.getElem_cons_zero]
  refine z_take (i := 1) (v := ?_) rfl (by kernel_rfl) (by kernel_rfl) (by kernel_rfl) (k0 := 1) (by kernel_rfl) (by kernel_rfl) (.inl rfl) (fun _ _ _ h => h) (by rfl) HC.out ?_ ?_
  rotate_left
  · intro W hW
    go_simp
    first | done | rfl
  simp only [Act.put, List.setIfInBounds_toArray, List.set_cons_zero, List.set_cons_succ, List.getElem_toArray, List.getElem_cons_zero, List.getElem_cons_succ]
  refine z_take (i := 2) (v := ?_) rfl (by kernel_rfl) (by kernel_rfl) (by kernel_rfl) (k0 := 2) (by kernel_rfl) (by kernel_rfl) (.inl rfl) (fun _ _ _ h => h) (by rfl) HC.out ?_ ?_
  rotate_left
  · intro W hW
    go_simp
    first | done | rfl
  simp only [Act.put, List.setIfInBounds_toArray, List.set_cons_zero, List.set_cons_succ, List.getElem_toArray, List.getElem_cons_zero, List.getElem_cons_succ]
  refine z_take (i := 3) (v := ?_) rfl (by kernel_rfl) (by kernel_rfl) (by kernel_rfl) (k0 := 3) (by kernel_rfl) (by kernel_rfl) (.inl rfl) (fun _ _ _ h => h) (by rfl) HC.out ?_ ?_
  rotate_left
  · intro W hW
    go_simp
    first | done | rfl
  simp only [Act.put, List.setIfInBounds_toArray, List.set_cons_zero, List.set_cons_succ, List.getElem_toArray, List.getElem_cons_zero, List.getElem_cons_succ]
  refine z_take (i := 4) (v := ?_) rfl (by kernel_rfl) (by kernel_rfl) (by kernel_rfl) (k0 := 4) (by kernel_rfl) (by kernel_rfl) (.inl rfl) (fun _ _ _ h => h) (by rfl) HC.out ?_ ?_
  rotate_left
  · intro W hW
    go_simp
    first | done | rfl
  simp only [Act.put, List.setIfInBounds_toArray, List.set_cons_zero, List.set_cons_succ, List.getElem_toArray, List.getElem_cons_zero, List.getElem_cons_succ]
  refine z_take (i := 5) (v := ?_) rfl (by kernel_rfl) (by kernel_rfl) (by kernel_rfl) (k0 := 5) (by kernel_rfl) (by kernel_rfl) (.inl rfl) (fun _ _ _ h => h) (by rfl) HC.out ?_ ?_
  rotate_left
  · intro W hW
    obtain ⟨k0, k1, k2, k3, k4, k5, k6, k7, k8, k9, k10, k11⟩ := (HM.out.below hW hltM).c12
    go_simp
    first | done | rfl
  simp only [Act.put, List.setIfInBounds_toArray, List.set_cons_zero, List.set_cons_succ, List.getElem_toArray, List.getElem_cons_zero, List.getElem_cons_succ]
  refine z_take (i := 6) (v := ?_) rfl (by kernel_rfl) (by kernel_rfl) (by kernel_rfl) (k0 := 6) (by kernel_rfl) (by kernel_rfl) (.inl rfl) (fun _ _ _ h => h) (by rfl) HC.out ?_ ?_
  rotate_left
  · intro W hW
    go_simp
    first | done | rfl
  simp only [Act.put, List.setIfInBounds_toArray, List.set_cons_zero, List.set_cons_succ, List.getElem_toArray, List.getElem_cons_zero, List.getElem_cons_succ]
  refine z_take (i := 7) (v := ?_) rfl (by kernel_rfl) (by kernel_rfl) (by kernel_rfl) (k0 := 7) (by kernel_rfl) (by kernel_rfl) (.inl rfl) (fun _ _ _ h => h) (by rfl) HC.out ?_ ?_
  rotate_left
  · intro W hW
    go_simp
    first | done | rfl
  simp only [Act.put, List.setIfInBounds_toArray, List.set_cons_zero, List.set_cons_succ, List.getElem_toArray, List.getElem_cons_zero, List.getElem_cons_succ]
  refine z_take (i := 8) (v := ?_) rfl (by kernel_rfl) (by kernel_rfl) (by kernel_rfl) (k0 := 8) (by kernel_rfl) (by kernel_rfl) (.inl rfl) (fun _ _ _ h => h) (by rfl) HC.out ?_ ?_
  rotate_left
  · intro W hW
    go_simp
    first | done | rfl
  simp only [Act.put, List.setIfInBounds_toArray, List.set_cons_zero, List.set_cons_succ, List.getElem_toArray, List.getElem_cons_zero, List.getElem_cons_succ]
  refine z_take (i := 9) (v := ?_) rfl (by kernel_rfl) (by kernel_rfl) (by kernel_rfl) (k0 := 9) (by kernel_rfl) (by kernel_rfl) (.inl rfl) (fun _ _ _ h => h) (by rfl) HC.out ?_ ?_
  rotate_left
  · intro W hW
    go_simp
    first | done | rfl
  simp only [Act.put, List.setIfInBounds_toArray, List.set_cons_zero, List.set_cons_succ, List.getElem_toArray, List.getElem_cons_zero, List.getElem_cons_succ]
  refine z_take (i := 10) (v := ?_) rfl (by kernel_rfl) (by kernel_rfl) (by kernel_rfl) (k0 := 10) (by kernel_rfl) (by kernel_rfl) (.inl rfl) (fun _ _ _ h => h) (by rfl) HC.out ?_ ?_
  rotate_left
  · intro W hW
    obtain ⟨k0, k1, k2, k3, k4, k5, k6, k7, k8, k9, k10, k11⟩ := (HM.out.below hW hltM).c12
    go_simp
    first | done | rfl
  simp only [Act.put, List.setIfInBounds_toArray, List.set_cons_zero, List.set_cons_succ, List.getElem_toArray, List.getElem_cons_zero, List.getElem_cons_succ]
  refine z_take (i := 11) (v := ?_) rfl (by kernel_rfl) (by kernel_rfl) (by kernel_rfl) (k0 := 11) (by kernel_rfl) (by kernel_rfl) (.inl rfl) (fun _ _ _ h => h) (by rfl) HC.out ?_ ?_
  rotate_left
  · intro W hW
    go_simp
    first | done | rfl
  simp only [Act.put, List.setIfInBounds_toArray, List.set_cons_zero, List.set_cons_succ, List.getElem_toArray, List.getElem_cons_zero, List.getElem_cons_succ]
  refine z_take (i := 12) (v := ?_) rfl (by kernel_rfl) (by kernel_rfl) (by kernel_rfl) (k0 := 13) (by kernel_rfl) (by kernel_rfl) (.inr (by kernel_rfl)) (fun _ _ _ h => h) (by rfl) HC.out ?_ ?_
  rotate_left
  · intro W hW
    go_simp
    first | done | rfl
  simp only [Act.put, List.setIfInBounds_toArray, List.set_cons_zero, List.set_cons_succ, List.getElem_toArray, List.getElem_cons_zero, List.getElem_cons_succ]
  refine z_take (i := 13) (v := ?_) rfl (by kernel_rfl) (by kernel_rfl) (by kernel_rfl) (k0 := 13) (by kernel_rfl) (by kernel_rfl) (.inl rfl) (fun _ _ _ h => h) (by rfl) HC.out ?_ ?_
  rotate_left
  · intro W hW
    go_simp
    first | done | rfl
  simp only [Act.put, List.setIfInBounds_toArray, List.set_cons_zero, List.set_cons_succ, List.getElem_toArray, List.getElem_cons_zero, List.getElem_cons_succ]
  refine z_one (i := 14) (by kernel_rfl) ?_
  obtain ⟨k0, k1, k2, k3, k4, k5, k6, k7, k8, k9, k10, k11⟩ := (HM.out.below HC.out hltM).c12
  have f2 := (HM.out.below HC.out hltM).free 2
  have f3 := (HM.out.below HC.out hltM).free 3
  refine onez_skip (i := 14) (w' := ?_) rfl (by rfl) ?_ ?_ ?_
  rotate_left 1
  · go_simp
    first | done | rfl
  · exact fun h => absurd (by decide) h
  simp only [Act.put, List.getElem_toArray, List.getElem_cons_zero, List.getElem_cons_succ]
  clear f2 f3 k0 k1 k2 k3 k4 k5 k6 k7 k8 k9 k10 k11
  refine z_done (by kernel_rfl) ?_
  replace HR0 := Lib.hid (((HR0.out.stay HC.out).cell 2 (.int .i64 (s.b.1 + 1)) (s' := { s with b := (s.b.1 + 1, s.b.2) }) rfl rfl rfl rfl rfl).cell 3 (.int .i64 (n.id : Int)) (s' := { s with b := (s.b.1 + 1, (n.id : Int)) }) rfl rfl rfl rfl rfl)
  replace HK := Lib.hid (((HK.out.trans (Below.kept HC.out)).set (p := ⟨F.g, 2, none⟩) (.inl (.inl rfl)) (.int .i64 (s.b.1 + 1))).set (p := ⟨F.g, 3, none⟩) (.inl (.inl rfl)) (.int .i64 (n.id : Int)))
  clear HC hBz HM hltM
  go_simp
  generalize hw5 : World.setCell (World.setCell _ _ _) _ _ = w5 at *
  clear hw5
  have hst := HR0.out.st
  dsimp only [rmc] at hst
  obtain ⟨k0, k1, k2, k3, k4, k5, k6, k7, k8, k9, k10, k11⟩ := hst.c12
  have f7 := hst.free 7
  clear hst
  have HR1 := Lib.hid (HR0.out.cell 7 (.int .i64 1) (s' := { s with b := (s.b.1 + 1, (n.id : Int)), is := 1 }) rfl rfl rfl rfl rfl)
  replace HK := Lib.hid (HK.out.set (p := ⟨F.g, 7, none⟩) (.inl (.inl rfl)) (.int .i64 1))
  have hst := HR1.out.st
  dsimp only [rmc] at hst
  obtain ⟨j0, j1, j2, j3, j4, j5, j6, j7, j8, j9, j10, j11⟩ := hst.c12
  clear hst
  have hcl := fun ty => run_clearV HR1.out HVL.out (by omega) ty
  clear HR0
  go_wp2_with (simp only [hcl])
  clear hcl f7 k0 k1 k2 k3 k4 k5 k6 k7 k8 k9 k10 k11 j0 j1 j2 j3 j4 j5 j6 j7 j8 j9 j10 j11
  have HR0 := Lib.hid (HR1.out.clearV n.many 0)
  replace HK := Lib.hid (HK.out.setCells (.inr (.inl rfl)) (List.replicate n.many (.int .i64 0)) 0)
  dsimp only at HR0
  clear HR1
  rw [show clearN s.votes 0 n.many = List.replicate n.many false by rw [← HVL.out]; exact clearN_all _] at HR0
  generalize hw6 : World.setCells _ _ _ _ = w6 at *
  clear hw6
  have HM := Lib.hid HR0.out.st
  dsimp only [rmc] at HM
  have HV := Lib.hid HR0.out.v
  dsimp only at HV
  have hkw : IntKind.i64.wrap ((n.id : Int) - 1) = (n.id : Int) - 1 := by rw [IntKind.wrap_i64]; omega
  have hkn : ((n.id : Int) - 1).toNat = n.id - 1 := by omega
  have hki : (1 : Int) ≤ (n.id : Int) := by omega
  have hki2 : (n.id : Int) - 1 < (n.many : Int) := by omega
  refine z_start ((w6).drew.heap.size) [10] (by kernel_rfl) ?_
  have HC := Lib.hid (Below.refl ((w6).drew.heap.size) (w6).drew)
  have hBz : (w6).drew.heap.size ≤ (w6).drew.heap.size := Nat.le_refl _
  replace HM := Lib.hid (show Whole (w6).drew _ _ _ from HM.out)
  have hltM := HM.out.lt
  replace HV := Lib.hid (show Whole (w6).drew _ _ _ from HV.out)
  have hltV := HV.out.lt
  replace HK := Lib.hid (HK.out.trans (Below.kept (Below.refl _ _).drew))
  replace HR0 := Lib.hid (HR0.out.stay (Below.refl _ _).drew)
  generalize (w6).drew = y1 at *
  refine z_take (i := 0) (v := ?_) rfl (by kernel_rfl) (by kernel_rfl) (by kernel_rfl) (k0 := 0) (by kernel_rfl) (by kernel_rfl) (.inl rfl) (fun _ _ _ h => h) (by rfl) HC.out ?_ ?_
  rotate_left
  · intro W hW
    go_simp
    first | done | rfl
  simp only [Act.put, List.setIfInBounds_toArray, List.set_cons_zero, List.set_cons_succ, List.getElem_toArray, List.getElem_cons_zero]
  refine z_take (i := 1) (v := ?_) rfl (by kernel_rfl) (by kernel_rfl) (by kernel_rfl) (k0 := 1) (by kernel_rfl) (by kernel_rfl) (.inl rfl) (fun _ _ _ h => h) (by rfl) HC.out ?_ ?_
  rotate_left
  · intro W hW
    go_simp
    first | done | rfl
  simp only [Act.put, List.setIfInBounds_toArray, List.set_cons_zero, List.set_cons_succ, List.getElem_toArray, List.getElem_cons_zero, List.getElem_cons_succ]
  refine z_take (i := 2) (v := ?_) rfl (by kernel_rfl) (by kernel_rfl) (by kernel_rfl) (k0 := 2) (by kernel_rfl) (by kernel_rfl) (.inl rfl) (fun _ _ _ h => h) (by rfl) HC.out ?_ ?_
  rotate_left
  · intro W hW
    go_simp
    first | done | rfl
  simp only [Act.put, List.setIfInBounds_toArray, List.set_cons_zero, List.set_cons_succ, List.getElem_toArray, List.getElem_cons_zero, List.getElem_cons_succ]
  refine z_take (i := 3) (v := ?_) rfl (by kernel_rfl) (by kernel_rfl) (by kernel_rfl) (k0 := 3) (by kernel_rfl) (by kernel_rfl) (.inl rfl) (fun _ _ _ h => h) (by rfl) HC.out ?_ ?_
  rotate_left
  · intro W hW
    obtain ⟨k0, k1, k2, k3, k4, k5, k6, k7, k8, k9, k10, k11⟩ := (HM.out.below hW hltM).c12
    go_simp
    first | done | rfl
  simp only [Act.put, List.setIfInBounds_toArray, List.set_cons_zero, List.set_cons_succ, List.getElem_toArray, List.getElem_cons_zero, List.getElem_cons_succ]
  refine z_take (i := 4) (v := ?_) rfl (by kernel_rfl) (by kernel_rfl) (by kernel_rfl) (k0 := 4) (by kernel_rfl) (by kernel_rfl) (.inl rfl) (fun _ _ _ h => h) (by rfl) HC.out ?_ ?_
  rotate_left
  · intro W hW
    go_simp
    first | done | rfl
  simp only [Act.put, List.setIfInBounds_toArray, List.set_cons_zero, List.set_cons_succ, List.getElem_toArray, List.getElem_cons_zero, List.getElem_cons_succ]
  refine z_take (i := 5) (v := ?_) rfl (by kernel_rfl) (by kernel_rfl) (by kernel_rfl) (k0 := 5) (by kernel_rfl) (by kernel_rfl) (.inl rfl) (fun _ _ _ h => h) (by rfl) HC.out ?_ ?_
  rotate_left
  · intro W hW
    go_simp
    first | done | rfl
  simp only [Act.put, List.setIfInBounds_toArray, List.set_cons_zero, List.set_cons_succ, List.getElem_toArray, List.getElem_cons_zero, List.getElem_cons_succ]
  refine z_take (i := 6) (v := ?_) rfl (by kernel_rfl) (by kernel_rfl) (by kernel_rfl) (k0 := 6) (by kernel_rfl) (by kernel_rfl) (.inl rfl) (fun _ _ _ h => h) (by rfl) HC.out ?_ ?_
  rotate_left
  · intro W hW
    go_simp
    first | done | rfl
  simp only [Act.put, List.setIfInBounds_toArray, List.set_cons_zero, List.set_cons_succ, List.getElem_toArray, List.getElem_cons_zero, List.getElem_cons_succ]
  refine z_take (i := 7) (v := ?_) rfl (by kernel_rfl) (by kernel_rfl) (by kernel_rfl) (k0 := 7) (by kernel_rfl) (by kernel_rfl) (.inl rfl) (fun _ _ _ h => h) (by rfl) HC.out ?_ ?_
  rotate_left
  · intro W hW
    obtain ⟨k0, k1, k2, k3, k4, k5, k6, k7, k8, k9, k10, k11⟩ := (HM.out.below hW hltM).c12
    go_simp
    first | done | rfl
  simp only [Act.put, List.setIfInBounds_toArray, List.set_cons_zero, List.set_cons_succ, List.getElem_toArray, List.getElem_cons_zero, List.getElem_cons_succ]
  refine z_take (i := 8) (v := ?_) rfl (by kernel_rfl) (by kernel_rfl) (by kernel_rfl) (k0 := 8) (by kernel_rfl) (by kernel_rfl) (.inl rfl) (fun _ _ _ h => h) (by rfl) HC.out ?_ ?_
  rotate_left
  · intro W hW
    go_simp
    first | done | rfl
  simp only [Act.put, List.setIfInBounds_toArray, List.set_cons_zero, List.set_cons_succ, List.getElem_toArray, List.getElem_cons_zero, List.getElem_cons_succ]
  refine z_take (i := 9) (v := ?_) rfl (by kernel_rfl) (by kernel_rfl) (by kernel_rfl) (k0 := 9) (by kernel_rfl) (by kernel_rfl) (.inl rfl) (fun _ _ _ h => h) (by rfl) HC.out ?_ ?_
  rotate_left
  · intro W hW
    go_simp
    first | done | rfl
  simp only [Act.put, List.setIfInBounds_toArray, List.set_cons_zero, List.set_cons_succ, List.getElem_toArray, List.getElem_cons_zero, List.getElem_cons_succ]
  refine z_one (i := 10) (by kernel_rfl) ?_
  have kn := (HV.out.below HC.out hltV).rowN (n.id - 1) (by simp [vi_rep]; omega)
  have fn := (HV.out.below HC.out hltV).free (n.id - 1)
  refine onez_skip (i := 10) (w' := ?_) rfl (by rfl) ?_ ?_ ?_
  rotate_left 1
  · go_simp
    first | done | rfl
  · exact fun h => absurd (by decide) h
  simp only [Act.put, List.getElem_toArray, List.getElem_cons_zero, List.getElem_cons_succ]
  clear kn fn
  refine z_done (by kernel_rfl) ?_
  replace HR0 := Lib.hid ((HR0.out.stay HC.out).setV (n.id - 1))
  dsimp only at HR0
  replace HK := Lib.hid ((HK.out.trans (Below.kept HC.out)).set (p := ⟨F.gv, n.id - 1, none⟩) (.inl (.inr (.inl rfl))) (.int .i64 1))
  clear HC hBz HM hltM HV hltV
  go_simp
  generalize hw7 : World.setCell _ _ _ = w7 at *
  clear hw7
  rw [← HSD.out] at HR0
  have HEL := Lib.hid (pelected_any n F sd HGS.out A c w7 HR0.out)
  rw [HCT.out] at HEL
  go_wp2_with fail
  with_reducible refine HEL.out.mono ?_
  rintro e w8 ⟨rfl, hb⟩
  replace HR0 := Lib.hid (HR0.out.stay hb)
  replace HK := Lib.hid (HK.out.trans (Below.kept hb))
  clear hb HEL
  have hz8 := HK.out.size
  have hmj1 : 1 ≤ n.many / 2 + 1 := by omega
  generalize n.many / 2 + 1 = mj at *
  have hmf : ∀ (fn : Fn) (first cap : Array Value) (w : World), (Instr.makeFunc fn first cap).run Try.prog w = .ok (.func fn first cap) w := fun _ _ _ _ => rfl
  by_cases hm1 : mj = 1
  · have ht := HT.out
    rw [if_pos hm1] at ht
    have HNO := Lib.hid ht
    have e5 : decide (mj ≤ 1) = true := by simp; omega
    have HLD := Lib.hid (plead_any n F sd HGS.out HPS.out A c w8 HR0.out)
    clear ht HT hm1
    go_wp2_with fail
    refine HLD.out.mono ?_
    rintro e w9 ⟨v9, rfl, hv9, hp9⟩
    have HV9 := Lib.hid (SlS.wide hv9 (fun b hb _ => Nat.le_trans hz8 hb) : MsgsOut w _ v9 w9)
    have HP9 := Lib.hid (hp9.from_ HK.out.gof)
    clear hv9 hp9 HLD
    go_wp2_with fail
    refine jumps_ret ?_
    go_ret
    rw [HNO.out]
    exact ⟨v9, rfl, HV9.out, HP9.out⟩
  · have ht := HT.out
    rw [if_neg hm1] at ht
    have HNO := Lib.hid ht
    have e5 : decide (mj ≤ 1) = false := by simp; omega
    have HOA := Lib.hid (pothers_plea_any n F sd HGS.out A c w8 HR0.out)
    clear ht HT hm1
    go_wp2_with fail
    refine HOA.out.mono ?_
    rintro e w9 ⟨v9, rfl, hv9, hb9⟩
    have HV9 := Lib.hid (SlS.wide hv9 (fun b hb _ => Nat.le_trans hz8 hb) : MsgsOut w _ v9 w9)
    replace HR0 := Lib.hid (HR0.out.stay hb9)
    replace HK := Lib.hid (HK.out.trans (Below.kept hb9))
    clear hv9 hb9 HOA
    go_wp2_with fail
    refine jumps_ret ?_
    go_ret
    rw [HNO.out]
    exact ⟨v9, rfl, HV9.out, pto_of HR0.out HK.out⟩
end Go.Proofs.Ytjcljkbalpgfdaa
