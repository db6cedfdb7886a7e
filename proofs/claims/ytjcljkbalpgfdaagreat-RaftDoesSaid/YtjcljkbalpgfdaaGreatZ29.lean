/-
  Parts that the statement rests on, joined: Rtimeout, Rvoted.
-/
import Derived.Test.YtjcljkbalpgfdaaGreatZ28
import Derived.BigQuiet
/-
  What the reference's Timeout answers and leaves.
-/

namespace Go.Proofs.YtjcljkbalpgfdaaGreat
open Go.RowKit

theorem rowZO : RowZ Tryz.prog 64 4 1 false := by
  obtain ⟨i, hi, hz, hsz, hby⟩ := info_parts (show (Tryz.prog.info? 4).map (fun i => (i.zero, i.size, i.bytes)) = some (some (.bool false), 1, 1) by kernel_rfl)
  exact ⟨Tryz.underlying64, i, _, hi, hz, hsz, hby, rfl⟩
/-- What a step of a member leaves: its struct may lead to a new row. -/
def StepTo (n : Rf.Id) (F : Foot) (S : Nat → Prop) (w : World) (s : Rf.St) (w' : World) : Prop :=
  ∃ (F' : Foot) (A : Option Addr) (c : Nat), F'.g = F.g ∧ (∀ b, F'.has b → F.has b ∨ w.heap.size ≤ b) ∧ RMem n F' (fun b => (S b ∨ w.heap.size ≤ b) ∧ ¬ F'.has b) w' s A c ∧ Kept F.has w w'

set_option maxRecDepth 100000 in
set_option maxHeartbeats 1600000 in
theorem rtimeout_any (n : Rf.Id) (F : Foot) (S : Nat → Prop) (s : Rf.St) (hg : Rf.Good n s) (A : Option Addr) (c : Nat) (w : World) (h : RMem n F S w s A c) :
    Calls Tryz.prog 28 #[.pointer (some ⟨F.g, 0, none⟩)] w fun e w' => ∃ v, e = .returned v ∧ MsgsOut w (Rf.timeout n s).2 v w' ∧ StepTo n F S w (Rf.timeout n s).1 w' := by
  have hFlt := Foot.lt h
  have HOFF := Lib.hid h.off
  have hlt5 : ∀ b, S b → b < w.heap.size → b < w.heap.size := fun _ _ h => h
  have HRW := Lib.hid (h.wide (S' := fun b => (S b ∨ w.heap.size ≤ b) ∧ ¬ F.has b) (fun b hb _ => ⟨.inl hb, h.off b hb⟩) (fun b hb => hb.2))
  have HR0 := Lib.hid h.here
  have hid1 := hg.id1
  have hid2 := hg.id2
  have hmany := hg.many
  have hbb := hg.b
  clear h
  have hst := HR0.out.st
  dsimp only [rmc] at hst
  obtain ⟨k0, k1, k2, k3, k4, k5, k6, k7, k8, k9, k10, k11⟩ := hst.c12
  clear hst
  go_enter Tryz.func28, Tryz.ntmps28
  by_cases h0 : s.is = 2 ∨ 1073741824 ≤ s.b.1
  · have ht : Rf.timeout n s = (s, []) := by unfold Rf.timeout; rw [if_pos h0]
    rw [ht]
    clear ht
    rcases h0 with h0 | h0
    · have e2 : (s.is == 2) = true := by simpa using h0
      clear h0
      go_wp2_with fail
      go_ret
      exact ⟨_, rfl, msgsOut_nil _ _, F, A, c, rfl, fun b hb => .inl hb, HRW.out, Kept.refl _ _⟩
    · by_cases h2 : s.is = 2
      · have e2 : (s.is == 2) = true := by simpa using h2
        clear h2 h0
        go_wp2_with fail
        go_ret
        exact ⟨_, rfl, msgsOut_nil _ _, F, A, c, rfl, fun b hb => .inl hb, HRW.out, Kept.refl _ _⟩
      · have e2 : (s.is == 2) = false := by simpa using h2
        clear h2
        go_wp2_with fail
        go_ret
        exact ⟨_, rfl, msgsOut_nil _ _, F, A, c, rfl, fun b hb => .inl hb, HRW.out, Kept.refl _ _⟩
  have h2 : s.is ≠ 2 := fun hh => h0 (.inl hh)
  have e2 : (s.is == 2) = false := by simpa using h2
  have e3 : decide (1073741824 ≤ s.b.1) = false := by simp; omega
  have hlt30 : s.b.1 < 1073741824 := by omega
  have hgs := hg.stand hlt30
  have HGS := Lib.hid hgs
  have ht : Rf.timeout n s = if n.many / 2 + 1 = 1 then Rf.lead n (Rf.stand n s) else (Rf.stand n s, Rf.each n (Rf.ask n (Rf.stand n s)) n.many) := by unfold Rf.timeout; rw [if_neg h0]
  have HT := Lib.hid ht
  clear ht hgs hg h0 h2 HRW
  have hwr : IntKind.i64.wrap (s.b.1 + 1) = s.b.1 + 1 := by rw [IntKind.wrap_i64]; omega
  go_wp2_with fail
  have HM := Lib.hid HR0.out.st
  dsimp only [rmc] at HM
  have HK := Lib.hid (Kept.refl F.has w)
  clear k0 k1 k2 k3 k4 k5 k6 k7 k8 k9 k10 k11
  refine z_start ((w).drew.heap.size) [14] (by kernel_rfl) ?_
  have HC := Lib.hid (Below.refl ((w).drew.heap.size) (w).drew)
  have hBz : (w).drew.heap.size ≤ (w).drew.heap.size := Nat.le_refl _
  replace HM := Lib.hid (show Whole (w).drew _ _ _ from HM.out)
  have hltM := HM.out.lt
  replace HK := Lib.hid (HK.out.trans (Below.kept (Below.refl _ _).drew))
  replace HR0 := Lib.hid (HR0.out.stay (Below.refl _ _).drew)
  generalize (w).drew = z1 at *
  refine z_take (i := 0) (v := ?_) rfl (by kernel_rfl) (by kernel_rfl) (by kernel_rfl) (k0 := 0) (by kernel_rfl) (by kernel_rfl) (.inl rfl) (fun _ _ _ h => h) (by rfl) HC.out ?_ ?_
  rotate_left
  · intro W hW
    go_simp
    first | done | rfl
  simp only [Act.put, List.setIfInBounds_toArray, List.set_cons_zero, List.set_cons_succ, List.getElem_toArray, List.getElem_cons_zero, List.getElem_cons_succ]
  refine z_take (i := 1) (v := ?_) rfl (by kernel_rfl) (by kernel_rfl) (by kernel_rfl) (k0 := 1) (by kernel_rfl) (by kernel_rfl) (.inl rfl) (fun _ _ _ h => h) (by rfl) HC.out ?_ ?_
  rotate_left
  · intro W hW
    go_simp
    first | done | rfl
  simp only [Act.put, List.setIfInBounds_toArray, List.set_cons_zero, List.set_cons_succ, List.getElem_toArray, List.getElem_cons_zero, List.getElem_cons_succ]
  refine z_take (i := 2) (v := ?_) rfl (by kernel_rfl) (by kernel_rfl) (by kernel_rfl) (k0 := 2) (by kernel_rfl) (by kernel_rfl) (.inl rfl) (fun _ _ _ h => h) (by rfl) HC.out ?_ ?_
  rotate_left
  · intro W hW
    go_simp
    first | done | rfl
  simp only [Act.put, List.setIfInBounds_toArray, List.set_cons_zero, List.set_cons_succ, List.getElem_toArray, List.getElem_cons_zero, List.getElem_cons_succ]
  refine z_take (i := 3) (v := ?_) rfl (by kernel_rfl) (by kernel_rfl) (by kernel_rfl) (k0 := 3) (by kernel_rfl) (by kernel_rfl) (.inl rfl) (fun _ _ _ h => h) (by rfl) HC.out ?_ ?_
  rotate_left
  · intro W hW
    go_simp
    first | done | rfl
  simp only [Act.put, List.setIfInBounds_toArray, List.set_cons_zero, List.set_cons_succ, List.getElem_toArray, List.getElem_cons_zero, List.getElem_cons_succ]
  refine z_take (i := 4) (v := ?_) rfl (by kernel_rfl) (by kernel_rfl) (by kernel_rfl) (k0 := 4) (by kernel_rfl) (by kernel_rfl) (.inl rfl) (fun _ _ _ h => h) (by rfl) HC.out ?_ ?_
  rotate_left
  · intro W hW
    go_simp
    first | done | rfl
  simp only [Act.put, List.setIfInBounds_toArray, List.set_cons_zero, List.set_cons_succ, List.getElem_toArray, List.getElem_cons_zero, List.getElem_cons_succ]
  refine z_take (i := 5) (v := ?_) rfl (by kernel_rfl) (by kernel_rfl) (by kernel_rfl) (k0 := 5) (by kernel_rfl) (by kernel_rfl) (.inl rfl) (fun _ _ _ h => h) (by rfl) HC.out ?_ ?_
  rotate_left
  · intro W hW
    obtain ⟨k0, k1, k2, k3, k4, k5, k6, k7, k8, k9, k10, k11⟩ := (HM.out.below hW hltM).c12
    go_simp
    first | done | rfl
  simp only [Act.put, List.setIfInBounds_toArray, List.set_cons_zero, List.set_cons_succ, List.getElem_toArray, List.getElem_cons_zero, List.getElem_cons_succ]
  refine z_take (i := 6) (v := ?_) rfl (by kernel_rfl) (by kernel_rfl) (by kernel_rfl) (k0 := 6) (by kernel_rfl) (by kernel_rfl) (.inl rfl) (fun _ _ _ h => h) (by rfl) HC.out ?_ ?_
  rotate_left
  · intro W hW
    go_simp
    first | done | rfl
  simp only [Act.put, List.setIfInBounds_toArray, List.set_cons_zero, List.set_cons_succ, List.getElem_toArray, List.getElem_cons_zero, List.getElem_cons_succ]
  refine z_take (i := 7) (v := ?_) rfl (by kernel_rfl) (by kernel_rfl) (by kernel_rfl) (k0 := 7) (by kernel_rfl) (by kernel_rfl) (.inl rfl) (fun _ _ _ h => h) (by rfl) HC.out ?_ ?_
  rotate_left
  · intro W hW
    go_simp
    first | done | rfl
  simp only [Act.put, List.setIfInBounds_toArray, List.set_cons_zero, List.set_cons_succ, List.getElem_toArray, List.getElem_cons_zero, List.getElem_cons_succ]
  refine z_take (i := 8) (v := ?_) rfl (by kernel_rfl) (by kernel_rfl) (by kernel_rfl) (k0 := 8) (by kernel_rfl) (by kernel_rfl) (.inl rfl) (fun _ _ _ h => h) (by rfl) HC.out ?_ ?_
  rotate_left
  · intro W hW
    go_simp
    first | done | rfl
  simp only [Act.put, List.setIfInBounds_toArray, List.set_cons_zero, List.set_cons_succ, List.getElem_toArray, List.getElem_cons_zero, List.getElem_cons_succ]
  refine z_take (i := 9) (v := ?_) rfl (by kernel_rfl) (by kernel_rfl) (by kernel_rfl) (k0 := 9) (by kernel_rfl) (by kernel_rfl) (.inl rfl) (fun _ _ _ h => h) (by rfl) HC.out ?_ ?_
  rotate_left
  · intro W hW
    go_simp
    first | done | rfl
  simp only [Act.put, List.setIfInBounds_toArray, List.set_cons_zero, List.set_cons_succ, List.getElem_toArray, List.getElem_cons_zero, List.getElem_cons_succ]
  refine z_take (i := 10) (v := ?_) rfl (by kernel_rfl) (by kernel_rfl) (by kernel_rfl) (k0 := 10) (by kernel_rfl) (by kernel_rfl) (.inl rfl) (fun _ _ _ h => h) (by rfl) HC.out ?_ ?_
  rotate_left
  · intro W hW
    obtain ⟨k0, k1, k2, k3, k4, k5, k6, k7, k8, k9, k10, k11⟩ := (HM.out.below hW hltM).c12
    go_simp
    first | done | rfl
  simp only [Act.put, List.setIfInBounds_toArray, List.set_cons_zero, List.set_cons_succ, List.getElem_toArray, List.getElem_cons_zero, List.getElem_cons_succ]
  refine z_take (i := 11) (v := ?_) rfl (by kernel_rfl) (by kernel_rfl) (by kernel_rfl) (k0 := 11) (by kernel_rfl) (by kernel_rfl) (.inl rfl) (fun _ _ _ h => h) (by rfl) HC.out ?_ ?_
  rotate_left
  · intro W hW
    go_simp
    first | done | rfl
  simp only [Act.put, List.setIfInBounds_toArray, List.set_cons_zero, List.set_cons_succ, List.getElem_toArray, List.getElem_cons_zero, List.getElem_cons_succ]
  refine z_take (i := 12) (v := ?_) rfl (by kernel_rfl) (by kernel_rfl) (by kernel_rfl) (k0 := 13) (by kernel_rfl) (by kernel_rfl) (.inr (by kernel_rfl)) (fun _ _ _ h => h) (by rfl) HC.out ?_ ?_
  rotate_left
  · intro W hW
    go_simp
    first | done | rfl
  simp only [Act.put, List.setIfInBounds_toArray, List.set_cons_zero, List.set_cons_succ, List.getElem_toArray, List.getElem_cons_zero, List.getElem_cons_succ]
  refine z_take (i := 13) (v := ?_) rfl (by kernel_rfl) (by kernel_rfl) (by kernel_rfl) (k0 := 13) (by kernel_rfl) (by kernel_rfl) (.inl rfl) (fun _ _ _ h => h) (by rfl) HC.out ?_ ?_
  rotate_left
  · intro W hW
    go_simp
    first | done | rfl
  simp only [Act.put, List.setIfInBounds_toArray, List.set_cons_zero, List.set_cons_succ, List.getElem_toArray, List.getElem_cons_zero, List.getElem_cons_succ]
  refine z_one (i := 14) (by kernel_rfl) ?_
  obtain ⟨k0, k1, k2, k3, k4, k5, k6, k7, k8, k9, k10, k11⟩ := (HM.out.below HC.out hltM).c12
  have f2 := (HM.out.below HC.out hltM).free 2
  have f3 := (HM.out.below HC.out hltM).free 3
  refine onez_skip (i := 14) (w' := ?_) rfl (by rfl) ?_ ?_ ?_
  rotate_left 1
  · go_simp
    first | done | rfl
  · exact fun h => absurd (by decide) h
  simp only [Act.put, List.setIfInBounds_toArray, List.set_cons_zero, List.set_cons_succ, List.getElem_toArray, List.getElem_cons_zero, List.getElem_cons_succ]
  clear f2 f3 k0 k1 k2 k3 k4 k5 k6 k7 k8 k9 k10 k11
  refine z_done (by kernel_rfl) ?_
  replace HR0 := Lib.hid (((HR0.out.stay HC.out).cell 2 (.int .i64 (s.b.1 + 1)) (s' := { s with b := (s.b.1 + 1, s.b.2) }) rfl rfl rfl rfl rfl).cell 3 (.int .i64 (n.id : Int)) (s' := { s with b := (s.b.1 + 1, (n.id : Int)) }) rfl rfl rfl rfl rfl)
  replace HK := Lib.hid (((HK.out.trans (Below.kept HC.out)).set (p := ⟨F.g, 2, none⟩) (.inl (.inl rfl)) (.int .i64 (s.b.1 + 1))).set (p := ⟨F.g, 3, none⟩) (.inl (.inl rfl)) (.int .i64 (n.id : Int)))
  clear HC hBz HM hltM
  go_simp
  generalize hw5 : World.setCell (World.setCell _ _ _) _ _ = w5 at *
  clear hw5
  have hst := HR0.out.st
  dsimp only [rmc] at hst
  obtain ⟨k0, k1, k2, k3, k4, k5, k6, k7, k8, k9, k10, k11⟩ := hst.c12
  have f7 := hst.free 7
  clear hst
  have HR1 := Lib.hid (HR0.out.cell 7 (.int .i64 1) (s' := { s with b := (s.b.1 + 1, (n.id : Int)), is := 1 }) rfl rfl rfl rfl rfl)
  have HK1 := Lib.hid (HK.out.set (p := ⟨F.g, 7, none⟩) (.inl (.inl rfl)) (.int .i64 1))
  have hst := HR1.out.st
  dsimp only [rmc] at hst
  obtain ⟨k0, k1, k2, k3, k4, k5, k6, k7, k8, k9, k10, k11⟩ := hst.c12
  clear hst
  clear HR0 HK
  go_wp2_with (at_make; refine wpList_make_sl rowZO trivial rfl (.tmp 42) (.tmp 42) rfl w5.heap.size .i64 .i64 _ _ n.many rfl rfl rfl rfl (by omega) (by unfold maxLen; omega) (by simp) ?hmake)
  intro w6 hown6 hg6
  have hb6 := (Below.refl _ _).grown hg6 (Nat.le_refl _) (by intro k h; cases h)
  have hsz5 : (w5.setCell ⟨F.g, 7, none⟩ (.int .i64 1)).heap.size = w5.heap.size := by simp
  have hlt6 := (hown6.lt w5.heap.size rfl).2
  have hw6 := own_whole hown6
  have hz5 := HK1.out.size
  rw [hsz5] at hz5
  have hgF : ¬ F.has w5.heap.size := fun hh => by have := hFlt _ hh; omega
  have hgS : ¬ (S w5.heap.size ∧ w5.heap.size < w.heap.size) := fun hh => by omega
  have HR2 := Lib.hid (HR1.out.stay hb6)
  have HK := Lib.hid (HK1.out.trans (Below.kept hb6))
  have HW6 := Lib.hid hw6
  clear HR1 HK1 hown6 hg6 hb6 hw6 hsz5 f7 k0 k1 k2 k3 k4 k5 k6 k7 k8 k9 k10 k11
  generalize w5.heap.size = gv at *
  have hst := HR2.out.st
  dsimp only [rmc] at hst
  obtain ⟨k0, k1, k2, k3, k4, k5, k6, k7, k8, k9, k10, k11⟩ := hst.c12
  have f9 := hst.free 9
  clear hst
  go_wp2_with fail
  clear k0 k1 k2 k3 k4 k5 k6 k7 k8 k9 k10 k11 f9
  have HR0 := Lib.hid (HR2.out.newVotes HW6.out hgF hgS)
  dsimp only at HR0
  replace HK := Lib.hid (HK.out.set (p := ⟨F.g, 9, none⟩) (.inl (.inl rfl)) (at0 gv n.many))
  clear HR2 HW6
  generalize hw7 : World.setCell _ _ _ = w7 at *
  clear hw7
  have HM := Lib.hid HR0.out.st
  dsimp only [rmc] at HM
  have HV := Lib.hid HR0.out.v
  dsimp only at HV
  have hkw : IntKind.i64.wrap ((n.id : Int) - 1) = (n.id : Int) - 1 := by rw [IntKind.wrap_i64]; omega
  have hkn : ((n.id : Int) - 1).toNat = n.id - 1 := by omega
  have hki : (1 : Int) ≤ (n.id : Int) := by omega
  have hki2 : (n.id : Int) - 1 < (n.many : Int) := by omega
  refine z_start ((w7).drew.heap.size) [10] (by kernel_rfl) ?_
  have HC := Lib.hid (Below.refl ((w7).drew.heap.size) (w7).drew)
  have hBz : (w7).drew.heap.size ≤ (w7).drew.heap.size := Nat.le_refl _
  replace HM := Lib.hid (show Whole (w7).drew _ _ _ from HM.out)
  have hltM := HM.out.lt
  replace HV := Lib.hid (show Whole (w7).drew _ _ _ from HV.out)
  have hltV := HV.out.lt
  replace HK := Lib.hid (HK.out.trans (Below.kept (Below.refl _ _).drew))
  replace HR0 := Lib.hid (HR0.out.stay (Below.refl _ _).drew)
  generalize (w7).drew = y1 at *
  refine z_take (i := 0) (v := ?_) rfl (by kernel_rfl) (by kernel_rfl) (by kernel_rfl) (k0 := 0) (by kernel_rfl) (by kernel_rfl) (.inl rfl) (fun _ _ _ h => h) (by rfl) HC.out ?_ ?_
  rotate_left
  · intro W hW
    go_simp
    first | done | rfl
  simp only [Act.put, List.setIfInBounds_toArray, List.set_cons_zero, List.set_cons_succ, List.getElem_toArray, List.getElem_cons_zero, List.getElem_cons_succ]
  refine z_take (i := 1) (v := ?_) rfl (by kernel_rfl) (by kernel_rfl) (by kernel_rfl) (k0 := 1) (by kernel_rfl) (by kernel_rfl) (.inl rfl) (fun _ _ _ h => h) (by rfl) HC.out ?_ ?_
  rotate_left
  · intro W hW
    go_simp
    first | done | rfl
  simp only [Act.put, List.setIfInBounds_toArray, List.set_cons_zero, List.set_cons_succ, List.getElem_toArray, List.getElem_cons_zero, List.getElem_cons_succ]
  refine z_take (i := 2) (v := ?_) rfl (by kernel_rfl) (by kernel_rfl) (by kernel_rfl) (k0 := 2) (by kernel_rfl) (by kernel_rfl) (.inl rfl) (fun _ _ _ h => h) (by rfl) HC.out ?_ ?_
  rotate_left
  · intro W hW
    go_simp
    first | done | rfl
  simp only [Act.put, List.setIfInBounds_toArray, List.set_cons_zero, List.set_cons_succ, List.getElem_toArray, List.getElem_cons_zero, List.getElem_cons_succ]
  refine z_take (i := 3) (v := ?_) rfl (by kernel_rfl) (by kernel_rfl) (by kernel_rfl) (k0 := 3) (by kernel_rfl) (by kernel_rfl) (.inl rfl) (fun _ _ _ h => h) (by rfl) HC.out ?_ ?_
  rotate_left
  · intro W hW
    obtain ⟨k0, k1, k2, k3, k4, k5, k6, k7, k8, k9, k10, k11⟩ := (HM.out.below hW hltM).c12
    go_simp
    first | done | rfl
  simp only [Act.put, List.setIfInBounds_toArray, List.set_cons_zero, List.set_cons_succ, List.getElem_toArray, List.getElem_cons_zero, List.getElem_cons_succ]
  refine z_take (i := 4) (v := ?_) rfl (by kernel_rfl) (by kernel_rfl) (by kernel_rfl) (k0 := 4) (by kernel_rfl) (by kernel_rfl) (.inl rfl) (fun _ _ _ h => h) (by rfl) HC.out ?_ ?_
  rotate_left
  · intro W hW
    go_simp
    first | done | rfl
  simp only [Act.put, List.setIfInBounds_toArray, List.set_cons_zero, List.set_cons_succ, List.getElem_toArray, List.getElem_cons_zero, List.getElem_cons_succ]
  refine z_take (i := 5) (v := ?_) rfl (by kernel_rfl) (by kernel_rfl) (by kernel_rfl) (k0 := 5) (by kernel_rfl) (by kernel_rfl) (.inl rfl) (fun _ _ _ h => h) (by rfl) HC.out ?_ ?_
  rotate_left
  · intro W hW
    go_simp
    first | done | rfl
  simp only [Act.put, List.setIfInBounds_toArray, List.set_cons_zero, List.set_cons_succ, List.getElem_toArray, List.getElem_cons_zero, List.getElem_cons_succ]
  refine z_take (i := 6) (v := ?_) rfl (by kernel_rfl) (by kernel_rfl) (by kernel_rfl) (k0 := 6) (by kernel_rfl) (by kernel_rfl) (.inl rfl) (fun _ _ _ h => h) (by rfl) HC.out ?_ ?_
  rotate_left
  · intro W hW
    go_simp
    first | done | rfl
  simp only [Act.put, List.setIfInBounds_toArray, List.set_cons_zero, List.set_cons_succ, List.getElem_toArray, List.getElem_cons_zero, List.getElem_cons_succ]
  refine z_take (i := 7) (v := ?_) rfl (by kernel_rfl) (by kernel_rfl) (by kernel_rfl) (k0 := 7) (by kernel_rfl) (by kernel_rfl) (.inl rfl) (fun _ _ _ h => h) (by rfl) HC.out ?_ ?_
  rotate_left
  · intro W hW
    obtain ⟨k0, k1, k2, k3, k4, k5, k6, k7, k8, k9, k10, k11⟩ := (HM.out.below hW hltM).c12
    go_simp
    first | done | rfl
  simp only [Act.put, List.setIfInBounds_toArray, List.set_cons_zero, List.set_cons_succ, List.getElem_toArray, List.getElem_cons_zero, List.getElem_cons_succ]
  refine z_take (i := 8) (v := ?_) rfl (by kernel_rfl) (by kernel_rfl) (by kernel_rfl) (k0 := 8) (by kernel_rfl) (by kernel_rfl) (.inl rfl) (fun _ _ _ h => h) (by rfl) HC.out ?_ ?_
  rotate_left
  · intro W hW
    go_simp
    first | done | rfl
  simp only [Act.put, List.setIfInBounds_toArray, List.set_cons_zero, List.set_cons_succ, List.getElem_toArray, List.getElem_cons_zero, List.getElem_cons_succ]
  refine z_take (i := 9) (v := ?_) rfl (by kernel_rfl) (by kernel_rfl) (by kernel_rfl) (k0 := 9) (by kernel_rfl) (by kernel_rfl) (.inl rfl) (fun _ _ _ h => h) (by rfl) HC.out ?_ ?_
  rotate_left
  · intro W hW
    go_simp
    first | done | rfl
  simp only [Act.put, List.setIfInBounds_toArray, List.set_cons_zero, List.set_cons_succ, List.getElem_toArray, List.getElem_cons_zero, List.getElem_cons_succ]
  refine z_one (i := 10) (by kernel_rfl) ?_
  have kn := (HV.out.below HC.out hltV).rowB (n.id - 1) (by simp; omega)
  have fn := (HV.out.below HC.out hltV).free (n.id - 1)
  refine onez_skip (i := 10) (w' := ?_) rfl (by rfl) ?_ ?_ ?_
  rotate_left 1
  · go_simp
    first | done | rfl
  · exact fun h => absurd (by decide) h
  simp only [Act.put, List.setIfInBounds_toArray, List.set_cons_zero, List.set_cons_succ, List.getElem_toArray, List.getElem_cons_zero, List.getElem_cons_succ]
  clear kn fn
  refine z_done (by kernel_rfl) ?_
  replace HR0 := Lib.hid ((HR0.out.stay HC.out).setV (n.id - 1) true)
  dsimp only at HR0
  have HR1 := Lib.hid (show RMem n { F with gv := gv } (fun b => S b ∧ b < w.heap.size) _ (Rf.stand n s) A c from HR0.out)
  replace HK := Lib.hid ((HK.out.trans (Below.kept HC.out)).mono (D' := fun b => F.has b ∨ w.heap.size ≤ b) (fun b _ hb => .inl hb) |>.set (p := ⟨gv, n.id - 1, none⟩) (.inl (.inr hz5)) (.bool true))
  clear HC hBz HM hltM HV hltV HR0
  go_simp
  generalize hw8 : World.setCell _ _ _ = w8 at *
  clear hw8
  have hK2 : Kept F.has w w8 := ⟨HK.out.os, HK.out.tape, HK.out.output, HK.out.size, fun b hb hn => HK.out.block b hb (fun hh => hh.elim hn (fun h => by omega))⟩
  replace HK := Lib.hid hK2
  clear hK2
  have hF2 : ∀ b, ({ F with gv := gv } : Foot).has b → F.has b ∨ w.heap.size ≤ b := fun b hb => by
    rcases hb with hb | hb | hb | hb
    · exact .inl (.inl hb)
    · subst hb; exact .inr hz5
    · exact .inl (.inr (.inr (.inl hb)))
    · exact .inl (.inr (.inr (.inr hb)))
  have HF2 := Lib.hid hF2
  have hF2lt := Foot.lt HR1.out
  have HF2L := Lib.hid hF2lt
  clear hF2 hF2lt
  generalize hF3 : ({ F with gv := gv } : Foot) = F2 at *
  have HG2 := Lib.hid (show F2.g = F.g by rw [← hF3])
  clear hF3
  have HMJ := Lib.hid (rmaj_any (n.many : Int) (by omega) w8)
  rw [Qr.maj_all] at HMJ
  generalize hsd : Rf.stand n s = sd at *
  have HSD := Lib.hid (show 1 ≤ sd.b.1 by rw [← hsd]; show 1 ≤ s.b.1 + 1; omega)
  clear hsd
  have hFg := HG2.out
  rw [← hFg]
  clear hFg
  have hst := HR1.out.st
  dsimp only [rmc] at hst
  obtain ⟨k0, k1, k2, k3, k4, k5, k6, k7, k8, k9, k10, k11⟩ := hst.c12
  clear hst
  have HR2 := Lib.hid (fun W (hb : Below w8.heap.size w8 W) => HR1.out.stay hb)
  go_wp2_with fail
  with_reducible refine HMJ.out.mono ?_
  rintro e w9 ⟨rfl, rfl⟩
  have hz8 := HK.out.size
  clear HMJ k0 k1 k2 k3 k4 k5 k6 k7 k8 k9 k10 k11
  by_cases hm1 : n.many / 2 + 1 = 1
  · have ht : Rf.timeout n s = Rf.lead n sd := by rw [HT.out, if_pos hm1]
    have HT2 := Lib.hid ht
    have e5 : (((n.many / 2 + 1 : Nat) : Int) == 1) = true := by simp; omega
    have HLD := Lib.hid (rlead_any n F2 _ sd HGS.out HSD.out A c w8 HR1.out)
    clear ht HT hm1 HR2
    generalize n.many / 2 + 1 = mj at *
    go_wp2_with fail
    refine HLD.out.mono ?_
    rintro e w9 ⟨v9, rfl, hv9, ⟨A9, c9, hr9⟩, hk9⟩
    have HV := Lib.hid (SlS.wide hv9 (fun b hb _ => Nat.le_trans hz8 hb) : MsgsOut w _ v9 w9)
    have HR9 := Lib.hid hr9
    have HK9 := Lib.hid hk9
    clear hv9 hr9 hk9 HLD
    go_wp2_with fail
    go_ret
    rw [HT2.out]
    refine ⟨v9, rfl, HV.out, F2, A9, c9, HG2.out, HF2.out, HR9.out.wide (fun b hb _ => ⟨hb.imp (fun h => h.1) (fun h => Nat.le_trans hz8 h), HR9.out.off b hb⟩) (fun b hb => hb.2), HK.out.join HK9.out (fun b hb hd => ?_)⟩
    rcases HF2.out b hd with h | h
    · exact h
    · omega
  · have ht : Rf.timeout n s = (sd, Rf.each n (Rf.ask n sd) n.many) := by rw [HT.out, if_neg hm1]
    have HT2 := Lib.hid ht
    have e5 : (((n.many / 2 + 1 : Nat) : Int) == 1) = false := by simp; omega
    clear ht HT hm1 HSD
    generalize n.many / 2 + 1 = mj at *
    have HFIT := Lib.hid (fun k (hk : k ≤ n.many) => Rf.ask_fit HGS.out hk)
    have H0 := Lib.hid (show Rf.each n (Rf.ask n sd) 0 = [] from rfl)
    have HME := Lib.hid (fun k => @Rf.each_me n (Rf.ask n sd) k)
    have HOT := Lib.hid (fun k => @Rf.each_other n (Rf.ask n sd) k)
    have HEL := Lib.hid (fun k => Rf.each_len n (Rf.ask n sd) k)
    have HQK := Lib.hid (fun k => show Rf.ask n sd k = (0, (n.id : Int), (k : Int), sd.b.1, (Rf.last sd).1, (Rf.last sd).2, 0, false, []) from rfl)
    have HLS := Lib.hid (fun W (hb : Below w8.heap.size w8 W) => rlast_any 0 0 _ sd.l W W.heap.size (Nat.le_refl _) (HR2.out W hb).sl)
    have HMS := Lib.hid (fun W k (hb : Below w8.heap.size w8 W) => rmsg_any n F2 _ sd A c W (HR2.out W hb) 0 k)
    unfold Rf.last Rf.lg at HQK
    generalize Lg.last (0, 0, sd.l) = q at *
    obtain ⟨q1, q2⟩ := q
    simp only at HLS HQK
    generalize Rf.each n (Rf.ask n sd) = ea at *
    generalize Rf.ask n sd = f at *
    clear HR1
    go_wp2_with fail
    go_loopw [3, 4] (fun ov kv wr => ∃ (j : Nat) (S2 : Nat → Prop), j ≤ n.many ∧ kv = .int .i64 ((j : Int) + 1) ∧ Hid (OwnS (α := M) wr w8.heap.size S2 41 ov (ea j)) ∧ Hid (∀ b, S2 b → w8.heap.size ≤ b ∧ b < wr.heap.size) ∧ Hid (Below w8.heap.size w8 wr)) (fun _ kv _ => n.many + 1 - (intOf kv).toNat)
    case atStart => exact ⟨0, fun _ => False, Nat.zero_le _, rfl, by rw [H0.out]; exact OwnS.nil _ _ _ _, fun _ h => h.elim, Below.refl _ _⟩
    case round =>
      obtain ⟨j, S2, hj, rfl, ho, hS2, hb⟩ := hrel
      have HB := Lib.hid hb.out
      have hz := hb.out.size
      clear hb
      have hst := (HR2.out _ HB.out).st
      dsimp only [rmc] at hst
      obtain ⟨k0, k1, k2, k3, k4, k5, k6, k7, k8, k9, k10, k11⟩ := hst.c12
      clear hst
      by_cases hlt : j < n.many
      · have hle : ((j : Int) + 1 ≤ (n.many : Int)) := by omega
        by_cases hme : j + 1 = n.id
        · have hne : (((j : Int) + 1) == (n.id : Int)) = true := by simp; omega
          have he := HME.out j hme
          clear hme
          go_wp2_with fail
          go_roundw
          case rel => exact ⟨j + 1, S2, by omega, by go_num, by rw [he]; exact ho, hS2, HB⟩
          case measure => simp [intOf]; omega
        · have hne : (((j : Int) + 1) == (n.id : Int)) = false := by simp; omega
          have he := Lib.hid (HOT.out j hme)
          have hfit := HFIT.out (j + 1) (by omega)
          have hlen := HEL.out j
          have hqk := HQK.out (j + 1)
          have hcast : ((j + 1 : Nat) : Int) = (j : Int) + 1 := by omega
          rw [hcast] at hqk
          rw [hqk] at hfit
          rw [hqk] at he
          clear hme HOT HME HEL HFIT hqk
          generalize hel : (ea j).length = nl at *
          have HELL := Lib.hid hel
          clear hel
          go_wp2_with fail
          refine (HMS.out _ ((j : Int) + 1) HB.out).mono ?_
          rintro e w10 ⟨rfl, hb2⟩
          have hz2 := hb2.size
          have hS3 : ∀ b, S2 b → b < w10.heap.size := fun b hb => Nat.lt_of_lt_of_le (hS2.out b hb).2 hz2
          have hlo : ∀ b, u3.ownBlock = some b → b < w10.heap.size := fun b hb => Nat.lt_of_lt_of_le (ho.out.lt b hb).2 hz2
          have HB2 := Lib.hid ((HB.out.trans (hb2.mono hz)).alloc (Nat.le_trans hz hz2) (.cells (mc 0 (n.id : Int) ((j : Int) + 1) sd.b.1 0 0 0 false (.slice none 0 0)) 41))
          have HO2 := Lib.hid ((ho.out.below hb2).below ((Below.refl _ _).alloc (Nat.le_refl _) (.cells (mc 0 (n.id : Int) ((j : Int) + 1) sd.b.1 0 0 0 false (.slice none 0 0)) 41)))
          have HX := Lib.hid (Whole.new w10 41 (mc 0 (n.id : Int) ((j : Int) + 1) sd.b.1 0 0 0 false (.slice none 0 0)))
          clear ho hb2 HB HMS k0 k1 k2 k3 k4 k5 k6 k7 k8 k9 k10 k11
          have hst := (HR2.out _ HB2.out).st
          dsimp only [rmc] at hst
          obtain ⟨k0, k1, k2, k3, k4, k5, k6, k7, k8, k9, k10, k11⟩ := hst.c12
          clear hst
          go_wp2_with fail
          with_reducible refine (HLS.out _ HB2.out).mono ?_
          rintro e w11 ⟨rfl, hb3⟩
          have hb3z := hb3.size
          have hB3 := HB2.out.trans (hb3.mono HB2.out.size)
          replace HX := Lib.hid (HX.out.below hb3 HX.out.lt)
          replace HO2 := Lib.hid (HO2.out.below hb3)
          have HB3 := Lib.hid hB3
          rw [World.size_alloc] at hb3z
          clear hb3 hB3 HB2 HLS k0 k1 k2 k3 k4 k5 k6 k7 k8 k9 k10 k11
          generalize hg5 : w10.heap.size = g5 at *
          clear hg5
          have HX1 := Lib.hid (Whole.setTo HX.out 4 (.int .i64 q1) (cs2 := mc 0 (n.id : Int) ((j : Int) + 1) sd.b.1 q1 0 0 false (.slice none 0 0)) rfl)
          have HX2 := Lib.hid (Whole.setTo HX1.out 5 (.int .i64 q2) (cs2 := mc 0 (n.id : Int) ((j : Int) + 1) sd.b.1 q1 q2 0 false (.slice none 0 0)) rfl)
          obtain ⟨cq0, cq1, cq2, cq3, cq4, cq5, cq6, cq7, cq8⟩ := HX.out.c9
          obtain ⟨f0, f1, f2, f3, f4, f5, f6, f7, f8⟩ := HX.out.f9
          obtain ⟨p0, p1, p2, p3, p4, p5, p6, p7, p8⟩ := HX1.out.c9
          obtain ⟨e0, e1, e2, e3, e4, e5, e6, e7, e8⟩ := HX1.out.f9
          obtain ⟨r0, r1, r2, r3, r4, r5, r6, r7, r8⟩ := HX2.out.c9
          have hnb : u3.ownBlock ≠ some g5 := fun hb => by have := hlo _ hb; omega
          have hns : ¬ S2 g5 := fun hb => by have := hS3 _ hb; omega
          have HO3 := Lib.hid ((HO2.out.far (p := ⟨g5, 4, none⟩) hnb hns (.int .i64 q1)).far (p := ⟨g5, 5, none⟩) hnb hns (.int .i64 q2))
          have HB4 := Lib.hid (((HB3.out.setCell (p := ⟨g5, 4, none⟩) (show w8.heap.size ≤ g5 by omega) (.int .i64 q1)).setCell (p := ⟨g5, 5, none⟩) (show w8.heap.size ≤ g5 by omega) (.int .i64 q2)))
          have hsrc := SlS.new1 ((w11.setCell ⟨g5, 4, none⟩ (.int .i64 q1)).setCell ⟨g5, 5, none⟩ (.int .i64 q2)) 41 (0, (n.id : Int), (j : Int) + 1, sd.b.1, q1, q2, 0, false, []) (mcx (0, (n.id : Int), (j : Int) + 1, sd.b.1, q1, q2, 0, false, []) (.slice none 0 0)) (fits_msg hfit (SlS.nil _ (fun _ => False)))
          have HS := Lib.hid hsrc
          have hsz11 : ((w11.setCell ⟨g5, 4, none⟩ (.int .i64 q1)).setCell ⟨g5, 5, none⟩ (.int .i64 q2)).heap.size = w11.heap.size := by simp
          rw [hsz11] at HS
          have HO4 := Lib.hid (HO3.out.below ((Below.refl _ _).alloc (Nat.le_refl _) (.cells (mcx (0, (n.id : Int), (j : Int) + 1, sd.b.1, q1, q2, 0, false, []) (.slice none 0 0)) 41)))
          have HB5 := Lib.hid (HB4.out.alloc (by rw [hsz11]; omega) (.cells (mcx (0, (n.id : Int), (j : Int) + 1, sd.b.1, q1, q2, 0, false, []) (.slice none 0 0)) 41))
          clear hsrc HX HX1 HX2 HO2 HO3 HB3 HB4
          go_wp2_with (at_builtin; refine wpList_append_slS rfl _ (.tmp 95) rfl rowM w8.heap.size S2 _ _ (ea j) rfl HO4.out _ [(0, (n.id : Int), (j : Int) + 1, sd.b.1, q1, q2, 0, false, [])] rfl HS.out ?h1 ?h2 ?h3 ?h4 ?h5)
          case h1 => intro b hb hb2; have := hlo _ hb2; rcases hb with hb | hb
                     · exact hb.1.elim
                     · omega
          case h2 => rw [HELL.out]; unfold maxLen; simp; omega
          case h3 => rw [HELL.out]; simp; omega
          case h4 => rw [World.size_alloc, hsz11]; omega
          intro v3 w3 hown3 hg3 hat3
          have hb5 := below_of_ownS HB5.out HO4.out hg3 (by rw [World.size_alloc, hsz11]; omega)
          have hg3z := hg3.size
          have HO5 := Lib.hid hown3
          have HB6 := Lib.hid hb5
          clear hown3 hg3 hat3 hb5 HO4 HB5
          go_wp2_with fail
          go_roundw
          case rel =>
            have hoo := HO5.out
            rw [← he.out] at hoo
            refine ⟨j + 1, _, by omega, by go_num, hoo, ?_, HB6⟩
            intro b hb
            have hb1 := hb.1
            have hb2 := hb.2
            simp only [World.size_alloc, hsz11] at hb2 hg3z
            refine ⟨?_, by omega⟩
            rcases hb1 with hb1 | hb1
            · exact (hS2.out b hb1).1
            · omega
          case measure => simp [intOf]; omega
      · obtain rfl : j = n.many := by omega
        have hle : decide ((n.many : Int) + 1 ≤ (n.many : Int)) = false := by simp; omega
        have HRF := Lib.hid (HR2.out _ HB.out)
        have HV := Lib.hid (ho.out.slS.wide (T := (w.heap.size ≤ ·)) (fun b hb _ => by
          rcases hb with hb | hb
          · exact Nat.le_trans hz8 (hS2.out b hb).1
          · exact Nat.le_trans hz8 (ho.out.lt b hb).1))
        have HKF := Lib.hid (HK.out.trans (Below.kept HB.out))
        clear ho hS2 HB
        go_wp2_with fail
        go_ret
        rw [HT2.out]
        exact ⟨_, rfl, HV.out, F2, A, c, HG2.out, HF2.out, HRF.out.wide (fun b hb _ => ⟨.inl hb.1, HRF.out.off b hb⟩) (fun b hb => hb.2), HKF.out⟩
end Go.Proofs.YtjcljkbalpgfdaaGreat

/-
  What the reference's voted answers and leaves.
-/


namespace Go.Proofs.YtjcljkbalpgfdaaGreat
open Go.RowKit

theorem stepTo_of {n : Rf.Id} {F : Foot} {S : Nat → Prop} {w w' : World} {s : Rf.St} {A : Option Addr} {c : Nat} (h : RMem n F (fun b => S b ∨ w.heap.size ≤ b) w' s A c) (hk : Kept F.has w w') : StepTo n F S w s w' :=
  ⟨F, A, c, rfl, fun _ hb => .inl hb, h.wide (fun b hb _ => ⟨hb, h.off b hb⟩) (fun _ hb => hb.2), hk⟩

set_option maxRecDepth 100000 in
set_option maxHeartbeats 1600000 in
theorem rvoted_any (n : Rf.Id) (F : Foot) (S : Nat → Prop) (s : Rf.St) (hg : Rf.Good n s) (A : Option Addr) (c : Nat) (w : World) (h : RMem n F S w s A c) (k f o t i u cm : Int) (y : Bool) (L : List E) (A2 : Option Addr) (n2 c2 : Nat) (hf : 1 ≤ f ∧ f ≤ n.many) :
    Calls Tryz.prog 49 #[.pointer (some ⟨F.g, 0, none⟩), .agg (mc k f o t i u cm y (.slice A2 n2 c2))] w fun e w' => ∃ v, e = .returned v ∧ MsgsOut w (Rf.voted n s (k, f, o, t, i, u, cm, y, L)).2 v w' ∧ StepTo n F S w (Rf.voted n s (k, f, o, t, i, u, cm, y, L)).1 w' := by
  have hFlt := Foot.lt h
  have HOFF := Lib.hid h.off
  have HB := Lib.hid ((Below.refl w.heap.size w).alloc (Nat.le_refl _) (.cells (mc k f o t i u cm y (.slice A2 n2 c2)) 41))
  have HX := Lib.hid (Whole.new w 41 (mc k f o t i u cm y (.slice A2 n2 c2)))
  have HRW := Lib.hid ((h.stay HB.out).wide (S' := fun b => S b ∨ w.heap.size ≤ b) (fun b hb _ => .inl hb) (fun b hb hf => by
    rcases hb with hb | hb
    · exact HOFF.out b hb hf
    · have := hFlt b hf; omega))
  have HR0 := Lib.hid (h.stay HB.out)
  have HK := Lib.hid (show Kept F.has w _ from Below.kept HB.out)
  have hid1 := hg.id1
  have hid2 := hg.id2
  have hmany := hg.many
  clear h
  have hst := HR0.out.st
  dsimp only [rmc] at hst
  obtain ⟨k0, k1, k2, k3, k4, k5, k6, k7, k8, k9, k10, k11⟩ := hst.c12
  obtain ⟨q0, q1, q2, q3, q4, q5, q6, q7, q8⟩ := HX.out.c9
  clear hst
  go_enter Tryz.func49, Tryz.ntmps49
  by_cases h1 : s.is = 1
  rotate_left
  · have hno : Rf.voted n s (k, f, o, t, i, u, cm, y, L) = (s, []) := by unfold Rf.voted; rw [if_pos (.inl h1)]
    have e1 : (s.is != 1) = true := by simpa using h1
    clear h1
    go_wp2_with fail
    go_quiet (fail)
    go_wp2_with fail
    go_ret
    rw [hno]
    exact ⟨_, rfl, msgsOut_nil _ _, stepTo_of (HRW.out.stay (below_drewN (Below.refl _ _) _)) (HK.out.trans (Below.kept (below_drewN (Below.refl _ _) _)))⟩
  have e1 : (s.is != 1) = false := by simpa using h1
  by_cases h2 : t = s.b.1
  rotate_left
  · have hno : Rf.voted n s (k, f, o, t, i, u, cm, y, L) = (s, []) := by unfold Rf.voted; rw [if_pos (.inr (.inl h2))]
    have e2 : (t != s.b.1) = true := by simpa using h2
    clear h2 h1
    go_wp2_with fail
    go_quiet (fail)
    go_wp2_with fail
    go_ret
    rw [hno]
    exact ⟨_, rfl, msgsOut_nil _ _, stepTo_of (HRW.out.stay (below_drewN (Below.refl _ _) _)) (HK.out.trans (Below.kept (below_drewN (Below.refl _ _) _)))⟩
  have e2 : (t != s.b.1) = false := by simpa using h2
  rcases y with _ | _
  · have hno : Rf.voted n s (k, f, o, t, i, u, cm, false, L) = (s, []) := by unfold Rf.voted; rw [if_pos (.inr (.inr rfl))]
    clear h2 h1
    go_wp2_with fail
    go_quiet (fail)
    go_wp2_with fail
    go_ret
    rw [hno]
    exact ⟨_, rfl, msgsOut_nil _ _, stepTo_of (HRW.out.stay (below_drewN (Below.refl _ _) _)) (HK.out.trans (Below.kept (below_drewN (Below.refl _ _) _)))⟩
  obtain ⟨sv, hsv⟩ : ∃ sv : Rf.St, sv = { s with votes := s.votes.set (f.toNat - 1) true } := ⟨_, rfl⟩
  have hyes : Rf.voted n s (k, f, o, t, i, u, cm, true, L) = if sv.votes.count true < n.many / 2 + 1 then (sv, []) else Rf.lead n sv := by rw [hsv]; unfold Rf.voted; rw [if_neg (by simp [h1, h2])]
  have HYES := Lib.hid hyes
  have hpos := hg.pos (by omega)
  have hgv : Rf.Good n sv := by rw [hsv]; exact { hg with votes := by show (List.set _ _ _).length = _; rw [List.length_set]; exact hg.votes }
  have HGV := Lib.hid hgv
  have HSVT := Lib.hid (show 1 ≤ sv.b.1 by rw [hsv]; exact hpos)
  have HSV := Lib.hid hsv
  have HVL0 := Lib.hid hg.votes
  clear hyes hgv h1 h2 hg HRW hpos hsv
  go_wp2_with fail
  go_quiet (fail)
  go_wp2_with fail
  clear k0 k1 k2 k3 k4 k5 k6 k7 k8 k9 k10 k11 q0 q1 q2 q3 q4 q5 q6 q7 q8
  replace HR0 := Lib.hid (HR0.out.stay (below_drewN (Below.refl _ _) nq))
  replace HX := Lib.hid (HX.out.below (below_drewN (Below.refl _ _) nq) HX.out.lt)
  replace HK := Lib.hid (HK.out.trans (Below.kept (below_drewN (Below.refl _ _) nq)))
  clear HB
  generalize hw4 : World.drewN _ nq = w4 at *
  clear hw4
  have HM := Lib.hid HR0.out.st
  dsimp only [rmc] at HM
  have HV := Lib.hid HR0.out.v
  have hkw : IntKind.i64.wrap (f - 1) = f - 1 := by rw [IntKind.wrap_i64]; omega
  have hf1 := hf.1
  have hki2 : f - 1 < (n.many : Int) := by omega
  refine z_start ((w4).drew.heap.size) [8] (by kernel_rfl) ?_
  have HC := Lib.hid (Below.refl ((w4).drew.heap.size) (w4).drew)
  have hBz : (w4).drew.heap.size ≤ (w4).drew.heap.size := Nat.le_refl _
  replace HM := Lib.hid (show Whole (w4).drew _ _ _ from HM.out)
  have hltM := HM.out.lt
  replace HX := Lib.hid (show Whole (w4).drew _ _ _ from HX.out)
  have hltX := HX.out.lt
  replace HV := Lib.hid (show Whole (w4).drew _ _ _ from HV.out)
  have hltV := HV.out.lt
  replace HK := Lib.hid (HK.out.trans (Below.kept (Below.refl _ _).drew))
  replace HR0 := Lib.hid (HR0.out.stay (Below.refl _ _).drew)
  generalize (w4).drew = z1 at *
  refine z_take (i := 0) (v := ?_) rfl (by kernel_rfl) (by kernel_rfl) (by kernel_rfl) (k0 := 0) (by kernel_rfl) (by kernel_rfl) (.inl rfl) (fun _ _ _ h => h) (by rfl) HC.out ?_ ?_
  rotate_left
  · intro W hW
    go_simp
    first | done | rfl
  simp only [Act.put, List.setIfInBounds_toArray, List.set_cons_zero, List.set_cons_succ, List.getElem_toArray, List.getElem_cons_zero, List.getElem_cons_succ]
  refine z_take (i := 1) (v := ?_) rfl (by kernel_rfl) (by kernel_rfl) (by kernel_rfl) (k0 := 1) (by kernel_rfl) (by kernel_rfl) (.inl rfl) (fun _ _ _ h => h) (by rfl) HC.out ?_ ?_
  rotate_left
  · intro W hW
    go_simp
    first | done | rfl
  simp only [Act.put, List.setIfInBounds_toArray, List.set_cons_zero, List.set_cons_succ, List.getElem_toArray, List.getElem_cons_zero, List.getElem_cons_succ]
  refine z_take (i := 2) (v := ?_) rfl (by kernel_rfl) (by kernel_rfl) (by kernel_rfl) (k0 := 2) (by kernel_rfl) (by kernel_rfl) (.inl rfl) (fun _ _ _ h => h) (by rfl) HC.out ?_ ?_
  rotate_left
  · intro W hW
    go_simp
    first | done | rfl
  simp only [Act.put, List.setIfInBounds_toArray, List.set_cons_zero, List.set_cons_succ, List.getElem_toArray, List.getElem_cons_zero, List.getElem_cons_succ]
  refine z_take (i := 3) (v := ?_) rfl (by kernel_rfl) (by kernel_rfl) (by kernel_rfl) (k0 := 3) (by kernel_rfl) (by kernel_rfl) (.inl rfl) (fun _ _ _ h => h) (by rfl) HC.out ?_ ?_
  rotate_left
  · intro W hW
    obtain ⟨k0, k1, k2, k3, k4, k5, k6, k7, k8, k9, k10, k11⟩ := (HM.out.below hW hltM).c12
    go_simp
    first | done | rfl
  simp only [Act.put, List.setIfInBounds_toArray, List.set_cons_zero, List.set_cons_succ, List.getElem_toArray, List.getElem_cons_zero, List.getElem_cons_succ]
  refine z_take (i := 4) (v := ?_) rfl (by kernel_rfl) (by kernel_rfl) (by kernel_rfl) (k0 := 4) (by kernel_rfl) (by kernel_rfl) (.inl rfl) (fun _ _ _ h => h) (by rfl) HC.out ?_ ?_
  rotate_left
  · intro W hW
    go_simp
    first | done | rfl
  simp only [Act.put, List.setIfInBounds_toArray, List.set_cons_zero, List.set_cons_succ, List.getElem_toArray, List.getElem_cons_zero, List.getElem_cons_succ]
  refine z_take (i := 5) (v := ?_) rfl (by kernel_rfl) (by kernel_rfl) (by kernel_rfl) (k0 := 5) (by kernel_rfl) (by kernel_rfl) (.inl rfl) (fun _ _ _ h => h) (by rfl) HC.out ?_ ?_
  rotate_left
  · intro W hW
    obtain ⟨q0, q1, q2, q3, q4, q5, q6, q7, q8⟩ := (HX.out.below hW hltX).c9
    go_simp
    first | done | rfl
  simp only [Act.put, List.setIfInBounds_toArray, List.set_cons_zero, List.set_cons_succ, List.getElem_toArray, List.getElem_cons_zero, List.getElem_cons_succ]
  refine z_take (i := 6) (v := ?_) rfl (by kernel_rfl) (by kernel_rfl) (by kernel_rfl) (k0 := 6) (by kernel_rfl) (by kernel_rfl) (.inl rfl) (fun _ _ _ h => h) (by rfl) HC.out ?_ ?_
  rotate_left
  · intro W hW
    go_simp
    first | done | rfl
  simp only [Act.put, List.setIfInBounds_toArray, List.set_cons_zero, List.set_cons_succ, List.getElem_toArray, List.getElem_cons_zero, List.getElem_cons_succ]
  refine z_take (i := 7) (v := ?_) rfl (by kernel_rfl) (by kernel_rfl) (by kernel_rfl) (k0 := 7) (by kernel_rfl) (by kernel_rfl) (.inl rfl) (fun _ _ _ h => h) (by rfl) HC.out ?_ ?_
  rotate_left
  · intro W hW
    go_simp
    first | done | rfl
  simp only [Act.put, List.setIfInBounds_toArray, List.set_cons_zero, List.set_cons_succ, List.getElem_toArray, List.getElem_cons_zero, List.getElem_cons_succ]
  refine z_one (i := 8) (by kernel_rfl) ?_
  have kn := (HV.out.below HC.out hltV).rowB (f.toNat - 1) (by rw [HVL0.out]; omega)
  have fn := (HV.out.below HC.out hltV).free (f.toNat - 1)
  refine onez_skip (i := 8) (w' := ?_) rfl (by rfl) ?_ ?_ ?_
  rotate_left 1
  · go_simp
    first | done | rfl
  · exact fun h => absurd (by decide) h
  simp only [Act.put, List.setIfInBounds_toArray, List.set_cons_zero, List.set_cons_succ, List.getElem_toArray, List.getElem_cons_zero, List.getElem_cons_succ]
  clear kn fn
  refine z_done (by kernel_rfl) ?_
  replace HR0 := Lib.hid ((HR0.out.stay HC.out).setV (f.toNat - 1) true)
  replace HK := Lib.hid ((HK.out.trans (Below.kept HC.out)).set (p := ⟨F.gv, (f.toNat - 1), none⟩) (.inl (.inr (.inl rfl))) (.bool true))
  clear HC hBz HM hltM HX hltX HV hltV
  go_simp
  generalize hw8 : World.setCell _ _ _ = w8 at *
  clear hw8
  rw [← HSV.out] at HR0
  have HVL := Lib.hid HGV.out.votes
  have HR2 := Lib.hid HR0.out
  clear HR0
  go_wp2_with fail
  obtain ⟨cnt, hcnt⟩ : ∃ cnt : Nat → Nat, cnt = fun j => (sv.votes.take j).count true := ⟨_, rfl⟩
  have HC0 := Lib.hid (show cnt 0 = 0 by rw [hcnt]; rfl)
  have HCE := Lib.hid (show cnt n.many = sv.votes.count true by rw [hcnt, ← HVL.out]; simp)
  have HCL := Lib.hid (fun j => show cnt j ≤ j by rw [hcnt]; exact Nat.le_trans List.count_le_length (by simp; omega))
  have HCS := Lib.hid (fun j (hj : j < n.many) => show cnt (j + 1) = cnt j + if sv.votes[j]?.getD false = true then 1 else 0 by
    rw [hcnt]
    have hjv : j < sv.votes.length := by rw [HVL.out]; exact hj
    show (sv.votes.take (j + 1)).count true = (sv.votes.take j).count true + _
    rw [List.take_add_one, List.count_append, List.getElem?_eq_getElem hjv]
    cases hv : sv.votes[j] <;> simp)
  clear hcnt
  go_loopw [5, 6] (fun cv kv wr => ∃ (j : Nat), j ≤ n.many ∧ kv = .int .i64 (j : Int) ∧ cv = .int .i64 ((cnt j : Nat) : Int) ∧ w8 = wr) (fun _ kv _ => n.many - (intOf kv).toNat)
  case atStart => exact ⟨0, Nat.zero_le _, rfl, by rw [HC0.out]; rfl, rfl⟩
  case round =>
    obtain ⟨j, hj, rfl, rfl, rfl⟩ := hrel
    have hst := HR2.out.st
    dsimp only [rmc] at hst
    obtain ⟨k0, k1, k2, k3, k4, k5, k6, k7, k8, k9, k10, k11⟩ := hst.c12
    clear hst
    by_cases hlt : j < n.many
    · have hjv : j < sv.votes.length := by rw [HVL.out]; exact hlt
      have kv := HR2.out.v.rowB j hjv
      have htk := HCS.out j hlt
      have hcl := HCL.out j
      clear hjv
      generalize sv.votes[j]?.getD false = bb at *
      rcases bb with _ | _
      · have hc1 : cnt (j + 1) = cnt j := by simpa using htk
        clear htk
        go_wp2_with fail
        go_roundw
        case rel => exact ⟨j + 1, by omega, by go_num, by rw [hc1], trivial⟩
        case measure => simp [intOf]; omega
      · have hc1 : cnt (j + 1) = cnt j + 1 := by simpa using htk
        clear htk
        generalize hcj : cnt j = c0 at *
        go_wp2_with fail
        go_roundw
        case rel => exact ⟨j + 1, by omega, by go_num, by rw [hc1]; go_num, trivial⟩
        case measure => simp [intOf]; omega
    · obtain rfl : j = n.many := by omega
      have hce := HCE.out
      have HMJ := Lib.hid (rmaj_any (n.many : Int) (by omega) w8)
      rw [Qr.maj_all] at HMJ
      have hyes := HYES.out
      rw [← hce] at hyes
      have HY := Lib.hid hyes
      have hcl := HCL.out n.many
      have hmj : n.many / 2 + 1 ≤ 16 := by omega
      clear hyes HYES hce HCE HCS HC0 HCL
      generalize n.many / 2 + 1 = mj at *
      generalize cnt n.many = cn at *
      go_wp2_with fail
      with_reducible refine HMJ.out.mono ?_
      rintro e w9 ⟨rfl, rfl⟩
      by_cases hm1 : cn < mj
      · have hno := HY.out
        rw [if_pos hm1] at hno
        have HNO := Lib.hid hno
        clear hno HY
        go_wp2_with fail
        go_ret
        rw [HNO.out]
        exact ⟨_, rfl, msgsOut_nil _ _, stepTo_of (HR2.out.wide (fun b hb _ => .inl hb) (fun b hb hf => by
          rcases hb with hb | hb
          · exact HOFF.out b hb hf
          · have := hFlt b hf; omega)) HK.out⟩
      · have hno := HY.out
        rw [if_neg hm1] at hno
        have HNO := Lib.hid hno
        have e5 : decide (cn < mj) = false := by simpa using hm1
        have HLD := Lib.hid (rlead_any n F S sv HGV.out HSVT.out A c w8 HR2.out)
        have hz8 := HK.out.size
        clear hno HY hm1
        go_wp2_with fail
        refine HLD.out.mono ?_
        rintro e w9 ⟨v9, rfl, hv9, ⟨A9, c9, hr9⟩, hk9⟩
        have HV9 := Lib.hid (SlS.wide hv9 (fun b hb _ => Nat.le_trans hz8 hb) : MsgsOut w _ v9 w9)
        have HR9 := Lib.hid hr9
        have HK9 := Lib.hid (HK.out.trans hk9)
        clear hv9 hr9 hk9 HLD
        go_wp2_with fail
        go_ret
        rw [HNO.out]
        exact ⟨v9, rfl, HV9.out, stepTo_of (HR9.out.wide (fun b hb _ => hb.imp id (fun h => Nat.le_trans hz8 h)) (fun b hb hf => by
          rcases hb with hb | hb
          · exact HOFF.out b hb hf
          · have := hFlt b hf; omega)) HK9.out⟩
end Go.Proofs.YtjcljkbalpgfdaaGreat
