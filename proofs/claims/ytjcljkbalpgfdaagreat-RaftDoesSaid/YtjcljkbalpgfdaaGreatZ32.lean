/-
  Parts that the statement rests on, joined: Rhear.
-/
import Derived.Test.YtjcljkbalpgfdaaGreatZ21
import Derived.Test.YtjcljkbalpgfdaaGreatZ31
import Derived.BigQuiet
/-
  What the reference's Hear answers and leaves.
-/



namespace Go.Proofs.YtjcljkbalpgfdaaGreat
open Go.RowKit

theorem StepTo.from_ {n : Rf.Id} {F : Foot} {S S2 : Nat → Prop} {w w2 w' : World} {s : Rf.St} (h : StepTo n F S2 w2 s w') (hk : Kept F.has w w2) (hS : ∀ b, S2 b → S b) : StepTo n F S w s w' := by
  obtain ⟨F', A, c, h1, h2, h3, h4⟩ := h
  have hz := hk.size
  refine ⟨F', A, c, h1, fun b hb => (h2 b hb).imp id (fun h => Nat.le_trans hz h), h3.wide (fun b hb _ => ⟨hb.1.imp (hS b) (fun h => Nat.le_trans hz h), hb.2⟩) (fun b hb => hb.2), hk.trans h4⟩
set_option maxRecDepth 100000 in
set_option maxHeartbeats 4000000 in
theorem rhear_any (n : Rf.Id) (F : Foot) (S : Nat → Prop) (s : Rf.St) (hg : Rf.Good n s) (A : Option Addr) (c : Nat) (w : World) (h : RMem n F S w s A c) (k f o t i u cm : Int) (y : Bool) (L : List E) (A2 : Option Addr) (n2 c2 : Nat) (hii : -9223372036854775808 ≤ i ∧ i ≤ 9223372036854775807) (hLl : L.length ≤ 100000) (hL : SlS w S (.slice A2 n2 c2) L) :
    Calls Tryz.prog 27 #[.pointer (some ⟨F.g, 0, none⟩), .agg (mc k f o t i u cm y (.slice A2 n2 c2))] w fun e w' => ∃ v, e = .returned v ∧ MsgsOut w (Rf.hear n s (k, f, o, t, i, u, cm, y, L)).2 v w' ∧ StepTo n F S w (Rf.hear n s (k, f, o, t, i, u, cm, y, L)).1 w' := by
  have hFlt := Foot.lt h
  have HOFF := Lib.hid h.off
  have HB := Lib.hid ((Below.refl w.heap.size w).alloc (Nat.le_refl _) (.cells (mc k f o t i u cm y (.slice A2 n2 c2)) 41))
  have HX := Lib.hid (Whole.new w 41 (mc k f o t i u cm y (.slice A2 n2 c2)))
  have HR0 := Lib.hid (h.here.stay HB.out)
  have HK := Lib.hid (show Kept F.has w _ from Below.kept HB.out)
  have HLS := Lib.hid (show SlS w (fun b => S b ∧ b < w.heap.size) (.slice A2 n2 c2) L from hL.wide (fun b hb hlt => ⟨hb, hlt⟩))
  have hid1 := hg.id1
  have hid2 := hg.id2
  have hmany := hg.many
  have hXg : w.heap.size ≠ F.g := fun hh => by have := hFlt F.g (.inl rfl); omega
  clear h hL
  have hst := HR0.out.st
  dsimp only [rmc] at hst
  obtain ⟨k0, k1, k2, k3, k4, k5, k6, k7, k8, k9, k10, k11⟩ := hst.c12
  obtain ⟨q0, q1, q2, q3, q4, q5, q6, q7, q8⟩ := HX.out.c9
  clear hst
  go_enter Tryz.func27, Tryz.ntmps27
  by_cases h : o ≠ (n.id : Int)
  · have hno : Rf.hear n s (k, f, o, t, i, u, cm, y, L) = (s, []) := if_neg (fun hm => h hm.1)
    have ee : (o != (n.id : Int)) = true := by simpa using h
    clear h
    go_wp2_with fail
    go_quiet (fail)
    go_wp2_with fail
    go_ret
    rw [hno]
    exact ⟨_, rfl, msgsOut_nil _ _, stepTo_of ((HR0.out.stay (below_drewN (Below.refl _ _) _)).wide (fun b hb _ => .inl hb.1) (fun b hb hf => by
      rcases hb with hb | hb
      · exact HOFF.out b hb hf
      · have := hFlt b hf; omega)) (HK.out.trans (Below.kept (below_drewN (Below.refl _ _) _)))⟩
  have hn0 := Lib.hid h
  have ee0 : (o != (n.id : Int)) = false := by simpa using h
  clear h
  by_cases h : f = (n.id : Int)
  · have hno : Rf.hear n s (k, f, o, t, i, u, cm, y, L) = (s, []) := if_neg (fun hm => hm.2.1 h)
    have ee : (f == (n.id : Int)) = true := by simpa using h
    clear h
    go_wp2_with fail
    go_quiet (fail)
    go_wp2_with fail
    go_ret
    rw [hno]
    exact ⟨_, rfl, msgsOut_nil _ _, stepTo_of ((HR0.out.stay (below_drewN (Below.refl _ _) _)).wide (fun b hb _ => .inl hb.1) (fun b hb hf => by
      rcases hb with hb | hb
      · exact HOFF.out b hb hf
      · have := hFlt b hf; omega)) (HK.out.trans (Below.kept (below_drewN (Below.refl _ _) _)))⟩
  have hn1 := Lib.hid h
  have ee1 : (f == (n.id : Int)) = false := by simpa using h
  clear h
  by_cases h : f < 1
  · have hno : Rf.hear n s (k, f, o, t, i, u, cm, y, L) = (s, []) := if_neg (fun hm => absurd hm.2.2.1 (by simp only; omega))
    have ee : decide (f < 1) = true := by simpa using h
    clear h
    go_wp2_with fail
    go_quiet (fail)
    go_wp2_with fail
    go_ret
    rw [hno]
    exact ⟨_, rfl, msgsOut_nil _ _, stepTo_of ((HR0.out.stay (below_drewN (Below.refl _ _) _)).wide (fun b hb _ => .inl hb.1) (fun b hb hf => by
      rcases hb with hb | hb
      · exact HOFF.out b hb hf
      · have := hFlt b hf; omega)) (HK.out.trans (Below.kept (below_drewN (Below.refl _ _) _)))⟩
  have hn2 := Lib.hid h
  have ee2 : decide (f < 1) = false := by simpa using h
  clear h
  by_cases h : (n.many : Int) < f
  · have hno : Rf.hear n s (k, f, o, t, i, u, cm, y, L) = (s, []) := if_neg (fun hm => absurd hm.2.2.2.1 (by simp only; omega))
    have ee : decide ((n.many : Int) < f) = true := by simpa using h
    clear h
    go_wp2_with fail
    go_quiet (fail)
    go_wp2_with fail
    go_ret
    rw [hno]
    exact ⟨_, rfl, msgsOut_nil _ _, stepTo_of ((HR0.out.stay (below_drewN (Below.refl _ _) _)).wide (fun b hb _ => .inl hb.1) (fun b hb hf => by
      rcases hb with hb | hb
      · exact HOFF.out b hb hf
      · have := hFlt b hf; omega)) (HK.out.trans (Below.kept (below_drewN (Below.refl _ _) _)))⟩
  have hn3 := Lib.hid h
  have ee3 : decide ((n.many : Int) < f) = false := by simpa using h
  clear h
  by_cases h : t < 1
  · have hno : Rf.hear n s (k, f, o, t, i, u, cm, y, L) = (s, []) := if_neg (fun hm => absurd hm.2.2.2.2.1 (by simp only; omega))
    have ee : decide (t < 1) = true := by simpa using h
    clear h
    go_wp2_with fail
    go_quiet (fail)
    go_wp2_with fail
    go_ret
    rw [hno]
    exact ⟨_, rfl, msgsOut_nil _ _, stepTo_of ((HR0.out.stay (below_drewN (Below.refl _ _) _)).wide (fun b hb _ => .inl hb.1) (fun b hb hf => by
      rcases hb with hb | hb
      · exact HOFF.out b hb hf
      · have := hFlt b hf; omega)) (HK.out.trans (Below.kept (below_drewN (Below.refl _ _) _)))⟩
  have hn4 := Lib.hid h
  have ee4 : decide (t < 1) = false := by simpa using h
  clear h
  by_cases h : 1073741824 < t
  · have hno : Rf.hear n s (k, f, o, t, i, u, cm, y, L) = (s, []) := if_neg (fun hm => absurd hm.2.2.2.2.2.1 (by simp only; omega))
    have ee : decide (1073741824 < t) = true := by simpa using h
    clear h
    go_wp2_with fail
    go_quiet (fail)
    go_wp2_with fail
    go_ret
    rw [hno]
    exact ⟨_, rfl, msgsOut_nil _ _, stepTo_of ((HR0.out.stay (below_drewN (Below.refl _ _) _)).wide (fun b hb _ => .inl hb.1) (fun b hb hf => by
      rcases hb with hb | hb
      · exact HOFF.out b hb hf
      · have := hFlt b hf; omega)) (HK.out.trans (Below.kept (below_drewN (Below.refl _ _) _)))⟩
  have hn5 := Lib.hid h
  have ee5 : decide (1073741824 < t) = false := by simpa using h
  clear h
  by_cases h : k < 0
  · have hno : Rf.hear n s (k, f, o, t, i, u, cm, y, L) = (s, []) := if_neg (fun hm => absurd hm.2.2.2.2.2.2.1 (by simp only; omega))
    have ee : decide (k < 0) = true := by simpa using h
    clear h
    go_wp2_with fail
    go_quiet (fail)
    go_wp2_with fail
    go_ret
    rw [hno]
    exact ⟨_, rfl, msgsOut_nil _ _, stepTo_of ((HR0.out.stay (below_drewN (Below.refl _ _) _)).wide (fun b hb _ => .inl hb.1) (fun b hb hf => by
      rcases hb with hb | hb
      · exact HOFF.out b hb hf
      · have := hFlt b hf; omega)) (HK.out.trans (Below.kept (below_drewN (Below.refl _ _) _)))⟩
  have hn6 := Lib.hid h
  have ee6 : decide (k < 0) = false := by simpa using h
  clear h
  by_cases h : 3 < k
  · have hno : Rf.hear n s (k, f, o, t, i, u, cm, y, L) = (s, []) := if_neg (fun hm => absurd hm.2.2.2.2.2.2.2 (by simp only; omega))
    have ee : decide (3 < k) = true := by simpa using h
    clear h
    go_wp2_with fail
    go_quiet (fail)
    go_wp2_with fail
    go_ret
    rw [hno]
    exact ⟨_, rfl, msgsOut_nil _ _, stepTo_of ((HR0.out.stay (below_drewN (Below.refl _ _) _)).wide (fun b hb _ => .inl hb.1) (fun b hb hf => by
      rcases hb with hb | hb
      · exact HOFF.out b hb hf
      · have := hFlt b hf; omega)) (HK.out.trans (Below.kept (below_drewN (Below.refl _ _) _)))⟩
  have hn7 := Lib.hid h
  have ee7 : decide (3 < k) = false := by simpa using h
  clear h
  have hmine : Rf.mine n (k, f, o, t, i, u, cm, y, L) := ⟨Classical.not_not.1 hn0.out, hn1.out, by have := hn2.out; simp only; omega, by have := hn3.out; simp only; omega, by have := hn4.out; simp only; omega, by have := hn5.out; simp only; omega, by have := hn6.out; simp only; omega, by have := hn7.out; simp only; omega⟩
  have HMN := Lib.hid hmine
  have HG1 := Lib.hid (hg.sees (k, f, o, t, i, u, cm, y, L))
  have hh : Rf.hear n s (k, f, o, t, i, u, cm, y, L) = (if k = 0 then Rf.asked n (Rf.sees s (k, f, o, t, i, u, cm, y, L)) (k, f, o, t, i, u, cm, y, L) else if k = 1 then Rf.voted n (Rf.sees s (k, f, o, t, i, u, cm, y, L)) (k, f, o, t, i, u, cm, y, L) else if k = 2 then Rf.add n (Rf.sees s (k, f, o, t, i, u, cm, y, L)) (k, f, o, t, i, u, cm, y, L) else Rf.added n (Rf.sees s (k, f, o, t, i, u, cm, y, L)) (k, f, o, t, i, u, cm, y, L)) := if_pos hmine
  have HH := Lib.hid hh
  have ht30 := hn5.out
  clear hmine hh hg
  clear hn0 hn1 hn2 hn3 hn4 hn5 hn6 hn7
  go_wp2_with fail
  go_quiet (fail)
  clear ee0 ee1 ee2 ee3 ee4 ee5 ee6 ee7
  go_wp2_with fail
  clear k0 k1 k2 k3 k4 k5 k6 k7 k8 k9 k10 k11 q0 q1 q2 q3 q4 q5 q6 q7 q8
  replace HR0 := Lib.hid (HR0.out.stay (below_drewN (Below.refl _ _) nq))
  replace HX := Lib.hid (HX.out.below (below_drewN (Below.refl _ _) nq) HX.out.lt)
  replace HK := Lib.hid (HK.out.trans (Below.kept (below_drewN (Below.refl _ _) nq)))
  clear HB
  generalize hw3 : World.drewN _ nq = w3 at *
  clear hw3
  have hst := HR0.out.st
  dsimp only [rmc] at hst
  obtain ⟨k0, k1, k2, k3, k4, k5, k6, k7, k8, k9, k10, k11⟩ := hst.c12
  clear hst
  obtain ⟨q0, q1, q2, q3, q4, q5, q6, q7, q8⟩ := HX.out.c9
  by_cases hs : s.b.1 < t
  · have e9 : Rf.sees s (k, f, o, t, i, u, cm, y, L) = { s with b := (t, 0), is := 0 } := by unfold Rf.sees; rw [if_pos hs]; simp only; rw [Vt.see_new hs (by omega)]
    rw [e9] at HH HG1
    clear e9
    have HSE := Lib.hid (fun W => rsee_any s.b.1 s.b.2 t W)
    rw [Vt.see_new (b := (s.b.1, s.b.2)) hs (by omega)] at HSE
    simp only at HSE
    go_wp2_with fail
    go_quiet (fail)
    go_wp2_with fail
    clear k0 k1 k2 k3 k4 k5 k6 k7 k8 k9 k10 k11 q0 q1 q2 q3 q4 q5 q6 q7 q8
    replace HR0 := Lib.hid (HR0.out.stay (below_drewN (Below.refl _ _) nq))
    replace HX := Lib.hid (HX.out.below (below_drewN (Below.refl _ _) nq) HX.out.lt)
    replace HK := Lib.hid (HK.out.trans (Below.kept (below_drewN (Below.refl _ _) nq)))
    generalize hw4 : World.drewN _ nq = w4 at *
    clear hw4
    have HM := Lib.hid HR0.out.st
    dsimp only [rmc] at HM
    refine z_start ((w4).drew.heap.size) [10] (by kernel_rfl) ?_
    have HC := Lib.hid (Below.refl ((w4).drew.heap.size) (w4).drew)
    have hBz : (w4).drew.heap.size ≤ (w4).drew.heap.size := Nat.le_refl _
    replace HM := Lib.hid (show Whole (w4).drew _ _ _ from HM.out)
    have hltM := HM.out.lt
    replace HX := Lib.hid (show Whole (w4).drew _ _ _ from HX.out)
    have hltX := HX.out.lt
    replace HK := Lib.hid (HK.out.trans (Below.kept (Below.refl _ _).drew))
    replace HR0 := Lib.hid (HR0.out.stay (Below.refl _ _).drew)
    generalize (w4).drew = z1 at *
    refine z_take (i := 0) (v := ?_) rfl (by kernel_rfl) (by kernel_rfl) (by kernel_rfl) (k0 := 0) (by kernel_rfl) (by kernel_rfl) (.inl rfl) (fun _ _ _ h => h) (by rfl) HC.out ?_ ?_
    rotate_left
    · intro W hW
      go_simp
      first | done | rfl
    simp only [Act.put, List.setIfInBounds_toArray, List.set_cons_zero, List.set_cons_succ, List.getElem_toArray, List.getElem_cons_zero, List.getElem_cons_succ]
    refine z_take (i := 1) (v := ?_) rfl (by kernel_rfl) (by kernel_rfl) (by kernel_rfl) (k0 := 1) (by kernel_rfl) (by kernel_rfl) (.inl rfl) (fun _ _ _ h => h) (by rfl) HC.out ?_ ?_
    rotate_left
    · intro W hW
      go_simp
      first | done | rfl
    simp only [Act.put, List.setIfInBounds_toArray, List.set_cons_zero, List.set_cons_succ, List.getElem_toArray, List.getElem_cons_zero, List.getElem_cons_succ]
    refine z_take (i := 2) (v := ?_) rfl (by kernel_rfl) (by kernel_rfl) (by kernel_rfl) (k0 := 2) (by kernel_rfl) (by kernel_rfl) (.inl rfl) (fun _ _ _ h => h) (by rfl) HC.out ?_ ?_
    rotate_left
    · intro W hW
      go_simp
      first | done | rfl
    simp only [Act.put, List.setIfInBounds_toArray, List.set_cons_zero, List.set_cons_succ, List.getElem_toArray, List.getElem_cons_zero, List.getElem_cons_succ]
    refine z_take (i := 3) (v := ?_) rfl (by kernel_rfl) (by kernel_rfl) (by kernel_rfl) (k0 := 3) (by kernel_rfl) (by kernel_rfl) (.inl rfl) (fun _ _ _ h => h) (by rfl) HC.out ?_ ?_
    rotate_left
    · intro W hW
      go_simp
      first | done | rfl
    simp only [Act.put, List.setIfInBounds_toArray, List.set_cons_zero, List.set_cons_succ, List.getElem_toArray, List.getElem_cons_zero, List.getElem_cons_succ]
    refine z_take (i := 4) (v := ?_) rfl (by kernel_rfl) (by kernel_rfl) (by kernel_rfl) (k0 := 4) (by kernel_rfl) (by kernel_rfl) (.inl rfl) (fun _ _ _ h => h) (by rfl) HC.out ?_ ?_
    rotate_left
    · intro W hW
      obtain ⟨k0, k1, k2, k3, k4, k5, k6, k7, k8, k9, k10, k11⟩ := (HM.out.below hW hltM).c12
      go_simp
      first | done | rfl
    simp only [Act.put, List.setIfInBounds_toArray, List.set_cons_zero, List.set_cons_succ, List.getElem_toArray, List.getElem_cons_zero, List.getElem_cons_succ]
    refine z_take (i := 5) (v := ?_) rfl (by kernel_rfl) (by kernel_rfl) (by kernel_rfl) (k0 := 5) (by kernel_rfl) (by kernel_rfl) (.inl rfl) (fun _ _ _ h => h) (by rfl) HC.out ?_ ?_
    rotate_left
    · intro W hW
      go_simp
      first | done | rfl
    simp only [Act.put, List.setIfInBounds_toArray, List.set_cons_zero, List.set_cons_succ, List.getElem_toArray, List.getElem_cons_zero, List.getElem_cons_succ]
    refine z_take (i := 6) (v := ?_) rfl (by kernel_rfl) (by kernel_rfl) (by kernel_rfl) (k0 := 6) (by kernel_rfl) (by kernel_rfl) (.inl rfl) (fun _ _ _ h => h) (by rfl) HC.out ?_ ?_
    rotate_left
    · intro W hW
      obtain ⟨q0, q1, q2, q3, q4, q5, q6, q7, q8⟩ := (HX.out.below hW hltX).c9
      go_simp
      first | done | rfl
    simp only [Act.put, List.setIfInBounds_toArray, List.set_cons_zero, List.set_cons_succ, List.getElem_toArray, List.getElem_cons_zero, List.getElem_cons_succ]
    refine z_one (i := 7) (by kernel_rfl) ?_
    refine onez_call (i := 7) (f := 46) (args := ?_) rfl (by rfl) ?_ ?_
    rotate_left
    · go_simp
      first | done | rfl
    with_reducible refine (HSE.out _).mono ?_
    rintro e z2 ⟨rfl, hb⟩
    refine ⟨_, rfl, fun _ => HC.out.trans (hb.mono hBz), ?_⟩
    replace HC := Lib.hid (HC.out.trans (hb.mono hBz))
    replace hBz := Nat.le_trans hBz hb.size
    clear hb
    simp only [Act.put, List.setIfInBounds_toArray, List.set_cons_zero, List.set_cons_succ, List.getElem_toArray, List.getElem_cons_zero, List.getElem_cons_succ]
    refine z_take (i := 8) (v := ?_) rfl (by kernel_rfl) (by kernel_rfl) (by kernel_rfl) (k0 := 9) (by kernel_rfl) (by kernel_rfl) (.inr (by kernel_rfl)) (fun _ _ _ h => h) (by rfl) HC.out ?_ ?_
    rotate_left
    · intro W hW
      go_simp
      first | done | rfl
    simp only [Act.put, List.setIfInBounds_toArray, List.set_cons_zero, List.set_cons_succ, List.getElem_toArray, List.getElem_cons_zero, List.getElem_cons_succ]
    refine z_take (i := 9) (v := ?_) rfl (by kernel_rfl) (by kernel_rfl) (by kernel_rfl) (k0 := 9) (by kernel_rfl) (by kernel_rfl) (.inl rfl) (fun _ _ _ h => h) (by rfl) HC.out ?_ ?_
    rotate_left
    · intro W hW
      go_simp
      first | done | rfl
    simp only [Act.put, List.setIfInBounds_toArray, List.set_cons_zero, List.set_cons_succ, List.getElem_toArray, List.getElem_cons_zero, List.getElem_cons_succ]
    refine z_one (i := 10) (by kernel_rfl) ?_
    obtain ⟨k0, k1, k2, k3, k4, k5, k6, k7, k8, k9, k10, k11⟩ := (HM.out.below HC.out hltM).c12
    have f2 := (HM.out.below HC.out hltM).free 2
    have f3 := (HM.out.below HC.out hltM).free 3
    refine onez_skip (i := 10) (w' := ?_) rfl (by rfl) ?_ ?_ ?_
    rotate_left 1
    · go_simp
      first | done | rfl
    · exact fun h => absurd (by decide) h
    simp only [Act.put, List.setIfInBounds_toArray, List.set_cons_zero, List.set_cons_succ, List.getElem_toArray, List.getElem_cons_zero, List.getElem_cons_succ]
    clear f2 f3 k0 k1 k2 k3 k4 k5 k6 k7 k8 k9 k10 k11
    refine z_done (by kernel_rfl) ?_
    replace HX := Lib.hid (((HX.out.below HC.out hltX).far (p := ⟨F.g, 2, none⟩) hXg (.int .i64 t)).far (p := ⟨F.g, 3, none⟩) hXg (.int .i64 0))
    replace HR0 := Lib.hid (((HR0.out.stay HC.out).cell 2 (.int .i64 t) (s' := { s with b := (t, s.b.2) }) rfl rfl rfl rfl rfl).cell 3 (.int .i64 0) (s' := { s with b := (t, 0) }) rfl rfl rfl rfl rfl)
    replace HK := Lib.hid (((HK.out.trans (Below.kept HC.out)).set (p := ⟨F.g, 2, none⟩) (.inl (.inl rfl)) (.int .i64 t)).set (p := ⟨F.g, 3, none⟩) (.inl (.inl rfl)) (.int .i64 0))
    clear HC hBz HM hltM hltX
    go_simp
    generalize hw5 : World.setCell (World.setCell _ _ _) _ _ = w5 at *
    clear hw5
    have hst := HR0.out.st
    dsimp only [rmc] at hst
    obtain ⟨k0, k1, k2, k3, k4, k5, k6, k7, k8, k9, k10, k11⟩ := hst.c12
    have f4g := hst.free 7
    clear hst
    replace HX := Lib.hid (HX.out.far (p := ⟨F.g, 7, none⟩) hXg (.int .i64 0))
    obtain ⟨q0, q1, q2, q3, q4, q5, q6, q7, q8⟩ := HX.out.c9
    have hk0 := HMN.out.2.2.2.2.2.2.1
    have hk3 := HMN.out.2.2.2.2.2.2.2
    simp only at hk0 hk3
    have hkk : k = 0 ∨ k = 1 ∨ k = 2 ∨ k = 3 := by omega
    clear hk0 hk3
    rcases hkk with rfl | rfl | rfl | rfl
    · go_wp2_with fail
      replace HR0 := Lib.hid (HR0.out.cell 7 (.int .i64 0) (s' := { s with b := (t, 0), is := 0 }) rfl rfl rfl rfl rfl)
      replace HK := Lib.hid (HK.out.set (p := ⟨F.g, 7, none⟩) (.inl (.inl rfl)) (.int .i64 0))
      clear f4g k0 k1 k2 k3 k4 k5 k6 k7 k8 k9 k10 k11 q0 q1 q2 q3 q4 q5 q6 q7 q8
      generalize hw8 : World.setCell _ _ _ = w8 at *
      clear hw8
      obtain ⟨s1, hs1⟩ : ∃ s1 : Rf.St, s1 = { s with b := (t, 0), is := 0 } := ⟨_, rfl⟩
      rw [← hs1] at HR0 HH HG1
      clear hs1
      have hfm := HMN.out.2.2.1
      have hfM := HMN.out.2.2.2.1
      have hres := HH.out
      have hres2 : Rf.hear n s (0, f, o, t, i, u, cm, y, L) = ({ s1 with b := (Vt.grant (s1.b.1, s1.b.2) (Lg.last (0, 0, s1.l)) f t i u).1 }, [(1, (n.id : Int), f, (Vt.grant (s1.b.1, s1.b.2) (Lg.last (0, 0, s1.l)) f t i u).1.1, 0, 0, 0, (Vt.grant (s1.b.1, s1.b.2) (Lg.last (0, 0, s1.l)) f t i u).2, [])]) := hres
      have HRES := Lib.hid hres2
      have hgb : 0 ≤ (Vt.grant (s1.b.1, s1.b.2) (Lg.last (0, 0, s1.l)) f t i u).1.1 ∧ (Vt.grant (s1.b.1, s1.b.2) (Lg.last (0, 0, s1.l)) f t i u).1.1 ≤ 1073741824 := ⟨(HG1.out.asked (0, f, o, t, i, u, cm, y, L)).b.1, (HG1.out.asked (0, f, o, t, i, u, cm, y, L)).b.2.1⟩
      have HGR := Lib.hid (fun W (hr : RMem n F (fun b => S b ∧ b < w.heap.size) W s1 A c) => rgrant_any s1.b.1 s1.b.2 0 0 _ s1.l 0 f o t i u cm y A2 n2 c2 W W.heap.size (Nat.le_refl _) hr.sl)
      clear hres hres2 HH
      generalize Vt.grant (s1.b.1, s1.b.2) (Lg.last (0, 0, s1.l)) f t i u = r at *
      obtain ⟨⟨r1, r2⟩, ry⟩ := r
      unfold GrantOut at HGR
      simp only at HGR HRES hgb
      have HFIT := Lib.hid (show MsgFit (1, (n.id : Int), f, r1, 0, 0, 0, ry, []) by unfold MsgFit; simp only at hfm hfM; simp only; omega)
      clear HMN hgb
      have HM := Lib.hid HR0.out.st
      dsimp only [rmc] at HM
      refine z_start ((w8).drew.heap.size) [] (by kernel_rfl) ?_
      have HC := Lib.hid (Below.refl ((w8).drew.heap.size) (w8).drew)
      have hBz : (w8).drew.heap.size ≤ (w8).drew.heap.size := Nat.le_refl _
      replace HM := Lib.hid (show Whole (w8).drew _ _ _ from HM.out)
      have hltM := HM.out.lt
      replace HX := Lib.hid (show Whole (w8).drew _ _ _ from HX.out)
      have hltX := HX.out.lt
      replace HK := Lib.hid (HK.out.trans (Below.kept (Below.refl _ _).drew))
      replace HR0 := Lib.hid (HR0.out.stay (Below.refl _ _).drew)
      generalize (w8).drew = y1 at *
      refine z_take (i := 0) (v := ?_) rfl (by kernel_rfl) (by kernel_rfl) (by kernel_rfl) (k0 := 0) (by kernel_rfl) (by kernel_rfl) (.inl rfl) (fun _ _ _ h => h) (by rfl) HC.out ?_ ?_
      rotate_left
      · intro W hW
        go_simp
        first | done | rfl
      simp only [Act.put, List.setIfInBounds_toArray, List.set_cons_zero, List.set_cons_succ, List.getElem_toArray, List.getElem_cons_zero, List.getElem_cons_succ]
      refine z_take (i := 1) (v := ?_) rfl (by kernel_rfl) (by kernel_rfl) (by kernel_rfl) (k0 := 1) (by kernel_rfl) (by kernel_rfl) (.inl rfl) (fun _ _ _ h => h) (by rfl) HC.out ?_ ?_
      rotate_left
      · intro W hW
        go_simp
        first | done | rfl
      simp only [Act.put, List.setIfInBounds_toArray, List.set_cons_zero, List.set_cons_succ, List.getElem_toArray, List.getElem_cons_zero, List.getElem_cons_succ]
      refine z_take (i := 2) (v := ?_) rfl (by kernel_rfl) (by kernel_rfl) (by kernel_rfl) (k0 := 2) (by kernel_rfl) (by kernel_rfl) (.inl rfl) (fun _ _ _ h => h) (by rfl) HC.out ?_ ?_
      rotate_left
      · intro W hW
        go_simp
        first | done | rfl
      simp only [Act.put, List.setIfInBounds_toArray, List.set_cons_zero, List.set_cons_succ, List.getElem_toArray, List.getElem_cons_zero, List.getElem_cons_succ]
      refine z_take (i := 3) (v := ?_) rfl (by kernel_rfl) (by kernel_rfl) (by kernel_rfl) (k0 := 3) (by kernel_rfl) (by kernel_rfl) (.inl rfl) (fun _ _ _ h => h) (by rfl) HC.out ?_ ?_
      rotate_left
      · intro W hW
        obtain ⟨k0, k1, k2, k3, k4, k5, k6, k7, k8, k9, k10, k11⟩ := (HM.out.below hW hltM).c12
        go_simp
        first | done | rfl
      simp only [Act.put, List.setIfInBounds_toArray, List.set_cons_zero, List.set_cons_succ, List.getElem_toArray, List.getElem_cons_zero, List.getElem_cons_succ]
      refine z_take (i := 4) (v := ?_) rfl (by kernel_rfl) (by kernel_rfl) (by kernel_rfl) (k0 := 4) (by kernel_rfl) (by kernel_rfl) (.inl rfl) (fun _ _ _ h => h) (by rfl) HC.out ?_ ?_
      rotate_left
      · intro W hW
        go_simp
        first | done | rfl
      simp only [Act.put, List.setIfInBounds_toArray, List.set_cons_zero, List.set_cons_succ, List.getElem_toArray, List.getElem_cons_zero, List.getElem_cons_succ]
      refine z_take (i := 5) (v := ?_) rfl (by kernel_rfl) (by kernel_rfl) (by kernel_rfl) (k0 := 5) (by kernel_rfl) (by kernel_rfl) (.inl rfl) (fun _ _ _ h => h) (by rfl) HC.out ?_ ?_
      rotate_left
      · intro W hW
        go_simp
        first | done | rfl
      simp only [Act.put, List.setIfInBounds_toArray, List.set_cons_zero, List.set_cons_succ, List.getElem_toArray, List.getElem_cons_zero, List.getElem_cons_succ]
      refine z_take (i := 6) (v := ?_) rfl (by kernel_rfl) (by kernel_rfl) (by kernel_rfl) (k0 := 6) (by kernel_rfl) (by kernel_rfl) (.inl rfl) (fun _ _ _ h => h) (by rfl) HC.out ?_ ?_
      rotate_left
      · intro W hW
        go_simp
        first | done | rfl
      simp only [Act.put, List.setIfInBounds_toArray, List.set_cons_zero, List.set_cons_succ, List.getElem_toArray, List.getElem_cons_zero, List.getElem_cons_succ]
      refine z_take (i := 7) (v := ?_) rfl (by kernel_rfl) (by kernel_rfl) (by kernel_rfl) (k0 := 7) (by kernel_rfl) (by kernel_rfl) (.inl rfl) (fun _ _ _ h => h) (by rfl) HC.out ?_ ?_
      rotate_left
      · intro W hW
        obtain ⟨k0, k1, k2, k3, k4, k5, k6, k7, k8, k9, k10, k11⟩ := (HM.out.below hW hltM).c12
        go_simp
        first | done | rfl
      simp only [Act.put, List.setIfInBounds_toArray, List.set_cons_zero, List.set_cons_succ, List.getElem_toArray, List.getElem_cons_zero, List.getElem_cons_succ]
      refine z_take (i := 8) (v := ?_) rfl (by kernel_rfl) (by kernel_rfl) (by kernel_rfl) (k0 := 8) (by kernel_rfl) (by kernel_rfl) (.inl rfl) (fun _ _ _ h => h) (by rfl) HC.out ?_ ?_
      rotate_left
      · intro W hW
        obtain ⟨q0, q1, q2, q3, q4, q5, q6, q7, q8⟩ := (HX.out.below hW hltX).c9
        go_simp
        first | done | rfl
      simp only [Act.put, List.setIfInBounds_toArray, List.set_cons_zero, List.set_cons_succ, List.getElem_toArray, List.getElem_cons_zero, List.getElem_cons_succ]
      refine z_two (i := 9) (j := 13) (by kernel_rfl) ?_ ?_
      · refine onez_call (i := 9) (f := 47) (args := ?_) rfl (by rfl) ?_ ?_
        rotate_left
        · go_simp
          first | done | rfl
        with_reducible refine (HGR.out _ (HR0.out.stay HC.out)).mono ?_
        rintro e y2 ⟨rfl, hb⟩
        refine ⟨_, rfl, fun _ => HC.out.trans (hb.mono hBz), ?_⟩
        replace HC := Lib.hid (HC.out.trans (hb.mono hBz))
        replace hBz := Nat.le_trans hBz hb.size
        clear hb
        simp only [Act.put, List.setIfInBounds_toArray, List.set_cons_zero, List.set_cons_succ, List.getElem_toArray, List.getElem_cons_zero, List.getElem_cons_succ]
        refine z_take (i := 10) (v := ?_) rfl (by kernel_rfl) (by kernel_rfl) (by kernel_rfl) (k0 := 10) (by kernel_rfl) (by kernel_rfl) (.inl rfl) (fun _ _ _ h => h) (by rfl) HC.out ?_ ?_
        rotate_left
        · intro W hW
          go_simp
          first | done | rfl
        simp only [Act.put, List.setIfInBounds_toArray, List.set_cons_zero, List.set_cons_succ, List.getElem_toArray, List.getElem_cons_zero, List.getElem_cons_succ]
        refine z_take (i := 11) (v := ?_) rfl (by kernel_rfl) (by kernel_rfl) (by kernel_rfl) (k0 := 11) (by kernel_rfl) (by kernel_rfl) (.inl rfl) (fun _ _ _ h => h) (by rfl) HC.out ?_ ?_
        rotate_left
        · intro W hW
          go_simp
          first | done | rfl
        simp only [Act.put, List.setIfInBounds_toArray, List.set_cons_zero, List.set_cons_succ, List.getElem_toArray, List.getElem_cons_zero, List.getElem_cons_succ]
        refine z_take (i := 12) (v := ?_) rfl (by kernel_rfl) (by kernel_rfl) (by kernel_rfl) (k0 := 12) (by kernel_rfl) (by kernel_rfl) (.inl rfl) (fun _ _ _ h => h) (by rfl) HC.out ?_ ?_
        rotate_left
        · intro W hW
          go_simp
          first | done | rfl
        simp only [Act.put, List.setIfInBounds_toArray, List.set_cons_zero, List.set_cons_succ, List.getElem_toArray, List.getElem_cons_zero, List.getElem_cons_succ]
        refine z_one (i := 13) (by kernel_rfl) ?_
        refine onez_run (i := 13) (v := ?_) (w' := ?_) rfl (by rfl) ?_ ?_ ?_
        rotate_left 2
        · go_simp
          first | done | (constructor <;> rfl)
        · exact fun _ => HC.out.alloc hBz _
        simp only [Act.put, List.setIfInBounds_toArray, List.set_cons_zero, List.set_cons_succ, List.getElem_toArray, List.getElem_cons_zero, List.getElem_cons_succ]
        have hg6z := hBz
        have HG := Lib.hid (Whole.new (y2) 23 #[.int .i64 0, .int .i64 0])
        replace HC := Lib.hid (HC.out.alloc hBz (.cells #[.int .i64 0, .int .i64 0] 23))
        replace hBz := HC.out.size
        generalize hw6 : World.alloc (y2) _ = y3 at *
        clear hw6
        generalize hg6 : (y2).heap.size = g6 at *
        clear hg6
        refine z_one (i := 14) (by kernel_rfl) ?_
        obtain ⟨c0, c1⟩ := HG.out.c2
        obtain ⟨e0, e1_⟩ := HG.out.f2
        refine onez_skip (i := 14) (w' := ?_) rfl (by rfl) ?_ ?_ ?_
        rotate_left 1
        · go_simp
          first | done | rfl
        · exact fun _ => below_set2 HC.out hg6z _ _
        simp only [Act.put, List.setIfInBounds_toArray, List.set_cons_zero, List.set_cons_succ, List.getElem_toArray, List.getElem_cons_zero, List.getElem_cons_succ]
        clear c0 c1 e0 e1_
        replace HG := Lib.hid (HG.out.set2 (.int .i64 r1) (.int .i64 r2))
        replace HC := Lib.hid (below_set2 HC.out hg6z (.int .i64 r1) (.int .i64 r2))
        replace hBz := HC.out.size
        generalize hw6 : World.setCell (World.setCell _ _ _) _ _ = y4 at *
        clear hw6
        refine z_take (i := 15) (v := ?_) rfl (by kernel_rfl) (by kernel_rfl) (by kernel_rfl) (k0 := 15) (by kernel_rfl) (by kernel_rfl) (.inl rfl) (fun _ _ _ h => h) (by rfl) HC.out ?_ ?_
        rotate_left
        · intro W hW
          go_simp
          first | done | rfl
        simp only [Act.put, List.setIfInBounds_toArray, List.set_cons_zero, List.set_cons_succ, List.getElem_toArray, List.getElem_cons_zero, List.getElem_cons_succ]
        refine z_done (by kernel_rfl) ?_
        replace HR0 := Lib.hid (HR0.out.stay HC.out)
        replace HK := Lib.hid (HK.out.trans (Below.kept HC.out))
        have hz1 := HK.out.size
        replace HX := Lib.hid (HX.out.below HC.out hltX)
        clear HC hBz HM hltM
        have h6w : w.heap.size < g6 := by omega
        have h6F : g6 ≠ F.g := fun hh => by have := hFlt F.g (.inl rfl); omega
        go_simp
        generalize hw7 : y4 = w7 at *
        clear hw7
        obtain ⟨c0_, c1_⟩ := HG.out.c2
        have hst := HR0.out.st
        dsimp only [rmc] at hst
        obtain ⟨k0, k1, k2, k3, k4, k5, k6, k7, k8, k9, k10, k11⟩ := hst.c12
        have f2g := hst.free 2
        have f3g := hst.free 3
        clear hst
        replace HX := Lib.hid ((HX.out.far (p := ⟨F.g, 2, none⟩) hXg (.int .i64 r1)).far (p := ⟨F.g, 3, none⟩) hXg (.int .i64 r2))
        obtain ⟨q0, q1, q2, q3, q4, q5, q6, q7, q8⟩ := HX.out.c9
        go_wp2_with fail
        replace HR0 := Lib.hid ((HR0.out.cell 2 (.int .i64 r1) (s' := { s1 with b := (r1, s1.b.2) }) rfl rfl rfl rfl rfl).cell 3 (.int .i64 r2) (s' := { s1 with b := (r1, r2) }) rfl rfl rfl rfl rfl)
        replace HK := Lib.hid ((HK.out.set (p := ⟨F.g, 2, none⟩) (.inl (.inl rfl)) (.int .i64 r1)).set (p := ⟨F.g, 3, none⟩) (.inl (.inl rfl)) (.int .i64 r2))
        clear HX HG c0_ c1_ f2g f3g k0 k1 k2 k3 k4 k5 k6 k7 k8 k9 k10 k11 q0 q1 q2 q3 q4 q5 q6 q7 q8
        generalize hwd : World.setCell (World.setCell _ _ _) _ _ = wd at *
        clear hwd
        refine (rmsg_any n F _ _ A c _ HR0.out 1 f).mono ?_
        dsimp only
        rintro e w2 ⟨rfl, hb⟩
        have HYa := Lib.hid (Whole.new w2 41 (mc 1 (n.id : Int) f r1 0 0 0 false (.slice none 0 0)))
        have HYb := Lib.hid (Whole.new w2 41 (mc 1 (n.id : Int) f r1 0 0 0 ry (.slice none 0 0)))
        have ya7 := HYa.out.free 7
        have ya0 := HYa.out.cell 7
        obtain ⟨p0, p1, p2, p3, p4, p5, p6, p7, p8⟩ := HYb.out.c9
        replace HR0 := Lib.hid ((HR0.out.stay hb).stay ((Below.refl _ _).alloc (Nat.le_refl _) (.cells (mc 1 (n.id : Int) f r1 0 0 0 ry (.slice none 0 0)) 41)))
        replace HK := Lib.hid ((HK.out.trans (Below.kept hb)).trans (Below.kept ((Below.refl _ _).alloc (Nat.le_refl _) (.cells (mc 1 (n.id : Int) f r1 0 0 0 ry (.slice none 0 0)) 41))))
        clear hb HYa HYb
        go_wp2_with fail
        go_ret
        rw [HRES.out]
        have hzz := HK.out.size
        refine ⟨_, rfl, SlS.wide (new1_at _ 41 (α := M) (1, (n.id : Int), f, r1, 0, 0, 0, ry, []) (mcx (1, (n.id : Int), f, r1, 0, 0, 0, ry, []) (.slice none 0 0)) (fits_msg HFIT.out (SlS.nil _ (fun _ => False))) (by simp)) (fun b hb _ => ?_), stepTo_of ((HR0.out.stay ((Below.refl _ _).alloc (Nat.le_refl _) _)).wide (fun b hb _ => .inl hb.1) (fun b hb hf => by
          rcases hb with hb | hb
          · exact HOFF.out b hb hf
          · have := hFlt b hf; omega)) (HK.out.trans (Below.kept ((Below.refl _ _).alloc (Nat.le_refl _) _)))⟩
        rcases hb with hb | hb
        · exact hb.1.elim
        · rw [World.size_alloc] at hb hzz; omega
      · refine onez_run (i := 13) (v := ?_) (w' := ?_) rfl (by rfl) ?_ ?_ ?_
        rotate_left 2
        · go_simp
          first | done | (constructor <;> rfl)
        · exact fun _ => HC.out.alloc hBz _
        simp only [Act.put, List.setIfInBounds_toArray, List.set_cons_zero, List.set_cons_succ, List.getElem_toArray, List.getElem_cons_zero, List.getElem_cons_succ]
        have hg6z := hBz
        have HG := Lib.hid (Whole.new (y1) 23 #[.int .i64 0, .int .i64 0])
        replace HC := Lib.hid (HC.out.alloc hBz (.cells #[.int .i64 0, .int .i64 0] 23))
        replace hBz := HC.out.size
        generalize hw6 : World.alloc (y1) _ = y5 at *
        clear hw6
        have hg6lt := HG.out.lt
        refine z_one (i := 9) (by kernel_rfl) ?_
        refine onez_call (i := 9) (f := 47) (args := ?_) rfl (by rfl) ?_ ?_
        rotate_left
        · go_simp
          first | done | rfl
        with_reducible refine (HGR.out _ (HR0.out.stay HC.out)).mono ?_
        rintro e y6 ⟨rfl, hb⟩
        refine ⟨_, rfl, fun _ => HC.out.trans (hb.mono hBz), ?_⟩
        replace HC := Lib.hid (HC.out.trans (hb.mono hBz))
        replace hBz := Nat.le_trans hBz hb.size
        replace HG := Lib.hid (HG.out.below hb hg6lt)
        clear hb
        simp only [Act.put, List.setIfInBounds_toArray, List.set_cons_zero, List.set_cons_succ, List.getElem_toArray, List.getElem_cons_zero, List.getElem_cons_succ]
        refine z_take (i := 10) (v := ?_) rfl (by kernel_rfl) (by kernel_rfl) (by kernel_rfl) (k0 := 10) (by kernel_rfl) (by kernel_rfl) (.inl rfl) (fun _ _ _ h => h) (by rfl) HC.out ?_ ?_
        rotate_left
        · intro W hW
          go_simp
          first | done | rfl
        simp only [Act.put, List.setIfInBounds_toArray, List.set_cons_zero, List.set_cons_succ, List.getElem_toArray, List.getElem_cons_zero, List.getElem_cons_succ]
        refine z_take (i := 11) (v := ?_) rfl (by kernel_rfl) (by kernel_rfl) (by kernel_rfl) (k0 := 11) (by kernel_rfl) (by kernel_rfl) (.inl rfl) (fun _ _ _ h => h) (by rfl) HC.out ?_ ?_
        rotate_left
        · intro W hW
          go_simp
          first | done | rfl
        simp only [Act.put, List.setIfInBounds_toArray, List.set_cons_zero, List.set_cons_succ, List.getElem_toArray, List.getElem_cons_zero, List.getElem_cons_succ]
        refine z_take (i := 12) (v := ?_) rfl (by kernel_rfl) (by kernel_rfl) (by kernel_rfl) (k0 := 12) (by kernel_rfl) (by kernel_rfl) (.inl rfl) (fun _ _ _ h => h) (by rfl) HC.out ?_ ?_
        rotate_left
        · intro W hW
          go_simp
          first | done | rfl
        simp only [Act.put, List.setIfInBounds_toArray, List.set_cons_zero, List.set_cons_succ, List.getElem_toArray, List.getElem_cons_zero, List.getElem_cons_succ]
        refine z_one (i := 14) (by kernel_rfl) ?_
        obtain ⟨c0, c1⟩ := HG.out.c2
        obtain ⟨e0, e1_⟩ := HG.out.f2
        refine onez_skip (i := 14) (w' := ?_) rfl (by rfl) ?_ ?_ ?_
        rotate_left 1
        · go_simp
          first | done | rfl
        · exact fun _ => below_set2 HC.out hg6z _ _
        simp only [Act.put, List.setIfInBounds_toArray, List.set_cons_zero, List.set_cons_succ, List.getElem_toArray, List.getElem_cons_zero, List.getElem_cons_succ]
        clear c0 c1 e0 e1_
        replace HG := Lib.hid (HG.out.set2 (.int .i64 r1) (.int .i64 r2))
        replace HC := Lib.hid (below_set2 HC.out hg6z (.int .i64 r1) (.int .i64 r2))
        replace hBz := HC.out.size
        generalize hw6 : World.setCell (World.setCell _ _ _) _ _ = y7 at *
        clear hw6
        refine z_take (i := 15) (v := ?_) rfl (by kernel_rfl) (by kernel_rfl) (by kernel_rfl) (k0 := 15) (by kernel_rfl) (by kernel_rfl) (.inl rfl) (fun _ _ _ h => h) (by rfl) HC.out ?_ ?_
        rotate_left
        · intro W hW
          go_simp
          first | done | rfl
        simp only [Act.put, List.setIfInBounds_toArray, List.set_cons_zero, List.set_cons_succ, List.getElem_toArray, List.getElem_cons_zero, List.getElem_cons_succ]
        refine z_done (by kernel_rfl) ?_
        replace HR0 := Lib.hid (HR0.out.stay HC.out)
        replace HK := Lib.hid (HK.out.trans (Below.kept HC.out))
        have hz1 := HK.out.size
        replace HX := Lib.hid (HX.out.below HC.out hltX)
        clear HC hBz HM hltM
        clear hg6lt
        generalize hg6 : y1.heap.size = g6 at *
        clear hg6
        have h6w : w.heap.size < g6 := by omega
        have h6F : g6 ≠ F.g := fun hh => by have := hFlt F.g (.inl rfl); omega
        go_simp
        generalize hw7 : y7 = w7 at *
        clear hw7
        obtain ⟨c0_, c1_⟩ := HG.out.c2
        have hst := HR0.out.st
        dsimp only [rmc] at hst
        obtain ⟨k0, k1, k2, k3, k4, k5, k6, k7, k8, k9, k10, k11⟩ := hst.c12
        have f2g := hst.free 2
        have f3g := hst.free 3
        clear hst
        replace HX := Lib.hid ((HX.out.far (p := ⟨F.g, 2, none⟩) hXg (.int .i64 r1)).far (p := ⟨F.g, 3, none⟩) hXg (.int .i64 r2))
        obtain ⟨q0, q1, q2, q3, q4, q5, q6, q7, q8⟩ := HX.out.c9
        go_wp2_with fail
        replace HR0 := Lib.hid ((HR0.out.cell 2 (.int .i64 r1) (s' := { s1 with b := (r1, s1.b.2) }) rfl rfl rfl rfl rfl).cell 3 (.int .i64 r2) (s' := { s1 with b := (r1, r2) }) rfl rfl rfl rfl rfl)
        replace HK := Lib.hid ((HK.out.set (p := ⟨F.g, 2, none⟩) (.inl (.inl rfl)) (.int .i64 r1)).set (p := ⟨F.g, 3, none⟩) (.inl (.inl rfl)) (.int .i64 r2))
        clear HX HG c0_ c1_ f2g f3g k0 k1 k2 k3 k4 k5 k6 k7 k8 k9 k10 k11 q0 q1 q2 q3 q4 q5 q6 q7 q8
        generalize hwd : World.setCell (World.setCell _ _ _) _ _ = wd at *
        clear hwd
        refine (rmsg_any n F _ _ A c _ HR0.out 1 f).mono ?_
        dsimp only
        rintro e w2 ⟨rfl, hb⟩
        have HYa := Lib.hid (Whole.new w2 41 (mc 1 (n.id : Int) f r1 0 0 0 false (.slice none 0 0)))
        have HYb := Lib.hid (Whole.new w2 41 (mc 1 (n.id : Int) f r1 0 0 0 ry (.slice none 0 0)))
        have ya7 := HYa.out.free 7
        have ya0 := HYa.out.cell 7
        obtain ⟨p0, p1, p2, p3, p4, p5, p6, p7, p8⟩ := HYb.out.c9
        replace HR0 := Lib.hid ((HR0.out.stay hb).stay ((Below.refl _ _).alloc (Nat.le_refl _) (.cells (mc 1 (n.id : Int) f r1 0 0 0 ry (.slice none 0 0)) 41)))
        replace HK := Lib.hid ((HK.out.trans (Below.kept hb)).trans (Below.kept ((Below.refl _ _).alloc (Nat.le_refl _) (.cells (mc 1 (n.id : Int) f r1 0 0 0 ry (.slice none 0 0)) 41))))
        clear hb HYa HYb
        go_wp2_with fail
        go_ret
        rw [HRES.out]
        have hzz := HK.out.size
        refine ⟨_, rfl, SlS.wide (new1_at _ 41 (α := M) (1, (n.id : Int), f, r1, 0, 0, 0, ry, []) (mcx (1, (n.id : Int), f, r1, 0, 0, 0, ry, []) (.slice none 0 0)) (fits_msg HFIT.out (SlS.nil _ (fun _ => False))) (by simp)) (fun b hb _ => ?_), stepTo_of ((HR0.out.stay ((Below.refl _ _).alloc (Nat.le_refl _) _)).wide (fun b hb _ => .inl hb.1) (fun b hb hf => by
          rcases hb with hb | hb
          · exact HOFF.out b hb hf
          · have := hFlt b hf; omega)) (HK.out.trans (Below.kept ((Below.refl _ _).alloc (Nat.le_refl _) _)))⟩
        rcases hb with hb | hb
        · exact hb.1.elim
        · rw [World.size_alloc] at hb hzz; omega
    · go_wp2_with fail
      replace HR0 := Lib.hid (HR0.out.cell 7 (.int .i64 0) (s' := { s with b := (t, 0), is := 0 }) rfl rfl rfl rfl rfl)
      replace HK := Lib.hid (HK.out.set (p := ⟨F.g, 7, none⟩) (.inl (.inl rfl)) (.int .i64 0))
      clear f4g k0 k1 k2 k3 k4 k5 k6 k7 k8 k9 k10 k11 q0 q1 q2 q3 q4 q5 q6 q7 q8
      generalize hw8 : World.setCell _ _ _ = w8 at *
      clear hw8
      obtain ⟨s1, hs1⟩ : ∃ s1 : Rf.St, s1 = { s with b := (t, 0), is := 0 } := ⟨_, rfl⟩
      rw [← hs1] at HR0 HH HG1
      clear hs1
      have hfm := HMN.out.2.2.1
      have hfM := HMN.out.2.2.2.1
      have hres := HH.out
      have hres2 : Rf.hear n s (1, f, o, t, i, u, cm, y, L) = Rf.voted n s1 (1, f, o, t, i, u, cm, y, L) := hres
      have HRES := Lib.hid hres2
      have HV := Lib.hid (rvoted_any n F (fun b => S b ∧ b < w.heap.size) s1 HG1.out A c w8 HR0.out 1 f o t i u cm y L A2 n2 c2 ⟨hfm, hfM⟩)
      clear hres hres2 HH HMN
      refine HV.out.mono ?_
      rintro e w9 ⟨v9, rfl, hv9, hs9⟩
      have HV9 := Lib.hid hv9
      have HS9 := Lib.hid hs9
      clear hv9 hs9 HV
      go_wp2_with fail
      go_ret
      rw [HRES.out]
      exact ⟨v9, rfl, SlS.wide HV9.out (fun b hb _ => Nat.le_trans HK.out.size hb), HS9.out.from_ HK.out (fun b hb => hb.1)⟩
    · go_wp2_with fail
      replace HR0 := Lib.hid (HR0.out.cell 7 (.int .i64 0) (s' := { s with b := (t, 0), is := 0 }) rfl rfl rfl rfl rfl)
      replace HK := Lib.hid (HK.out.set (p := ⟨F.g, 7, none⟩) (.inl (.inl rfl)) (.int .i64 0))
      clear f4g k0 k1 k2 k3 k4 k5 k6 k7 k8 k9 k10 k11 q0 q1 q2 q3 q4 q5 q6 q7 q8
      generalize hw8 : World.setCell _ _ _ = w8 at *
      clear hw8
      obtain ⟨s1, hs1⟩ : ∃ s1 : Rf.St, s1 = { s with b := (t, 0), is := 0 } := ⟨_, rfl⟩
      rw [← hs1] at HR0 HH HG1
      clear hs1
      have hfm := HMN.out.2.2.1
      have hfM := HMN.out.2.2.2.1
      have hres := HH.out
      have hres2 : Rf.hear n s (2, f, o, t, i, u, cm, y, L) = Rf.add n s1 (2, f, o, t, i, u, cm, y, L) := hres
      have HRES := Lib.hid hres2
      have hll := HK.out.sl HLS.out (fun b hb => HOFF.out b hb.1)
      have HV := Lib.hid (radd_msg_any n F (fun b => S b ∧ b < w.heap.size) s1 HG1.out A c w8 HR0.out 2 f o t i u cm y L A2 n2 c2 ⟨hfm, hfM⟩ hii hLl hll)
      clear hll
      clear hres hres2 HH HMN
      refine HV.out.mono ?_
      rintro e w9 ⟨v9, rfl, hv9, hs9⟩
      have HV9 := Lib.hid hv9
      have HS9 := Lib.hid hs9
      clear hv9 hs9 HV
      go_wp2_with fail
      go_ret
      rw [HRES.out]
      exact ⟨v9, rfl, SlS.wide HV9.out (fun b hb _ => Nat.le_trans HK.out.size hb), HS9.out.from_ HK.out (fun b hb => hb.1)⟩
    · go_wp2_with fail
      replace HR0 := Lib.hid (HR0.out.cell 7 (.int .i64 0) (s' := { s with b := (t, 0), is := 0 }) rfl rfl rfl rfl rfl)
      replace HK := Lib.hid (HK.out.set (p := ⟨F.g, 7, none⟩) (.inl (.inl rfl)) (.int .i64 0))
      clear f4g k0 k1 k2 k3 k4 k5 k6 k7 k8 k9 k10 k11 q0 q1 q2 q3 q4 q5 q6 q7 q8
      generalize hw8 : World.setCell _ _ _ = w8 at *
      clear hw8
      obtain ⟨s1, hs1⟩ : ∃ s1 : Rf.St, s1 = { s with b := (t, 0), is := 0 } := ⟨_, rfl⟩
      rw [← hs1] at HR0 HH HG1
      clear hs1
      have hfm := HMN.out.2.2.1
      have hfM := HMN.out.2.2.2.1
      have hres := HH.out
      have hres2 : Rf.hear n s (3, f, o, t, i, u, cm, y, L) = Rf.added n s1 (3, f, o, t, i, u, cm, y, L) := hres
      have HRES := Lib.hid hres2
      have HV := Lib.hid (radded_any n F (fun b => S b ∧ b < w.heap.size) s1 HG1.out A c w8 HR0.out 3 f o t i u cm y L A2 n2 c2 ⟨hfm, hfM⟩ hii)
      clear hres hres2 HH HMN
      refine HV.out.mono ?_
      rintro e w9 ⟨v9, rfl, hv9, hs9⟩
      have HV9 := Lib.hid hv9
      have HS9 := Lib.hid hs9
      clear hv9 hs9 HV
      go_wp2_with fail
      go_ret
      rw [HRES.out]
      exact ⟨v9, rfl, SlS.wide HV9.out (fun b hb _ => Nat.le_trans HK.out.size hb), HS9.out.from_ HK.out (fun b hb => hb.1)⟩
  · have e9 : Rf.sees s (k, f, o, t, i, u, cm, y, L) = s := by unfold Rf.sees; rw [if_neg hs]
    rw [e9] at HH HG1
    clear e9
    have d9 : decide (s.b.1 < t) = false := by simpa using hs
    obtain ⟨s1, hs1⟩ : ∃ s1 : Rf.St, s1 = s := ⟨_, rfl⟩
    have hh := HH.out
    have HH2 := Lib.hid (show Rf.hear n s (k, f, o, t, i, u, cm, y, L) = (if k = 0 then Rf.asked n s1 (k, f, o, t, i, u, cm, y, L) else if k = 1 then Rf.voted n s1 (k, f, o, t, i, u, cm, y, L) else if k = 2 then Rf.add n s1 (k, f, o, t, i, u, cm, y, L) else Rf.added n s1 (k, f, o, t, i, u, cm, y, L)) by rw [hs1]; exact hh)
    clear hh HH
    have HH := HH2
    clear HH2
    have HS1 := Lib.hid hs1
    clear hs1
    have hk0 := HMN.out.2.2.2.2.2.2.1
    have hk3 := HMN.out.2.2.2.2.2.2.2
    simp only at hk0 hk3
    have hkk : k = 0 ∨ k = 1 ∨ k = 2 ∨ k = 3 := by omega
    clear hk0 hk3
    rcases hkk with rfl | rfl | rfl | rfl
    · go_wp2_with fail
      go_quiet (fail)
      go_wp2_with fail
      clear k0 k1 k2 k3 k4 k5 k6 k7 k8 k9 k10 k11 q0 q1 q2 q3 q4 q5 q6 q7 q8
      replace HR0 := Lib.hid (HR0.out.stay (below_drewN (Below.refl _ _) nq))
      replace HX := Lib.hid (HX.out.below (below_drewN (Below.refl _ _) nq) HX.out.lt)
      replace HK := Lib.hid (HK.out.trans (Below.kept (below_drewN (Below.refl _ _) nq)))
      rw [← HS1.out] at HR0 HG1
      generalize hw8 : World.drewN _ nq = w8 at *
      clear hw8 HS1
      have hfm := HMN.out.2.2.1
      have hfM := HMN.out.2.2.2.1
      have hres := HH.out
      have hres2 : Rf.hear n s (0, f, o, t, i, u, cm, y, L) = ({ s1 with b := (Vt.grant (s1.b.1, s1.b.2) (Lg.last (0, 0, s1.l)) f t i u).1 }, [(1, (n.id : Int), f, (Vt.grant (s1.b.1, s1.b.2) (Lg.last (0, 0, s1.l)) f t i u).1.1, 0, 0, 0, (Vt.grant (s1.b.1, s1.b.2) (Lg.last (0, 0, s1.l)) f t i u).2, [])]) := hres
      have HRES := Lib.hid hres2
      have hgb : 0 ≤ (Vt.grant (s1.b.1, s1.b.2) (Lg.last (0, 0, s1.l)) f t i u).1.1 ∧ (Vt.grant (s1.b.1, s1.b.2) (Lg.last (0, 0, s1.l)) f t i u).1.1 ≤ 1073741824 := ⟨(HG1.out.asked (0, f, o, t, i, u, cm, y, L)).b.1, (HG1.out.asked (0, f, o, t, i, u, cm, y, L)).b.2.1⟩
      have HGR := Lib.hid (fun W (hr : RMem n F (fun b => S b ∧ b < w.heap.size) W s1 A c) => rgrant_any s1.b.1 s1.b.2 0 0 _ s1.l 0 f o t i u cm y A2 n2 c2 W W.heap.size (Nat.le_refl _) hr.sl)
      clear hres hres2 HH
      generalize Vt.grant (s1.b.1, s1.b.2) (Lg.last (0, 0, s1.l)) f t i u = r at *
      obtain ⟨⟨r1, r2⟩, ry⟩ := r
      unfold GrantOut at HGR
      simp only at HGR HRES hgb
      have HFIT := Lib.hid (show MsgFit (1, (n.id : Int), f, r1, 0, 0, 0, ry, []) by unfold MsgFit; simp only at hfm hfM; simp only; omega)
      clear HMN hgb
      have HM := Lib.hid HR0.out.st
      dsimp only [rmc] at HM
      refine z_start ((w8).drew.heap.size) [] (by kernel_rfl) ?_
      have HC := Lib.hid (Below.refl ((w8).drew.heap.size) (w8).drew)
      have hBz : (w8).drew.heap.size ≤ (w8).drew.heap.size := Nat.le_refl _
      replace HM := Lib.hid (show Whole (w8).drew _ _ _ from HM.out)
      have hltM := HM.out.lt
      replace HX := Lib.hid (show Whole (w8).drew _ _ _ from HX.out)
      have hltX := HX.out.lt
      replace HK := Lib.hid (HK.out.trans (Below.kept (Below.refl _ _).drew))
      replace HR0 := Lib.hid (HR0.out.stay (Below.refl _ _).drew)
      generalize (w8).drew = y1 at *
      refine z_take (i := 0) (v := ?_) rfl (by kernel_rfl) (by kernel_rfl) (by kernel_rfl) (k0 := 0) (by kernel_rfl) (by kernel_rfl) (.inl rfl) (fun _ _ _ h => h) (by rfl) HC.out ?_ ?_
      rotate_left
      · intro W hW
        go_simp
        first | done | rfl
      simp only [Act.put, List.setIfInBounds_toArray, List.set_cons_zero, List.set_cons_succ, List.getElem_toArray, List.getElem_cons_zero, List.getElem_cons_succ]
      refine z_take (i := 1) (v := ?_) rfl (by kernel_rfl) (by kernel_rfl) (by kernel_rfl) (k0 := 1) (by kernel_rfl) (by kernel_rfl) (.inl rfl) (fun _ _ _ h => h) (by rfl) HC.out ?_ ?_
      rotate_left
      · intro W hW
        go_simp
        first | done | rfl
      simp only [Act.put, List.setIfInBounds_toArray, List.set_cons_zero, List.set_cons_succ, List.getElem_toArray, List.getElem_cons_zero, List.getElem_cons_succ]
      refine z_take (i := 2) (v := ?_) rfl (by kernel_rfl) (by kernel_rfl) (by kernel_rfl) (k0 := 2) (by kernel_rfl) (by kernel_rfl) (.inl rfl) (fun _ _ _ h => h) (by rfl) HC.out ?_ ?_
      rotate_left
      · intro W hW
        go_simp
        first | done | rfl
      simp only [Act.put, List.setIfInBounds_toArray, List.set_cons_zero, List.set_cons_succ, List.getElem_toArray, List.getElem_cons_zero, List.getElem_cons_succ]
      refine z_take (i := 3) (v := ?_) rfl (by kernel_rfl) (by kernel_rfl) (by kernel_rfl) (k0 := 3) (by kernel_rfl) (by kernel_rfl) (.inl rfl) (fun _ _ _ h => h) (by rfl) HC.out ?_ ?_
      rotate_left
      · intro W hW
        obtain ⟨k0, k1, k2, k3, k4, k5, k6, k7, k8, k9, k10, k11⟩ := (HM.out.below hW hltM).c12
        go_simp
        first | done | rfl
      simp only [Act.put, List.setIfInBounds_toArray, List.set_cons_zero, List.set_cons_succ, List.getElem_toArray, List.getElem_cons_zero, List.getElem_cons_succ]
      refine z_take (i := 4) (v := ?_) rfl (by kernel_rfl) (by kernel_rfl) (by kernel_rfl) (k0 := 4) (by kernel_rfl) (by kernel_rfl) (.inl rfl) (fun _ _ _ h => h) (by rfl) HC.out ?_ ?_
      rotate_left
      · intro W hW
        go_simp
        first | done | rfl
      simp only [Act.put, List.setIfInBounds_toArray, List.set_cons_zero, List.set_cons_succ, List.getElem_toArray, List.getElem_cons_zero, List.getElem_cons_succ]
      refine z_take (i := 5) (v := ?_) rfl (by kernel_rfl) (by kernel_rfl) (by kernel_rfl) (k0 := 5) (by kernel_rfl) (by kernel_rfl) (.inl rfl) (fun _ _ _ h => h) (by rfl) HC.out ?_ ?_
      rotate_left
      · intro W hW
        go_simp
        first | done | rfl
      simp only [Act.put, List.setIfInBounds_toArray, List.set_cons_zero, List.set_cons_succ, List.getElem_toArray, List.getElem_cons_zero, List.getElem_cons_succ]
      refine z_take (i := 6) (v := ?_) rfl (by kernel_rfl) (by kernel_rfl) (by kernel_rfl) (k0 := 6) (by kernel_rfl) (by kernel_rfl) (.inl rfl) (fun _ _ _ h => h) (by rfl) HC.out ?_ ?_
      rotate_left
      · intro W hW
        go_simp
        first | done | rfl
      simp only [Act.put, List.setIfInBounds_toArray, List.set_cons_zero, List.set_cons_succ, List.getElem_toArray, List.getElem_cons_zero, List.getElem_cons_succ]
      refine z_take (i := 7) (v := ?_) rfl (by kernel_rfl) (by kernel_rfl) (by kernel_rfl) (k0 := 7) (by kernel_rfl) (by kernel_rfl) (.inl rfl) (fun _ _ _ h => h) (by rfl) HC.out ?_ ?_
      rotate_left
      · intro W hW
        obtain ⟨k0, k1, k2, k3, k4, k5, k6, k7, k8, k9, k10, k11⟩ := (HM.out.below hW hltM).c12
        go_simp
        first | done | rfl
      simp only [Act.put, List.setIfInBounds_toArray, List.set_cons_zero, List.set_cons_succ, List.getElem_toArray, List.getElem_cons_zero, List.getElem_cons_succ]
      refine z_take (i := 8) (v := ?_) rfl (by kernel_rfl) (by kernel_rfl) (by kernel_rfl) (k0 := 8) (by kernel_rfl) (by kernel_rfl) (.inl rfl) (fun _ _ _ h => h) (by rfl) HC.out ?_ ?_
      rotate_left
      · intro W hW
        obtain ⟨q0, q1, q2, q3, q4, q5, q6, q7, q8⟩ := (HX.out.below hW hltX).c9
        go_simp
        first | done | rfl
      simp only [Act.put, List.setIfInBounds_toArray, List.set_cons_zero, List.set_cons_succ, List.getElem_toArray, List.getElem_cons_zero, List.getElem_cons_succ]
      refine z_two (i := 9) (j := 13) (by kernel_rfl) ?_ ?_
      · refine onez_call (i := 9) (f := 47) (args := ?_) rfl (by rfl) ?_ ?_
        rotate_left
        · go_simp
          first | done | rfl
        with_reducible refine (HGR.out _ (HR0.out.stay HC.out)).mono ?_
        rintro e y2 ⟨rfl, hb⟩
        refine ⟨_, rfl, fun _ => HC.out.trans (hb.mono hBz), ?_⟩
        replace HC := Lib.hid (HC.out.trans (hb.mono hBz))
        replace hBz := Nat.le_trans hBz hb.size
        clear hb
        simp only [Act.put, List.setIfInBounds_toArray, List.set_cons_zero, List.set_cons_succ, List.getElem_toArray, List.getElem_cons_zero, List.getElem_cons_succ]
        refine z_take (i := 10) (v := ?_) rfl (by kernel_rfl) (by kernel_rfl) (by kernel_rfl) (k0 := 10) (by kernel_rfl) (by kernel_rfl) (.inl rfl) (fun _ _ _ h => h) (by rfl) HC.out ?_ ?_
        rotate_left
        · intro W hW
          go_simp
          first | done | rfl
        simp only [Act.put, List.setIfInBounds_toArray, List.set_cons_zero, List.set_cons_succ, List.getElem_toArray, List.getElem_cons_zero, List.getElem_cons_succ]
        refine z_take (i := 11) (v := ?_) rfl (by kernel_rfl) (by kernel_rfl) (by kernel_rfl) (k0 := 11) (by kernel_rfl) (by kernel_rfl) (.inl rfl) (fun _ _ _ h => h) (by rfl) HC.out ?_ ?_
        rotate_left
        · intro W hW
          go_simp
          first | done | rfl
        simp only [Act.put, List.setIfInBounds_toArray, List.set_cons_zero, List.set_cons_succ, List.getElem_toArray, List.getElem_cons_zero, List.getElem_cons_succ]
        refine z_take (i := 12) (v := ?_) rfl (by kernel_rfl) (by kernel_rfl) (by kernel_rfl) (k0 := 12) (by kernel_rfl) (by kernel_rfl) (.inl rfl) (fun _ _ _ h => h) (by rfl) HC.out ?_ ?_
        rotate_left
        · intro W hW
          go_simp
          first | done | rfl
        simp only [Act.put, List.setIfInBounds_toArray, List.set_cons_zero, List.set_cons_succ, List.getElem_toArray, List.getElem_cons_zero, List.getElem_cons_succ]
        refine z_one (i := 13) (by kernel_rfl) ?_
        refine onez_run (i := 13) (v := ?_) (w' := ?_) rfl (by rfl) ?_ ?_ ?_
        rotate_left 2
        · go_simp
          first | done | (constructor <;> rfl)
        · exact fun _ => HC.out.alloc hBz _
        simp only [Act.put, List.setIfInBounds_toArray, List.set_cons_zero, List.set_cons_succ, List.getElem_toArray, List.getElem_cons_zero, List.getElem_cons_succ]
        have hg6z := hBz
        have HG := Lib.hid (Whole.new (y2) 23 #[.int .i64 0, .int .i64 0])
        replace HC := Lib.hid (HC.out.alloc hBz (.cells #[.int .i64 0, .int .i64 0] 23))
        replace hBz := HC.out.size
        generalize hw6 : World.alloc (y2) _ = y3 at *
        clear hw6
        generalize hg6 : (y2).heap.size = g6 at *
        clear hg6
        refine z_one (i := 14) (by kernel_rfl) ?_
        obtain ⟨c0, c1⟩ := HG.out.c2
        obtain ⟨e0, e1_⟩ := HG.out.f2
        refine onez_skip (i := 14) (w' := ?_) rfl (by rfl) ?_ ?_ ?_
        rotate_left 1
        · go_simp
          first | done | rfl
        · exact fun _ => below_set2 HC.out hg6z _ _
        simp only [Act.put, List.setIfInBounds_toArray, List.set_cons_zero, List.set_cons_succ, List.getElem_toArray, List.getElem_cons_zero, List.getElem_cons_succ]
        clear c0 c1 e0 e1_
        replace HG := Lib.hid (HG.out.set2 (.int .i64 r1) (.int .i64 r2))
        replace HC := Lib.hid (below_set2 HC.out hg6z (.int .i64 r1) (.int .i64 r2))
        replace hBz := HC.out.size
        generalize hw6 : World.setCell (World.setCell _ _ _) _ _ = y4 at *
        clear hw6
        refine z_take (i := 15) (v := ?_) rfl (by kernel_rfl) (by kernel_rfl) (by kernel_rfl) (k0 := 15) (by kernel_rfl) (by kernel_rfl) (.inl rfl) (fun _ _ _ h => h) (by rfl) HC.out ?_ ?_
        rotate_left
        · intro W hW
          go_simp
          first | done | rfl
        simp only [Act.put, List.setIfInBounds_toArray, List.set_cons_zero, List.set_cons_succ, List.getElem_toArray, List.getElem_cons_zero, List.getElem_cons_succ]
        refine z_done (by kernel_rfl) ?_
        replace HR0 := Lib.hid (HR0.out.stay HC.out)
        replace HK := Lib.hid (HK.out.trans (Below.kept HC.out))
        have hz1 := HK.out.size
        replace HX := Lib.hid (HX.out.below HC.out hltX)
        clear HC hBz HM hltM
        have h6w : w.heap.size < g6 := by omega
        have h6F : g6 ≠ F.g := fun hh => by have := hFlt F.g (.inl rfl); omega
        go_simp
        generalize hw7 : y4 = w7 at *
        clear hw7
        obtain ⟨c0_, c1_⟩ := HG.out.c2
        have hst := HR0.out.st
        dsimp only [rmc] at hst
        obtain ⟨k0, k1, k2, k3, k4, k5, k6, k7, k8, k9, k10, k11⟩ := hst.c12
        have f2g := hst.free 2
        have f3g := hst.free 3
        clear hst
        replace HX := Lib.hid ((HX.out.far (p := ⟨F.g, 2, none⟩) hXg (.int .i64 r1)).far (p := ⟨F.g, 3, none⟩) hXg (.int .i64 r2))
        obtain ⟨q0, q1, q2, q3, q4, q5, q6, q7, q8⟩ := HX.out.c9
        go_wp2_with fail
        replace HR0 := Lib.hid ((HR0.out.cell 2 (.int .i64 r1) (s' := { s1 with b := (r1, s1.b.2) }) rfl rfl rfl rfl rfl).cell 3 (.int .i64 r2) (s' := { s1 with b := (r1, r2) }) rfl rfl rfl rfl rfl)
        replace HK := Lib.hid ((HK.out.set (p := ⟨F.g, 2, none⟩) (.inl (.inl rfl)) (.int .i64 r1)).set (p := ⟨F.g, 3, none⟩) (.inl (.inl rfl)) (.int .i64 r2))
        clear HX HG c0_ c1_ f2g f3g k0 k1 k2 k3 k4 k5 k6 k7 k8 k9 k10 k11 q0 q1 q2 q3 q4 q5 q6 q7 q8
        generalize hwd : World.setCell (World.setCell _ _ _) _ _ = wd at *
        clear hwd
        refine (rmsg_any n F _ _ A c _ HR0.out 1 f).mono ?_
        dsimp only
        rintro e w2 ⟨rfl, hb⟩
        have HYa := Lib.hid (Whole.new w2 41 (mc 1 (n.id : Int) f r1 0 0 0 false (.slice none 0 0)))
        have HYb := Lib.hid (Whole.new w2 41 (mc 1 (n.id : Int) f r1 0 0 0 ry (.slice none 0 0)))
        have ya7 := HYa.out.free 7
        have ya0 := HYa.out.cell 7
        obtain ⟨p0, p1, p2, p3, p4, p5, p6, p7, p8⟩ := HYb.out.c9
        replace HR0 := Lib.hid ((HR0.out.stay hb).stay ((Below.refl _ _).alloc (Nat.le_refl _) (.cells (mc 1 (n.id : Int) f r1 0 0 0 ry (.slice none 0 0)) 41)))
        replace HK := Lib.hid ((HK.out.trans (Below.kept hb)).trans (Below.kept ((Below.refl _ _).alloc (Nat.le_refl _) (.cells (mc 1 (n.id : Int) f r1 0 0 0 ry (.slice none 0 0)) 41))))
        clear hb HYa HYb
        go_wp2_with fail
        go_ret
        rw [HRES.out]
        have hzz := HK.out.size
        refine ⟨_, rfl, SlS.wide (new1_at _ 41 (α := M) (1, (n.id : Int), f, r1, 0, 0, 0, ry, []) (mcx (1, (n.id : Int), f, r1, 0, 0, 0, ry, []) (.slice none 0 0)) (fits_msg HFIT.out (SlS.nil _ (fun _ => False))) (by simp)) (fun b hb _ => ?_), stepTo_of ((HR0.out.stay ((Below.refl _ _).alloc (Nat.le_refl _) _)).wide (fun b hb _ => .inl hb.1) (fun b hb hf => by
          rcases hb with hb | hb
          · exact HOFF.out b hb hf
          · have := hFlt b hf; omega)) (HK.out.trans (Below.kept ((Below.refl _ _).alloc (Nat.le_refl _) _)))⟩
        rcases hb with hb | hb
        · exact hb.1.elim
        · rw [World.size_alloc] at hb hzz; omega
      · refine onez_run (i := 13) (v := ?_) (w' := ?_) rfl (by rfl) ?_ ?_ ?_
        rotate_left 2
        · go_simp
          first | done | (constructor <;> rfl)
        · exact fun _ => HC.out.alloc hBz _
        simp only [Act.put, List.setIfInBounds_toArray, List.set_cons_zero, List.set_cons_succ, List.getElem_toArray, List.getElem_cons_zero, List.getElem_cons_succ]
        have hg6z := hBz
        have HG := Lib.hid (Whole.new (y1) 23 #[.int .i64 0, .int .i64 0])
        replace HC := Lib.hid (HC.out.alloc hBz (.cells #[.int .i64 0, .int .i64 0] 23))
        replace hBz := HC.out.size
        generalize hw6 : World.alloc (y1) _ = y5 at *
        clear hw6
        have hg6lt := HG.out.lt
        refine z_one (i := 9) (by kernel_rfl) ?_
        refine onez_call (i := 9) (f := 47) (args := ?_) rfl (by rfl) ?_ ?_
        rotate_left
        · go_simp
          first | done | rfl
        with_reducible refine (HGR.out _ (HR0.out.stay HC.out)).mono ?_
        rintro e y6 ⟨rfl, hb⟩
        refine ⟨_, rfl, fun _ => HC.out.trans (hb.mono hBz), ?_⟩
        replace HC := Lib.hid (HC.out.trans (hb.mono hBz))
        replace hBz := Nat.le_trans hBz hb.size
        replace HG := Lib.hid (HG.out.below hb hg6lt)
        clear hb
        simp only [Act.put, List.setIfInBounds_toArray, List.set_cons_zero, List.set_cons_succ, List.getElem_toArray, List.getElem_cons_zero, List.getElem_cons_succ]
        refine z_take (i := 10) (v := ?_) rfl (by kernel_rfl) (by kernel_rfl) (by kernel_rfl) (k0 := 10) (by kernel_rfl) (by kernel_rfl) (.inl rfl) (fun _ _ _ h => h) (by rfl) HC.out ?_ ?_
        rotate_left
        · intro W hW
          go_simp
          first | done | rfl
        simp only [Act.put, List.setIfInBounds_toArray, List.set_cons_zero, List.set_cons_succ, List.getElem_toArray, List.getElem_cons_zero, List.getElem_cons_succ]
        refine z_take (i := 11) (v := ?_) rfl (by kernel_rfl) (by kernel_rfl) (by kernel_rfl) (k0 := 11) (by kernel_rfl) (by kernel_rfl) (.inl rfl) (fun _ _ _ h => h) (by rfl) HC.out ?_ ?_
        rotate_left
        · intro W hW
          go_simp
          first | done | rfl
        simp only [Act.put, List.setIfInBounds_toArray, List.set_cons_zero, List.set_cons_succ, List.getElem_toArray, List.getElem_cons_zero, List.getElem_cons_succ]
        refine z_take (i := 12) (v := ?_) rfl (by kernel_rfl) (by kernel_rfl) (by kernel_rfl) (k0 := 12) (by kernel_rfl) (by kernel_rfl) (.inl rfl) (fun _ _ _ h => h) (by rfl) HC.out ?_ ?_
        rotate_left
        · intro W hW
          go_simp
          first | done | rfl
        simp only [Act.put, List.setIfInBounds_toArray, List.set_cons_zero, List.set_cons_succ, List.getElem_toArray, List.getElem_cons_zero, List.getElem_cons_succ]
        refine z_one (i := 14) (by kernel_rfl) ?_
        obtain ⟨c0, c1⟩ := HG.out.c2
        obtain ⟨e0, e1_⟩ := HG.out.f2
        refine onez_skip (i := 14) (w' := ?_) rfl (by rfl) ?_ ?_ ?_
        rotate_left 1
        · go_simp
          first | done | rfl
        · exact fun _ => below_set2 HC.out hg6z _ _
        simp only [Act.put, List.setIfInBounds_toArray, List.set_cons_zero, List.set_cons_succ, List.getElem_toArray, List.getElem_cons_zero, List.getElem_cons_succ]
        clear c0 c1 e0 e1_
        replace HG := Lib.hid (HG.out.set2 (.int .i64 r1) (.int .i64 r2))
        replace HC := Lib.hid (below_set2 HC.out hg6z (.int .i64 r1) (.int .i64 r2))
        replace hBz := HC.out.size
        generalize hw6 : World.setCell (World.setCell _ _ _) _ _ = y7 at *
        clear hw6
        refine z_take (i := 15) (v := ?_) rfl (by kernel_rfl) (by kernel_rfl) (by kernel_rfl) (k0 := 15) (by kernel_rfl) (by kernel_rfl) (.inl rfl) (fun _ _ _ h => h) (by rfl) HC.out ?_ ?_
        rotate_left
        · intro W hW
          go_simp
          first | done | rfl
        simp only [Act.put, List.setIfInBounds_toArray, List.set_cons_zero, List.set_cons_succ, List.getElem_toArray, List.getElem_cons_zero, List.getElem_cons_succ]
        refine z_done (by kernel_rfl) ?_
        replace HR0 := Lib.hid (HR0.out.stay HC.out)
        replace HK := Lib.hid (HK.out.trans (Below.kept HC.out))
        have hz1 := HK.out.size
        replace HX := Lib.hid (HX.out.below HC.out hltX)
        clear HC hBz HM hltM
        clear hg6lt
        generalize hg6 : y1.heap.size = g6 at *
        clear hg6
        have h6w : w.heap.size < g6 := by omega
        have h6F : g6 ≠ F.g := fun hh => by have := hFlt F.g (.inl rfl); omega
        go_simp
        generalize hw7 : y7 = w7 at *
        clear hw7
        obtain ⟨c0_, c1_⟩ := HG.out.c2
        have hst := HR0.out.st
        dsimp only [rmc] at hst
        obtain ⟨k0, k1, k2, k3, k4, k5, k6, k7, k8, k9, k10, k11⟩ := hst.c12
        have f2g := hst.free 2
        have f3g := hst.free 3
        clear hst
        replace HX := Lib.hid ((HX.out.far (p := ⟨F.g, 2, none⟩) hXg (.int .i64 r1)).far (p := ⟨F.g, 3, none⟩) hXg (.int .i64 r2))
        obtain ⟨q0, q1, q2, q3, q4, q5, q6, q7, q8⟩ := HX.out.c9
        go_wp2_with fail
        replace HR0 := Lib.hid ((HR0.out.cell 2 (.int .i64 r1) (s' := { s1 with b := (r1, s1.b.2) }) rfl rfl rfl rfl rfl).cell 3 (.int .i64 r2) (s' := { s1 with b := (r1, r2) }) rfl rfl rfl rfl rfl)
        replace HK := Lib.hid ((HK.out.set (p := ⟨F.g, 2, none⟩) (.inl (.inl rfl)) (.int .i64 r1)).set (p := ⟨F.g, 3, none⟩) (.inl (.inl rfl)) (.int .i64 r2))
        clear HX HG c0_ c1_ f2g f3g k0 k1 k2 k3 k4 k5 k6 k7 k8 k9 k10 k11 q0 q1 q2 q3 q4 q5 q6 q7 q8
        generalize hwd : World.setCell (World.setCell _ _ _) _ _ = wd at *
        clear hwd
        refine (rmsg_any n F _ _ A c _ HR0.out 1 f).mono ?_
        dsimp only
        rintro e w2 ⟨rfl, hb⟩
        have HYa := Lib.hid (Whole.new w2 41 (mc 1 (n.id : Int) f r1 0 0 0 false (.slice none 0 0)))
        have HYb := Lib.hid (Whole.new w2 41 (mc 1 (n.id : Int) f r1 0 0 0 ry (.slice none 0 0)))
        have ya7 := HYa.out.free 7
        have ya0 := HYa.out.cell 7
        obtain ⟨p0, p1, p2, p3, p4, p5, p6, p7, p8⟩ := HYb.out.c9
        replace HR0 := Lib.hid ((HR0.out.stay hb).stay ((Below.refl _ _).alloc (Nat.le_refl _) (.cells (mc 1 (n.id : Int) f r1 0 0 0 ry (.slice none 0 0)) 41)))
        replace HK := Lib.hid ((HK.out.trans (Below.kept hb)).trans (Below.kept ((Below.refl _ _).alloc (Nat.le_refl _) (.cells (mc 1 (n.id : Int) f r1 0 0 0 ry (.slice none 0 0)) 41))))
        clear hb HYa HYb
        go_wp2_with fail
        go_ret
        rw [HRES.out]
        have hzz := HK.out.size
        refine ⟨_, rfl, SlS.wide (new1_at _ 41 (α := M) (1, (n.id : Int), f, r1, 0, 0, 0, ry, []) (mcx (1, (n.id : Int), f, r1, 0, 0, 0, ry, []) (.slice none 0 0)) (fits_msg HFIT.out (SlS.nil _ (fun _ => False))) (by simp)) (fun b hb _ => ?_), stepTo_of ((HR0.out.stay ((Below.refl _ _).alloc (Nat.le_refl _) _)).wide (fun b hb _ => .inl hb.1) (fun b hb hf => by
          rcases hb with hb | hb
          · exact HOFF.out b hb hf
          · have := hFlt b hf; omega)) (HK.out.trans (Below.kept ((Below.refl _ _).alloc (Nat.le_refl _) _)))⟩
        rcases hb with hb | hb
        · exact hb.1.elim
        · rw [World.size_alloc] at hb hzz; omega
    · go_wp2_with fail
      go_quiet (fail)
      go_wp2_with fail
      clear k0 k1 k2 k3 k4 k5 k6 k7 k8 k9 k10 k11 q0 q1 q2 q3 q4 q5 q6 q7 q8
      replace HR0 := Lib.hid (HR0.out.stay (below_drewN (Below.refl _ _) nq))
      replace HX := Lib.hid (HX.out.below (below_drewN (Below.refl _ _) nq) HX.out.lt)
      replace HK := Lib.hid (HK.out.trans (Below.kept (below_drewN (Below.refl _ _) nq)))
      rw [← HS1.out] at HR0 HG1
      generalize hw8 : World.drewN _ nq = w8 at *
      clear hw8 HS1
      have hfm := HMN.out.2.2.1
      have hfM := HMN.out.2.2.2.1
      have hres := HH.out
      have hres2 : Rf.hear n s (1, f, o, t, i, u, cm, y, L) = Rf.voted n s1 (1, f, o, t, i, u, cm, y, L) := hres
      have HRES := Lib.hid hres2
      have HV := Lib.hid (rvoted_any n F (fun b => S b ∧ b < w.heap.size) s1 HG1.out A c w8 HR0.out 1 f o t i u cm y L A2 n2 c2 ⟨hfm, hfM⟩)
      clear hres hres2 HH HMN
      refine HV.out.mono ?_
      rintro e w9 ⟨v9, rfl, hv9, hs9⟩
      have HV9 := Lib.hid hv9
      have HS9 := Lib.hid hs9
      clear hv9 hs9 HV
      go_wp2_with fail
      go_ret
      rw [HRES.out]
      exact ⟨v9, rfl, SlS.wide HV9.out (fun b hb _ => Nat.le_trans HK.out.size hb), HS9.out.from_ HK.out (fun b hb => hb.1)⟩
    · go_wp2_with fail
      go_quiet (fail)
      go_wp2_with fail
      clear k0 k1 k2 k3 k4 k5 k6 k7 k8 k9 k10 k11 q0 q1 q2 q3 q4 q5 q6 q7 q8
      replace HR0 := Lib.hid (HR0.out.stay (below_drewN (Below.refl _ _) nq))
      replace HX := Lib.hid (HX.out.below (below_drewN (Below.refl _ _) nq) HX.out.lt)
      replace HK := Lib.hid (HK.out.trans (Below.kept (below_drewN (Below.refl _ _) nq)))
      rw [← HS1.out] at HR0 HG1
      generalize hw8 : World.drewN _ nq = w8 at *
      clear hw8 HS1
      have hfm := HMN.out.2.2.1
      have hfM := HMN.out.2.2.2.1
      have hres := HH.out
      have hres2 : Rf.hear n s (2, f, o, t, i, u, cm, y, L) = Rf.add n s1 (2, f, o, t, i, u, cm, y, L) := hres
      have HRES := Lib.hid hres2
      have hll := HK.out.sl HLS.out (fun b hb => HOFF.out b hb.1)
      have HV := Lib.hid (radd_msg_any n F (fun b => S b ∧ b < w.heap.size) s1 HG1.out A c w8 HR0.out 2 f o t i u cm y L A2 n2 c2 ⟨hfm, hfM⟩ hii hLl hll)
      clear hll
      clear hres hres2 HH HMN
      refine HV.out.mono ?_
      rintro e w9 ⟨v9, rfl, hv9, hs9⟩
      have HV9 := Lib.hid hv9
      have HS9 := Lib.hid hs9
      clear hv9 hs9 HV
      go_wp2_with fail
      go_ret
      rw [HRES.out]
      exact ⟨v9, rfl, SlS.wide HV9.out (fun b hb _ => Nat.le_trans HK.out.size hb), HS9.out.from_ HK.out (fun b hb => hb.1)⟩
    · go_wp2_with fail
      go_quiet (fail)
      go_wp2_with fail
      clear k0 k1 k2 k3 k4 k5 k6 k7 k8 k9 k10 k11 q0 q1 q2 q3 q4 q5 q6 q7 q8
      replace HR0 := Lib.hid (HR0.out.stay (below_drewN (Below.refl _ _) nq))
      replace HX := Lib.hid (HX.out.below (below_drewN (Below.refl _ _) nq) HX.out.lt)
      replace HK := Lib.hid (HK.out.trans (Below.kept (below_drewN (Below.refl _ _) nq)))
      rw [← HS1.out] at HR0 HG1
      generalize hw8 : World.drewN _ nq = w8 at *
      clear hw8 HS1
      have hfm := HMN.out.2.2.1
      have hfM := HMN.out.2.2.2.1
      have hres := HH.out
      have hres2 : Rf.hear n s (3, f, o, t, i, u, cm, y, L) = Rf.added n s1 (3, f, o, t, i, u, cm, y, L) := hres
      have HRES := Lib.hid hres2
      have HV := Lib.hid (radded_any n F (fun b => S b ∧ b < w.heap.size) s1 HG1.out A c w8 HR0.out 3 f o t i u cm y L A2 n2 c2 ⟨hfm, hfM⟩ hii)
      clear hres hres2 HH HMN
      refine HV.out.mono ?_
      rintro e w9 ⟨v9, rfl, hv9, hs9⟩
      have HV9 := Lib.hid hv9
      have HS9 := Lib.hid hs9
      clear hv9 hs9 HV
      go_wp2_with fail
      go_ret
      rw [HRES.out]
      exact ⟨v9, rfl, SlS.wide HV9.out (fun b hb _ => Nat.le_trans HK.out.size hb), HS9.out.from_ HK.out (fun b hb => hb.1)⟩
end Go.Proofs.YtjcljkbalpgfdaaGreat
