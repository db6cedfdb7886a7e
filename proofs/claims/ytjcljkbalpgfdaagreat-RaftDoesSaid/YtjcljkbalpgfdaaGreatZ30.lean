/-
  Parts that the statement rests on, joined: Raddm.
-/
import Derived.Test.YtjcljkbalpgfdaaGreatZ21
import Derived.Test.YtjcljkbalpgfdaaGreatZ29
import Derived.BigQuiet
/-
  What the reference's add answers and leaves.
-/




namespace Go.Proofs.YtjcljkbalpgfdaaGreat
open Go.RowKit

theorem keptF {F : Foot} {w w' : World} (h : Kept (fun b => F.has b ∨ w.heap.size ≤ b) w w') : Kept F.has w w' :=
  ⟨h.os, h.tape, h.output, h.size, fun b hb hn => h.block b hb (fun hh => hh.elim hn (fun h => by omega))⟩
set_option maxRecDepth 100000 in
set_option maxHeartbeats 4000000 in
theorem radd_msg_any (n : Rf.Id) (F : Foot) (S : Nat → Prop) (s : Rf.St) (hg : Rf.Good n s) (A : Option Addr) (c : Nat) (w : World) (h : RMem n F S w s A c) (k f o t i u cm : Int) (y : Bool) (L : List E) (A2 : Option Addr) (n2 c2 : Nat) (hff : 1 ≤ f ∧ f ≤ n.many) (hii : -9223372036854775808 ≤ i ∧ i ≤ 9223372036854775807) (hLl : L.length ≤ 100000) (hL : SlS w S (.slice A2 n2 c2) L) :
    Calls Tryz.prog 50 #[.pointer (some ⟨F.g, 0, none⟩), .agg (mc k f o t i u cm y (.slice A2 n2 c2))] w fun e w' => ∃ v, e = .returned v ∧ MsgsOut w (Rf.add n s (k, f, o, t, i, u, cm, y, L)).2 v w' ∧ StepTo n F S w (Rf.add n s (k, f, o, t, i, u, cm, y, L)).1 w' := by
  have hFlt := Foot.lt h
  have HOFF := Lib.hid h.off
  have HB := Lib.hid ((Below.refl w.heap.size w).alloc (Nat.le_refl _) (.cells (mc k f o t i u cm y (.slice A2 n2 c2)) 41))
  have HX := Lib.hid (Whole.new w 41 (mc k f o t i u cm y (.slice A2 n2 c2)))
  have HR0 := Lib.hid (h.here.stay HB.out)
  have HK := Lib.hid (show Kept F.has w _ from Below.kept HB.out)
  have HLS := Lib.hid hL
  have hid1 := hg.id1
  have hid2 := hg.id2
  have hmany := hg.many
  have hbb := hg.b
  clear h hL
  have hst := HR0.out.st
  dsimp only [rmc] at hst
  obtain ⟨k0, k1, k2, k3, k4, k5, k6, k7, k8, k9, k10, k11⟩ := hst.c12
  obtain ⟨q0, q1, q2, q3, q4, q5, q6, q7, q8⟩ := HX.out.c9
  clear hst
  go_enter Tryz.func50, Tryz.ntmps50
  go_wp2_with fail
  with_reducible refine (rmsg_any n F _ s A c _ HR0.out 3 f).mono ?_
  rintro e w2 ⟨rfl, hb⟩
  replace HR0 := Lib.hid ((HR0.out.stay hb).stay ((Below.refl _ _).alloc (Nat.le_refl _) (.cells (mc 3 (n.id : Int) f s.b.1 0 0 0 false (.slice none 0 0)) 41)))
  replace HX := Lib.hid ((HX.out.below hb HX.out.lt).alloc (.cells (mc 3 (n.id : Int) f s.b.1 0 0 0 false (.slice none 0 0)) 41))
  have HY := Lib.hid (Whole.new w2 41 (mc 3 (n.id : Int) f s.b.1 0 0 0 false (.slice none 0 0)))
  have hz2 := hb.size
  rw [World.size_alloc] at hz2
  replace HK := Lib.hid ((HK.out.trans (Below.kept hb)).trans (Below.kept ((Below.refl _ _).alloc (Nat.le_refl _) (.cells (mc 3 (n.id : Int) f s.b.1 0 0 0 false (.slice none 0 0)) 41))))
  have hF5 : ¬ F.has w2.heap.size := fun hh => by have := hFlt _ hh; omega
  have hS5 : ¬ (S w2.heap.size ∧ w2.heap.size < w.heap.size) := fun hh => by omega
  have h35 : w.heap.size ≠ w2.heap.size := by omega
  have h5lt := HY.out.lt
  have h5ge : w.heap.size ≤ w2.heap.size := by omega
  clear hb k0 k1 k2 k3 k4 k5 k6 k7 k8 k9 k10 k11 q0 q1 q2 q3 q4 q5 q6 q7 q8
  have hst := HR0.out.st
  dsimp only [rmc] at hst
  obtain ⟨k0, k1, k2, k3, k4, k5, k6, k7, k8, k9, k10, k11⟩ := hst.c12
  clear hst
  obtain ⟨q0, q1, q2, q3, q4, q5, q6, q7, q8⟩ := HX.out.c9
  clear HB
  by_cases h1 : t < s.b.1
  · have hres : Rf.add n s (k, f, o, t, i, u, cm, y, L) = (s, [(3, (n.id : Int), f, s.b.1, 0, 0, 0, false, [])]) := by unfold Rf.add Rf.say; rw [if_pos h1]
    go_wp2_with fail
    go_quiet (fail)
    replace HR0 := Lib.hid (HR0.out.stay (below_drewN (Below.refl _ _) nq))
    replace HY := Lib.hid (HY.out.below (below_drewN (Below.refl _ _) nq) HY.out.lt)
    replace HK := Lib.hid (HK.out.trans (Below.kept (below_drewN (Below.refl _ _) nq)))
    clear HX k0 k1 k2 k3 k4 k5 k6 k7 k8 k9 k10 k11 q0 q1 q2 q3 q4 q5 q6 q7 q8
    generalize hw4 : World.drewN _ nq = w4 at *
    clear hw4
    have hfit : MsgFit (3, (n.id : Int), f, s.b.1, 0, 0, 0, false, []) := by unfold MsgFit; simp only; omega
    obtain ⟨p0, p1, p2, p3, p4, p5, p6, p7, p8⟩ := HY.out.c9
    go_wp2_with fail
    go_ret
    rw [hres]
    have hzz := HK.out.size
    refine ⟨_, rfl, SlS.wide (SlS.new1 _ 41 (α := M) (3, (n.id : Int), f, s.b.1, 0, 0, 0, false, []) (mcx (3, (n.id : Int), f, s.b.1, 0, 0, 0, false, []) (.slice none 0 0)) (fits_msg hfit (SlS.nil _ (fun _ => False)))) (fun b hb _ => ?_), stepTo_of (HR0.out.stay ((Below.refl _ _).alloc (Nat.le_refl _) _) |>.wide (fun b hb _ => .inl hb.1) (fun b hb hf => by
      rcases hb with hb | hb
      · exact HOFF.out b hb hf
      · have := hFlt b hf; omega)) (HK.out.trans (Below.kept ((Below.refl _ _).alloc (Nat.le_refl _) _)))⟩
    rcases hb with hb | hb
    · exact hb.1.elim
    · omega
  have d1 : decide (t < s.b.1) = false := by simpa using h1
  by_cases h2 : s.is = 2
  · have hres : Rf.add n s (k, f, o, t, i, u, cm, y, L) = (s, []) := by unfold Rf.add; rw [if_neg h1, if_pos h2]
    have e2 : (s.is == 2) = true := by simpa using h2
    clear h2
    go_wp2_with fail
    go_quiet (fail)
    go_wp2_with fail
    go_ret
    rw [hres]
    exact ⟨_, rfl, msgsOut_nil _ _, stepTo_of ((HR0.out.stay (below_drewN (Below.refl _ _) _)).wide (fun b hb _ => .inl hb.1) (fun b hb hf => by
      rcases hb with hb | hb
      · exact HOFF.out b hb hf
      · have := hFlt b hf; omega)) (HK.out.trans (Below.kept (below_drewN (Below.refl _ _) _)))⟩
  have e2 : (s.is == 2) = false := by simpa using h2
  have hf7 := HR0.out.st.free 7
  have hadd0 : Rf.add n s (k, f, o, t, i, u, cm, y, L) = if (Lg.add (0, 0, s.l) i u L).2 ≠ 0 ∨ (L.all fun e => decide (e.1 ≤ t)) = false then ({ s with is := 0 }, [(3, (n.id : Int), f, s.b.1, (Lg.last (0, 0, s.l)).1, 0, 0, false, [])]) else ({ s with is := 0, l := (Lg.add (0, 0, s.l) i u L).1.2.2, upto := max s.upto (min cm (i + L.length)) }, [(3, (n.id : Int), f, s.b.1, i + L.length, 0, 0, true, [])]) := by unfold Rf.add; rw [if_neg h1, if_neg h2]; rfl
  have HADD := Lib.hid hadd0
  have hin : (Lg.add (0, 0, s.l) i u L).2 = 0 → 0 ≤ i ∧ i ≤ 64 ∧ (Lg.add (0, 0, s.l) i u L).1.1 = 0 ∧ (Lg.add (0, 0, s.l) i u L).1.2.1 = 0 := fun he => by
    obtain ⟨L2, a2, hA⟩ := Lg.added he
    have h3 := hA.at_
    have h4 := hA.le
    have h5 := hg.len
    rw [hA.eq]
    exact ⟨by omega, by omega, rfl, rfl⟩
  have HIN := Lib.hid hin
  have HA := Lib.hid (fun W (hr : RMem n F (fun b => S b ∧ b < w.heap.size) W { s with is := 0 } A c) (hl : SlS W S (.slice A2 n2 c2) L) => radd_any 0 0 i u hii _ _ s.l L hLl W W.heap.size (Nat.le_refl _) hr.sl (SlS.here hl))
  have hlf := Rf.last_fit hg
  unfold Rf.last Rf.lg at hlf
  have hup := hg.upto
  have HLA := Lib.hid (fun W (hr : RMem n F (fun b => S b ∧ b < w.heap.size) W { s with is := 0 } A c) => rlast_any 0 0 _ s.l W W.heap.size (Nat.le_refl _) hr.sl)
  have HFI := Lib.hid (fun W (hl : SlS W S (.slice A2 n2 c2) L) => rfits_any k f o t i u cm y _ L hLl W W.heap.size (Nat.le_refl _) (SlS.here hl))
  clear hadd0 hin h1 h2 hg
  generalize (L.all fun e => decide (e.1 ≤ t)) = ft at *
  generalize Lg.add (0, 0, s.l) i u L = r at *
  generalize hlq : Lg.last (0, 0, s.l) = q at *
  obtain ⟨la1, la2⟩ := q
  have HLQ := Lib.hid hlq
  clear hlq
  obtain ⟨⟨rb, rt, rl⟩, re⟩ := r
  simp only at HLA hlf
  have hll := (SlS.room HLS.out).1
  subst hll
  go_wp2_with fail
  go_quiet (fail)
  go_wp2_with fail
  clear hf7 k0 k1 k2 k3 k4 k5 k6 k7 k8 k9 k10 k11 q0 q1 q2 q3 q4 q5 q6 q7 q8
  have hgX : w.heap.size ≠ F.g := fun hh => by have := hFlt F.g (.inl rfl); omega
  have hgY : w2.heap.size ≠ F.g := fun hh => by have := hFlt F.g (.inl rfl); omega
  replace HR0 := Lib.hid ((HR0.out.stay (below_drewN (Below.refl _ _) nq)).cell 7 (.int .i64 0) (s' := { s with is := 0 }) rfl rfl rfl rfl rfl)
  replace HX := Lib.hid ((HX.out.below (below_drewN (Below.refl _ _) nq) HX.out.lt).far (p := ⟨F.g, 7, none⟩) hgX (.int .i64 0))
  replace HY := Lib.hid ((HY.out.below (below_drewN (Below.refl _ _) nq) HY.out.lt).far (p := ⟨F.g, 7, none⟩) hgY (.int .i64 0))
  replace HK := Lib.hid ((HK.out.trans (Below.kept (below_drewN (Below.refl _ _) nq))).set (p := ⟨F.g, 7, none⟩) (.inl (.inl rfl)) (.int .i64 0))
  generalize hw4 : World.setCell (World.drewN _ nq) _ _ = w4 at *
  clear hw4
  clear h5lt
  generalize w2.heap.size = g5 at *
  have h5lt := HY.out.lt
  have HM := Lib.hid HR0.out.st
  dsimp only [rmc] at HM
  refine z_start ((w4).drew.heap.size) [] (by kernel_rfl) ?_
  have HC := Lib.hid (Below.refl ((w4).drew.heap.size) (w4).drew)
  have hBz : (w4).drew.heap.size ≤ (w4).drew.heap.size := Nat.le_refl _
  replace HM := Lib.hid (show Whole (w4).drew _ _ _ from HM.out)
  have hltM := HM.out.lt
  replace HX := Lib.hid (show Whole (w4).drew _ _ _ from HX.out)
  have hltX := HX.out.lt
  replace HK := Lib.hid (HK.out.trans (Below.kept (Below.refl _ _).drew))
  replace HR0 := Lib.hid (HR0.out.stay (Below.refl _ _).drew)
  replace HY := Lib.hid (HY.out.below (Below.refl _ _).drew HY.out.lt)
  generalize (w4).drew = z1 at *
  refine z_take (i := 0) (v := ?_) rfl (by kernel_rfl) (by kernel_rfl) (by kernel_rfl) (k0 := 0) (by kernel_rfl) (by kernel_rfl) (.inl rfl) (fun _ _ _ h => h) (by rfl) HC.out ?_ ?_
  rotate_left
  · intro W hW
    go_simp
    first | done | rfl
  simp only [Act.put, List.setIfInBounds_toArray, List.set_cons_zero, List.set_cons_succ, List.getElem_toArray, List.getElem_cons_zero, List.getElem_cons_succ]
  refine z_take (i := 1) (v := ?_) rfl (by kernel_rfl) (by kernel_rfl) (by kernel_rfl) (k0 := 1) (by kernel_rfl) (by kernel_rfl) (.inl rfl) (fun _ _ _ h => h) (by rfl) HC.out ?_ ?_
  rotate_left
  · intro W hW
    go_simp
    first | done | rfl
  simp only [Act.put, List.setIfInBounds_toArray, List.set_cons_zero, List.set_cons_succ, List.getElem_toArray, List.getElem_cons_zero, List.getElem_cons_succ]
  refine z_take (i := 2) (v := ?_) rfl (by kernel_rfl) (by kernel_rfl) (by kernel_rfl) (k0 := 2) (by kernel_rfl) (by kernel_rfl) (.inl rfl) (fun _ _ _ h => h) (by rfl) HC.out ?_ ?_
  rotate_left
  · intro W hW
    go_simp
    first | done | rfl
  simp only [Act.put, List.setIfInBounds_toArray, List.set_cons_zero, List.set_cons_succ, List.getElem_toArray, List.getElem_cons_zero, List.getElem_cons_succ]
  refine z_take (i := 3) (v := ?_) rfl (by kernel_rfl) (by kernel_rfl) (by kernel_rfl) (k0 := 3) (by kernel_rfl) (by kernel_rfl) (.inl rfl) (fun _ _ _ h => h) (by rfl) HC.out ?_ ?_
  rotate_left
  · intro W hW
    obtain ⟨k0, k1, k2, k3, k4, k5, k6, k7, k8, k9, k10, k11⟩ := (HM.out.below hW hltM).c12
    go_simp
    first | done | rfl
  simp only [Act.put, List.setIfInBounds_toArray, List.set_cons_zero, List.set_cons_succ, List.getElem_toArray, List.getElem_cons_zero, List.getElem_cons_succ]
  refine z_take (i := 4) (v := ?_) rfl (by kernel_rfl) (by kernel_rfl) (by kernel_rfl) (k0 := 4) (by kernel_rfl) (by kernel_rfl) (.inl rfl) (fun _ _ _ h => h) (by rfl) HC.out ?_ ?_
  rotate_left
  · intro W hW
    go_simp
    first | done | rfl
  simp only [Act.put, List.setIfInBounds_toArray, List.set_cons_zero, List.set_cons_succ, List.getElem_toArray, List.getElem_cons_zero, List.getElem_cons_succ]
  refine z_take (i := 5) (v := ?_) rfl (by kernel_rfl) (by kernel_rfl) (by kernel_rfl) (k0 := 5) (by kernel_rfl) (by kernel_rfl) (.inl rfl) (fun _ _ _ h => h) (by rfl) HC.out ?_ ?_
  rotate_left
  · intro W hW
    obtain ⟨q0, q1, q2, q3, q4, q5, q6, q7, q8⟩ := (HX.out.below hW hltX).c9
    go_simp
    first | done | rfl
  simp only [Act.put, List.setIfInBounds_toArray, List.set_cons_zero, List.set_cons_succ, List.getElem_toArray, List.getElem_cons_zero, List.getElem_cons_succ]
  refine z_take (i := 6) (v := ?_) rfl (by kernel_rfl) (by kernel_rfl) (by kernel_rfl) (k0 := 6) (by kernel_rfl) (by kernel_rfl) (.inl rfl) (fun _ _ _ h => h) (by rfl) HC.out ?_ ?_
  rotate_left
  · intro W hW
    go_simp
    first | done | rfl
  simp only [Act.put, List.setIfInBounds_toArray, List.set_cons_zero, List.set_cons_succ, List.getElem_toArray, List.getElem_cons_zero, List.getElem_cons_succ]
  refine z_take (i := 7) (v := ?_) rfl (by kernel_rfl) (by kernel_rfl) (by kernel_rfl) (k0 := 7) (by kernel_rfl) (by kernel_rfl) (.inl rfl) (fun _ _ _ h => h) (by rfl) HC.out ?_ ?_
  rotate_left
  · intro W hW
    obtain ⟨q0, q1, q2, q3, q4, q5, q6, q7, q8⟩ := (HX.out.below hW hltX).c9
    go_simp
    first | done | rfl
  simp only [Act.put, List.setIfInBounds_toArray, List.set_cons_zero, List.set_cons_succ, List.getElem_toArray, List.getElem_cons_zero, List.getElem_cons_succ]
  refine z_take (i := 8) (v := ?_) rfl (by kernel_rfl) (by kernel_rfl) (by kernel_rfl) (k0 := 8) (by kernel_rfl) (by kernel_rfl) (.inl rfl) (fun _ _ _ h => h) (by rfl) HC.out ?_ ?_
  rotate_left
  · intro W hW
    go_simp
    first | done | rfl
  simp only [Act.put, List.setIfInBounds_toArray, List.set_cons_zero, List.set_cons_succ, List.getElem_toArray, List.getElem_cons_zero, List.getElem_cons_succ]
  refine z_take (i := 9) (v := ?_) rfl (by kernel_rfl) (by kernel_rfl) (by kernel_rfl) (k0 := 9) (by kernel_rfl) (by kernel_rfl) (.inl rfl) (fun _ _ _ h => h) (by rfl) HC.out ?_ ?_
  rotate_left
  · intro W hW
    obtain ⟨q0, q1, q2, q3, q4, q5, q6, q7, q8⟩ := (HX.out.below hW hltX).c9
    go_simp
    first | done | rfl
  simp only [Act.put, List.setIfInBounds_toArray, List.set_cons_zero, List.set_cons_succ, List.getElem_toArray, List.getElem_cons_zero, List.getElem_cons_succ]
  refine z_two (i := 10) (j := 14) (by kernel_rfl) ?_ ?_
  · refine onez_call (i := 10) (f := 68) (args := ?_) rfl (by rfl) ?_ ?_
    rotate_left
    · go_simp
      first | done | rfl
    with_reducible refine (HA.out _ (HR0.out.stay HC.out) ((HK.out.trans (Below.kept HC.out)).sl HLS.out HOFF.out)).mono ?_
    rintro e z2 ⟨v6, rfl, hs, hb⟩
    refine ⟨_, rfl, fun _ => HC.out.trans (hb.mono hBz), ?_⟩
    replace HC := Lib.hid (HC.out.trans (hb.mono hBz))
    replace hBz := Nat.le_trans hBz hb.size
    have HO := Lib.hid hs
    clear hs
    clear hb
    simp only [Act.put, List.setIfInBounds_toArray, List.set_cons_zero, List.set_cons_succ, List.getElem_toArray, List.getElem_cons_zero, List.getElem_cons_succ]
    refine z_take (i := 11) (v := ?_) rfl (by kernel_rfl) (by kernel_rfl) (by kernel_rfl) (k0 := 11) (by kernel_rfl) (by kernel_rfl) (.inl rfl) (fun _ _ _ h => h) (by rfl) HC.out ?_ ?_
    rotate_left
    · intro W hW
      go_simp
      first | done | rfl
    simp only [Act.put, List.setIfInBounds_toArray, List.set_cons_zero, List.set_cons_succ, List.getElem_toArray, List.getElem_cons_zero, List.getElem_cons_succ]
    refine z_take (i := 12) (v := ?_) rfl (by kernel_rfl) (by kernel_rfl) (by kernel_rfl) (k0 := 12) (by kernel_rfl) (by kernel_rfl) (.inl rfl) (fun _ _ _ h => h) (by rfl) HC.out ?_ ?_
    rotate_left
    · intro W hW
      go_simp
      first | done | rfl
    simp only [Act.put, List.setIfInBounds_toArray, List.set_cons_zero, List.set_cons_succ, List.getElem_toArray, List.getElem_cons_zero, List.getElem_cons_succ]
    refine z_take (i := 13) (v := ?_) rfl (by kernel_rfl) (by kernel_rfl) (by kernel_rfl) (k0 := 13) (by kernel_rfl) (by kernel_rfl) (.inl rfl) (fun _ _ _ h => h) (by rfl) HC.out ?_ ?_
    rotate_left
    · intro W hW
      go_simp
      first | done | rfl
    simp only [Act.put, List.setIfInBounds_toArray, List.set_cons_zero, List.set_cons_succ, List.getElem_toArray, List.getElem_cons_zero, List.getElem_cons_succ]
    refine z_one (i := 14) (by kernel_rfl) ?_
    refine onez_run (i := 14) (v := ?_) (w' := ?_) rfl (by rfl) ?_ ?_ ?_
    rotate_left 2
    · go_simp
      first | done | (constructor <;> rfl)
    · exact fun _ => HC.out.alloc hBz _
    simp only [Act.put, List.setIfInBounds_toArray, List.set_cons_zero, List.set_cons_succ, List.getElem_toArray, List.getElem_cons_zero, List.getElem_cons_succ]
    have hg6z := hBz
    replace HO := Lib.hid (((HO.out.wide (T := fun b => z1.heap.size ≤ b ∧ b ≠ z2.heap.size) (fun b hb hlt => ⟨hb, by omega⟩)).stay (fun b _ hlt => ((Below.refl _ _).alloc (Nat.le_refl _) (.cells #[.int .i64 0, .int .i64 0, .slice none 0 0] 26)).block b hlt)))
    have HG := Lib.hid (Whole.new (z2) 26 #[.int .i64 0, .int .i64 0, .slice none 0 0])
    replace HC := Lib.hid (HC.out.alloc hBz (.cells #[.int .i64 0, .int .i64 0, .slice none 0 0] 26))
    replace hBz := HC.out.size
    generalize hw6 : World.alloc (z2) _ = z3 at *
    clear hw6
    generalize hg6 : (z2).heap.size = g6 at *
    clear hg6
    refine z_one (i := 15) (by kernel_rfl) ?_
    obtain ⟨A6, d6, rfl, -, -⟩ := SlS.form HO.out
    obtain ⟨c0, c1, c2_⟩ := HG.out.c3
    obtain ⟨e0, e1_, e2_⟩ := HG.out.f3
    refine onez_skip (i := 15) (w' := ?_) rfl (by rfl) ?_ ?_ ?_
    rotate_left 1
    · go_simp
      first | done | rfl
    · exact fun _ => below_set3 HC.out hg6z _ _ _
    simp only [Act.put, List.setIfInBounds_toArray, List.set_cons_zero, List.set_cons_succ, List.getElem_toArray, List.getElem_cons_zero, List.getElem_cons_succ]
    clear c0 c1 c2_ e0 e1_ e2_
    replace HG := Lib.hid (HG.out.set3 (.int .i64 rb) (.int .i64 rt) (.slice A6 rl.length d6))
    replace HC := Lib.hid (below_set3 HC.out hg6z (.int .i64 rb) (.int .i64 rt) (.slice A6 rl.length d6))
    replace HO := Lib.hid (sls_far (sls_far (sls_far HO.out (p := ⟨g6, 0, none⟩) (fun hh => hh.2 rfl) (.int .i64 rb)) (p := ⟨g6, 1, none⟩) (fun hh => hh.2 rfl) (.int .i64 rt)) (p := ⟨g6, 2, none⟩) (fun hh => hh.2 rfl) (.slice A6 rl.length d6))
    replace hBz := HC.out.size
    generalize hw6 : World.setCell (World.setCell (World.setCell _ _ _) _ _) _ _ = z4 at *
    clear hw6
    refine z_take (i := 16) (v := ?_) rfl (by kernel_rfl) (by kernel_rfl) (by kernel_rfl) (k0 := 16) (by kernel_rfl) (by kernel_rfl) (.inl rfl) (fun _ _ _ h => h) (by rfl) HC.out ?_ ?_
    rotate_left
    · intro W hW
      go_simp
      first | done | rfl
    simp only [Act.put, List.setIfInBounds_toArray, List.set_cons_zero, List.set_cons_succ, List.getElem_toArray, List.getElem_cons_zero, List.getElem_cons_succ]
    refine z_done (by kernel_rfl) ?_
    replace HO := Lib.hid (show SlS _ _ (.slice A6 rl.length d6) rl from HO.out)
    have hz1 := HK.out.size
    have hy1 := HY.out.lt
    replace HR0 := Lib.hid (HR0.out.stay HC.out)
    replace HX := Lib.hid (HX.out.below HC.out hltX)
    replace HY := Lib.hid (HY.out.below HC.out hy1)
    replace HK := Lib.hid (HK.out.trans (Below.kept HC.out))
    have HL2 := Lib.hid (HK.out.sl HLS.out HOFF.out)
    clear HC hBz HM hltM
    have h6w : w.heap.size < g6 := by omega
    have h65 : g5 < g6 := by omega
    have hFg := hFlt F.g (.inl rfl)
    have h56 : g5 ≠ g6 := by omega
    have h6F : g6 ≠ F.g := by omega
    have h36 : w.heap.size ≠ g6 := by omega
    have h3F : w.heap.size ≠ F.g := by omega
    have h5F : g5 ≠ F.g := by omega
    replace HR0 := Lib.hid (HR0.out.wide (S' := fun b => (S b ∧ b < w.heap.size) ∨ (w.heap.size ≤ b ∧ b ≠ g5 ∧ b ≠ g6 ∧ b ≠ w.heap.size)) (fun b hb _ => .inl hb) (fun b hb hf => by
      rcases hb with hb | hb
      · exact HOFF.out b hb.1 hf
      · have := hFlt b hf; omega))
    have hSHY : ¬ ((S g5 ∧ g5 < w.heap.size) ∨ (w.heap.size ≤ g5 ∧ g5 ≠ g5 ∧ g5 ≠ g6 ∧ g5 ≠ w.heap.size)) := fun hh => by rcases hh with hh | hh <;> omega
    replace HO := Lib.hid (HO.out.wide (T := fun b => (S b ∧ b < w.heap.size) ∨ (w.heap.size ≤ b ∧ b ≠ g5 ∧ b ≠ g6 ∧ b ≠ w.heap.size)) (fun b hb _ => .inr (by have := hb.1; have := hb.2; omega)))
    go_simp
    generalize hw7 : z4 = w7 at *
    clear hw7
    obtain ⟨q0, q1, q2, q3, q4, q5, q6, q7, q8⟩ := HX.out.c9
    go_wp2_with fail
    with_reducible refine (HFI.out _ HL2.out).mono ?_
    rintro e w8 ⟨rfl, hb⟩
    replace HR0 := Lib.hid (HR0.out.stay hb)
    replace HX := Lib.hid (HX.out.below hb HX.out.lt)
    replace HY := Lib.hid (HY.out.below hb HY.out.lt)
    replace HG := Lib.hid (HG.out.below hb HG.out.lt)
    replace HO := Lib.hid (HO.out.stay (fun b _ hlt => hb.block b hlt))
    replace HK := Lib.hid (HK.out.trans (Below.kept hb))
    have hz8 := HY.out.lt
    clear hb HFI HL2 HLS q0 q1 q2 q3 q4 q5 q6 q7 q8
    by_cases hbad : re ≠ 0 ∨ ft = false
    · have hres := HADD.out
      rw [if_pos hbad] at hres
      have HRES := Lib.hid hres
      clear hres HADD HIN HG HO
      have hst := HR0.out.st
      dsimp only [rmc] at hst
      obtain ⟨k0, k1, k2, k3, k4, k5, k6, k7, k8, k9, k10, k11⟩ := hst.c12
      clear hst
      have HLA2 := Lib.hid (rlast_any 0 0 _ s.l w8 w8.heap.size (Nat.le_refl _) HR0.out.sl)
      rw [HLQ.out] at HLA2
      have hfit : MsgFit (3, (n.id : Int), f, s.b.1, la1, 0, 0, false, []) := by unfold MsgFit; simp only; omega
      rcases hbad with hbad | hbad
      · have e8 : (re != 0) = true := by simpa using hbad
        clear hbad
        go_wp2_with fail
        with_reducible refine HLA2.out.mono ?_
        rintro e w9 ⟨rfl, hb⟩
        replace HR0 := Lib.hid (HR0.out.stay hb)
        replace HY := Lib.hid (HY.out.below hb HY.out.lt)
        replace HK := Lib.hid (HK.out.trans (Below.kept hb))
        have hz9 := HY.out.lt
        clear hb HLA2 k0 k1 k2 k3 k4 k5 k6 k7 k8 k9 k10 k11
        obtain ⟨cq0, cq1, cq2, cq3, cq4, cq5, cq6, cq7, cq8⟩ := HY.out.c9
        obtain ⟨fy0, fy1, fy2, fy3, fy4, fy5, fy6, fy7, fy8⟩ := HY.out.f9
        replace HY := Lib.hid (Whole.setTo HY.out 4 (.int .i64 la1) (cs2 := mc 3 (n.id : Int) f s.b.1 la1 0 0 false (.slice none 0 0)) rfl)
        replace HR0 := Lib.hid (HR0.out.far (p := ⟨g5, 4, none⟩) hF5 hSHY (.int .i64 la1))
        replace HK := Lib.hid ((HK.out.mono (D' := fun b => F.has b ∨ w.heap.size ≤ b) (fun b _ hb => .inl hb)).set (p := ⟨g5, 4, none⟩) (.inl (.inr h5ge)) (.int .i64 la1))
        obtain ⟨p0, p1, p2, p3, p4, p5, p6, p7, p8⟩ := HY.out.c9
        go_wp2_with fail
        go_ret
        rw [HRES.out]
        have hzz := HK.out.size
        have hKF := keptF HK.out
        refine ⟨_, rfl, SlS.wide (new1_at _ 41 (α := M) (3, (n.id : Int), f, s.b.1, la1, 0, 0, false, []) (mcx (3, (n.id : Int), f, s.b.1, la1, 0, 0, false, []) (.slice none 0 0)) (fits_msg hfit (SlS.nil _ (fun _ => False))) (by simp)) (fun b hb _ => ?_), stepTo_of (HR0.out.stay ((Below.refl _ _).alloc (Nat.le_refl _) _) |>.wide (fun b hb _ => hb.imp (fun h => h.1) (fun h => h.1)) (fun b hb hf => by
          rcases hb with hb | hb
          · exact HOFF.out b hb hf
          · have := hFlt b hf; omega)) (hKF.trans (Below.kept ((Below.refl _ _).alloc (Nat.le_refl _) _)))⟩
        rcases hb with hb | hb
        · exact hb.1.elim
        · omega
      · subst hbad
        by_cases hre : re = 0
        · have e8 : (re != 0) = false := by simpa using hre
          clear hre
          go_wp2_with fail
          with_reducible refine HLA2.out.mono ?_
          rintro e w9 ⟨rfl, hb⟩
          replace HR0 := Lib.hid (HR0.out.stay hb)
          replace HY := Lib.hid (HY.out.below hb HY.out.lt)
          replace HK := Lib.hid (HK.out.trans (Below.kept hb))
          have hz9 := HY.out.lt
          clear hb HLA2 k0 k1 k2 k3 k4 k5 k6 k7 k8 k9 k10 k11
          obtain ⟨cq0, cq1, cq2, cq3, cq4, cq5, cq6, cq7, cq8⟩ := HY.out.c9
          obtain ⟨fy0, fy1, fy2, fy3, fy4, fy5, fy6, fy7, fy8⟩ := HY.out.f9
          replace HY := Lib.hid (Whole.setTo HY.out 4 (.int .i64 la1) (cs2 := mc 3 (n.id : Int) f s.b.1 la1 0 0 false (.slice none 0 0)) rfl)
          replace HR0 := Lib.hid (HR0.out.far (p := ⟨g5, 4, none⟩) hF5 hSHY (.int .i64 la1))
          replace HK := Lib.hid ((HK.out.mono (D' := fun b => F.has b ∨ w.heap.size ≤ b) (fun b _ hb => .inl hb)).set (p := ⟨g5, 4, none⟩) (.inl (.inr h5ge)) (.int .i64 la1))
          obtain ⟨p0, p1, p2, p3, p4, p5, p6, p7, p8⟩ := HY.out.c9
          go_wp2_with fail
          go_ret
          rw [HRES.out]
          have hzz := HK.out.size
          have hKF := keptF HK.out
          refine ⟨_, rfl, SlS.wide (new1_at _ 41 (α := M) (3, (n.id : Int), f, s.b.1, la1, 0, 0, false, []) (mcx (3, (n.id : Int), f, s.b.1, la1, 0, 0, false, []) (.slice none 0 0)) (fits_msg hfit (SlS.nil _ (fun _ => False))) (by simp)) (fun b hb _ => ?_), stepTo_of (HR0.out.stay ((Below.refl _ _).alloc (Nat.le_refl _) _) |>.wide (fun b hb _ => hb.imp (fun h => h.1) (fun h => h.1)) (fun b hb hf => by
            rcases hb with hb | hb
            · exact HOFF.out b hb hf
            · have := hFlt b hf; omega)) (hKF.trans (Below.kept ((Below.refl _ _).alloc (Nat.le_refl _) _)))⟩
          rcases hb with hb | hb
          · exact hb.1.elim
          · omega
        · have e8 : (re != 0) = true := by simpa using hre
          clear hre
          go_wp2_with fail
          with_reducible refine HLA2.out.mono ?_
          rintro e w9 ⟨rfl, hb⟩
          replace HR0 := Lib.hid (HR0.out.stay hb)
          replace HY := Lib.hid (HY.out.below hb HY.out.lt)
          replace HK := Lib.hid (HK.out.trans (Below.kept hb))
          have hz9 := HY.out.lt
          clear hb HLA2 k0 k1 k2 k3 k4 k5 k6 k7 k8 k9 k10 k11
          obtain ⟨cq0, cq1, cq2, cq3, cq4, cq5, cq6, cq7, cq8⟩ := HY.out.c9
          obtain ⟨fy0, fy1, fy2, fy3, fy4, fy5, fy6, fy7, fy8⟩ := HY.out.f9
          replace HY := Lib.hid (Whole.setTo HY.out 4 (.int .i64 la1) (cs2 := mc 3 (n.id : Int) f s.b.1 la1 0 0 false (.slice none 0 0)) rfl)
          replace HR0 := Lib.hid (HR0.out.far (p := ⟨g5, 4, none⟩) hF5 hSHY (.int .i64 la1))
          replace HK := Lib.hid ((HK.out.mono (D' := fun b => F.has b ∨ w.heap.size ≤ b) (fun b _ hb => .inl hb)).set (p := ⟨g5, 4, none⟩) (.inl (.inr h5ge)) (.int .i64 la1))
          obtain ⟨p0, p1, p2, p3, p4, p5, p6, p7, p8⟩ := HY.out.c9
          go_wp2_with fail
          go_ret
          rw [HRES.out]
          have hzz := HK.out.size
          have hKF := keptF HK.out
          refine ⟨_, rfl, SlS.wide (new1_at _ 41 (α := M) (3, (n.id : Int), f, s.b.1, la1, 0, 0, false, []) (mcx (3, (n.id : Int), f, s.b.1, la1, 0, 0, false, []) (.slice none 0 0)) (fits_msg hfit (SlS.nil _ (fun _ => False))) (by simp)) (fun b hb _ => ?_), stepTo_of (HR0.out.stay ((Below.refl _ _).alloc (Nat.le_refl _) _) |>.wide (fun b hb _ => hb.imp (fun h => h.1) (fun h => h.1)) (fun b hb hf => by
            rcases hb with hb | hb
            · exact HOFF.out b hb hf
            · have := hFlt b hf; omega)) (hKF.trans (Below.kept ((Below.refl _ _).alloc (Nat.le_refl _) _)))⟩
          rcases hb with hb | hb
          · exact hb.1.elim
          · omega
    have hres := HADD.out
    rw [if_neg hbad] at hres
    have hre : re = 0 := Classical.byContradiction fun h => hbad (.inl h)
    have hft : ft = true := Eq.mp (Bool.not_eq_false ft) (fun h => hbad (.inr h))
    subst hre hft
    obtain ⟨hi0, hi64, rfl, rfl⟩ := HIN.out rfl
    have HRES := Lib.hid hres
    clear hres HADD HIN hbad HLA HLQ
    have hlen : (0 : Int) ≤ (L.length : Int) := by omega
    generalize hln : L.length = ln at *
    clear hln
    have hfit : MsgFit (3, (n.id : Int), f, s.b.1, (i + (ln : Int)), 0, 0, true, []) := by unfold MsgFit; simp only; omega
    have hwr : IntKind.i64.wrap (i + (ln : Int)) = i + (ln : Int) := by rw [IntKind.wrap_i64]; omega
    obtain ⟨b0_, b1_, b2_⟩ := HG.out.c3
    have hst := HR0.out.st
    dsimp only [rmc] at hst
    obtain ⟨k0, k1, k2, k3, k4, k5, k6, k7, k8, k9, k10, k11⟩ := hst.c12
    have f4g := hst.free 4
    have f5g := hst.free 5
    have f6g := hst.free 6
    clear hst
    replace HR0 := Lib.hid (HR0.out.log HO.out)
    dsimp only at HR0
    replace HY := Lib.hid (((HY.out.far (p := ⟨F.g, 4, none⟩) h5F (.int .i64 0)).far (p := ⟨F.g, 5, none⟩) h5F (.int .i64 0)).far (p := ⟨F.g, 6, none⟩) h5F (.slice A6 rl.length d6))
    replace HX := Lib.hid (((HX.out.far (p := ⟨F.g, 4, none⟩) h3F (.int .i64 0)).far (p := ⟨F.g, 5, none⟩) h3F (.int .i64 0)).far (p := ⟨F.g, 6, none⟩) h3F (.slice A6 rl.length d6))
    replace HK := Lib.hid (((HK.out.set (p := ⟨F.g, 4, none⟩) (.inl (.inl rfl)) (.int .i64 0)).set (p := ⟨F.g, 5, none⟩) (.inl (.inl rfl)) (.int .i64 0)).set (p := ⟨F.g, 6, none⟩) (.inl (.inl rfl)) (.slice A6 rl.length d6))
    clear HG HO
    generalize rl.length = rn at *
    obtain ⟨ya0, ya1, ya2, ya3, ya4, ya5, ya6, ya7, ya8⟩ := HY.out.c9
    have ya9 := HY.out.free 7
    replace HY := Lib.hid (Whole.setTo HY.out 7 (.bool true) (cs2 := mc 3 (n.id : Int) f s.b.1 0 0 0 true (.slice none 0 0)) rfl)
    replace HX := Lib.hid (HX.out.far (p := ⟨g5, 7, none⟩) h35 (.bool true))
    replace HR0 := Lib.hid (HR0.out.far (p := ⟨g5, 7, none⟩) hF5 hSHY (.bool true))
    replace HK := Lib.hid ((HK.out.mono (D' := fun b => F.has b ∨ w.heap.size ≤ b) (fun b _ hb => .inl hb)).set (p := ⟨g5, 7, none⟩) (.inl (.inr h5ge)) (.bool true))
    obtain ⟨xb0, xb1, xb2, xb3, xb4, xb5, xb6, xb7, xb8⟩ := HX.out.c9
    obtain ⟨yb0, yb1, yb2, yb3, yb4, yb5, yb6, yb7, yb8⟩ := HY.out.c9
    have yb9 := HY.out.free 4
    replace HY := Lib.hid (Whole.setTo HY.out 4 (.int .i64 (i + (ln : Int))) (cs2 := mc 3 (n.id : Int) f s.b.1 (i + (ln : Int)) 0 0 true (.slice none 0 0)) rfl)
    replace HX := Lib.hid (HX.out.far (p := ⟨g5, 4, none⟩) h35 (.int .i64 (i + (ln : Int))))
    replace HR0 := Lib.hid (HR0.out.far (p := ⟨g5, 4, none⟩) hF5 hSHY (.int .i64 (i + (ln : Int))))
    replace HK := Lib.hid ((HK.out.mono (D' := fun b => F.has b ∨ w.heap.size ≤ b) (fun b _ hb => hb)).set (p := ⟨g5, 4, none⟩) (.inl (.inr h5ge)) (.int .i64 (i + (ln : Int))))
    obtain ⟨xc0, xc1, xc2, xc3, xc4, xc5, xc6, xc7, xc8⟩ := HX.out.c9
    obtain ⟨yc0, yc1, yc2, yc3, yc4, yc5, yc6, yc7, yc8⟩ := HY.out.c9
    have hst := HR0.out.st
    dsimp only [rmc] at hst
    obtain ⟨kc0, kc1, kc2, kc3, kc4, kc5, kc6, kc7, kc8, kc9, kc10, kc11⟩ := hst.c12
    have f8g := hst.free 8
    clear hst
    by_cases hlt : i + (ln : Int) < cm
    · by_cases hgt : s.upto < i + (ln : Int)
      · have hmin : min cm (i + (ln : Int)) = (i + (ln : Int)) := by omega
        have hmax : max s.upto (min cm (i + (ln : Int))) = (i + (ln : Int)) := by omega
        have HRES2 := Lib.hid (HRES.out)
        rw [hmax] at HRES2
        replace HR0 := Lib.hid (HR0.out.cell 8 (.int .i64 (i + (ln : Int))) (s' := { s with is := 0, l := rl, upto := (i + (ln : Int)) }) rfl rfl rfl rfl rfl)
        replace HY := Lib.hid (HY.out.far (p := ⟨F.g, 8, none⟩) h5F (.int .i64 (i + (ln : Int))))
        replace HK := Lib.hid (HK.out.set (p := ⟨F.g, 8, none⟩) (.inl (.inl (.inl rfl))) (.int .i64 (i + (ln : Int))))
        obtain ⟨yd0, yd1, yd2, yd3, yd4, yd5, yd6, yd7, yd8⟩ := HY.out.c9
        clear hmin hmax HRES
        go_wp2_with fail
        go_ret
        rw [HRES2.out]
        have hzz := HK.out.size
        have hKF := keptF HK.out
        refine ⟨_, rfl, SlS.wide (new1_at _ 41 (α := M) (3, (n.id : Int), f, s.b.1, (i + (ln : Int)), 0, 0, true, []) (mcx (3, (n.id : Int), f, s.b.1, (i + (ln : Int)), 0, 0, true, []) (.slice none 0 0)) (fits_msg hfit (SlS.nil _ (fun _ => False))) (by simp)) (fun b hb _ => ?_), stepTo_of (HR0.out.stay ((Below.refl _ _).alloc (Nat.le_refl _) _) |>.wide (fun b hb _ => hb.imp (fun h => h.1) (fun h => h.1)) (fun b hb hf => by
          rcases hb with hb | hb
          · exact HOFF.out b hb hf
          · have := hFlt b hf; omega)) (hKF.trans (Below.kept ((Below.refl _ _).alloc (Nat.le_refl _) _)))⟩
        rcases hb with hb | hb
        · exact hb.1.elim
        · omega
      · have dgt : decide (s.upto < i + (ln : Int)) = false := by simpa using hgt
        have hmin : min cm (i + (ln : Int)) = (i + (ln : Int)) := by omega
        have hmax : max s.upto (min cm (i + (ln : Int))) = s.upto := by omega
        have HRES2 := Lib.hid (HRES.out)
        rw [hmax] at HRES2
        clear hmin hmax HRES
        go_wp2_with fail
        go_ret
        rw [HRES2.out]
        have hzz := HK.out.size
        have hKF := keptF HK.out
        refine ⟨_, rfl, SlS.wide (new1_at _ 41 (α := M) (3, (n.id : Int), f, s.b.1, (i + (ln : Int)), 0, 0, true, []) (mcx (3, (n.id : Int), f, s.b.1, (i + (ln : Int)), 0, 0, true, []) (.slice none 0 0)) (fits_msg hfit (SlS.nil _ (fun _ => False))) (by simp)) (fun b hb _ => ?_), stepTo_of (HR0.out.stay ((Below.refl _ _).alloc (Nat.le_refl _) _) |>.wide (fun b hb _ => hb.imp (fun h => h.1) (fun h => h.1)) (fun b hb hf => by
          rcases hb with hb | hb
          · exact HOFF.out b hb hf
          · have := hFlt b hf; omega)) (hKF.trans (Below.kept ((Below.refl _ _).alloc (Nat.le_refl _) _)))⟩
        rcases hb with hb | hb
        · exact hb.1.elim
        · omega
    · have dlt : decide (i + (ln : Int) < cm) = false := by simpa using hlt
      by_cases hgt : s.upto < cm
      · have hmin : min cm (i + (ln : Int)) = cm := by omega
        have hmax : max s.upto (min cm (i + (ln : Int))) = cm := by omega
        have HRES2 := Lib.hid (HRES.out)
        rw [hmax] at HRES2
        replace HR0 := Lib.hid (HR0.out.cell 8 (.int .i64 cm) (s' := { s with is := 0, l := rl, upto := cm }) rfl rfl rfl rfl rfl)
        replace HY := Lib.hid (HY.out.far (p := ⟨F.g, 8, none⟩) h5F (.int .i64 cm))
        replace HK := Lib.hid (HK.out.set (p := ⟨F.g, 8, none⟩) (.inl (.inl (.inl rfl))) (.int .i64 cm))
        obtain ⟨yd0, yd1, yd2, yd3, yd4, yd5, yd6, yd7, yd8⟩ := HY.out.c9
        clear hmin hmax HRES
        go_wp2_with fail
        go_ret
        rw [HRES2.out]
        have hzz := HK.out.size
        have hKF := keptF HK.out
        refine ⟨_, rfl, SlS.wide (new1_at _ 41 (α := M) (3, (n.id : Int), f, s.b.1, (i + (ln : Int)), 0, 0, true, []) (mcx (3, (n.id : Int), f, s.b.1, (i + (ln : Int)), 0, 0, true, []) (.slice none 0 0)) (fits_msg hfit (SlS.nil _ (fun _ => False))) (by simp)) (fun b hb _ => ?_), stepTo_of (HR0.out.stay ((Below.refl _ _).alloc (Nat.le_refl _) _) |>.wide (fun b hb _ => hb.imp (fun h => h.1) (fun h => h.1)) (fun b hb hf => by
          rcases hb with hb | hb
          · exact HOFF.out b hb hf
          · have := hFlt b hf; omega)) (hKF.trans (Below.kept ((Below.refl _ _).alloc (Nat.le_refl _) _)))⟩
        rcases hb with hb | hb
        · exact hb.1.elim
        · omega
      · have dgt : decide (s.upto < cm) = false := by simpa using hgt
        have hmin : min cm (i + (ln : Int)) = cm := by omega
        have hmax : max s.upto (min cm (i + (ln : Int))) = s.upto := by omega
        have HRES2 := Lib.hid (HRES.out)
        rw [hmax] at HRES2
        clear hmin hmax HRES
        go_wp2_with fail
        go_ret
        rw [HRES2.out]
        have hzz := HK.out.size
        have hKF := keptF HK.out
        refine ⟨_, rfl, SlS.wide (new1_at _ 41 (α := M) (3, (n.id : Int), f, s.b.1, (i + (ln : Int)), 0, 0, true, []) (mcx (3, (n.id : Int), f, s.b.1, (i + (ln : Int)), 0, 0, true, []) (.slice none 0 0)) (fits_msg hfit (SlS.nil _ (fun _ => False))) (by simp)) (fun b hb _ => ?_), stepTo_of (HR0.out.stay ((Below.refl _ _).alloc (Nat.le_refl _) _) |>.wide (fun b hb _ => hb.imp (fun h => h.1) (fun h => h.1)) (fun b hb hf => by
          rcases hb with hb | hb
          · exact HOFF.out b hb hf
          · have := hFlt b hf; omega)) (hKF.trans (Below.kept ((Below.refl _ _).alloc (Nat.le_refl _) _)))⟩
        rcases hb with hb | hb
        · exact hb.1.elim
        · omega
  · refine onez_run (i := 14) (v := ?_) (w' := ?_) rfl (by rfl) ?_ ?_ ?_
    rotate_left 2
    · go_simp
      first | done | (constructor <;> rfl)
    · exact fun _ => HC.out.alloc hBz _
    simp only [Act.put, List.setIfInBounds_toArray, List.set_cons_zero, List.set_cons_succ, List.getElem_toArray, List.getElem_cons_zero, List.getElem_cons_succ]
    have hg6z := hBz
    have HG := Lib.hid (Whole.new (z1) 26 #[.int .i64 0, .int .i64 0, .slice none 0 0])
    replace HC := Lib.hid (HC.out.alloc hBz (.cells #[.int .i64 0, .int .i64 0, .slice none 0 0] 26))
    replace hBz := HC.out.size
    generalize hw6 : World.alloc (z1) _ = z5 at *
    clear hw6
    have hg6lt := HG.out.lt
    refine z_one (i := 10) (by kernel_rfl) ?_
    refine onez_call (i := 10) (f := 68) (args := ?_) rfl (by rfl) ?_ ?_
    rotate_left
    · go_simp
      first | done | rfl
    with_reducible refine (HA.out _ (HR0.out.stay HC.out) ((HK.out.trans (Below.kept HC.out)).sl HLS.out HOFF.out)).mono ?_
    rintro e z6 ⟨v6, rfl, hs, hb⟩
    refine ⟨_, rfl, fun _ => HC.out.trans (hb.mono hBz), ?_⟩
    replace HC := Lib.hid (HC.out.trans (hb.mono hBz))
    replace hBz := Nat.le_trans hBz hb.size
    have HO := Lib.hid (SlS.wide hs (T := fun b => z1.heap.size ≤ b ∧ b ≠ z1.heap.size) (fun b hb _ => ⟨by omega, by omega⟩))
    replace HG := Lib.hid (HG.out.below hb hg6lt)
    clear hs
    clear hb
    simp only [Act.put, List.setIfInBounds_toArray, List.set_cons_zero, List.set_cons_succ, List.getElem_toArray, List.getElem_cons_zero, List.getElem_cons_succ]
    refine z_take (i := 11) (v := ?_) rfl (by kernel_rfl) (by kernel_rfl) (by kernel_rfl) (k0 := 11) (by kernel_rfl) (by kernel_rfl) (.inl rfl) (fun _ _ _ h => h) (by rfl) HC.out ?_ ?_
    rotate_left
    · intro W hW
      go_simp
      first | done | rfl
    simp only [Act.put, List.setIfInBounds_toArray, List.set_cons_zero, List.set_cons_succ, List.getElem_toArray, List.getElem_cons_zero, List.getElem_cons_succ]
    refine z_take (i := 12) (v := ?_) rfl (by kernel_rfl) (by kernel_rfl) (by kernel_rfl) (k0 := 12) (by kernel_rfl) (by kernel_rfl) (.inl rfl) (fun _ _ _ h => h) (by rfl) HC.out ?_ ?_
    rotate_left
    · intro W hW
      go_simp
      first | done | rfl
    simp only [Act.put, List.setIfInBounds_toArray, List.set_cons_zero, List.set_cons_succ, List.getElem_toArray, List.getElem_cons_zero, List.getElem_cons_succ]
    refine z_take (i := 13) (v := ?_) rfl (by kernel_rfl) (by kernel_rfl) (by kernel_rfl) (k0 := 13) (by kernel_rfl) (by kernel_rfl) (.inl rfl) (fun _ _ _ h => h) (by rfl) HC.out ?_ ?_
    rotate_left
    · intro W hW
      go_simp
      first | done | rfl
    simp only [Act.put, List.setIfInBounds_toArray, List.set_cons_zero, List.set_cons_succ, List.getElem_toArray, List.getElem_cons_zero, List.getElem_cons_succ]
    refine z_one (i := 15) (by kernel_rfl) ?_
    obtain ⟨A6, d6, rfl, -, -⟩ := SlS.form HO.out
    obtain ⟨c0, c1, c2_⟩ := HG.out.c3
    obtain ⟨e0, e1_, e2_⟩ := HG.out.f3
    refine onez_skip (i := 15) (w' := ?_) rfl (by rfl) ?_ ?_ ?_
    rotate_left 1
    · go_simp
      first | done | rfl
    · exact fun _ => below_set3 HC.out hg6z _ _ _
    simp only [Act.put, List.setIfInBounds_toArray, List.set_cons_zero, List.set_cons_succ, List.getElem_toArray, List.getElem_cons_zero, List.getElem_cons_succ]
    clear c0 c1 c2_ e0 e1_ e2_
    replace HG := Lib.hid (HG.out.set3 (.int .i64 rb) (.int .i64 rt) (.slice A6 rl.length d6))
    replace HC := Lib.hid (below_set3 HC.out hg6z (.int .i64 rb) (.int .i64 rt) (.slice A6 rl.length d6))
    replace HO := Lib.hid (sls_far (sls_far (sls_far HO.out (p := ⟨z1.heap.size, 0, none⟩) (fun hh => hh.2 rfl) (.int .i64 rb)) (p := ⟨z1.heap.size, 1, none⟩) (fun hh => hh.2 rfl) (.int .i64 rt)) (p := ⟨z1.heap.size, 2, none⟩) (fun hh => hh.2 rfl) (.slice A6 rl.length d6))
    replace hBz := HC.out.size
    generalize hw6 : World.setCell (World.setCell (World.setCell _ _ _) _ _) _ _ = z7 at *
    clear hw6
    refine z_take (i := 16) (v := ?_) rfl (by kernel_rfl) (by kernel_rfl) (by kernel_rfl) (k0 := 16) (by kernel_rfl) (by kernel_rfl) (.inl rfl) (fun _ _ _ h => h) (by rfl) HC.out ?_ ?_
    rotate_left
    · intro W hW
      go_simp
      first | done | rfl
    simp only [Act.put, List.setIfInBounds_toArray, List.set_cons_zero, List.set_cons_succ, List.getElem_toArray, List.getElem_cons_zero, List.getElem_cons_succ]
    refine z_done (by kernel_rfl) ?_
    replace HO := Lib.hid (show SlS _ _ (.slice A6 rl.length d6) rl from HO.out)
    have hz1 := HK.out.size
    have hy1 := HY.out.lt
    replace HR0 := Lib.hid (HR0.out.stay HC.out)
    replace HX := Lib.hid (HX.out.below HC.out hltX)
    replace HY := Lib.hid (HY.out.below HC.out hy1)
    replace HK := Lib.hid (HK.out.trans (Below.kept HC.out))
    have HL2 := Lib.hid (HK.out.sl HLS.out HOFF.out)
    clear HC hBz HM hltM
    clear hg6lt
    generalize hg6 : z1.heap.size = g6 at *
    clear hg6
    have h6w : w.heap.size < g6 := by omega
    have h65 : g5 < g6 := by omega
    have hFg := hFlt F.g (.inl rfl)
    have h56 : g5 ≠ g6 := by omega
    have h6F : g6 ≠ F.g := by omega
    have h36 : w.heap.size ≠ g6 := by omega
    have h3F : w.heap.size ≠ F.g := by omega
    have h5F : g5 ≠ F.g := by omega
    replace HR0 := Lib.hid (HR0.out.wide (S' := fun b => (S b ∧ b < w.heap.size) ∨ (w.heap.size ≤ b ∧ b ≠ g5 ∧ b ≠ g6 ∧ b ≠ w.heap.size)) (fun b hb _ => .inl hb) (fun b hb hf => by
      rcases hb with hb | hb
      · exact HOFF.out b hb.1 hf
      · have := hFlt b hf; omega))
    have hSHY : ¬ ((S g5 ∧ g5 < w.heap.size) ∨ (w.heap.size ≤ g5 ∧ g5 ≠ g5 ∧ g5 ≠ g6 ∧ g5 ≠ w.heap.size)) := fun hh => by rcases hh with hh | hh <;> omega
    replace HO := Lib.hid (HO.out.wide (T := fun b => (S b ∧ b < w.heap.size) ∨ (w.heap.size ≤ b ∧ b ≠ g5 ∧ b ≠ g6 ∧ b ≠ w.heap.size)) (fun b hb _ => .inr (by have := hb.1; have := hb.2; omega)))
    go_simp
    generalize hw7 : z7 = w7 at *
    clear hw7
    obtain ⟨q0, q1, q2, q3, q4, q5, q6, q7, q8⟩ := HX.out.c9
    go_wp2_with fail
    with_reducible refine (HFI.out _ HL2.out).mono ?_
    rintro e w8 ⟨rfl, hb⟩
    replace HR0 := Lib.hid (HR0.out.stay hb)
    replace HX := Lib.hid (HX.out.below hb HX.out.lt)
    replace HY := Lib.hid (HY.out.below hb HY.out.lt)
    replace HG := Lib.hid (HG.out.below hb HG.out.lt)
    replace HO := Lib.hid (HO.out.stay (fun b _ hlt => hb.block b hlt))
    replace HK := Lib.hid (HK.out.trans (Below.kept hb))
    have hz8 := HY.out.lt
    clear hb HFI HL2 HLS q0 q1 q2 q3 q4 q5 q6 q7 q8
    by_cases hbad : re ≠ 0 ∨ ft = false
    · have hres := HADD.out
      rw [if_pos hbad] at hres
      have HRES := Lib.hid hres
      clear hres HADD HIN HG HO
      have hst := HR0.out.st
      dsimp only [rmc] at hst
      obtain ⟨k0, k1, k2, k3, k4, k5, k6, k7, k8, k9, k10, k11⟩ := hst.c12
      clear hst
      have HLA2 := Lib.hid (rlast_any 0 0 _ s.l w8 w8.heap.size (Nat.le_refl _) HR0.out.sl)
      rw [HLQ.out] at HLA2
      have hfit : MsgFit (3, (n.id : Int), f, s.b.1, la1, 0, 0, false, []) := by unfold MsgFit; simp only; omega
      rcases hbad with hbad | hbad
      · have e8 : (re != 0) = true := by simpa using hbad
        clear hbad
        go_wp2_with fail
        with_reducible refine HLA2.out.mono ?_
        rintro e w9 ⟨rfl, hb⟩
        replace HR0 := Lib.hid (HR0.out.stay hb)
        replace HY := Lib.hid (HY.out.below hb HY.out.lt)
        replace HK := Lib.hid (HK.out.trans (Below.kept hb))
        have hz9 := HY.out.lt
        clear hb HLA2 k0 k1 k2 k3 k4 k5 k6 k7 k8 k9 k10 k11
        obtain ⟨cq0, cq1, cq2, cq3, cq4, cq5, cq6, cq7, cq8⟩ := HY.out.c9
        obtain ⟨fy0, fy1, fy2, fy3, fy4, fy5, fy6, fy7, fy8⟩ := HY.out.f9
        replace HY := Lib.hid (Whole.setTo HY.out 4 (.int .i64 la1) (cs2 := mc 3 (n.id : Int) f s.b.1 la1 0 0 false (.slice none 0 0)) rfl)
        replace HR0 := Lib.hid (HR0.out.far (p := ⟨g5, 4, none⟩) hF5 hSHY (.int .i64 la1))
        replace HK := Lib.hid ((HK.out.mono (D' := fun b => F.has b ∨ w.heap.size ≤ b) (fun b _ hb => .inl hb)).set (p := ⟨g5, 4, none⟩) (.inl (.inr h5ge)) (.int .i64 la1))
        obtain ⟨p0, p1, p2, p3, p4, p5, p6, p7, p8⟩ := HY.out.c9
        go_wp2_with fail
        go_ret
        rw [HRES.out]
        have hzz := HK.out.size
        have hKF := keptF HK.out
        refine ⟨_, rfl, SlS.wide (new1_at _ 41 (α := M) (3, (n.id : Int), f, s.b.1, la1, 0, 0, false, []) (mcx (3, (n.id : Int), f, s.b.1, la1, 0, 0, false, []) (.slice none 0 0)) (fits_msg hfit (SlS.nil _ (fun _ => False))) (by simp)) (fun b hb _ => ?_), stepTo_of (HR0.out.stay ((Below.refl _ _).alloc (Nat.le_refl _) _) |>.wide (fun b hb _ => hb.imp (fun h => h.1) (fun h => h.1)) (fun b hb hf => by
          rcases hb with hb | hb
          · exact HOFF.out b hb hf
          · have := hFlt b hf; omega)) (hKF.trans (Below.kept ((Below.refl _ _).alloc (Nat.le_refl _) _)))⟩
        rcases hb with hb | hb
        · exact hb.1.elim
        · omega
      · subst hbad
        by_cases hre : re = 0
        · have e8 : (re != 0) = false := by simpa using hre
          clear hre
          go_wp2_with fail
          with_reducible refine HLA2.out.mono ?_
          rintro e w9 ⟨rfl, hb⟩
          replace HR0 := Lib.hid (HR0.out.stay hb)
          replace HY := Lib.hid (HY.out.below hb HY.out.lt)
          replace HK := Lib.hid (HK.out.trans (Below.kept hb))
          have hz9 := HY.out.lt
          clear hb HLA2 k0 k1 k2 k3 k4 k5 k6 k7 k8 k9 k10 k11
          obtain ⟨cq0, cq1, cq2, cq3, cq4, cq5, cq6, cq7, cq8⟩ := HY.out.c9
          obtain ⟨fy0, fy1, fy2, fy3, fy4, fy5, fy6, fy7, fy8⟩ := HY.out.f9
          replace HY := Lib.hid (Whole.setTo HY.out 4 (.int .i64 la1) (cs2 := mc 3 (n.id : Int) f s.b.1 la1 0 0 false (.slice none 0 0)) rfl)
          replace HR0 := Lib.hid (HR0.out.far (p := ⟨g5, 4, none⟩) hF5 hSHY (.int .i64 la1))
          replace HK := Lib.hid ((HK.out.mono (D' := fun b => F.has b ∨ w.heap.size ≤ b) (fun b _ hb => .inl hb)).set (p := ⟨g5, 4, none⟩) (.inl (.inr h5ge)) (.int .i64 la1))
          obtain ⟨p0, p1, p2, p3, p4, p5, p6, p7, p8⟩ := HY.out.c9
          go_wp2_with fail
          go_ret
          rw [HRES.out]
          have hzz := HK.out.size
          have hKF := keptF HK.out
          refine ⟨_, rfl, SlS.wide (new1_at _ 41 (α := M) (3, (n.id : Int), f, s.b.1, la1, 0, 0, false, []) (mcx (3, (n.id : Int), f, s.b.1, la1, 0, 0, false, []) (.slice none 0 0)) (fits_msg hfit (SlS.nil _ (fun _ => False))) (by simp)) (fun b hb _ => ?_), stepTo_of (HR0.out.stay ((Below.refl _ _).alloc (Nat.le_refl _) _) |>.wide (fun b hb _ => hb.imp (fun h => h.1) (fun h => h.1)) (fun b hb hf => by
            rcases hb with hb | hb
            · exact HOFF.out b hb hf
            · have := hFlt b hf; omega)) (hKF.trans (Below.kept ((Below.refl _ _).alloc (Nat.le_refl _) _)))⟩
          rcases hb with hb | hb
          · exact hb.1.elim
          · omega
        · have e8 : (re != 0) = true := by simpa using hre
          clear hre
          go_wp2_with fail
          with_reducible refine HLA2.out.mono ?_
          rintro e w9 ⟨rfl, hb⟩
          replace HR0 := Lib.hid (HR0.out.stay hb)
          replace HY := Lib.hid (HY.out.below hb HY.out.lt)
          replace HK := Lib.hid (HK.out.trans (Below.kept hb))
          have hz9 := HY.out.lt
          clear hb HLA2 k0 k1 k2 k3 k4 k5 k6 k7 k8 k9 k10 k11
          obtain ⟨cq0, cq1, cq2, cq3, cq4, cq5, cq6, cq7, cq8⟩ := HY.out.c9
          obtain ⟨fy0, fy1, fy2, fy3, fy4, fy5, fy6, fy7, fy8⟩ := HY.out.f9
          replace HY := Lib.hid (Whole.setTo HY.out 4 (.int .i64 la1) (cs2 := mc 3 (n.id : Int) f s.b.1 la1 0 0 false (.slice none 0 0)) rfl)
          replace HR0 := Lib.hid (HR0.out.far (p := ⟨g5, 4, none⟩) hF5 hSHY (.int .i64 la1))
          replace HK := Lib.hid ((HK.out.mono (D' := fun b => F.has b ∨ w.heap.size ≤ b) (fun b _ hb => .inl hb)).set (p := ⟨g5, 4, none⟩) (.inl (.inr h5ge)) (.int .i64 la1))
          obtain ⟨p0, p1, p2, p3, p4, p5, p6, p7, p8⟩ := HY.out.c9
          go_wp2_with fail
          go_ret
          rw [HRES.out]
          have hzz := HK.out.size
          have hKF := keptF HK.out
          refine ⟨_, rfl, SlS.wide (new1_at _ 41 (α := M) (3, (n.id : Int), f, s.b.1, la1, 0, 0, false, []) (mcx (3, (n.id : Int), f, s.b.1, la1, 0, 0, false, []) (.slice none 0 0)) (fits_msg hfit (SlS.nil _ (fun _ => False))) (by simp)) (fun b hb _ => ?_), stepTo_of (HR0.out.stay ((Below.refl _ _).alloc (Nat.le_refl _) _) |>.wide (fun b hb _ => hb.imp (fun h => h.1) (fun h => h.1)) (fun b hb hf => by
            rcases hb with hb | hb
            · exact HOFF.out b hb hf
            · have := hFlt b hf; omega)) (hKF.trans (Below.kept ((Below.refl _ _).alloc (Nat.le_refl _) _)))⟩
          rcases hb with hb | hb
          · exact hb.1.elim
          · omega
    have hres := HADD.out
    rw [if_neg hbad] at hres
    have hre : re = 0 := Classical.byContradiction fun h => hbad (.inl h)
    have hft : ft = true := Eq.mp (Bool.not_eq_false ft) (fun h => hbad (.inr h))
    subst hre hft
    obtain ⟨hi0, hi64, rfl, rfl⟩ := HIN.out rfl
    have HRES := Lib.hid hres
    clear hres HADD HIN hbad HLA HLQ
    have hlen : (0 : Int) ≤ (L.length : Int) := by omega
    generalize hln : L.length = ln at *
    clear hln
    have hfit : MsgFit (3, (n.id : Int), f, s.b.1, (i + (ln : Int)), 0, 0, true, []) := by unfold MsgFit; simp only; omega
    have hwr : IntKind.i64.wrap (i + (ln : Int)) = i + (ln : Int) := by rw [IntKind.wrap_i64]; omega
    obtain ⟨b0_, b1_, b2_⟩ := HG.out.c3
    have hst := HR0.out.st
    dsimp only [rmc] at hst
    obtain ⟨k0, k1, k2, k3, k4, k5, k6, k7, k8, k9, k10, k11⟩ := hst.c12
    have f4g := hst.free 4
    have f5g := hst.free 5
    have f6g := hst.free 6
    clear hst
    replace HR0 := Lib.hid (HR0.out.log HO.out)
    dsimp only at HR0
    replace HY := Lib.hid (((HY.out.far (p := ⟨F.g, 4, none⟩) h5F (.int .i64 0)).far (p := ⟨F.g, 5, none⟩) h5F (.int .i64 0)).far (p := ⟨F.g, 6, none⟩) h5F (.slice A6 rl.length d6))
    replace HX := Lib.hid (((HX.out.far (p := ⟨F.g, 4, none⟩) h3F (.int .i64 0)).far (p := ⟨F.g, 5, none⟩) h3F (.int .i64 0)).far (p := ⟨F.g, 6, none⟩) h3F (.slice A6 rl.length d6))
    replace HK := Lib.hid (((HK.out.set (p := ⟨F.g, 4, none⟩) (.inl (.inl rfl)) (.int .i64 0)).set (p := ⟨F.g, 5, none⟩) (.inl (.inl rfl)) (.int .i64 0)).set (p := ⟨F.g, 6, none⟩) (.inl (.inl rfl)) (.slice A6 rl.length d6))
    clear HG HO
    generalize rl.length = rn at *
    obtain ⟨ya0, ya1, ya2, ya3, ya4, ya5, ya6, ya7, ya8⟩ := HY.out.c9
    have ya9 := HY.out.free 7
    replace HY := Lib.hid (Whole.setTo HY.out 7 (.bool true) (cs2 := mc 3 (n.id : Int) f s.b.1 0 0 0 true (.slice none 0 0)) rfl)
    replace HX := Lib.hid (HX.out.far (p := ⟨g5, 7, none⟩) h35 (.bool true))
    replace HR0 := Lib.hid (HR0.out.far (p := ⟨g5, 7, none⟩) hF5 hSHY (.bool true))
    replace HK := Lib.hid ((HK.out.mono (D' := fun b => F.has b ∨ w.heap.size ≤ b) (fun b _ hb => .inl hb)).set (p := ⟨g5, 7, none⟩) (.inl (.inr h5ge)) (.bool true))
    obtain ⟨xb0, xb1, xb2, xb3, xb4, xb5, xb6, xb7, xb8⟩ := HX.out.c9
    obtain ⟨yb0, yb1, yb2, yb3, yb4, yb5, yb6, yb7, yb8⟩ := HY.out.c9
    have yb9 := HY.out.free 4
    replace HY := Lib.hid (Whole.setTo HY.out 4 (.int .i64 (i + (ln : Int))) (cs2 := mc 3 (n.id : Int) f s.b.1 (i + (ln : Int)) 0 0 true (.slice none 0 0)) rfl)
    replace HX := Lib.hid (HX.out.far (p := ⟨g5, 4, none⟩) h35 (.int .i64 (i + (ln : Int))))
    replace HR0 := Lib.hid (HR0.out.far (p := ⟨g5, 4, none⟩) hF5 hSHY (.int .i64 (i + (ln : Int))))
    replace HK := Lib.hid ((HK.out.mono (D' := fun b => F.has b ∨ w.heap.size ≤ b) (fun b _ hb => hb)).set (p := ⟨g5, 4, none⟩) (.inl (.inr h5ge)) (.int .i64 (i + (ln : Int))))
    obtain ⟨xc0, xc1, xc2, xc3, xc4, xc5, xc6, xc7, xc8⟩ := HX.out.c9
    obtain ⟨yc0, yc1, yc2, yc3, yc4, yc5, yc6, yc7, yc8⟩ := HY.out.c9
    have hst := HR0.out.st
    dsimp only [rmc] at hst
    obtain ⟨kc0, kc1, kc2, kc3, kc4, kc5, kc6, kc7, kc8, kc9, kc10, kc11⟩ := hst.c12
    have f8g := hst.free 8
    clear hst
    by_cases hlt : i + (ln : Int) < cm
    · by_cases hgt : s.upto < i + (ln : Int)
      · have hmin : min cm (i + (ln : Int)) = (i + (ln : Int)) := by omega
        have hmax : max s.upto (min cm (i + (ln : Int))) = (i + (ln : Int)) := by omega
        have HRES2 := Lib.hid (HRES.out)
        rw [hmax] at HRES2
        replace HR0 := Lib.hid (HR0.out.cell 8 (.int .i64 (i + (ln : Int))) (s' := { s with is := 0, l := rl, upto := (i + (ln : Int)) }) rfl rfl rfl rfl rfl)
        replace HY := Lib.hid (HY.out.far (p := ⟨F.g, 8, none⟩) h5F (.int .i64 (i + (ln : Int))))
        replace HK := Lib.hid (HK.out.set (p := ⟨F.g, 8, none⟩) (.inl (.inl (.inl rfl))) (.int .i64 (i + (ln : Int))))
        obtain ⟨yd0, yd1, yd2, yd3, yd4, yd5, yd6, yd7, yd8⟩ := HY.out.c9
        clear hmin hmax HRES
        go_wp2_with fail
        go_ret
        rw [HRES2.out]
        have hzz := HK.out.size
        have hKF := keptF HK.out
        refine ⟨_, rfl, SlS.wide (new1_at _ 41 (α := M) (3, (n.id : Int), f, s.b.1, (i + (ln : Int)), 0, 0, true, []) (mcx (3, (n.id : Int), f, s.b.1, (i + (ln : Int)), 0, 0, true, []) (.slice none 0 0)) (fits_msg hfit (SlS.nil _ (fun _ => False))) (by simp)) (fun b hb _ => ?_), stepTo_of (HR0.out.stay ((Below.refl _ _).alloc (Nat.le_refl _) _) |>.wide (fun b hb _ => hb.imp (fun h => h.1) (fun h => h.1)) (fun b hb hf => by
          rcases hb with hb | hb
          · exact HOFF.out b hb hf
          · have := hFlt b hf; omega)) (hKF.trans (Below.kept ((Below.refl _ _).alloc (Nat.le_refl _) _)))⟩
        rcases hb with hb | hb
        · exact hb.1.elim
        · omega
      · have dgt : decide (s.upto < i + (ln : Int)) = false := by simpa using hgt
        have hmin : min cm (i + (ln : Int)) = (i + (ln : Int)) := by omega
        have hmax : max s.upto (min cm (i + (ln : Int))) = s.upto := by omega
        have HRES2 := Lib.hid (HRES.out)
        rw [hmax] at HRES2
        clear hmin hmax HRES
        go_wp2_with fail
        go_ret
        rw [HRES2.out]
        have hzz := HK.out.size
        have hKF := keptF HK.out
        refine ⟨_, rfl, SlS.wide (new1_at _ 41 (α := M) (3, (n.id : Int), f, s.b.1, (i + (ln : Int)), 0, 0, true, []) (mcx (3, (n.id : Int), f, s.b.1, (i + (ln : Int)), 0, 0, true, []) (.slice none 0 0)) (fits_msg hfit (SlS.nil _ (fun _ => False))) (by simp)) (fun b hb _ => ?_), stepTo_of (HR0.out.stay ((Below.refl _ _).alloc (Nat.le_refl _) _) |>.wide (fun b hb _ => hb.imp (fun h => h.1) (fun h => h.1)) (fun b hb hf => by
          rcases hb with hb | hb
          · exact HOFF.out b hb hf
          · have := hFlt b hf; omega)) (hKF.trans (Below.kept ((Below.refl _ _).alloc (Nat.le_refl _) _)))⟩
        rcases hb with hb | hb
        · exact hb.1.elim
        · omega
    · have dlt : decide (i + (ln : Int) < cm) = false := by simpa using hlt
      by_cases hgt : s.upto < cm
      · have hmin : min cm (i + (ln : Int)) = cm := by omega
        have hmax : max s.upto (min cm (i + (ln : Int))) = cm := by omega
        have HRES2 := Lib.hid (HRES.out)
        rw [hmax] at HRES2
        replace HR0 := Lib.hid (HR0.out.cell 8 (.int .i64 cm) (s' := { s with is := 0, l := rl, upto := cm }) rfl rfl rfl rfl rfl)
        replace HY := Lib.hid (HY.out.far (p := ⟨F.g, 8, none⟩) h5F (.int .i64 cm))
        replace HK := Lib.hid (HK.out.set (p := ⟨F.g, 8, none⟩) (.inl (.inl (.inl rfl))) (.int .i64 cm))
        obtain ⟨yd0, yd1, yd2, yd3, yd4, yd5, yd6, yd7, yd8⟩ := HY.out.c9
        clear hmin hmax HRES
        go_wp2_with fail
        go_ret
        rw [HRES2.out]
        have hzz := HK.out.size
        have hKF := keptF HK.out
        refine ⟨_, rfl, SlS.wide (new1_at _ 41 (α := M) (3, (n.id : Int), f, s.b.1, (i + (ln : Int)), 0, 0, true, []) (mcx (3, (n.id : Int), f, s.b.1, (i + (ln : Int)), 0, 0, true, []) (.slice none 0 0)) (fits_msg hfit (SlS.nil _ (fun _ => False))) (by simp)) (fun b hb _ => ?_), stepTo_of (HR0.out.stay ((Below.refl _ _).alloc (Nat.le_refl _) _) |>.wide (fun b hb _ => hb.imp (fun h => h.1) (fun h => h.1)) (fun b hb hf => by
          rcases hb with hb | hb
          · exact HOFF.out b hb hf
          · have := hFlt b hf; omega)) (hKF.trans (Below.kept ((Below.refl _ _).alloc (Nat.le_refl _) _)))⟩
        rcases hb with hb | hb
        · exact hb.1.elim
        · omega
      · have dgt : decide (s.upto < cm) = false := by simpa using hgt
        have hmin : min cm (i + (ln : Int)) = cm := by omega
        have hmax : max s.upto (min cm (i + (ln : Int))) = s.upto := by omega
        have HRES2 := Lib.hid (HRES.out)
        rw [hmax] at HRES2
        clear hmin hmax HRES
        go_wp2_with fail
        go_ret
        rw [HRES2.out]
        have hzz := HK.out.size
        have hKF := keptF HK.out
        refine ⟨_, rfl, SlS.wide (new1_at _ 41 (α := M) (3, (n.id : Int), f, s.b.1, (i + (ln : Int)), 0, 0, true, []) (mcx (3, (n.id : Int), f, s.b.1, (i + (ln : Int)), 0, 0, true, []) (.slice none 0 0)) (fits_msg hfit (SlS.nil _ (fun _ => False))) (by simp)) (fun b hb _ => ?_), stepTo_of (HR0.out.stay ((Below.refl _ _).alloc (Nat.le_refl _) _) |>.wide (fun b hb _ => hb.imp (fun h => h.1) (fun h => h.1)) (fun b hb hf => by
          rcases hb with hb | hb
          · exact HOFF.out b hb hf
          · have := hFlt b hf; omega)) (hKF.trans (Below.kept ((Below.refl _ _).alloc (Nat.le_refl _) _)))⟩
        rcases hb with hb | hb
        · exact hb.1.elim
        · omega
end Go.Proofs.YtjcljkbalpgfdaaGreat
