/-
  Parts that the statement rests on, joined: Paskadd, Pbeat, Pplea, Poask, Rup, Rfollow.
-/
import Derived.Test.YtjcljkbalpgfdaaM7
import Derived.Test.YtjcljkbalpgfdaaM11
import Derived.Test.YtjcljkbalpgfdaaM14
import Derived.Test.YtjcljkbalpgfdaaM19
import Derived.Test.YtjcljkbalpgfdaaM21
import Derived.BigQuiet
import Derived.LoopTactic
/-
  What askAdd answers and leaves.
-/






namespace Go.Proofs.Ytjcljkbalpgfdaa
open Go.RowKit

set_option maxRecDepth 100000 in
set_option maxHeartbeats 4000000 in
theorem paskadd_any (n : Rf.Id) (F : Foot) (s : Rf.St) (hg : Rf.Good n s) (A : Option Addr) (c : Nat) (w : World) (h : QMem n F w s A c) (k f o t i u cm : Int) (y : Bool) (L : List E) (A2 : Option Addr) (n2 c2 : Nat) (hf : 1 ≤ f ∧ f ≤ n.many) (_ht : 1 ≤ t ∧ t ≤ 1073741824) (hii : -9223372036854775808 ≤ i ∧ i ≤ 9223372036854775807) (hLl : L.length ≤ 100000) (S : Nat → Prop) (hS : ∀ b, S b → ¬ F.has b) (hL : SlS w S (.slice A2 n2 c2) L) :
    Calls Try.prog 39 #[.pointer (some ⟨F.g, 0, none⟩), .agg (mc k f o t i u cm y (.slice A2 n2 c2))] w fun e w' => ∃ v, e = .returned v ∧ MsgsOut w (Rf.add n s (k, f, o, t, i, u, cm, y, L)).2 v w' ∧ PToK True n F A w (Rf.add n s (k, f, o, t, i, u, cm, y, L)).1 (Rf.add n s (k, f, o, t, i, u, cm, y, L)).2 v w' := by
  have hllA := h.llt
  have HLS0 := Lib.hid hL
  have HSF := Lib.hid hS
  have HH := Lib.hid h
  have hgl := h.glt
  have hgL : ¬ Gof F A (w.heap.size + 1) := fun hh => by have := hgl _ hh; omega
  have hXL : w.heap.size ≠ w.heap.size + 1 := by omega
  have hXg : w.heap.size ≠ F.g := fun hh => by have := h.flt F.g (.inl rfl); omega
  have hLg : w.heap.size + 1 ≠ F.g := fun hh => by have := h.flt F.g (.inl rfl); omega
  clear hL hS hgl
  have HB := Lib.hid ((Below.refl w.heap.size w).alloc (Nat.le_refl _) (.cells (mc k f o t i u cm y (.slice A2 n2 c2)) 41))
  have HX := Lib.hid (Whole.new w 41 (mc k f o t i u cm y (.slice A2 n2 c2)))
  have HR0 := Lib.hid (h.stay HB.out)
  have HK := Lib.hid (show Kept F.has w _ from Below.kept HB.out)
  have hFlt := h.flt
  have hid1 := hg.id1
  have hid2 := hg.id2
  have hmany := hg.many
  have hbb := hg.b
  clear h
  have hst := HR0.out.st
  dsimp only [rmc] at hst
  obtain ⟨k0, k1, k2, k3, k4, k5, k6, k7, k8, k9, k10, k11⟩ := hst.c12
  obtain ⟨q0, q1, q2, q3, q4, q5, q6, q7, q8⟩ := HX.out.c9
  clear hst
  go_enter Try.func39, Try.ntmps39
  go_wp2_with fail
  refine wp_scope_ahead fun J hgo => ?_
  clear k0 k1 k2 k3 k4 k5 k6 k7 k8 k9 k10 k11 q0 q1 q2 q3 q4 q5 q6 q7 q8
  clear HR0 HX HK HB
  have hB2 := Lib.hid (((Below.refl w.heap.size w).alloc (Nat.le_refl _) (.cells (mc k f o t i u cm y (.slice A2 n2 c2)) 41)).alloc ((Below.refl w.heap.size w).alloc (Nat.le_refl _) (.cells (mc k f o t i u cm y (.slice A2 n2 c2)) 41)).size (.cells #[.int .i64 0, .int .i64 0, .slice none 0 0] 26))
  have HR0 := Lib.hid (HH.out.stay hB2.out)
  have HX := Lib.hid ((Whole.new w 41 (mc k f o t i u cm y (.slice A2 n2 c2))).alloc (.cells #[.int .i64 0, .int .i64 0, .slice none 0 0] 26))
  have HL := Lib.hid (Whole.new1 w (.cells (mc k f o t i u cm y (.slice A2 n2 c2)) 41) 26 #[.int .i64 0, .int .i64 0, .slice none 0 0])
  have HK := Lib.hid (show Kept F.has w _ from Below.kept hB2.out)
  have hlt4 := HL.out.lt
  clear hB2 HH
  have hst := HR0.out.st
  dsimp only [rmc] at hst
  obtain ⟨k0, k1, k2, k3, k4, k5, k6, k7, k8, k9, k10, k11⟩ := hst.c12
  clear hst
  obtain ⟨q0, q1, q2, q3, q4, q5, q6, q7, q8⟩ := HX.out.c9
  by_cases h1 : t < s.b.1
  · have hres : Rf.add n s (k, f, o, t, i, u, cm, y, L) = (s, [(3, (n.id : Int), f, s.b.1, 0, 0, 0, false, [])]) := by unfold Rf.add Rf.say; rw [if_pos h1]
    have HRES := Lib.hid hres
    clear hres hg
    go_wp2_with fail
    go_quiet (fail)
    go_wp2_with fail
    go_step3
    refine hgo 0 _ _ _ rfl ?_
    replace HR0 := Lib.hid (HR0.out.stay (below_drewN (Below.refl _ _) nq))
    replace HX := Lib.hid (HX.out.below (below_drewN (Below.refl _ _) nq) HX.out.lt)
    replace HK := Lib.hid (HK.out.trans (Below.kept (below_drewN (Below.refl _ _) nq)))
    clear k0 k1 k2 k3 k4 k5 k6 k7 k8 k9 k10 k11 q0 q1 q2 q3 q4 q5 q6 q7 q8
    generalize hw4 : World.drewN _ nq = w4 at *
    clear hw4
    obtain ⟨q0, q1, q2, q3, q4, q5, q6, q7, q8⟩ := HX.out.c9
    go_wp2_with fail
    refine (panswer_any n F _ A c _ HR0.out 3 f 0 false (by unfold MsgFit; simp only; omega)).mono ?_
    rintro e w9 ⟨v9, rfl, hv9, hb9⟩
    have hz9 := HK.out.size
    have HV := Lib.hid (SlS.wide hv9 (fun b hb _ => Nat.le_trans hz9 hb) : MsgsOut w _ v9 w9)
    replace HR0 := Lib.hid (HR0.out.stay hb9)
    replace HK := Lib.hid (HK.out.trans (Below.kept hb9))
    clear hv9 hb9
    go_wp2_with fail
    refine end_ret ?_
    go_ret
    rw [HRES.out]
    exact ⟨v9, rfl, HV.out, ptok_of HR0.out HK.out hllA HV.out⟩
  have d1 : decide (t < s.b.1) = false := by simpa using h1
  by_cases h2 : s.is = 2
  · have hres : Rf.add n s (k, f, o, t, i, u, cm, y, L) = (s, []) := by unfold Rf.add; rw [if_neg h1, if_pos h2]
    have HRES := Lib.hid hres
    have e2 : (s.is == 2) = true := by simpa using h2
    clear h2 hres hg
    go_wp2_with fail
    go_quiet (fail)
    go_wp2_with fail
    go_step3
    refine hgo 1 _ _ _ rfl ?_
    go_wp2_with fail
    refine end_ret ?_
    go_ret
    rw [HRES.out]
    exact ⟨_, rfl, msgsOut_nil _ _, ptok_nil (HR0.out.stay (below_drewN (Below.refl _ _) _)) (HK.out.trans (Below.kept (below_drewN (Below.refl _ _) _)))⟩
  have e2 : (s.is == 2) = false := by simpa using h2
  have hadd0 : Rf.add n s (k, f, o, t, i, u, cm, y, L) = if (Lg.add (0, 0, s.l) i u L).2 ≠ 0 ∨ (L.all fun e => decide (e.1 ≤ t)) = false then ({ s with is := 0 }, [(3, (n.id : Int), f, s.b.1, (Lg.last (0, 0, s.l)).1, 0, 0, false, [])]) else ({ s with is := 0, l := (Lg.add (0, 0, s.l) i u L).1.2.2, upto := max s.upto (min cm (i + L.length)) }, [(3, (n.id : Int), f, s.b.1, i + L.length, 0, 0, true, [])]) := by unfold Rf.add; rw [if_neg h1, if_neg h2]; rfl
  have HADD := Lib.hid hadd0
  have hin : (Lg.add (0, 0, s.l) i u L).2 = 0 → 0 ≤ i ∧ i ≤ 64 ∧ (Lg.add (0, 0, s.l) i u L).1.1 = 0 ∧ (Lg.add (0, 0, s.l) i u L).1.2.1 = 0 := fun he => by
    obtain ⟨L2, a2, hA⟩ := Lg.added he
    have h3 := hA.at_
    have h4 := hA.le
    have h5 := hg.len
    rw [hA.eq]
    exact ⟨by omega, by omega, rfl, rfl⟩
  have HIN := Lib.hid hin
  have HA := Lib.hid (fun W (hr : QMem n F W { s with is := 0 } A c) (hl : SlS W S (.slice A2 n2 c2) L) => addo_any 0 0 i u hii _ _ s.l L hLl W W.heap.size (Nat.le_refl _) hr.sl (SlS.here hl))
  have hlf := Rf.last_fit hg
  unfold Rf.last Rf.lg at hlf
  have hup := hg.upto
  have HLA := Lib.hid (fun W (hr : QMem n F W { s with is := 0 } A c) => last_any 0 0 _ s.l W W.heap.size (Nat.le_refl _) hr.sl)
  have HFT0 : ∃ ft, ft = (L.all fun e => decide (e.1 ≤ t)) := ⟨_, rfl⟩
  obtain ⟨ft, hft⟩ := HFT0
  have HFT := Lib.hid (show (!(L.all fun e => decide (e.1 ≤ t))) = !ft by rw [hft])
  rw [← hft] at HADD
  clear hadd0 hin h1 h2 hg hft
  generalize Lg.add (0, 0, s.l) i u L = r at *
  generalize Lg.last (0, 0, s.l) = q at *
  obtain ⟨la1, la2⟩ := q
  obtain ⟨⟨rb, rt, rl⟩, re⟩ := r
  simp only at HLA hlf HA
  unfold AddOwn at HA
  simp only at HA
  have hll := (SlS.room HLS0.out).1
  subst hll
  have hf7 := HR0.out.st.free 7
  go_wp2_with fail
  go_quiet (fail)
  have HRs := Lib.hid ((HR0.out.stay (below_drewN (Below.refl _ _) nq)).cell 7 (.int .i64 0) (s' := { s with is := 0 }) rfl rfl rfl rfl rfl)
  have hst := HRs.out.st
  dsimp only [rmc] at hst
  obtain ⟨j0, j1, j2, j3, j4, j5, j6, j7, j8, j9, j10, j11⟩ := hst.c12
  clear hst
  go_wp2_with fail
  clear hf7 HRs k0 k1 k2 k3 k4 k5 k6 k7 k8 k9 k10 k11 q0 q1 q2 q3 q4 q5 q6 q7 q8 j0 j1 j2 j3 j4 j5 j6 j7 j8 j9 j10 j11
  replace HR0 := Lib.hid ((HR0.out.stay (below_drewN (Below.refl _ _) nq)).cell 7 (.int .i64 0) (s' := { s with is := 0 }) rfl rfl rfl rfl rfl)
  replace HX := Lib.hid ((HX.out.below (below_drewN (Below.refl _ _) nq) HX.out.lt).far (p := ⟨F.g, 7, none⟩) hXg (.int .i64 0))
  replace HL := Lib.hid ((HL.out.below (below_drewN (Below.refl _ _) nq) HL.out.lt).far (p := ⟨F.g, 7, none⟩) hLg (.int .i64 0))
  replace HK := Lib.hid ((HK.out.trans (Below.kept (below_drewN (Below.refl _ _) nq))).set (p := ⟨F.g, 7, none⟩) (.inl (.inl rfl)) (.int .i64 0))
  generalize hw3 : World.setCell (World.drewN _ nq) _ _ = w3 at *
  clear hw3
  clear hlt4
  with_reducible refine (HLA.out _ HR0.out).mono ?_
  rintro e w4 ⟨rfl, hb⟩
  replace HR0 := Lib.hid (HR0.out.stay hb)
  replace HK := Lib.hid (HK.out.trans (Below.kept hb))
  replace HX := Lib.hid (HX.out.below hb HX.out.lt)
  replace HL := Lib.hid (HL.out.below hb HL.out.lt)
  clear hb HLA
  have hlt4 := HL.out.lt
  go_wp2_with fail
  have HM := Lib.hid HR0.out.st
  dsimp only [rmc] at HM
  refine z_start ((w4).drew.heap.size) [14] (by kernel_rfl) ?_
  have HC := Lib.hid (Below.refl ((w4).drew.heap.size) (w4).drew)
  have hBz : (w4).drew.heap.size ≤ (w4).drew.heap.size := Nat.le_refl _
  replace HM := Lib.hid (show Whole (w4).drew _ _ _ from HM.out)
  have hltM := HM.out.lt
  replace HX := Lib.hid (show Whole (w4).drew _ _ _ from HX.out)
  have hltX := HX.out.lt
  replace HL := Lib.hid (show Whole (w4).drew _ _ _ from HL.out)
  have hltL := HL.out.lt
  replace HK := Lib.hid (HK.out.trans (Below.kept (Below.refl _ _).drew))
  replace HR0 := Lib.hid (HR0.out.stay (Below.refl _ _).drew)
  have hzd : w.heap.size + 2 ≤ (w4).drew.heap.size := hlt4
  generalize (w4).drew = z1 at *
  refine z_take (i := 0) (v := ?_) rfl (by kernel_rfl) (by kernel_rfl) (by kernel_rfl) (k0 := 0) (by kernel_rfl) (by kernel_rfl) (.inl rfl) (fun _ _ _ h => h) (by rfl) HC.out ?_ ?_
  rotate_left
  · intro W hW
    go_simp
    first | done | rfl
  simp only [Act.put, List.setIfInBounds_toArray, List.set_cons_zero, List.set_cons_succ, List.getElem_toArray, List.getElem_cons_zero]
  refine z_take (i := 1) (v := ?_) rfl (by kernel_rfl) (by kernel_rfl) (by kernel_rfl) (k0 := 1) (by kernel_rfl) (by kernel_rfl) (.inl rfl) (fun _ _ _ h => h) (by rfl) HC.out ?_ ?_
  rotate_left
  · intro W hW
    go_simp
    first | done | rfl
  simp only [Act.put, List.setIfInBounds_toArray, List.set_cons_zero, List.set_cons_succ, List.getElem_toArray, List.getElem_cons_zero, List.getElem_cons_succ]
  refine z_take (i := 2) (v := ?_) rfl (by kernel_rfl) (by kernel_rfl) (by kernel_rfl) (k0 := 2) (by kernel_rfl) (by kernel_rfl) (.inl rfl) (fun _ _ _ h => h) (by rfl) HC.out ?_ ?_
  rotate_left
  · intro W hW
    go_simp
    first | done | rfl
  simp only [Act.put, List.setIfInBounds_toArray, List.set_cons_zero, List.set_cons_succ, List.getElem_toArray, List.getElem_cons_zero, List.getElem_cons_succ]
  refine z_take (i := 3) (v := ?_) rfl (by kernel_rfl) (by kernel_rfl) (by kernel_rfl) (k0 := 3) (by kernel_rfl) (by kernel_rfl) (.inl rfl) (fun _ _ _ h => h) (by rfl) HC.out ?_ ?_
  rotate_left
  · intro W hW
    obtain ⟨k0, k1, k2, k3, k4, k5, k6, k7, k8, k9, k10, k11⟩ := (HM.out.below hW hltM).c12
    go_simp
    first | done | rfl
  simp only [Act.put, List.setIfInBounds_toArray, List.set_cons_zero, List.set_cons_succ, List.getElem_toArray, List.getElem_cons_zero, List.getElem_cons_succ]
  refine z_take (i := 4) (v := ?_) rfl (by kernel_rfl) (by kernel_rfl) (by kernel_rfl) (k0 := 4) (by kernel_rfl) (by kernel_rfl) (.inl rfl) (fun _ _ _ h => h) (by rfl) HC.out ?_ ?_
  rotate_left
  · intro W hW
    go_simp
    first | done | rfl
  simp only [Act.put, List.setIfInBounds_toArray, List.set_cons_zero, List.set_cons_succ, List.getElem_toArray, List.getElem_cons_zero, List.getElem_cons_succ]
  refine z_take (i := 5) (v := ?_) rfl (by kernel_rfl) (by kernel_rfl) (by kernel_rfl) (k0 := 5) (by kernel_rfl) (by kernel_rfl) (.inl rfl) (fun _ _ _ h => h) (by rfl) HC.out ?_ ?_
  rotate_left
  · intro W hW
    obtain ⟨q0, q1, q2, q3, q4, q5, q6, q7, q8⟩ := (HX.out.below hW hltX).c9
    go_simp
    first | done | rfl
  simp only [Act.put, List.setIfInBounds_toArray, List.set_cons_zero, List.set_cons_succ, List.getElem_toArray, List.getElem_cons_zero, List.getElem_cons_succ]
  refine z_take (i := 6) (v := ?_) rfl (by kernel_rfl) (by kernel_rfl) (by kernel_rfl) (k0 := 6) (by kernel_rfl) (by kernel_rfl) (.inl rfl) (fun _ _ _ h => h) (by rfl) HC.out ?_ ?_
  rotate_left
  · intro W hW
    go_simp
    first | done | rfl
  simp only [Act.put, List.setIfInBounds_toArray, List.set_cons_zero, List.set_cons_succ, List.getElem_toArray, List.getElem_cons_zero, List.getElem_cons_succ]
  refine z_take (i := 7) (v := ?_) rfl (by kernel_rfl) (by kernel_rfl) (by kernel_rfl) (k0 := 7) (by kernel_rfl) (by kernel_rfl) (.inl rfl) (fun _ _ _ h => h) (by rfl) HC.out ?_ ?_
  rotate_left
  · intro W hW
    obtain ⟨q0, q1, q2, q3, q4, q5, q6, q7, q8⟩ := (HX.out.below hW hltX).c9
    go_simp
    first | done | rfl
  simp only [Act.put, List.setIfInBounds_toArray, List.set_cons_zero, List.set_cons_succ, List.getElem_toArray, List.getElem_cons_zero, List.getElem_cons_succ]
  refine z_take (i := 8) (v := ?_) rfl (by kernel_rfl) (by kernel_rfl) (by kernel_rfl) (k0 := 8) (by kernel_rfl) (by kernel_rfl) (.inl rfl) (fun _ _ _ h => h) (by rfl) HC.out ?_ ?_
  rotate_left
  · intro W hW
    go_simp
    first | done | rfl
  simp only [Act.put, List.setIfInBounds_toArray, List.set_cons_zero, List.set_cons_succ, List.getElem_toArray, List.getElem_cons_zero, List.getElem_cons_succ]
  refine z_take (i := 9) (v := ?_) rfl (by kernel_rfl) (by kernel_rfl) (by kernel_rfl) (k0 := 9) (by kernel_rfl) (by kernel_rfl) (.inl rfl) (fun _ _ _ h => h) (by rfl) HC.out ?_ ?_
  rotate_left
  · intro W hW
    obtain ⟨q0, q1, q2, q3, q4, q5, q6, q7, q8⟩ := (HX.out.below hW hltX).c9
    go_simp
    first | done | rfl
  simp only [Act.put, List.setIfInBounds_toArray, List.set_cons_zero, List.set_cons_succ, List.getElem_toArray, List.getElem_cons_zero, List.getElem_cons_succ]
  refine z_one (i := 10) (by kernel_rfl) ?_
  refine onez_call (i := 10) (f := 49) (args := ?_) rfl (by rfl) ?_ ?_
  rotate_left
  · go_simp
    first | done | rfl
  with_reducible refine (HA.out _ (HR0.out.stay HC.out) ((HK.out.trans (Below.kept HC.out)).sl HLS0.out HSF.out)).mono ?_
  rintro e z2 ⟨v6, rfl, ho, hb⟩
  refine ⟨_, rfl, fun _ => HC.out.trans (hb.mono hBz), ?_⟩
  replace HC := Lib.hid (HC.out.trans (hb.mono hBz))
  replace hBz := Nat.le_trans hBz hb.size
  obtain ⟨A6, d6, rfl, -, -⟩ := ho.sl.form
  have HOB := Lib.hid (fun b (hb : lbk A6 = some b) => (ho.lt b (by rw [own_lbk]; exact hb)).1)
  have HO := Lib.hid (Own.down ho (Nat.zero_le _))
  clear ho
  clear hb
  simp only [Act.put, List.setIfInBounds_toArray, List.set_cons_zero, List.set_cons_succ, List.getElem_toArray, List.getElem_cons_zero, List.getElem_cons_succ]
  refine z_take (i := 11) (v := ?_) rfl (by kernel_rfl) (by kernel_rfl) (by kernel_rfl) (k0 := 11) (by kernel_rfl) (by kernel_rfl) (.inl rfl) (fun _ _ _ h => h) (by rfl) HC.out ?_ ?_
  rotate_left
  · intro W hW
    go_simp
    first | done | rfl
  simp only [Act.put, List.setIfInBounds_toArray, List.set_cons_zero, List.set_cons_succ, List.getElem_toArray, List.getElem_cons_zero, List.getElem_cons_succ]
  refine z_take (i := 12) (v := ?_) rfl (by kernel_rfl) (by kernel_rfl) (by kernel_rfl) (k0 := 12) (by kernel_rfl) (by kernel_rfl) (.inl rfl) (fun _ _ _ h => h) (by rfl) HC.out ?_ ?_
  rotate_left
  · intro W hW
    go_simp
    first | done | rfl
  simp only [Act.put, List.setIfInBounds_toArray, List.set_cons_zero, List.set_cons_succ, List.getElem_toArray, List.getElem_cons_zero, List.getElem_cons_succ]
  refine z_two (i := 13) (j := 14) (by kernel_rfl) ?_ ?_
  · refine onez_same (i := 13) (v := ?_) rfl (by rfl) ?_ ?_
    rotate_left 1
    · go_simp
      first | done | rfl
    simp only [Act.put, List.setIfInBounds_toArray, List.set_cons_zero, List.set_cons_succ, List.getElem_toArray, List.getElem_cons_zero, List.getElem_cons_succ]
    refine z_one (i := 14) (by kernel_rfl) ?_
    obtain ⟨l0_, l1_, l2_⟩ := (HL.out.below HC.out hltL).c3
    obtain ⟨lf0_, lf1_, lf2_⟩ := (HL.out.below HC.out hltL).f3
    refine onez_skip (i := 14) (w' := ?_) rfl (by rfl) ?_ ?_ ?_
    rotate_left 1
    · go_simp
      first | done | rfl
    · exact fun h => absurd (by decide) h
    simp only [Act.put, List.getElem_toArray, List.getElem_cons_zero, List.getElem_cons_succ]
    clear l0_ l1_ l2_ lf0_ lf1_ lf2_
    refine z_one (i := 15) (by kernel_rfl) ?_
    refine onez_same (i := 15) (v := ?_) rfl (by rfl) ?_ ?_
    rotate_left 1
    · go_simp
      first | done | rfl
    simp only [Act.put, List.setIfInBounds_toArray, List.set_cons_zero, List.set_cons_succ, List.getElem_toArray, List.getElem_cons_zero, List.getElem_cons_succ]
    refine z_done (by kernel_rfl) ?_
    replace HR0 := Lib.hid (HR0.out.stay HC.out)
    replace HK := Lib.hid (HK.out.trans (Below.kept HC.out))
    replace HX := Lib.hid (HX.out.below HC.out hltX)
    replace HL := Lib.hid (HL.out.below HC.out hltL)
    clear HC hBz HM hltM hltX hltL
    replace HR0 := Lib.hid (((HR0.out.far (p := ⟨w.heap.size + 1, 0, none⟩) hgL (.int .i64 rb)).far (p := ⟨w.heap.size + 1, 1, none⟩) hgL (.int .i64 rt)).far (p := ⟨w.heap.size + 1, 2, none⟩) hgL (.slice A6 rl.length d6))
    replace HX := Lib.hid (((HX.out.far (p := ⟨w.heap.size + 1, 0, none⟩) hXL (.int .i64 rb)).far (p := ⟨w.heap.size + 1, 1, none⟩) hXL (.int .i64 rt)).far (p := ⟨w.heap.size + 1, 2, none⟩) hXL (.slice A6 rl.length d6))
    replace HL := Lib.hid (HL.out.set3 (.int .i64 rb) (.int .i64 rt) (.slice A6 rl.length d6))
    have hoA : ∀ b, lbk A6 = some b → w.heap.size ≤ b ∧ b ≠ w.heap.size + 1 ∧ b ≠ w.heap.size := fun b hb => by
      have := HOB.out b hb
      exact ⟨by omega, by omega, by omega⟩
    have hoL : (Value.slice A6 rl.length d6).ownBlock ≠ some (w.heap.size + 1) := by rw [own_lbk]; exact fun e => (hoA _ e).2.1 rfl
    replace HO := Lib.hid (own_far (own_far (own_far HO.out (p := ⟨w.heap.size + 1, 0, none⟩) hoL (.int .i64 rb)) (p := ⟨w.heap.size + 1, 1, none⟩) hoL (.int .i64 rt)) (p := ⟨w.heap.size + 1, 2, none⟩) hoL (.slice A6 rl.length d6))
    replace HK := Lib.hid (((HK.out.set (p := ⟨w.heap.size + 1, 0, none⟩) (.inr (Nat.le_succ _)) (.int .i64 rb)).set (p := ⟨w.heap.size + 1, 1, none⟩) (.inr (Nat.le_succ _)) (.int .i64 rt)).set (p := ⟨w.heap.size + 1, 2, none⟩) (.inr (Nat.le_succ _)) (.slice A6 rl.length d6))
    go_simp
    generalize hw6 : World.setCell (World.setCell (World.setCell _ _ _) _ _) _ _ = w6 at *
    clear hw6
    have HLSw := Lib.hid (HK.out.sl HLS0.out HSF.out)
    obtain ⟨q0, q1, q2, q3, q4, q5, q6, q7, q8⟩ := HX.out.c9
    by_cases hre : re = 0
    rotate_left
    · have hres := HADD.out
      rw [if_pos (.inl hre)] at hres
      have HRES := Lib.hid hres
      have e8 : (re != 0) = true := by simpa using hre
      clear hres HADD hre
      go_wp2_with fail
      go_step3
      refine hgo 0 _ _ _ rfl ?_
      go_wp2_with fail
      refine (panswer_any n F _ A c _ HR0.out 3 f la1 false (by unfold MsgFit; simp only; omega)).mono ?_
      rintro e w9 ⟨v9, rfl, hv9, hb9⟩
      have hz9 := HK.out.size
      have HV := Lib.hid (SlS.wide hv9 (fun b hb _ => Nat.le_trans hz9 hb) : MsgsOut w _ v9 w9)
      replace HR0 := Lib.hid (HR0.out.stay hb9)
      replace HK := Lib.hid (HK.out.trans (Below.kept hb9))
      clear hv9 hb9
      go_wp2_with fail
      refine end_ret ?_
      go_ret
      rw [HRES.out]
      exact ⟨v9, rfl, HV.out, ptok_of HR0.out HK.out hllA HV.out⟩
    subst hre
    have HFL := Lib.hid (plater_any k f o t i u cm y _ L hLl w6 w6.heap.size (Nat.le_refl _) (SlS.here HLSw.out))
    rw [HFT.out] at HFL
    rcases ft with _ | _
    · have hres := HADD.out
      rw [if_pos (.inr rfl)] at hres
      have HRES := Lib.hid hres
      clear hres HADD
      go_wp2_with fail
      with_reducible refine HFL.out.mono ?_
      rintro e w8 ⟨rfl, hb⟩
      replace HR0 := Lib.hid (HR0.out.stay hb)
      replace HK := Lib.hid (HK.out.trans (Below.kept hb))
      replace HX := Lib.hid (HX.out.below hb HX.out.lt)
      clear hb HFL q0 q1 q2 q3 q4 q5 q6 q7 q8
      obtain ⟨q0, q1, q2, q3, q4, q5, q6, q7, q8⟩ := HX.out.c9
      go_wp2_with fail
      go_step3
      refine hgo 0 _ _ _ rfl ?_
      go_wp2_with fail
      refine (panswer_any n F _ A c _ HR0.out 3 f la1 false (by unfold MsgFit; simp only; omega)).mono ?_
      rintro e w9 ⟨v9, rfl, hv9, hb9⟩
      have hz9 := HK.out.size
      have HV := Lib.hid (SlS.wide hv9 (fun b hb _ => Nat.le_trans hz9 hb) : MsgsOut w _ v9 w9)
      replace HR0 := Lib.hid (HR0.out.stay hb9)
      replace HK := Lib.hid (HK.out.trans (Below.kept hb9))
      clear hv9 hb9
      go_wp2_with fail
      refine end_ret ?_
      go_ret
      rw [HRES.out]
      exact ⟨v9, rfl, HV.out, ptok_of HR0.out HK.out hllA HV.out⟩
    have hres := HADD.out
    rw [if_neg (by simp)] at hres
    obtain ⟨hi0, hi64, rfl, rfl⟩ := HIN.out rfl
    have HRES := Lib.hid hres
    clear hres HADD HIN
    go_wp2_with fail
    with_reducible refine HFL.out.mono ?_
    rintro e w8 ⟨rfl, hb⟩
    replace HR0 := Lib.hid (HR0.out.stay hb)
    replace HK := Lib.hid (HK.out.trans (Below.kept hb))
    replace HX := Lib.hid (HX.out.below hb HX.out.lt)
    replace HL := Lib.hid (HL.out.below hb HL.out.lt)
    replace HO := Lib.hid (HO.out.below hb)
    clear hb HFL q0 q1 q2 q3 q4 q5 q6 q7 q8
    have hlen : (0 : Int) ≤ (L.length : Int) := by omega
    generalize hln : L.length = ln at *
    clear hln
    have hwr : IntKind.i64.wrap (i + (ln : Int)) = i + (ln : Int) := by rw [IntKind.wrap_i64]; omega
    obtain ⟨b0_, b1_, b2_⟩ := HL.out.c3
    have hst := HR0.out.st
    dsimp only [rmc] at hst
    obtain ⟨k0, k1, k2, k3, k4, k5, k6, k7, k8, k9, k10, k11⟩ := hst.c12
    have f4g := hst.free 4
    have f5g := hst.free 5
    have f6g := hst.free 6
    clear hst
    have HRl := Lib.hid (HR0.out.log HO.out (fun b hb hf => by have := hoA b hb; have := hFlt b hf; omega))
    dsimp only at HRl
    replace HX := Lib.hid (((HX.out.far (p := ⟨F.g, 4, none⟩) hXg (.int .i64 0)).far (p := ⟨F.g, 5, none⟩) hXg (.int .i64 0)).far (p := ⟨F.g, 6, none⟩) hXg (.slice A6 rl.length d6))
    replace HK := Lib.hid (((HK.out.set (p := ⟨F.g, 4, none⟩) (.inl (.inl rfl)) (.int .i64 0)).set (p := ⟨F.g, 5, none⟩) (.inl (.inl rfl)) (.int .i64 0)).set (p := ⟨F.g, 6, none⟩) (.inl (.inl rfl)) (.slice A6 rl.length d6))
    clear HR0
    have HR0 := HRl
    clear HRl HO HL
    obtain ⟨q0, q1, q2, q3, q4, q5, q6, q7, q8⟩ := HX.out.c9
    have rn0 := HRES
    clear rn0
    generalize hrn : rl.length = rn at *
    have HRN := Lib.hid hrn
    clear hrn
    go_wp2_with fail
    clear b0_ b1_ b2_ f4g f5g f6g k0 k1 k2 k3 k4 k5 k6 k7 k8 k9 k10 k11 q0 q1 q2 q3 q4 q5 q6 q7 q8
    generalize hw9 : World.setCell (World.setCell (World.setCell _ _ _) _ _) _ _ = w9 at *
    clear hw9
    have HM := Lib.hid HR0.out.st
    dsimp only [rmc] at HM
    rw [HRN.out] at HM
    obtain ⟨mn, hmn⟩ : ∃ mn : Int, mn = min cm (i + (ln : Int)) := ⟨_, rfl⟩
    obtain ⟨mx, hmx⟩ : ∃ mx : Int, mx = max s.upto mn := ⟨_, rfl⟩
    have hrmin : ∀ (ts : Array TypeId) (t : TypeId) (W : World), (Builtin.min_ ts t #[.int .i64 cm, .int .i64 (i + (ln : Int))]).run Try.prog W = .ok (.int .i64 mn) W := by
      intro ts t W
      rw [run_min_int2, show (if i + (ln : Int) < cm then i + (ln : Int) else cm) = mn by rw [hmn]; split <;> omega]
    have hrmax : ∀ (ts : Array TypeId) (t : TypeId) (W : World), (Builtin.max_ ts t #[.int .i64 s.upto, .int .i64 mn]).run Try.prog W = .ok (.int .i64 mx) W := by
      intro ts t W
      rw [run_max_int2, show (if mn > s.upto then mn else s.upto) = mx by rw [hmx]; split <;> omega]
    have HMX := Lib.hid (show mx = max s.upto (min cm (i + (ln : Int))) by rw [hmx, hmn])
    clear hmn hmx
    refine z_start ((w9).drew.heap.size) [12] (by kernel_rfl) ?_
    have HC := Lib.hid (Below.refl ((w9).drew.heap.size) (w9).drew)
    have hBz : (w9).drew.heap.size ≤ (w9).drew.heap.size := Nat.le_refl _
    replace HM := Lib.hid (show Whole (w9).drew _ _ _ from HM.out)
    have hltM := HM.out.lt
    replace HX := Lib.hid (show Whole (w9).drew _ _ _ from HX.out)
    have hltX := HX.out.lt
    replace HK := Lib.hid (HK.out.trans (Below.kept (Below.refl _ _).drew))
    replace HR0 := Lib.hid (HR0.out.stay (Below.refl _ _).drew)
    generalize (w9).drew = y1 at *
    refine z_take (i := 0) (v := ?_) rfl (by kernel_rfl) (by kernel_rfl) (by kernel_rfl) (k0 := 0) (by kernel_rfl) (by kernel_rfl) (.inl rfl) (fun _ _ _ h => h) (by rfl) HC.out ?_ ?_
    rotate_left
    · intro W hW
      go_simp
      first | done | rfl
    simp only [Act.put, List.setIfInBounds_toArray, List.set_cons_zero, List.set_cons_succ, List.getElem_toArray, List.getElem_cons_zero]
    refine z_take (i := 1) (v := ?_) rfl (by kernel_rfl) (by kernel_rfl) (by kernel_rfl) (k0 := 1) (by kernel_rfl) (by kernel_rfl) (.inl rfl) (fun _ _ _ h => h) (by rfl) HC.out ?_ ?_
    rotate_left
    · intro W hW
      go_simp
      first | done | rfl
    simp only [Act.put, List.setIfInBounds_toArray, List.set_cons_zero, List.set_cons_succ, List.getElem_toArray, List.getElem_cons_zero, List.getElem_cons_succ]
    refine z_take (i := 2) (v := ?_) rfl (by kernel_rfl) (by kernel_rfl) (by kernel_rfl) (k0 := 2) (by kernel_rfl) (by kernel_rfl) (.inl rfl) (fun _ _ _ h => h) (by rfl) HC.out ?_ ?_
    rotate_left
    · intro W hW
      go_simp
      first | done | rfl
    simp only [Act.put, List.setIfInBounds_toArray, List.set_cons_zero, List.set_cons_succ, List.getElem_toArray, List.getElem_cons_zero, List.getElem_cons_succ]
    refine z_take (i := 3) (v := ?_) rfl (by kernel_rfl) (by kernel_rfl) (by kernel_rfl) (k0 := 3) (by kernel_rfl) (by kernel_rfl) (.inl rfl) (fun _ _ _ h => h) (by rfl) HC.out ?_ ?_
    rotate_left
    · intro W hW
      go_simp
      first | done | rfl
    simp only [Act.put, List.setIfInBounds_toArray, List.set_cons_zero, List.set_cons_succ, List.getElem_toArray, List.getElem_cons_zero, List.getElem_cons_succ]
    refine z_take (i := 4) (v := ?_) rfl (by kernel_rfl) (by kernel_rfl) (by kernel_rfl) (k0 := 4) (by kernel_rfl) (by kernel_rfl) (.inl rfl) (fun _ _ _ h => h) (by rfl) HC.out ?_ ?_
    rotate_left
    · intro W hW
      obtain ⟨k0, k1, k2, k3, k4, k5, k6, k7, k8, k9, k10, k11⟩ := (HM.out.below hW hltM).c12
      go_simp
      first | done | rfl
    simp only [Act.put, List.setIfInBounds_toArray, List.set_cons_zero, List.set_cons_succ, List.getElem_toArray, List.getElem_cons_zero, List.getElem_cons_succ]
    refine z_take (i := 5) (v := ?_) rfl (by kernel_rfl) (by kernel_rfl) (by kernel_rfl) (k0 := 5) (by kernel_rfl) (by kernel_rfl) (.inl rfl) (fun _ _ _ h => h) (by rfl) HC.out ?_ ?_
    rotate_left
    · intro W hW
      go_simp
      first | done | rfl
    simp only [Act.put, List.setIfInBounds_toArray, List.set_cons_zero, List.set_cons_succ, List.getElem_toArray, List.getElem_cons_zero, List.getElem_cons_succ]
    refine z_take (i := 6) (v := ?_) rfl (by kernel_rfl) (by kernel_rfl) (by kernel_rfl) (k0 := 6) (by kernel_rfl) (by kernel_rfl) (.inl rfl) (fun _ _ _ h => h) (by rfl) HC.out ?_ ?_
    rotate_left
    · intro W hW
      obtain ⟨q0, q1, q2, q3, q4, q5, q6, q7, q8⟩ := (HX.out.below hW hltX).c9
      go_simp
      first | done | rfl
    simp only [Act.put, List.setIfInBounds_toArray, List.set_cons_zero, List.set_cons_succ, List.getElem_toArray, List.getElem_cons_zero, List.getElem_cons_succ]
    refine z_take (i := 7) (v := ?_) rfl (by kernel_rfl) (by kernel_rfl) (by kernel_rfl) (k0 := 7) (by kernel_rfl) (by kernel_rfl) (.inl rfl) (fun _ _ _ h => h) (by rfl) HC.out ?_ ?_
    rotate_left
    · intro W hW
      go_simp
      first | done | rfl
    simp only [Act.put, List.setIfInBounds_toArray, List.set_cons_zero, List.set_cons_succ, List.getElem_toArray, List.getElem_cons_zero, List.getElem_cons_succ]
    refine z_take (i := 8) (v := ?_) rfl (by kernel_rfl) (by kernel_rfl) (by kernel_rfl) (k0 := 8) (by kernel_rfl) (by kernel_rfl) (.inl rfl) (fun _ _ _ h => h) (by rfl) HC.out ?_ ?_
    rotate_left
    · intro W hW
      go_simp
      first | done | rfl
    simp only [Act.put, List.setIfInBounds_toArray, List.set_cons_zero, List.set_cons_succ, List.getElem_toArray, List.getElem_cons_zero, List.getElem_cons_succ]
    refine z_take (i := 9) (v := ?_) rfl (by kernel_rfl) (by kernel_rfl) (by kernel_rfl) (k0 := 9) (by kernel_rfl) (by kernel_rfl) (.inl rfl) (fun _ _ _ h => h) (by rfl) HC.out ?_ ?_
    rotate_left
    · intro W hW
      go_simp
      first | done | rfl
    simp only [Act.put, List.setIfInBounds_toArray, List.set_cons_zero, List.set_cons_succ, List.getElem_toArray, List.getElem_cons_zero, List.getElem_cons_succ]
    refine z_take (i := 10) (v := ?_) rfl (by kernel_rfl) (by kernel_rfl) (by kernel_rfl) (k0 := 11) (by kernel_rfl) (by kernel_rfl) (.inr (by kernel_rfl)) (fun _ _ _ h => h) (by rfl) HC.out ?_ ?_
    rotate_left
    · intro W hW
      go_simp
      first | done | rfl
    simp only [Act.put, List.setIfInBounds_toArray, List.set_cons_zero, List.set_cons_succ, List.getElem_toArray, List.getElem_cons_zero, List.getElem_cons_succ]
    refine z_take (i := 11) (v := ?_) rfl (by kernel_rfl) (by kernel_rfl) (by kernel_rfl) (k0 := 11) (by kernel_rfl) (by kernel_rfl) (.inl rfl) (fun _ _ _ h => h) (by rfl) HC.out ?_ ?_
    rotate_left
    · intro W hW
      go_simp
      first | done | rfl
    simp only [Act.put, List.setIfInBounds_toArray, List.set_cons_zero, List.set_cons_succ, List.getElem_toArray, List.getElem_cons_zero, List.getElem_cons_succ]
    refine z_one (i := 12) (by kernel_rfl) ?_
    obtain ⟨k0, k1, k2, k3, k4, k5, k6, k7, k8, k9, k10, k11⟩ := (HM.out.below HC.out hltM).c12
    have f8 := (HM.out.below HC.out hltM).free 8
    refine onez_skip (i := 12) (w' := ?_) rfl (by rfl) ?_ ?_ ?_
    rotate_left 1
    · go_simp
      first | done | rfl
    · exact fun h => absurd (by decide) h
    simp only [Act.put, List.getElem_toArray, List.getElem_cons_zero, List.getElem_cons_succ]
    clear f8 k0 k1 k2 k3 k4 k5 k6 k7 k8 k9 k10 k11
    refine z_done (by kernel_rfl) ?_
    replace HR0 := Lib.hid ((HR0.out.stay HC.out).cell 8 (.int .i64 mx) (s' := { s with is := 0, l := rl, upto := mx }) rfl rfl rfl rfl rfl)
    replace HK := Lib.hid ((HK.out.trans (Below.kept HC.out)).set (p := ⟨F.g, 8, none⟩) (.inl (.inl rfl)) (.int .i64 mx))
    replace HX := Lib.hid ((HX.out.below HC.out hltX).far (p := ⟨F.g, 8, none⟩) hXg (.int .i64 mx))
    clear HC hBz HM hltM hltX
    go_simp
    generalize hw10 : World.setCell _ _ _ = w10 at *
    clear hw10 hrmin hrmax
    rw [HMX.out] at HR0
    obtain ⟨q0, q1, q2, q3, q4, q5, q6, q7, q8⟩ := HX.out.c9
    go_wp2_with fail
    refine (panswer_any n F _ A6 d6 _ HR0.out 3 f (i + (ln : Int)) true (by unfold MsgFit; simp only; omega)).mono ?_
    rintro e w11 ⟨v9, rfl, hv9, hb9⟩
    have hz9 := HK.out.size
    have HV := Lib.hid (SlS.wide hv9 (fun b hb _ => Nat.le_trans hz9 hb) : MsgsOut w _ v9 w11)
    have HVA := Lib.hid (show SlS (α := M) w11 (fun b => w.heap.size ≤ b ∧ ¬ lbk A6 = some b) v9 _ from SlS.wide hv9 (fun b hb _ => ⟨Nat.le_trans hz9 hb, fun e => by have := HR0.out.llt b e; omega⟩))
    replace HR0 := Lib.hid (HR0.out.stay hb9)
    replace HK := Lib.hid (HK.out.trans (Below.kept hb9))
    clear hv9 hb9
    go_wp2_with fail
    refine jumps_ret ?_
    go_ret
    rw [HRES.out]
    exact ⟨v9, rfl, HV.out, A6, d6, HR0.out, fun b hb => .inr (hoA b hb).1, HK.out.gof, fun _ => HVA.out⟩
  · obtain ⟨l0_, l1_, l2_⟩ := (HL.out.below HC.out hltL).c3
    obtain ⟨lf0_, lf1_, lf2_⟩ := (HL.out.below HC.out hltL).f3
    refine onez_skip (i := 14) (w' := ?_) rfl (by rfl) ?_ ?_ ?_
    rotate_left 1
    · go_simp
      first | done | rfl
    · exact fun h => absurd (by decide) h
    simp only [Act.put, List.getElem_toArray, List.getElem_cons_zero, List.getElem_cons_succ]
    clear l0_ l1_ l2_ lf0_ lf1_ lf2_
    refine z_one (i := 13) (by kernel_rfl) ?_
    refine onez_same (i := 13) (v := ?_) rfl (by rfl) ?_ ?_
    rotate_left 1
    · go_simp
      first | done | rfl
    simp only [Act.put, List.setIfInBounds_toArray, List.set_cons_zero, List.set_cons_succ, List.getElem_toArray, List.getElem_cons_zero, List.getElem_cons_succ]
    refine z_one (i := 15) (by kernel_rfl) ?_
    refine onez_same (i := 15) (v := ?_) rfl (by rfl) ?_ ?_
    rotate_left 1
    · go_simp
      first | done | rfl
    simp only [Act.put, List.setIfInBounds_toArray, List.set_cons_zero, List.set_cons_succ, List.getElem_toArray, List.getElem_cons_zero, List.getElem_cons_succ]
    refine z_done (by kernel_rfl) ?_
    replace HR0 := Lib.hid (HR0.out.stay HC.out)
    replace HK := Lib.hid (HK.out.trans (Below.kept HC.out))
    replace HX := Lib.hid (HX.out.below HC.out hltX)
    replace HL := Lib.hid (HL.out.below HC.out hltL)
    clear HC hBz HM hltM hltX hltL
    replace HR0 := Lib.hid (((HR0.out.far (p := ⟨w.heap.size + 1, 0, none⟩) hgL (.int .i64 rb)).far (p := ⟨w.heap.size + 1, 1, none⟩) hgL (.int .i64 rt)).far (p := ⟨w.heap.size + 1, 2, none⟩) hgL (.slice A6 rl.length d6))
    replace HX := Lib.hid (((HX.out.far (p := ⟨w.heap.size + 1, 0, none⟩) hXL (.int .i64 rb)).far (p := ⟨w.heap.size + 1, 1, none⟩) hXL (.int .i64 rt)).far (p := ⟨w.heap.size + 1, 2, none⟩) hXL (.slice A6 rl.length d6))
    replace HL := Lib.hid (HL.out.set3 (.int .i64 rb) (.int .i64 rt) (.slice A6 rl.length d6))
    have hoA : ∀ b, lbk A6 = some b → w.heap.size ≤ b ∧ b ≠ w.heap.size + 1 ∧ b ≠ w.heap.size := fun b hb => by
      have := HOB.out b hb
      exact ⟨by omega, by omega, by omega⟩
    have hoL : (Value.slice A6 rl.length d6).ownBlock ≠ some (w.heap.size + 1) := by rw [own_lbk]; exact fun e => (hoA _ e).2.1 rfl
    replace HO := Lib.hid (own_far (own_far (own_far HO.out (p := ⟨w.heap.size + 1, 0, none⟩) hoL (.int .i64 rb)) (p := ⟨w.heap.size + 1, 1, none⟩) hoL (.int .i64 rt)) (p := ⟨w.heap.size + 1, 2, none⟩) hoL (.slice A6 rl.length d6))
    replace HK := Lib.hid (((HK.out.set (p := ⟨w.heap.size + 1, 0, none⟩) (.inr (Nat.le_succ _)) (.int .i64 rb)).set (p := ⟨w.heap.size + 1, 1, none⟩) (.inr (Nat.le_succ _)) (.int .i64 rt)).set (p := ⟨w.heap.size + 1, 2, none⟩) (.inr (Nat.le_succ _)) (.slice A6 rl.length d6))
    go_simp
    generalize hw6 : World.setCell (World.setCell (World.setCell _ _ _) _ _) _ _ = w6 at *
    clear hw6
    have HLSw := Lib.hid (HK.out.sl HLS0.out HSF.out)
    obtain ⟨q0, q1, q2, q3, q4, q5, q6, q7, q8⟩ := HX.out.c9
    by_cases hre : re = 0
    rotate_left
    · have hres := HADD.out
      rw [if_pos (.inl hre)] at hres
      have HRES := Lib.hid hres
      have e8 : (re != 0) = true := by simpa using hre
      clear hres HADD hre
      go_wp2_with fail
      go_step3
      refine hgo 0 _ _ _ rfl ?_
      go_wp2_with fail
      refine (panswer_any n F _ A c _ HR0.out 3 f la1 false (by unfold MsgFit; simp only; omega)).mono ?_
      rintro e w9 ⟨v9, rfl, hv9, hb9⟩
      have hz9 := HK.out.size
      have HV := Lib.hid (SlS.wide hv9 (fun b hb _ => Nat.le_trans hz9 hb) : MsgsOut w _ v9 w9)
      replace HR0 := Lib.hid (HR0.out.stay hb9)
      replace HK := Lib.hid (HK.out.trans (Below.kept hb9))
      clear hv9 hb9
      go_wp2_with fail
      refine end_ret ?_
      go_ret
      rw [HRES.out]
      exact ⟨v9, rfl, HV.out, ptok_of HR0.out HK.out hllA HV.out⟩
    subst hre
    have HFL := Lib.hid (plater_any k f o t i u cm y _ L hLl w6 w6.heap.size (Nat.le_refl _) (SlS.here HLSw.out))
    rw [HFT.out] at HFL
    rcases ft with _ | _
    · have hres := HADD.out
      rw [if_pos (.inr rfl)] at hres
      have HRES := Lib.hid hres
      clear hres HADD
      go_wp2_with fail
      with_reducible refine HFL.out.mono ?_
      rintro e w8 ⟨rfl, hb⟩
      replace HR0 := Lib.hid (HR0.out.stay hb)
      replace HK := Lib.hid (HK.out.trans (Below.kept hb))
      replace HX := Lib.hid (HX.out.below hb HX.out.lt)
      clear hb HFL q0 q1 q2 q3 q4 q5 q6 q7 q8
      obtain ⟨q0, q1, q2, q3, q4, q5, q6, q7, q8⟩ := HX.out.c9
      go_wp2_with fail
      go_step3
      refine hgo 0 _ _ _ rfl ?_
      go_wp2_with fail
      refine (panswer_any n F _ A c _ HR0.out 3 f la1 false (by unfold MsgFit; simp only; omega)).mono ?_
      rintro e w9 ⟨v9, rfl, hv9, hb9⟩
      have hz9 := HK.out.size
      have HV := Lib.hid (SlS.wide hv9 (fun b hb _ => Nat.le_trans hz9 hb) : MsgsOut w _ v9 w9)
      replace HR0 := Lib.hid (HR0.out.stay hb9)
      replace HK := Lib.hid (HK.out.trans (Below.kept hb9))
      clear hv9 hb9
      go_wp2_with fail
      refine end_ret ?_
      go_ret
      rw [HRES.out]
      exact ⟨v9, rfl, HV.out, ptok_of HR0.out HK.out hllA HV.out⟩
    have hres := HADD.out
    rw [if_neg (by simp)] at hres
    obtain ⟨hi0, hi64, rfl, rfl⟩ := HIN.out rfl
    have HRES := Lib.hid hres
    clear hres HADD HIN
    go_wp2_with fail
    with_reducible refine HFL.out.mono ?_
    rintro e w8 ⟨rfl, hb⟩
    replace HR0 := Lib.hid (HR0.out.stay hb)
    replace HK := Lib.hid (HK.out.trans (Below.kept hb))
    replace HX := Lib.hid (HX.out.below hb HX.out.lt)
    replace HL := Lib.hid (HL.out.below hb HL.out.lt)
    replace HO := Lib.hid (HO.out.below hb)
    clear hb HFL q0 q1 q2 q3 q4 q5 q6 q7 q8
    have hlen : (0 : Int) ≤ (L.length : Int) := by omega
    generalize hln : L.length = ln at *
    clear hln
    have hwr : IntKind.i64.wrap (i + (ln : Int)) = i + (ln : Int) := by rw [IntKind.wrap_i64]; omega
    obtain ⟨b0_, b1_, b2_⟩ := HL.out.c3
    have hst := HR0.out.st
    dsimp only [rmc] at hst
    obtain ⟨k0, k1, k2, k3, k4, k5, k6, k7, k8, k9, k10, k11⟩ := hst.c12
    have f4g := hst.free 4
    have f5g := hst.free 5
    have f6g := hst.free 6
    clear hst
    have HRl := Lib.hid (HR0.out.log HO.out (fun b hb hf => by have := hoA b hb; have := hFlt b hf; omega))
    dsimp only at HRl
    replace HX := Lib.hid (((HX.out.far (p := ⟨F.g, 4, none⟩) hXg (.int .i64 0)).far (p := ⟨F.g, 5, none⟩) hXg (.int .i64 0)).far (p := ⟨F.g, 6, none⟩) hXg (.slice A6 rl.length d6))
    replace HK := Lib.hid (((HK.out.set (p := ⟨F.g, 4, none⟩) (.inl (.inl rfl)) (.int .i64 0)).set (p := ⟨F.g, 5, none⟩) (.inl (.inl rfl)) (.int .i64 0)).set (p := ⟨F.g, 6, none⟩) (.inl (.inl rfl)) (.slice A6 rl.length d6))
    clear HR0
    have HR0 := HRl
    clear HRl HO HL
    obtain ⟨q0, q1, q2, q3, q4, q5, q6, q7, q8⟩ := HX.out.c9
    have rn0 := HRES
    clear rn0
    generalize hrn : rl.length = rn at *
    have HRN := Lib.hid hrn
    clear hrn
    go_wp2_with fail
    clear b0_ b1_ b2_ f4g f5g f6g k0 k1 k2 k3 k4 k5 k6 k7 k8 k9 k10 k11 q0 q1 q2 q3 q4 q5 q6 q7 q8
    generalize hw9 : World.setCell (World.setCell (World.setCell _ _ _) _ _) _ _ = w9 at *
    clear hw9
    have HM := Lib.hid HR0.out.st
    dsimp only [rmc] at HM
    rw [HRN.out] at HM
    obtain ⟨mn, hmn⟩ : ∃ mn : Int, mn = min cm (i + (ln : Int)) := ⟨_, rfl⟩
    obtain ⟨mx, hmx⟩ : ∃ mx : Int, mx = max s.upto mn := ⟨_, rfl⟩
    have hrmin : ∀ (ts : Array TypeId) (t : TypeId) (W : World), (Builtin.min_ ts t #[.int .i64 cm, .int .i64 (i + (ln : Int))]).run Try.prog W = .ok (.int .i64 mn) W := by
      intro ts t W
      rw [run_min_int2, show (if i + (ln : Int) < cm then i + (ln : Int) else cm) = mn by rw [hmn]; split <;> omega]
    have hrmax : ∀ (ts : Array TypeId) (t : TypeId) (W : World), (Builtin.max_ ts t #[.int .i64 s.upto, .int .i64 mn]).run Try.prog W = .ok (.int .i64 mx) W := by
      intro ts t W
      rw [run_max_int2, show (if mn > s.upto then mn else s.upto) = mx by rw [hmx]; split <;> omega]
    have HMX := Lib.hid (show mx = max s.upto (min cm (i + (ln : Int))) by rw [hmx, hmn])
    clear hmn hmx
    refine z_start ((w9).drew.heap.size) [12] (by kernel_rfl) ?_
    have HC := Lib.hid (Below.refl ((w9).drew.heap.size) (w9).drew)
    have hBz : (w9).drew.heap.size ≤ (w9).drew.heap.size := Nat.le_refl _
    replace HM := Lib.hid (show Whole (w9).drew _ _ _ from HM.out)
    have hltM := HM.out.lt
    replace HX := Lib.hid (show Whole (w9).drew _ _ _ from HX.out)
    have hltX := HX.out.lt
    replace HK := Lib.hid (HK.out.trans (Below.kept (Below.refl _ _).drew))
    replace HR0 := Lib.hid (HR0.out.stay (Below.refl _ _).drew)
    generalize (w9).drew = y2 at *
    refine z_take (i := 0) (v := ?_) rfl (by kernel_rfl) (by kernel_rfl) (by kernel_rfl) (k0 := 0) (by kernel_rfl) (by kernel_rfl) (.inl rfl) (fun _ _ _ h => h) (by rfl) HC.out ?_ ?_
    rotate_left
    · intro W hW
      go_simp
      first | done | rfl
    simp only [Act.put, List.setIfInBounds_toArray, List.set_cons_zero, List.set_cons_succ, List.getElem_toArray, List.getElem_cons_zero]
    refine z_take (i := 1) (v := ?_) rfl (by kernel_rfl) (by kernel_rfl) (by kernel_rfl) (k0 := 1) (by kernel_rfl) (by kernel_rfl) (.inl rfl) (fun _ _ _ h => h) (by rfl) HC.out ?_ ?_
    rotate_left
    · intro W hW
      go_simp
      first | done | rfl
    simp only [Act.put, List.setIfInBounds_toArray, List.set_cons_zero, List.set_cons_succ, List.getElem_toArray, List.getElem_cons_zero, List.getElem_cons_succ]
    refine z_take (i := 2) (v := ?_) rfl (by kernel_rfl) (by kernel_rfl) (by kernel_rfl) (k0 := 2) (by kernel_rfl) (by kernel_rfl) (.inl rfl) (fun _ _ _ h => h) (by rfl) HC.out ?_ ?_
    rotate_left
    · intro W hW
      go_simp
      first | done | rfl
    simp only [Act.put, List.setIfInBounds_toArray, List.set_cons_zero, List.set_cons_succ, List.getElem_toArray, List.getElem_cons_zero, List.getElem_cons_succ]
    refine z_take (i := 3) (v := ?_) rfl (by kernel_rfl) (by kernel_rfl) (by kernel_rfl) (k0 := 3) (by kernel_rfl) (by kernel_rfl) (.inl rfl) (fun _ _ _ h => h) (by rfl) HC.out ?_ ?_
    rotate_left
    · intro W hW
      go_simp
      first | done | rfl
    simp only [Act.put, List.setIfInBounds_toArray, List.set_cons_zero, List.set_cons_succ, List.getElem_toArray, List.getElem_cons_zero, List.getElem_cons_succ]
    refine z_take (i := 4) (v := ?_) rfl (by kernel_rfl) (by kernel_rfl) (by kernel_rfl) (k0 := 4) (by kernel_rfl) (by kernel_rfl) (.inl rfl) (fun _ _ _ h => h) (by rfl) HC.out ?_ ?_
    rotate_left
    · intro W hW
      obtain ⟨k0, k1, k2, k3, k4, k5, k6, k7, k8, k9, k10, k11⟩ := (HM.out.below hW hltM).c12
      go_simp
      first | done | rfl
    simp only [Act.put, List.setIfInBounds_toArray, List.set_cons_zero, List.set_cons_succ, List.getElem_toArray, List.getElem_cons_zero, List.getElem_cons_succ]
    refine z_take (i := 5) (v := ?_) rfl (by kernel_rfl) (by kernel_rfl) (by kernel_rfl) (k0 := 5) (by kernel_rfl) (by kernel_rfl) (.inl rfl) (fun _ _ _ h => h) (by rfl) HC.out ?_ ?_
    rotate_left
    · intro W hW
      go_simp
      first | done | rfl
    simp only [Act.put, List.setIfInBounds_toArray, List.set_cons_zero, List.set_cons_succ, List.getElem_toArray, List.getElem_cons_zero, List.getElem_cons_succ]
    refine z_take (i := 6) (v := ?_) rfl (by kernel_rfl) (by kernel_rfl) (by kernel_rfl) (k0 := 6) (by kernel_rfl) (by kernel_rfl) (.inl rfl) (fun _ _ _ h => h) (by rfl) HC.out ?_ ?_
    rotate_left
    · intro W hW
      obtain ⟨q0, q1, q2, q3, q4, q5, q6, q7, q8⟩ := (HX.out.below hW hltX).c9
      go_simp
      first | done | rfl
    simp only [Act.put, List.setIfInBounds_toArray, List.set_cons_zero, List.set_cons_succ, List.getElem_toArray, List.getElem_cons_zero, List.getElem_cons_succ]
    refine z_take (i := 7) (v := ?_) rfl (by kernel_rfl) (by kernel_rfl) (by kernel_rfl) (k0 := 7) (by kernel_rfl) (by kernel_rfl) (.inl rfl) (fun _ _ _ h => h) (by rfl) HC.out ?_ ?_
    rotate_left
    · intro W hW
      go_simp
      first | done | rfl
    simp only [Act.put, List.setIfInBounds_toArray, List.set_cons_zero, List.set_cons_succ, List.getElem_toArray, List.getElem_cons_zero, List.getElem_cons_succ]
    refine z_take (i := 8) (v := ?_) rfl (by kernel_rfl) (by kernel_rfl) (by kernel_rfl) (k0 := 8) (by kernel_rfl) (by kernel_rfl) (.inl rfl) (fun _ _ _ h => h) (by rfl) HC.out ?_ ?_
    rotate_left
    · intro W hW
      go_simp
      first | done | rfl
    simp only [Act.put, List.setIfInBounds_toArray, List.set_cons_zero, List.set_cons_succ, List.getElem_toArray, List.getElem_cons_zero, List.getElem_cons_succ]
    refine z_take (i := 9) (v := ?_) rfl (by kernel_rfl) (by kernel_rfl) (by kernel_rfl) (k0 := 9) (by kernel_rfl) (by kernel_rfl) (.inl rfl) (fun _ _ _ h => h) (by rfl) HC.out ?_ ?_
    rotate_left
    · intro W hW
      go_simp
      first | done | rfl
    simp only [Act.put, List.setIfInBounds_toArray, List.set_cons_zero, List.set_cons_succ, List.getElem_toArray, List.getElem_cons_zero, List.getElem_cons_succ]
    refine z_take (i := 10) (v := ?_) rfl (by kernel_rfl) (by kernel_rfl) (by kernel_rfl) (k0 := 11) (by kernel_rfl) (by kernel_rfl) (.inr (by kernel_rfl)) (fun _ _ _ h => h) (by rfl) HC.out ?_ ?_
    rotate_left
    · intro W hW
      go_simp
      first | done | rfl
    simp only [Act.put, List.setIfInBounds_toArray, List.set_cons_zero, List.set_cons_succ, List.getElem_toArray, List.getElem_cons_zero, List.getElem_cons_succ]
    refine z_take (i := 11) (v := ?_) rfl (by kernel_rfl) (by kernel_rfl) (by kernel_rfl) (k0 := 11) (by kernel_rfl) (by kernel_rfl) (.inl rfl) (fun _ _ _ h => h) (by rfl) HC.out ?_ ?_
    rotate_left
    · intro W hW
      go_simp
      first | done | rfl
    simp only [Act.put, List.setIfInBounds_toArray, List.set_cons_zero, List.set_cons_succ, List.getElem_toArray, List.getElem_cons_zero, List.getElem_cons_succ]
    refine z_one (i := 12) (by kernel_rfl) ?_
    obtain ⟨k0, k1, k2, k3, k4, k5, k6, k7, k8, k9, k10, k11⟩ := (HM.out.below HC.out hltM).c12
    have f8 := (HM.out.below HC.out hltM).free 8
    refine onez_skip (i := 12) (w' := ?_) rfl (by rfl) ?_ ?_ ?_
    rotate_left 1
    · go_simp
      first | done | rfl
    · exact fun h => absurd (by decide) h
    simp only [Act.put, List.getElem_toArray, List.getElem_cons_zero, List.getElem_cons_succ]
    clear f8 k0 k1 k2 k3 k4 k5 k6 k7 k8 k9 k10 k11
    refine z_done (by kernel_rfl) ?_
    replace HR0 := Lib.hid ((HR0.out.stay HC.out).cell 8 (.int .i64 mx) (s' := { s with is := 0, l := rl, upto := mx }) rfl rfl rfl rfl rfl)
    replace HK := Lib.hid ((HK.out.trans (Below.kept HC.out)).set (p := ⟨F.g, 8, none⟩) (.inl (.inl rfl)) (.int .i64 mx))
    replace HX := Lib.hid ((HX.out.below HC.out hltX).far (p := ⟨F.g, 8, none⟩) hXg (.int .i64 mx))
    clear HC hBz HM hltM hltX
    go_simp
    generalize hw10 : World.setCell _ _ _ = w10 at *
    clear hw10 hrmin hrmax
    rw [HMX.out] at HR0
    obtain ⟨q0, q1, q2, q3, q4, q5, q6, q7, q8⟩ := HX.out.c9
    go_wp2_with fail
    refine (panswer_any n F _ A6 d6 _ HR0.out 3 f (i + (ln : Int)) true (by unfold MsgFit; simp only; omega)).mono ?_
    rintro e w11 ⟨v9, rfl, hv9, hb9⟩
    have hz9 := HK.out.size
    have HV := Lib.hid (SlS.wide hv9 (fun b hb _ => Nat.le_trans hz9 hb) : MsgsOut w _ v9 w11)
    have HVA := Lib.hid (show SlS (α := M) w11 (fun b => w.heap.size ≤ b ∧ ¬ lbk A6 = some b) v9 _ from SlS.wide hv9 (fun b hb _ => ⟨Nat.le_trans hz9 hb, fun e => by have := HR0.out.llt b e; omega⟩))
    replace HR0 := Lib.hid (HR0.out.stay hb9)
    replace HK := Lib.hid (HK.out.trans (Below.kept hb9))
    clear hv9 hb9
    go_wp2_with fail
    refine jumps_ret ?_
    go_ret
    rw [HRES.out]
    exact ⟨v9, rfl, HV.out, A6, d6, HR0.out, fun b hb => .inr (hoA b hb).1, HK.out.gof, fun _ => HVA.out⟩
end Go.Proofs.Ytjcljkbalpgfdaa

/-
  What Beat answers.
-/


namespace Go.Proofs.Ytjcljkbalpgfdaa
open Go.RowKit

set_option maxRecDepth 100000 in
theorem pbeat_q (n : Rf.Id) (F : Foot) (s : Rf.St) (hg : Rf.Good n s) (A : Option Addr) (c : Nat) (w : World) (h : QMem n F w s A c) :
    Calls Try.prog 25 #[.pointer (some ⟨F.g, 0, none⟩)] w fun e w' => ∃ v, e = .returned v ∧ MsgsOut w (Rf.beat n s).2 v w' ∧ Below w.heap.size w w' := by
  have HA := Lib.hid (pothers_addition_any n F s hg A c w h)
  have hst := h.st
  dsimp only [rmc] at hst
  obtain ⟨k0, k1, k2, k3, k4, k5, k6, k7, k8, k9, k10, k11⟩ := hst.c12
  clear hst h hg
  have hmf : ∀ (fn : Fn) (first cap : Array Value) (w : World), (Instr.makeFunc fn first cap).run Try.prog w = .ok (.func fn first cap) w := fun _ _ _ _ => rfl
  by_cases h2 : s.is = 2
  · have hbt : Rf.beat n s = (s, Rf.all n s) := by unfold Rf.beat; rw [if_pos h2]
    rw [hbt]
    have e2 : (s.is != 2) = false := by simpa using h2
    clear hbt h2
    go_enter Try.func25, Try.ntmps25
    go_wp2_with fail
    refine wp_scope_ahead fun J hgo => ?_
    go_wp2_with fail
    refine HA.out.mono ?_
    rintro e w1 ⟨v, rfl, hv, hb⟩
    go_wp2_with fail
    refine jumps_ret ?_
    go_ret
    exact ⟨v, rfl, hv, hb⟩
  · have hbt : Rf.beat n s = (s, []) := by unfold Rf.beat; rw [if_neg h2]
    rw [hbt]
    have e2 : (s.is != 2) = true := by simpa using h2
    clear hbt h2
    go_enter Try.func25, Try.ntmps25
    go_wp2_with fail
    refine wp_scope_ahead fun J hgo => ?_
    go_wp2_with fail
    go_step3
    refine hgo 0 _ _ _ rfl ?_
    go_wp2_with fail
    refine end_ret ?_
    go_ret
    exact ⟨_, rfl, msgsOut_nil _ _, Below.refl _ _⟩
end Go.Proofs.Ytjcljkbalpgfdaa

/-
  What plea answers.
-/


namespace Go.Proofs.Ytjcljkbalpgfdaa
open Go.RowKit

set_option maxRecDepth 100000 in
set_option maxHeartbeats 800000 in
theorem pplea_any (n : Rf.Id) (F : Foot) (s : Rf.St) (_hg : Rf.Good n s) (A : Option Addr) (c : Nat) (w : World) (h : QMem n F w s A c) (k : Nat) (_hk1 : 1 ≤ k) (_hk2 : k ≤ n.many) :
    Calls Try.prog 31 #[.pointer (some ⟨F.g, 0, none⟩), .int .i64 (k : Int)] w (MsgOut w (Rf.ask n s k)) := by
  have HR0 := Lib.hid (h.stay ((Below.refl w.heap.size w).alloc (Nat.le_refl _) (.cells #[.int .i64 0, .int .i64 0, .int .i64 0, .int .i64 0, .int .i64 0, .int .i64 0, .int .i64 0, .bool false, .slice none 0 0] 41)))
  have HB := Lib.hid ((Below.refl w.heap.size w).alloc (Nat.le_refl _) (.cells #[.int .i64 0, .int .i64 0, .int .i64 0, .int .i64 0, .int .i64 0, .int .i64 0, .int .i64 0, .bool false, .slice none 0 0] 41))
  have HX4 := Lib.hid (Whole.new w 41 #[.int .i64 0, .int .i64 0, .int .i64 0, .int .i64 0, .int .i64 0, .int .i64 0, .int .i64 0, .bool false, .slice none 0 0])
  have HMS := Lib.hid (fun W hW => pmsg_any n F s A c W hW 0 (k : Int))
  have HLS := Lib.hid (fun W (hb : Below w.heap.size w W) => last_any 0 0 _ s.l W w.heap.size hb.size (h.sl.below hb))
  clear h _hg
  unfold Rf.ask Rf.last Rf.lg
  generalize Lg.last (0, 0, s.l) = q at *
  obtain ⟨la1, la2⟩ := q
  simp only at HLS
  go_enter Try.func31, Try.ntmps31
  go_wp2_with fail
  refine (HMS.out _ HR0.out).mono ?_
  rintro e w1 ⟨rfl, hb⟩
  replace HR0 := Lib.hid (HR0.out.stay hb)
  replace HX4 := Lib.hid (HX4.out.below hb HX4.out.lt)
  replace HB := Lib.hid (HB.out.trans (hb.mono HB.out.size))
  clear hb HMS
  have hsz := HB.out.size
  have h4lt := HX4.out.lt
  have h45 : w.heap.size ≠ w1.heap.size := by omega
  have HRa := Lib.hid (HR0.out.stay ((Below.refl _ _).alloc (Nat.le_refl _) (.cells (mc 0 (n.id : Int) (k : Int) s.b.1 0 0 0 false (.slice none 0 0)) 41)))
  have hst := HRa.out.st
  dsimp only [rmc] at hst
  obtain ⟨k0, k1, k2, k3, k4, k5, k6, k7, k8, k9, k10, k11⟩ := hst.c12
  clear hst
  clear HR0
  go_wp2_with fail
  clear k0 k1 k2 k3 k4 k5 k6 k7 k8 k9 k10 k11
  have HX := Lib.hid (Whole.new w1 41 (mc 0 (n.id : Int) (k : Int) s.b.1 0 0 0 false (.slice none 0 0)))
  replace HX4 := Lib.hid (HX4.out.alloc (.cells (mc 0 (n.id : Int) (k : Int) s.b.1 0 0 0 false (.slice none 0 0)) 41))
  replace HB := Lib.hid (HB.out.alloc HB.out.size (.cells (mc 0 (n.id : Int) (k : Int) s.b.1 0 0 0 false (.slice none 0 0)) 41))
  generalize hw3 : w1.alloc (.cells (mc 0 (n.id : Int) (k : Int) s.b.1 0 0 0 false (.slice none 0 0)) 41) = w3 at *
  clear hw3
  generalize hg5 : w1.heap.size = g5 at *
  clear hg5
  with_reducible refine (HLS.out _ HB.out).mono ?_
  rintro e w4 ⟨rfl, hb⟩
  replace HX4 := Lib.hid (HX4.out.below hb HX4.out.lt)
  replace HX := Lib.hid (HX.out.below hb HX.out.lt)
  replace HB := Lib.hid (HB.out.trans (hb.mono HB.out.size))
  clear hb HLS HRa
  obtain ⟨q0, q1, q2, q3, q4, q5, q6, q7, q8⟩ := HX.out.c9
  obtain ⟨f0, f1, f2, f3, f4, f5, f6, f7, f8⟩ := HX.out.f9
  replace HX4 := Lib.hid (HX4.out.far (p := ⟨g5, 4, none⟩) h45 (.int .i64 la1))
  have HXn := Lib.hid (Whole.setTo HX.out 4 (.int .i64 la1) (cs2 := #[.int .i64 0, .int .i64 (n.id : Int), .int .i64 (k : Int), .int .i64 s.b.1, .int .i64 la1, .int .i64 0, .int .i64 0, .bool false, .slice none 0 0]) rfl)
  clear HX
  have HX := HXn
  clear HXn
  replace HB := Lib.hid (HB.out.setCell (p := ⟨g5, 4, none⟩) (Nat.le_of_lt h4lt) (.int .i64 la1))
  obtain ⟨e0, e1, e2, e3, e4, e5, e6, e7, e8⟩ := HX.out.f9
  replace HX4 := Lib.hid (HX4.out.far (p := ⟨g5, 5, none⟩) h45 (.int .i64 la2))
  have HXn := Lib.hid (Whole.setTo HX.out 5 (.int .i64 la2) (cs2 := #[.int .i64 0, .int .i64 (n.id : Int), .int .i64 (k : Int), .int .i64 s.b.1, .int .i64 la1, .int .i64 la2, .int .i64 0, .bool false, .slice none 0 0]) rfl)
  clear HX
  have HX := HXn
  clear HXn
  replace HB := Lib.hid (HB.out.setCell (p := ⟨g5, 5, none⟩) (Nat.le_of_lt h4lt) (.int .i64 la2))
  obtain ⟨r0, r1, r2, r3, r4, r5, r6, r7, r8⟩ := HX.out.c9
  obtain ⟨p0, p1, p2, p3, p4, p5, p6, p7, p8⟩ := HX4.out.c9
  obtain ⟨d0, d1, d2, d3, d4, d5, d6, d7, d8⟩ := HX4.out.f9
  have HRR := Lib.hid (HX4.out.set9 (.int .i64 0) (.int .i64 (n.id : Int)) (.int .i64 (k : Int)) (.int .i64 s.b.1) (.int .i64 la1) (.int .i64 la2) (.int .i64 0) (.bool false) (.slice none 0 0))
  have HBB := Lib.hid (below_set9 HB.out (g := w.heap.size) (Nat.le_refl _) (.int .i64 0) (.int .i64 (n.id : Int)) (.int .i64 (k : Int)) (.int .i64 s.b.1) (.int .i64 la1) (.int .i64 la2) (.int .i64 0) (.bool false) (.slice none 0 0))
  clear HX4 HB HX
  go_wp2_with fail
  refine bodyPost_ret (results_msg rfl rfl HRR.out) rfl ?_
  exact ⟨none, 0, rfl, SlS.nil _ _, HBB.out⟩
end Go.Proofs.Ytjcljkbalpgfdaa

/-
  What toOthers answers: a plea to each of the others.
-/


namespace Go.Proofs.Ytjcljkbalpgfdaa
open Go.RowKit

set_option maxRecDepth 100000 in
set_option maxHeartbeats 800000 in
theorem pothers_plea_any (n : Rf.Id) (F : Foot) (s : Rf.St) (hg : Rf.Good n s) (A : Option Addr) (c : Nat) (w : World) (h : QMem n F w s A c) :
    Calls Try.prog 30 #[.pointer (some ⟨F.g, 0, none⟩), .func (.func 31) #[.pointer (some ⟨F.g, 0, none⟩)] #[]] w fun e w' => ∃ v, e = .returned v ∧ MsgsOut w (Rf.each n (Rf.ask n s) n.many) v w' ∧ Below w.heap.size w w' := by
  have HR := Lib.hid (fun W (hb : Below w.heap.size w W) => h.stay hb)
  have HA := Lib.hid (fun k hk1 hk2 W hW => pplea_any n F s hg A c W hW k hk1 hk2)
  have HFIT := Lib.hid (fun k (hk : k ≤ n.many) => Rf.ask_fit hg hk)
  have h16 := hg.many
  have hi1 := hg.id1
  have hi2 := hg.id2
  clear h hg
  have H0 := Lib.hid (show Rf.each n (Rf.ask n s) 0 = [] from rfl)
  have HME := Lib.hid (fun k => @Rf.each_me n (Rf.ask n s) k)
  have HOT := Lib.hid (fun k => @Rf.each_other n (Rf.ask n s) k)
  have HEL := Lib.hid (fun k => Rf.each_len n (Rf.ask n s) k)
  generalize Rf.each n (Rf.ask n s) = ea at *
  generalize Rf.ask n s = f at *
  go_enter Try.func30, Try.ntmps30
  have hst := (HR.out _ (Below.refl _ _)).st
  dsimp only [rmc] at hst
  obtain ⟨k0, k1, k2, k3, k4, k5, k6, k7, k8, k9, k10, k11⟩ := hst.c12
  clear hst
  go_wp2_with fail
  clear k0 k1 k2 k3 k4 k5 k6 k7 k8 k9 k10 k11
  go_loopw [5, 12] (fun ov kv wr => ∃ (j : Nat) (S2 : Nat → Prop), j ≤ n.many ∧ kv = .int .i64 (j : Int) ∧ Hid (OwnS (α := M) wr w.heap.size S2 41 ov (ea j)) ∧ Hid (∀ b, S2 b → w.heap.size ≤ b) ∧ Below w.heap.size w wr) (fun _ kv _ => n.many - (intOf kv).toNat)
  case atStart => exact ⟨0, fun _ => False, Nat.zero_le _, rfl, by rw [H0.out]; exact OwnS.nil _ _ _ _, fun _ h => h.elim, Below.refl _ _⟩
  case round =>
    obtain ⟨j, S2, hj, rfl, ho, hS2, hb⟩ := hrel
    have HB := Lib.hid hb
    have hz := hb.size
    clear hb
    have hst := (HR.out _ HB.out).st
    unfold rmc at hst
    obtain ⟨k0, k1, k2, k3, k4, k5, k6, k7, k8, k9, k10, k11⟩ := hst.c12
    have HM := Lib.hid hst
    clear hst
    have hwj : IntKind.i64.wrap ((j : Int) + 1) = (j : Int) + 1 := by rw [IntKind.wrap_i64]; omega
    by_cases hlt : j < n.many
    · have hle : decide ((j : Int) < (n.many : Int)) = true := by simp; omega
      by_cases hme : j + 1 = n.id
      · have hne : (((j : Int) + 1) != (n.id : Int)) = false := by simp; omega
        have he := HME.out j hme
        clear hme
        go_wp2_with fail
        go_roundw
        case rel => exact ⟨j + 1, S2, by omega, by go_num, by rw [he]; exact ho, hS2, HB.out⟩
        case measure => simp [intOf]; omega
      · have hne : (((j : Int) + 1) != (n.id : Int)) = true := by simp; omega
        have he := Lib.hid (HOT.out j hme)
        have hfit := HFIT.out (j + 1) (by omega)
        have hlen := HEL.out j
        have HAJ := Lib.hid (HA.out (j + 1) (by omega) (by omega) _ (HR.out _ HB.out))
        clear hme HOT HME HEL HFIT HA
        have hcast : ((j + 1 : Nat) : Int) = (j : Int) + 1 := by omega
        rw [hcast] at HAJ
        generalize f (j + 1) = x at *
        generalize hel : (ea j).length = nl at *
        have HELL := Lib.hid hel
        clear hel
        go_wp2_with fail
        refine HAJ.out.mono ?_
        rintro e w1 ⟨A2, c2, rfl, hs2, hb2⟩
        have hsrc := SlS.new1 w1 41 x (mcx x (.slice A2 x.2.2.2.2.2.2.2.2.length c2)) (fits_msg hfit hs2)
        have HS := Lib.hid hsrc
        have hz2 := hb2.size
        have HF2 := Lib.hid ((ho.out.below hb2).below ((Below.refl _ _).alloc (Nat.le_refl _) (.cells (mcx x (.slice A2 x.2.2.2.2.2.2.2.2.length c2)) 41)))
        have hlo := ho.out.lt
        have HBB := Lib.hid ((HB.out.trans (hb2.mono hz)).alloc (Nat.le_trans hz hz2) (.cells (mcx x (.slice A2 x.2.2.2.2.2.2.2.2.length c2)) 41))
        clear hsrc hs2 hb2 ho HAJ HM k0 k1 k2 k3 k4 k5 k6 k7 k8 k9 k10 k11 hfit HB
        go_wp2_with (at_builtin; refine wpList_append_slS rfl _ (.tmp 27) rfl rowM w.heap.size S2 _ _ (ea j) rfl HF2.out _ [x] rfl HS.out (by intro b hb hb2; have := (hlo _ hb2).2; rcases hb with hb | hb <;> omega) (by rw [HELL.out]; unfold maxLen; simp; omega) (by rw [HELL.out]; simp; omega) (by simp; omega) ?_; intro v3 w3 hown3 hg3 hat3; have hb5 := below_of_ownS HBB.out HF2.out hg3 (by simp; omega); have HO3 := Lib.hid hown3; clear hg3 hat3 hown3)
        go_wp2_with fail
        go_roundw
        case rel => exact ⟨j + 1, _, by omega, by go_num, by rw [he.out]; exact HO3.out, fun b hb => by
          rcases hb.1 with hb | hb
          · exact hS2.out b hb
          · rcases hb with hb | hb <;> omega, hb5⟩
        case measure => simp [intOf]; omega
    · obtain rfl : j = n.many := by omega
      have hle : decide ((n.many : Int) < (n.many : Int)) = false := by simp
      go_wp2_with fail
      go_ret
      exact ⟨_, rfl, ho.out.slS.wide (fun b hb _ => by
        rcases hb with hb | hb
        · exact hS2.out b hb
        · exact (ho.out.lt b hb).1), HB.out⟩
end Go.Proofs.Ytjcljkbalpgfdaa

/-
  A member's term never falls, nor does what is settled; a vote stays; who leads loses no entry. What is not for it changes nothing. As plain mathematics.
-/

namespace Go.Proofs.Ytjcljkbalpgfdaa.Rf

/-- From one state on to another. -/
structure Up (s t : St) : Prop where
  b : s.b.1 ≤ t.b.1
  v : t.b.1 = s.b.1 → s.b.2 ≠ 0 → t.b.2 = s.b.2
  u : s.upto ≤ t.upto
  l : s.is = 2 → t.is = 2 → t.b.1 = s.b.1 → ∃ m, t.l = s.l ++ m
section
variable {n : Id} {s : St}
theorem Up.refl (s : St) : Up s s := ⟨Int.le_refl _, fun _ _ => rfl, Int.le_refl _, fun _ _ _ => ⟨[], by simp⟩⟩
theorem lead_b : (lead n s).1.b = s.b := by
  unfold lead first
  simp only
  split <;> rfl
theorem lead_up : s.upto ≤ (lead n s).1.upto := by
  unfold lead
  have := @settle_up (own n (first (begin_ n s)))
  have e : (own n (first (begin_ n s))).upto = s.upto := by
    unfold first
    split <;> rfl
  simp only
  omega
theorem up_timeout (_hb : s.b.1 ≤ 1073741824) : Up s (timeout n s).1 := by
  unfold timeout
  split
  · exact Up.refl s
  · rename_i hc
    have h2 : s.is ≠ 2 := fun h => hc (.inl h)
    split
    · have h1 : (lead n (stand n s)).1.b = (s.b.1 + 1, (n.id : Int)) := lead_b
      have h3 : s.upto ≤ (lead n (stand n s)).1.upto := @lead_up n (stand n s)
      refine ⟨by rw [h1]; simp only; omega, fun h => ?_, h3, fun h => absurd h h2⟩
      rw [h1] at h; simp only at h; omega
    · refine ⟨?_, fun h => ?_, Int.le_refl _, fun h => absurd h h2⟩
      · show s.b.1 ≤ s.b.1 + 1; omega
      · have h : s.b.1 + 1 = s.b.1 := h
        omega
theorem up_beat : Up s (beat n s).1 := by
  unfold beat
  split <;> exact Up.refl s
theorem up_propose (c : Cmd) : Up s (propose n s c).1 := by
  unfold propose
  split
  · exact Up.refl s
  · split
    · exact Up.refl s
    · have := @settle_up (own n (put s c))
      exact ⟨Int.le_refl _, fun _ _ => rfl, this, fun _ _ _ => ⟨[(s.b.1, c)], rfl⟩⟩
theorem up_asked (h : Good n s) (x : Msg) : Up s (asked n s x).1 := by
  obtain ⟨h1, h2, _, _⟩ := Vt.grant_once (b := s.b) (last s) x.2.1 x.2.2.2.1 x.2.2.2.2.1 x.2.2.2.2.2.1 ((Vt.may_iff _).2 h.b)
  exact ⟨h1, h2, Int.le_refl _, fun _ _ _ => ⟨[], by show s.l = s.l ++ []; simp⟩⟩
theorem up_voted (x : Msg) : Up s (voted n s x).1 := by
  unfold voted
  split
  · exact Up.refl s
  · rename_i hc
    have h2 : s.is ≠ 2 := fun h => hc (.inl (by omega))
    simp only
    split
    · exact ⟨Int.le_refl _, fun _ _ => rfl, Int.le_refl _, fun h => absurd h h2⟩
    · refine ⟨by rw [lead_b]; exact Int.le_refl _, fun _ _ => by rw [lead_b], ?_, fun h => absurd h h2⟩
      exact @lead_up n { s with votes := s.votes.set (x.2.1.toNat - 1) true }
theorem up_add (x : Msg) : Up s (add n s x).1 := by
  unfold add
  split
  · exact Up.refl s
  · split
    · exact Up.refl s
    · rename_i h1 h2
      simp only
      split
      · exact ⟨Int.le_refl _, fun _ _ => rfl, Int.le_refl _, fun h => absurd h h2⟩
      · exact ⟨Int.le_refl _, fun _ _ => rfl, by simp only; omega, fun h => absurd h h2⟩
theorem up_added (x : Msg) : Up s (added n s x).1 := by
  unfold added
  split
  · exact Up.refl s
  · simp only
    split
    · split
      · exact Up.refl s
      · have key : ∀ m k : List Int, Up s (settle { s with mt := m, nx := k }) := fun m k =>
          ⟨Int.le_refl _, fun _ _ => rfl, @settle_up { s with mt := m, nx := k }, fun _ _ _ => ⟨[], by show s.l = s.l ++ []; simp⟩⟩
        split <;> exact key _ _
    · exact ⟨Int.le_refl _, fun _ _ => rfl, Int.le_refl _, fun _ _ _ => ⟨[], by show s.l = s.l ++ []; simp⟩⟩
theorem up_hear (h : Good n s) (x : Msg) : Up s (hear n s x).1 := by
  unfold hear
  split
  · rename_i hm
    have hs := h.sees x
    have key : Up (sees s x) (if x.1 = 0 then asked n (sees s x) x else if x.1 = 1 then voted n (sees s x) x else if x.1 = 2 then add n (sees s x) x else added n (sees s x) x).1 := by
      split
      · exact up_asked hs x
      · split
        · exact up_voted x
        · split
          · exact up_add x
          · exact up_added x
    by_cases hlt : s.b.1 < x.2.2.2.1
    · have e : sees s x = { s with b := (x.2.2.2.1, 0), is := 0 } := by unfold sees; rw [if_pos hlt, Vt.see_new hlt hm.2.2.2.2.2.1]
      have hb : s.b.1 < (sees s x).b.1 := by rw [e]; exact hlt
      have hu : (sees s x).upto = s.upto := by rw [e]
      generalize sees s x = t at *
      have k1 := key.b
      have k3 := key.u
      exact ⟨Int.le_trans (Int.le_of_lt hb) k1, fun h => absurd h (Int.ne_of_gt (Int.lt_of_lt_of_le hb k1)), hu ▸ k3, fun _ _ h => absurd h (Int.ne_of_gt (Int.lt_of_lt_of_le hb k1))⟩
    · have e : sees s x = s := by unfold sees; rw [if_neg hlt]
      rw [e] at key ⊢
      exact key
  · exact Up.refl s
theorem up_did (h : Good n s) (e : Ev) : Up s (did n s e).1 := by
  unfold did
  split
  · exact up_hear h e.2.1
  · split
    · exact up_timeout h.b.2.1
    · split
      · exact up_beat
      · exact up_propose e.2.2
/-- What is not for it. -/
theorem hear_deaf {x : Msg} (h : ¬ mine n x) : hear n s x = (s, []) := if_neg h
end
end Go.Proofs.Ytjcljkbalpgfdaa.Rf

/-
  What a leader adds is there, and as much is settled as it says, as far as it was added; told once more nothing changes. As plain mathematics.
-/

namespace Go.Proofs.Ytjcljkbalpgfdaa.Rf
section
variable {n : Id} {s : St} {f o t i u cm : Int} {y : Bool} {L : List E}
/-- Behind seeing it, nobody leads, and nothing else has turned. -/
theorem sees_follow (h0 : s.is = 0) (x : Msg) : (sees s x).is = 0 ∧ (sees s x).upto = s.upto ∧ (sees s x).l = s.l := by
  unfold sees
  split
  · exact ⟨rfl, rfl, rfl⟩
  · exact ⟨h0, rfl, rfl⟩
/-- Two ways: refused, or taken. -/
theorem hear_add (h : Good n s) (h0 : s.is = 0) (hu : s.upto = 0) :
    ((hear n s (2, f, o, t, i, u, cm, y, L)).1.upto = 0 ∧ ((hear n s (2, f, o, t, i, u, cm, y, L)).2 = [] ∨ ∃ z, (hear n s (2, f, o, t, i, u, cm, y, L)).2 = [z] ∧ z.2.2.2.2.2.2.2.1 = false)) ∨
    ∃ r m, hear n s (2, f, o, t, i, u, cm, y, L) = (r, [m]) ∧ m.2.2.2.2.2.2.2.1 = true ∧ m.2.2.2.2.1 = i + L.length ∧ r.upto = max 0 (min cm (i + L.length)) ∧ i + L.length ≤ r.l.length ∧
      hear n r (2, f, o, t, i, u, cm, y, L) = (r, [m]) ∧ 0 ≤ i := by
  by_cases hm : mine n (2, f, o, t, i, u, cm, y, L)
  · have ht := sees_term (s := s) (2, f, o, t, i, u, cm, y, L) hm.2.2.2.2.2.1
    obtain ⟨k0, k1, k2⟩ := sees_follow h0 (2, f, o, t, i, u, cm, y, L)
    have hgs := h.sees (2, f, o, t, i, u, cm, y, L)
    have e1 : hear n s (2, f, o, t, i, u, cm, y, L) = add n (sees s (2, f, o, t, i, u, cm, y, L)) (2, f, o, t, i, u, cm, y, L) := by
      unfold hear
      rw [if_pos hm]
      rfl
    rw [e1]
    generalize sees s (2, f, o, t, i, u, cm, y, L) = q at *
    simp only at ht
    have key : ∀ p : St, p.is = 0 → t ≤ p.b.1 → hear n p (2, f, o, t, i, u, cm, y, L) = add n p (2, f, o, t, i, u, cm, y, L) := fun p hp hpt => by
      have : sees p (2, f, o, t, i, u, cm, y, L) = p := by unfold sees; rw [if_neg (by simp only; omega)]
      unfold hear
      rw [if_pos hm, this]
      rfl
    by_cases hlt : t < q.b.1
    · have e2 : add n q (2, f, o, t, i, u, cm, y, L) = (q, [say n q 3 f 0 false]) := by unfold add; rw [if_pos hlt]
      rw [e2]
      exact .inl ⟨by rw [k1, hu], .inr ⟨_, rfl, rfl⟩⟩
    · by_cases hbad : (Lg.add (lg q) i u L).2 ≠ 0 ∨ fits (2, f, o, t, i, u, cm, y, L) = false
      · have e2 : add n q (2, f, o, t, i, u, cm, y, L) = ({ q with is := 0 }, [say n { q with is := 0 } 3 f (last q).1 false]) := by
          unfold add
          rw [if_neg hlt, if_neg (by omega)]
          exact if_pos hbad
        rw [e2]
        exact .inl ⟨by show q.upto = 0; rw [k1, hu], .inr ⟨_, rfl, rfl⟩⟩
      · have e2 : add n q (2, f, o, t, i, u, cm, y, L) = ({ q with is := 0, l := (Lg.add (lg q) i u L).1.2.2, upto := max q.upto (min cm (i + L.length)) }, [say n { q with is := 0 } 3 f (i + L.length) true]) := by
          unfold add
          rw [if_neg hlt, if_neg (by omega)]
          exact if_neg hbad
        have he : (Lg.add (0, 0, q.l) i u L).2 = 0 := Classical.byContradiction fun hh => hbad (.inl hh)
        have hf : ¬ fits (2, f, o, t, i, u, cm, y, L) = false := fun hh => hbad (.inr hh)
        obtain ⟨L2, a, hA⟩ := Lg.added he
        have hlen := hA.len
        have hat := hA.at_
        have hag := hA.again
        have heq : (Lg.add (lg q) i u L).1.2.2 = L2 := by show (Lg.add (0, 0, q.l) i u L).1.2.2 = L2; rw [hA.eq]
        rw [e2, heq, k1, hu]
        refine .inr ⟨_, _, rfl, rfl, rfl, rfl, by simp only; omega, ?_, by omega⟩
        rw [key _ rfl (by simp only; omega)]
        unfold add
        rw [if_neg (by simpa using hlt), if_neg (by simp)]
        show (if (Lg.add (0, 0, L2) i u L).2 ≠ 0 ∨ _ then _ else _) = _
        refine (if_neg (fun hh => ?_)).trans ?_
        · rcases hh with hh | hh
          · rw [hag] at hh; exact hh rfl
          · exact hf hh
        have hl2 : (Lg.add (0, 0, L2) i u L).1.2.2 = L2 := by rw [hag]
        show (({ q with is := 0, l := (Lg.add (0, 0, L2) i u L).1.2.2, upto := max (max 0 (min cm (i + L.length))) (min cm (i + L.length)) } : St), _) = _
        rw [hl2, show max (max 0 (min cm (i + (L.length : Int)))) (min cm (i + L.length)) = max 0 (min cm (i + L.length)) by omega]
        rfl
  · have e : hear n s (2, f, o, t, i, u, cm, y, L) = (s, []) := if_neg hm
    rw [e]
    exact .inl ⟨hu, .inl rfl⟩
end
end Go.Proofs.Ytjcljkbalpgfdaa.Rf
