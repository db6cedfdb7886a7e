/-
  Parts that the statement rests on, joined: Paddition, Poadd, Pelected, Plater.
-/
import Derived.Test.YtjcljkbalpgfdaaM2
import Derived.Test.YtjcljkbalpgfdaaM5
import Derived.Test.YtjcljkbalpgfdaaM6
import Derived.Test.YtjcljkbalpgfdaaM10
import Derived.Test.YtjcljkbalpgfdaaM11
import Derived.LoopTactic
import Derived.BigQuiet
/-
  What addition answers.
-/



namespace Go.Proofs.Ytjcljkbalpgfdaa
open Go.RowKit

set_option maxRecDepth 100000 in
set_option maxHeartbeats 800000 in
theorem paddition_any (n : Rf.Id) (F : Foot) (s : Rf.St) (hg : Rf.Good n s) (A : Option Addr) (c : Nat) (w : World) (h : QMem n F w s A c) (k : Nat) (hk1 : 1 ≤ k) (hk2 : k ≤ n.many) :
    Calls Try.prog 34 #[.pointer (some ⟨F.g, 0, none⟩), .int .i64 (k : Int)] w (MsgOut w (Rf.addition n s k)) := by
  have hFlt := h.glt
  have HR0 := Lib.hid (h.stay ((Below.refl w.heap.size w).alloc (Nat.le_refl _) (.cells #[.int .i64 0, .int .i64 0, .int .i64 0, .int .i64 0, .int .i64 0, .int .i64 0, .int .i64 0, .bool false, .slice none 0 0] 41)))
  have HB := Lib.hid ((Below.refl w.heap.size w).alloc (Nat.le_refl _) (.cells #[.int .i64 0, .int .i64 0, .int .i64 0, .int .i64 0, .int .i64 0, .int .i64 0, .int .i64 0, .bool false, .slice none 0 0] 41))
  have HX4 := Lib.hid (Whole.new w 41 #[.int .i64 0, .int .i64 0, .int .i64 0, .int .i64 0, .int .i64 0, .int .i64 0, .int .i64 0, .bool false, .slice none 0 0])
  have HMS := Lib.hid (fun W hW => pmsg_any n F s A c W hW 2 (k : Int))
  have hnx := Rf.getD_all (k := k - 1) hg.nxs (by omega)
  have HTM := Lib.hid (fun W (hb : Below w.heap.size w W) => term_any 0 0 (s.nx[k - 1]?.getD 0 - 1) (by omega) _ s.l W w.heap.size hb.size (h.sl.below hb))
  have HFR := Lib.hid (fun W (hb : Below w.heap.size w W) => from_any 0 0 (s.nx[k - 1]?.getD 0) 8 (by omega) _ s.l W w.heap.size hb.size (h.sl.below hb))
  have HNX := Lib.hid (fun W (hW : Whole W F.gn 3 (rowN' s.nx)) => hW.rowN (k - 1) (by rw [hg.nx]; omega))
  have hnl := hg.many
  clear h hg
  unfold Rf.addition Rf.lg
  generalize Lg.term (0, 0, s.l) (s.nx[k - 1]?.getD 0 - 1) = tt at *
  generalize Lg.from_ (0, 0, s.l) (s.nx[k - 1]?.getD 0) 8 = fl at *
  generalize s.nx[k - 1]?.getD 0 = nk at *
  obtain ⟨tt1, tt2⟩ := tt
  simp only at HTM
  go_enter Try.func34, Try.ntmps34
  go_wp2_with fail
  refine (HMS.out _ HR0.out).mono ?_
  rintro e w1 ⟨rfl, hb⟩
  replace HR0 := Lib.hid (HR0.out.stay hb)
  replace HX4 := Lib.hid (HX4.out.below hb HX4.out.lt)
  replace HB := Lib.hid (HB.out.trans (hb.mono HB.out.size))
  clear hb HMS
  have hsz := HB.out.size
  have h4lt := HX4.out.lt
  have hF5 : ¬ Gof F A w1.heap.size := fun hh => by have := hFlt _ hh; omega
  have h45 : w.heap.size ≠ w1.heap.size := by omega
  have hnk : IntKind.i64.wrap (nk - 1) = nk - 1 := by rw [IntKind.wrap_i64]; omega
  have hkw : IntKind.i64.wrap ((k : Int) - 1) = (k : Int) - 1 := by rw [IntKind.wrap_i64]; omega
  have hkn : ((k : Int) - 1).toNat = k - 1 := by omega
  have hki : (1 : Int) ≤ (k : Int) := by omega
  have hi2 : (k : Int) - 1 < (n.many : Int) := by omega
  have HRa := Lib.hid (HR0.out.stay ((Below.refl _ _).alloc (Nat.le_refl _) (.cells (mc 2 (n.id : Int) (k : Int) s.b.1 0 0 0 false (.slice none 0 0)) 41)))
  have HRb := Lib.hid (HR0.out.stay ((Below.refl _ _).alloc (Nat.le_refl _) (.cells (mc 2 (n.id : Int) (k : Int) s.b.1 (nk - 1) 0 0 false (.slice none 0 0)) 41)))
  have hst := HRa.out.st
  dsimp only [rmc] at hst
  obtain ⟨k0, k1, k2, k3, k4, k5, k6, k7, k8, k9, k10, k11⟩ := hst.c12
  clear hst
  have kn := HNX.out _ HRa.out.x
  clear HRa
  have hst := HRb.out.st
  dsimp only [rmc] at hst
  obtain ⟨j0, j1, j2, j3, j4, j5, j6, j7, j8, j9, j10, j11⟩ := hst.c12
  clear hst
  obtain ⟨q0, q1, q2, q3, q4, q5, q6, q7, q8⟩ := (Whole.new w1 41 (mc 2 (n.id : Int) (k : Int) s.b.1 0 0 0 false (.slice none 0 0))).c9
  obtain ⟨f0, f1, f2, f3, f4, f5, f6, f7, f8⟩ := (Whole.new w1 41 (mc 2 (n.id : Int) (k : Int) s.b.1 0 0 0 false (.slice none 0 0))).f9
  obtain ⟨e0, e1, e2, e3, e4, e5, e6, e7, e8⟩ := (Whole.new w1 41 (mc 2 (n.id : Int) (k : Int) s.b.1 (nk - 1) 0 0 false (.slice none 0 0))).f9
  go_wp2_with fail
  clear kn
  clear k0 k1 k2 k3 k4 k5 k6 k7 k8 k9 k10 k11 q0 q1 q2 q3 q4 q5 q6 q7 q8 f0 f1 f2 f3 f4 f5 f6 f7 f8
  clear j0 j1 j2 j3 j4 j5 j6 j7 j8 j9 j10 j11
  clear e0 e1 e2 e3 e4 e5 e6 e7 e8
  have HX := Lib.hid (Whole.new w1 41 (mc 2 (n.id : Int) (k : Int) s.b.1 (nk - 1) 0 0 false (.slice none 0 0)))
  replace HR0 := HRb
  clear HRb
  replace HX4 := Lib.hid (HX4.out.alloc (.cells (mc 2 (n.id : Int) (k : Int) s.b.1 (nk - 1) 0 0 false (.slice none 0 0)) 41))
  replace HB := Lib.hid (HB.out.alloc HB.out.size (.cells (mc 2 (n.id : Int) (k : Int) s.b.1 (nk - 1) 0 0 false (.slice none 0 0)) 41))
  generalize hw3 : w1.alloc (.cells (mc 2 (n.id : Int) (k : Int) s.b.1 (nk - 1) 0 0 false (.slice none 0 0)) 41) = w3 at *
  clear hw3
  generalize hg5 : w1.heap.size = g5 at *
  clear hg5
  with_reducible refine (HTM.out _ HB.out).mono ?_
  rintro e w4 ⟨rfl, hb⟩
  replace HR0 := Lib.hid (HR0.out.stay hb)
  replace HX4 := Lib.hid (HX4.out.below hb HX4.out.lt)
  replace HX := Lib.hid (HX.out.below hb HX.out.lt)
  replace HB := Lib.hid (HB.out.trans (hb.mono HB.out.size))
  clear hb HTM
  obtain ⟨k0, k1, k2, k3, k4, k5, k6, k7, k8, k9, k10, k11⟩ := HR0.out.st.c12
  obtain ⟨q0, q1, q2, q3, q4, q5, q6, q7, q8⟩ := HX.out.c9
  obtain ⟨f0, f1, f2, f3, f4, f5, f6, f7, f8⟩ := HX.out.f9
  replace HR0 := Lib.hid (HR0.out.far (p := ⟨g5, 5, none⟩) hF5 (.int .i64 tt1))
  replace HX4 := Lib.hid (HX4.out.far (p := ⟨g5, 5, none⟩) h45 (.int .i64 tt1))
  have HXn := Lib.hid (Whole.setTo HX.out 5 (.int .i64 tt1) (cs2 := #[.int .i64 2, .int .i64 (n.id : Int), .int .i64 (k : Int), .int .i64 s.b.1, .int .i64 (nk - 1), .int .i64 tt1, .int .i64 0, .bool false, .slice none 0 0]) rfl)
  clear HX
  have HX := HXn
  clear HXn
  replace HB := Lib.hid (HB.out.setCell (p := ⟨g5, 5, none⟩) (Nat.le_of_lt h4lt) (.int .i64 tt1))
  obtain ⟨j0, j1, j2, j3, j4, j5, j6, j7, j8, j9, j10, j11⟩ := HR0.out.st.c12
  obtain ⟨r0, r1, r2, r3, r4, r5, r6, r7, r8⟩ := HX.out.c9
  obtain ⟨e0, e1, e2, e3, e4, e5, e6, e7, e8⟩ := HX.out.f9
  replace HR0 := Lib.hid (HR0.out.far (p := ⟨g5, 6, none⟩) hF5 (.int .i64 s.upto))
  replace HX4 := Lib.hid (HX4.out.far (p := ⟨g5, 6, none⟩) h45 (.int .i64 s.upto))
  have HXn := Lib.hid (Whole.setTo HX.out 6 (.int .i64 s.upto) (cs2 := #[.int .i64 2, .int .i64 (n.id : Int), .int .i64 (k : Int), .int .i64 s.b.1, .int .i64 (nk - 1), .int .i64 tt1, .int .i64 s.upto, .bool false, .slice none 0 0]) rfl)
  clear HX
  have HX := HXn
  clear HXn
  replace HB := Lib.hid (HB.out.setCell (p := ⟨g5, 6, none⟩) (Nat.le_of_lt h4lt) (.int .i64 s.upto))
  obtain ⟨i0, i1, i2, i3, i4, i5, i6, i7, i8, i9, i10, i11⟩ := HR0.out.st.c12
  go_wp2_with fail
  clear k0 k1 k2 k3 k4 k5 k6 k7 k8 k9 k10 k11 q0 q1 q2 q3 q4 q5 q6 q7 q8 f0 f1 f2 f3 f4 f5 f6 f7 f8
  clear j0 j1 j2 j3 j4 j5 j6 j7 j8 j9 j10 j11 r0 r1 r2 r3 r4 r5 r6 r7 r8 e0 e1 e2 e3 e4 e5 e6 e7 e8
  clear i0 i1 i2 i3 i4 i5 i6 i7 i8 i9 i10 i11
  generalize hw5 : World.setCell _ _ _ = w5 at *
  clear hw5
  with_reducible refine (HFR.out _ HB.out).mono ?_
  rintro e w6 ⟨A6, c6, rfl, ho, hb⟩
  have hbz := HB.out.size
  have h5lt := HX.out.lt
  have h4lt2 := HX4.out.lt
  replace HR0 := Lib.hid (HR0.out.stay hb)
  replace HX4 := Lib.hid (HX4.out.below hb HX4.out.lt)
  replace HX := Lib.hid (HX.out.below hb HX.out.lt)
  replace HB := Lib.hid (HB.out.trans (hb.mono HB.out.size))
  have HO0 := Lib.hid ho
  clear ho hb HFR
  obtain ⟨q0, q1, q2, q3, q4, q5, q6, q7, q8⟩ := HX.out.c9
  obtain ⟨f0, f1, f2, f3, f4, f5, f6, f7, f8⟩ := HX.out.f9
  replace HR0 := Lib.hid (HR0.out.far (p := ⟨g5, 8, none⟩) hF5 (.slice A6 fl.length c6))
  replace HX4 := Lib.hid (HX4.out.far (p := ⟨g5, 8, none⟩) h45 (.slice A6 fl.length c6))
  have HXn := Lib.hid (Whole.setTo HX.out 8 (.slice A6 fl.length c6) (cs2 := #[.int .i64 2, .int .i64 (n.id : Int), .int .i64 (k : Int), .int .i64 s.b.1, .int .i64 (nk - 1), .int .i64 tt1, .int .i64 s.upto, .bool false, .slice A6 fl.length c6]) rfl)
  clear HX
  have HX := HXn
  clear HXn
  replace HB := Lib.hid (HB.out.setCell (p := ⟨g5, 8, none⟩) (Nat.le_of_lt h4lt) (.slice A6 fl.length c6))
  replace HO0 := Lib.hid (HO0.out.set (p := ⟨g5, 8, none⟩) h5lt (.slice A6 fl.length c6))
  obtain ⟨r0, r1, r2, r3, r4, r5, r6, r7, r8⟩ := HX.out.c9
  obtain ⟨p0, p1, p2, p3, p4, p5, p6, p7, p8⟩ := HX4.out.c9
  obtain ⟨e0, e1, e2, e3, e4, e5, e6, e7, e8⟩ := HX4.out.f9
  have HRR := Lib.hid (HX4.out.set9 (.int .i64 2) (.int .i64 (n.id : Int)) (.int .i64 (k : Int)) (.int .i64 s.b.1) (.int .i64 (nk - 1)) (.int .i64 tt1) (.int .i64 s.upto) (.bool false) (.slice A6 fl.length c6))
  have HBB := Lib.hid (below_set9 HB.out (g := w.heap.size) (Nat.le_refl _) (.int .i64 2) (.int .i64 (n.id : Int)) (.int .i64 (k : Int)) (.int .i64 s.b.1) (.int .i64 (nk - 1)) (.int .i64 tt1) (.int .i64 s.upto) (.bool false) (.slice A6 fl.length c6))
  have HOO := Lib.hid ((((((((((HO0.out.set (p := ⟨w.heap.size, 0, none⟩) h4lt2 (.int .i64 2)).set (p := ⟨w.heap.size, 1, none⟩) h4lt2 (.int .i64 (n.id : Int))).set (p := ⟨w.heap.size, 2, none⟩) h4lt2 (.int .i64 (k : Int))).set (p := ⟨w.heap.size, 3, none⟩) h4lt2 (.int .i64 s.b.1)).set (p := ⟨w.heap.size, 4, none⟩) h4lt2 (.int .i64 (nk - 1))).set (p := ⟨w.heap.size, 5, none⟩) h4lt2 (.int .i64 tt1)).set (p := ⟨w.heap.size, 6, none⟩) h4lt2 (.int .i64 s.upto)).set (p := ⟨w.heap.size, 7, none⟩) h4lt2 (.bool false)).set (p := ⟨w.heap.size, 8, none⟩) h4lt2 (.slice A6 fl.length c6)))
  clear HX4 HB HX HO0 HR0
  go_wp2_with fail
  refine bodyPost_ret (results_msg rfl rfl HRR.out) rfl ?_
  exact ⟨A6, c6, rfl, HOO.out.slS.wide (fun b hb _ => Nat.le_trans hbz hb), HBB.out⟩
end Go.Proofs.Ytjcljkbalpgfdaa

/-
  What toOthers answers: an addition to each of the others.
-/


namespace Go.Proofs.Ytjcljkbalpgfdaa
open Go.RowKit

set_option maxRecDepth 100000 in
set_option maxHeartbeats 800000 in
theorem pothers_addition_any (n : Rf.Id) (F : Foot) (s : Rf.St) (hg : Rf.Good n s) (A : Option Addr) (c : Nat) (w : World) (h : QMem n F w s A c) :
    Calls Try.prog 30 #[.pointer (some ⟨F.g, 0, none⟩), .func (.func 34) #[.pointer (some ⟨F.g, 0, none⟩)] #[]] w fun e w' => ∃ v, e = .returned v ∧ MsgsOut w (Rf.each n (Rf.addition n s) n.many) v w' ∧ Below w.heap.size w w' := by
  have HR := Lib.hid (fun W (hb : Below w.heap.size w W) => h.stay hb)
  have HA := Lib.hid (fun k hk1 hk2 W hW => paddition_any n F s hg A c W hW k hk1 hk2)
  have HFIT := Lib.hid (fun k (hk : k ≤ n.many) => Rf.addition_fit hg hk)
  have h16 := hg.many
  have hi1 := hg.id1
  have hi2 := hg.id2
  clear h hg
  have H0 := Lib.hid (show Rf.each n (Rf.addition n s) 0 = [] from rfl)
  have HME := Lib.hid (fun k => @Rf.each_me n (Rf.addition n s) k)
  have HOT := Lib.hid (fun k => @Rf.each_other n (Rf.addition n s) k)
  have HEL := Lib.hid (fun k => Rf.each_len n (Rf.addition n s) k)
  generalize Rf.each n (Rf.addition n s) = ea at *
  generalize Rf.addition n s = f at *
  go_enter Try.func30, Try.ntmps30
  have hst := (HR.out _ (Below.refl _ _)).st
  dsimp only [rmc] at hst
  obtain ⟨k0, k1, k2, k3, k4, k5, k6, k7, k8, k9, k10, k11⟩ := hst.c12
  clear hst
  go_wp2_with fail
  clear k0 k1 k2 k3 k4 k5 k6 k7 k8 k9 k10 k11
  go_loopw [5, 12] (fun ov kv wr => ∃ (j : Nat) (S2 : Nat → Prop), j ≤ n.many ∧ kv = .int .i64 (j : Int) ∧ Hid (OwnS (α := M) wr w.heap.size S2 41 ov (ea j)) ∧ Hid (∀ b, S2 b → w.heap.size ≤ b) ∧ Below w.heap.size w wr) (fun _ kv _ => n.many - (intOf kv).toNat)
  case atStart => exact ⟨0, fun _ => False, Nat.zero_le _, rfl, by rw [H0.out]; exact OwnS.nil _ _ _ _, fun _ h => h.elim, Below.refl _ _⟩
  case round =>
    obtain ⟨j, S2, hj, rfl, ho, hS2, hb⟩ := hrel
    have HB := Lib.hid hb
    have hz := hb.size
    clear hb
    have hst := (HR.out _ HB.out).st
    unfold rmc at hst
    obtain ⟨k0, k1, k2, k3, k4, k5, k6, k7, k8, k9, k10, k11⟩ := hst.c12
    have HM := Lib.hid hst
    clear hst
    have hwj : IntKind.i64.wrap ((j : Int) + 1) = (j : Int) + 1 := by rw [IntKind.wrap_i64]; omega
    by_cases hlt : j < n.many
    · have hle : decide ((j : Int) < (n.many : Int)) = true := by simp; omega
      by_cases hme : j + 1 = n.id
      · have hne : (((j : Int) + 1) != (n.id : Int)) = false := by simp; omega
        have he := HME.out j hme
        clear hme
        go_wp2_with fail
        go_roundw
        case rel => exact ⟨j + 1, S2, by omega, by go_num, by rw [he]; exact ho, hS2, HB.out⟩
        case measure => simp [intOf]; omega
      · have hne : (((j : Int) + 1) != (n.id : Int)) = true := by simp; omega
        have he := Lib.hid (HOT.out j hme)
        have hfit := HFIT.out (j + 1) (by omega)
        have hlen := HEL.out j
        have HAJ := Lib.hid (HA.out (j + 1) (by omega) (by omega) _ (HR.out _ HB.out))
        clear hme HOT HME HEL HFIT HA
        have hcast : ((j + 1 : Nat) : Int) = (j : Int) + 1 := by omega
        rw [hcast] at HAJ
        generalize f (j + 1) = x at *
        generalize hel : (ea j).length = nl at *
        have HELL := Lib.hid hel
        clear hel
        go_wp2_with fail
        refine HAJ.out.mono ?_
        rintro e w1 ⟨A2, c2, rfl, hs2, hb2⟩
        have hsrc := SlS.new1 w1 41 x (mcx x (.slice A2 x.2.2.2.2.2.2.2.2.length c2)) (fits_msg hfit hs2)
        have HS := Lib.hid hsrc
        have hz2 := hb2.size
        have HF2 := Lib.hid ((ho.out.below hb2).below ((Below.refl _ _).alloc (Nat.le_refl _) (.cells (mcx x (.slice A2 x.2.2.2.2.2.2.2.2.length c2)) 41)))
        have hlo := ho.out.lt
        have HBB := Lib.hid ((HB.out.trans (hb2.mono hz)).alloc (Nat.le_trans hz hz2) (.cells (mcx x (.slice A2 x.2.2.2.2.2.2.2.2.length c2)) 41))
        clear hsrc hs2 hb2 ho HAJ HM k0 k1 k2 k3 k4 k5 k6 k7 k8 k9 k10 k11 hfit HB
        go_wp2_with (at_builtin; refine wpList_append_slS rfl _ (.tmp 27) rfl rowM w.heap.size S2 _ _ (ea j) rfl HF2.out _ [x] rfl HS.out (by intro b hb hb2; have := (hlo _ hb2).2; rcases hb with hb | hb <;> omega) (by rw [HELL.out]; unfold maxLen; simp; omega) (by rw [HELL.out]; simp; omega) (by simp; omega) ?_; intro v3 w3 hown3 hg3 hat3; have hb5 := below_of_ownS HBB.out HF2.out hg3 (by simp; omega); have HO3 := Lib.hid hown3; clear hg3 hat3 hown3)
        go_wp2_with fail
        go_roundw
        case rel => exact ⟨j + 1, _, by omega, by go_num, by rw [he.out]; exact HO3.out, fun b hb => by
          rcases hb.1 with hb | hb
          · exact hS2.out b hb
          · rcases hb with hb | hb <;> omega, hb5⟩
        case measure => simp [intOf]; omega
    · obtain rfl : j = n.many := by omega
      have hle : decide ((n.many : Int) < (n.many : Int)) = false := by simp
      go_wp2_with fail
      go_ret
      exact ⟨_, rfl, ho.out.slS.wide (fun b hb _ => by
        rcases hb with hb | hb
        · exact hS2.out b hb
        · exact (ho.out.lt b hb).1), HB.out⟩
end Go.Proofs.Ytjcljkbalpgfdaa

/-
  What elected answers.
-/




namespace Go.Proofs.Ytjcljkbalpgfdaa
open Go.RowKit

set_option maxRecDepth 100000 in
theorem pelected_any (n : Rf.Id) (F : Foot) (s : Rf.St) (hg : Rf.Good n s) (A : Option Addr) (c : Nat) (w : World) (h : QMem n F w s A c) :
    Calls Try.prog 28 #[.pointer (some ⟨F.g, 0, none⟩)] w fun e w' => e = .returned (.bool (decide (n.many / 2 + 1 ≤ s.votes.count true))) ∧ Below w.heap.size w w' := by
  have HM := Lib.hid h.st
  have hmany := hg.many
  have HHE := Lib.hid (fun W (hb : Below w.heap.size w W) => held_any _ (vi s.votes) 1 W w.heap.size hb.size ((Sl.rowN h.v (by rw [vi_len, hg.votes]) (vi_in _) hg.many).below hb))
  have HMJ := Lib.hid (fun W => maj_any (n.many : Int) (by omega) W)
  rw [Qr.maj_all] at HMJ
  rw [held_vi] at HHE
  clear h hg
  unfold rmc at HM
  generalize s.votes.count true = cn at *
  generalize n.many / 2 + 1 = mj at *
  go_enter Try.func28, Try.ntmps28
  go_wp2_with fail
  refine z_start ((w).drew.heap.size) [] (by kernel_rfl) ?_
  have HC := Lib.hid (Below.refl ((w).drew.heap.size) (w).drew)
  have hBz : (w).drew.heap.size ≤ (w).drew.heap.size := Nat.le_refl _
  replace HM := Lib.hid (show Whole (w).drew _ _ _ from HM.out)
  have hlt := HM.out.lt
  have HD := Lib.hid ((Below.refl w.heap.size w).drew)
  generalize (w).drew = z1 at *
  refine z_take (i := 0) (v := ?_) rfl (by kernel_rfl) (by kernel_rfl) (by kernel_rfl) (k0 := 0) (by kernel_rfl) (by kernel_rfl) (.inl rfl) (fun _ _ _ h => h) (by rfl) HC.out ?_ ?_
  rotate_left
  · intro W hW
    go_simp
    first | done | rfl
  simp only [Act.put, List.setIfInBounds_toArray, List.set_cons_zero, List.set_cons_succ, List.getElem_toArray, List.getElem_cons_zero]
  refine z_take (i := 1) (v := ?_) rfl (by kernel_rfl) (by kernel_rfl) (by kernel_rfl) (k0 := 1) (by kernel_rfl) (by kernel_rfl) (.inl rfl) (fun _ _ _ h => h) (by rfl) HC.out ?_ ?_
  rotate_left
  · intro W hW
    go_simp
    first | done | rfl
  simp only [Act.put, List.setIfInBounds_toArray, List.set_cons_zero, List.set_cons_succ, List.getElem_toArray, List.getElem_cons_zero, List.getElem_cons_succ]
  refine z_take (i := 2) (v := ?_) rfl (by kernel_rfl) (by kernel_rfl) (by kernel_rfl) (k0 := 2) (by kernel_rfl) (by kernel_rfl) (.inl rfl) (fun _ _ _ h => h) (by rfl) HC.out ?_ ?_
  rotate_left
  · intro W hW
    go_simp
    first | done | rfl
  simp only [Act.put, List.setIfInBounds_toArray, List.set_cons_zero, List.set_cons_succ, List.getElem_toArray, List.getElem_cons_zero, List.getElem_cons_succ]
  refine z_take (i := 3) (v := ?_) rfl (by kernel_rfl) (by kernel_rfl) (by kernel_rfl) (k0 := 3) (by kernel_rfl) (by kernel_rfl) (.inl rfl) (fun _ _ _ h => h) (by rfl) HC.out ?_ ?_
  rotate_left
  · intro W hW
    obtain ⟨k0, k1, k2, k3, k4, k5, k6, k7, k8, k9, k10, k11⟩ := (HM.out.below hW hlt).c12
    go_simp
    first | done | rfl
  simp only [Act.put, List.setIfInBounds_toArray, List.set_cons_zero, List.set_cons_succ, List.getElem_toArray, List.getElem_cons_zero, List.getElem_cons_succ]
  refine z_take (i := 5) (v := ?_) rfl (by kernel_rfl) (by kernel_rfl) (by kernel_rfl) (k0 := 5) (by kernel_rfl) (by kernel_rfl) (.inl rfl) (fun _ _ _ h => h) (by rfl) HC.out ?_ ?_
  rotate_left
  · intro W hW
    go_simp
    first | done | rfl
  simp only [Act.put, List.setIfInBounds_toArray, List.set_cons_zero, List.set_cons_succ, List.getElem_toArray, List.getElem_cons_zero, List.getElem_cons_succ]
  refine z_take (i := 6) (v := ?_) rfl (by kernel_rfl) (by kernel_rfl) (by kernel_rfl) (k0 := 6) (by kernel_rfl) (by kernel_rfl) (.inl rfl) (fun _ _ _ h => h) (by rfl) HC.out ?_ ?_
  rotate_left
  · intro W hW
    go_simp
    first | done | rfl
  simp only [Act.put, List.setIfInBounds_toArray, List.set_cons_zero, List.set_cons_succ, List.getElem_toArray, List.getElem_cons_zero, List.getElem_cons_succ]
  refine z_take (i := 7) (v := ?_) rfl (by kernel_rfl) (by kernel_rfl) (by kernel_rfl) (k0 := 7) (by kernel_rfl) (by kernel_rfl) (.inl rfl) (fun _ _ _ h => h) (by rfl) HC.out ?_ ?_
  rotate_left
  · intro W hW
    go_simp
    first | done | rfl
  simp only [Act.put, List.setIfInBounds_toArray, List.set_cons_zero, List.set_cons_succ, List.getElem_toArray, List.getElem_cons_zero, List.getElem_cons_succ]
  refine z_take (i := 8) (v := ?_) rfl (by kernel_rfl) (by kernel_rfl) (by kernel_rfl) (k0 := 8) (by kernel_rfl) (by kernel_rfl) (.inl rfl) (fun _ _ _ h => h) (by rfl) HC.out ?_ ?_
  rotate_left
  · intro W hW
    obtain ⟨k0, k1, k2, k3, k4, k5, k6, k7, k8, k9, k10, k11⟩ := (HM.out.below hW hlt).c12
    go_simp
    first | done | rfl
  simp only [Act.put, List.setIfInBounds_toArray, List.set_cons_zero, List.set_cons_succ, List.getElem_toArray, List.getElem_cons_zero, List.getElem_cons_succ]
  refine z_one (i := 4) (by kernel_rfl) ?_
  refine onez_call (i := 4) (f := 41) (args := ?_) rfl (by rfl) ?_ ?_
  rotate_left
  · go_simp
    first | done | rfl
  with_reducible refine (HHE.out _ (HD.out.trans (HC.out.mono HD.out.size))).mono ?_
  rintro e w' ⟨rfl, hw'⟩
  subst hw'
  refine ⟨_, rfl, fun _ => HC.out, ?_⟩
  simp only [Act.put, List.setIfInBounds_toArray, List.set_cons_zero, List.set_cons_succ, List.getElem_toArray, List.getElem_cons_zero, List.getElem_cons_succ]
  refine z_one (i := 9) (by kernel_rfl) ?_
  refine onez_call (i := 9) (f := 42) (args := ?_) rfl (by rfl) ?_ ?_
  rotate_left
  · go_simp
    first | done | rfl
  with_reducible refine (HMJ.out _).mono ?_
  rintro e w' ⟨rfl, hw'⟩
  subst hw'
  refine ⟨_, rfl, fun _ => HC.out, ?_⟩
  simp only [Act.put, List.setIfInBounds_toArray, List.set_cons_zero, List.set_cons_succ, List.getElem_toArray, List.getElem_cons_zero, List.getElem_cons_succ]
  refine z_take (i := 10) (v := ?_) rfl (by kernel_rfl) (by kernel_rfl) (by kernel_rfl) (k0 := 10) (by kernel_rfl) (by kernel_rfl) (.inl rfl) (fun _ _ _ h => h) (by rfl) HC.out ?_ ?_
  rotate_left
  · intro W hW
    go_simp
    first | done | rfl
  simp only [Act.put, List.setIfInBounds_toArray, List.set_cons_zero, List.set_cons_succ, List.getElem_toArray, List.getElem_cons_zero, List.getElem_cons_succ]
  refine z_take (i := 11) (v := ?_) rfl (by kernel_rfl) (by kernel_rfl) (by kernel_rfl) (k0 := 11) (by kernel_rfl) (by kernel_rfl) (.inl rfl) (fun _ _ _ h => h) (by rfl) HC.out ?_ ?_
  rotate_left
  · intro W hW
    go_simp
    first | done | rfl
  simp only [Act.put, List.setIfInBounds_toArray, List.set_cons_zero, List.set_cons_succ, List.getElem_toArray, List.getElem_cons_zero, List.getElem_cons_succ]
  refine z_done (by kernel_rfl) ?_
  have HE := Lib.hid (HD.out.trans (HC.out.mono HD.out.size))
  clear HM HC HD hBz
  go_simp
  go_wp2_with fail
  go_ret
  refine ⟨?_, HE.out⟩
  have hdd : decide ((mj : Int) ≤ (cn : Int)) = decide (mj ≤ cn) := by simp
  first | rw [hdd] | rfl
end Go.Proofs.Ytjcljkbalpgfdaa

/-
  What fromLater answers.
-/




namespace Go.Proofs.Ytjcljkbalpgfdaa
open Go.RowKit

/-- Up to where none is later. -/
def laterTo (r : Bool) (L : List E) (t : Int) (j : Nat) : Prop := r = !((L.drop j).all fun e => decide (e.1 ≤ t))
theorem laterTo_zero (L : List E) (t : Int) : laterTo (!(L.all fun e => decide (e.1 ≤ t))) L t 0 := by unfold laterTo; simp
theorem laterTo_step {r : Bool} {L : List E} {t : Int} {j : Nat} (h : laterTo r L t j) (hj : j < L.length) (he : (L[j]).1 ≤ t) : laterTo r L t (j + 1) := by
  unfold laterTo at h ⊢
  rw [h, List.drop_eq_getElem_cons hj, List.all_cons]
  simp [he]
theorem laterTo_stop {r : Bool} {L : List E} {t : Int} {j : Nat} (h : laterTo r L t j) (hj : j < L.length) (he : t < (L[j]).1) : r = true := by
  unfold laterTo at h
  rw [h, List.drop_eq_getElem_cons hj, List.all_cons]
  have : decide ((L[j]).1 ≤ t) = false := by simp; omega
  simp [this]
theorem laterTo_end {r : Bool} {L : List E} {t : Int} {j : Nat} (h : laterTo r L t j) (hj : L.length ≤ j) : r = false := by
  unfold laterTo at h
  rw [h, List.drop_eq_nil_of_le hj]; rfl
set_option maxRecDepth 100000 in
set_option maxHeartbeats 800000 in
theorem plater_any (k f o t i u cm : Int) (y : Bool) (v : Value) (L : List E) (hl : L.length ≤ 100000) (w : World) (B : Nat) (hB : B ≤ w.heap.size) (hv : Sl w B v L) :
    Calls Try.prog 50 #[.agg (mc k f o t i u cm y v)] w fun e w' => e = .returned (.bool (!(L.all fun e => decide (e.1 ≤ t)))) ∧ Below w.heap.size w w' := by
  obtain ⟨A, c, rfl, hc, hm⟩ := hv.form
  unfold maxLen at hm
  have HB := Lib.hid ((Below.refl w.heap.size w).alloc (Nat.le_refl _) (.cells (mc k f o t i u cm y (.slice A L.length c)) 41))
  have HX := Lib.hid (Whole.new w 41 (mc k f o t i u cm y (.slice A L.length c)))
  have HV := Lib.hid (hv.mono hB)
  have H0 := Lib.hid (laterTo_zero L t)
  clear hv
  generalize (!(L.all fun e => decide (e.1 ≤ t))) = r at *
  generalize hn : L.length = n at *
  have HN := Lib.hid hn
  clear hn
  obtain ⟨q0, q1, q2, q3, q4, q5, q6, q7, q8⟩ := HX.out.c9
  go_enter Try.func50, Try.ntmps50
  go_wp2_with fail
  clear q0 q1 q2 q3 q4 q5 q6 q7 q8
  go_loopw [8] (fun iv wr => ∃ j : Nat, j ≤ n ∧ iv = .int .i64 (j : Int) ∧ Hid (laterTo r L t j) ∧ Hid (Whole wr w.heap.size 41 (mc k f o t i u cm y (.slice A n c))) ∧ Hid (Below w.heap.size w wr)) (fun iv _ => n - (intOf iv).toNat)
  case atStart => exact ⟨0, Nat.zero_le _, rfl, H0, HX, HB⟩
  case round =>
    obtain ⟨j, hj, rfl, hf, hx, hb⟩ := hrel
    clear HX HB H0
    by_cases hlt : j < n
    · have hle : decide ((j : Int) < (n : Int)) = true := by simp; omega
      have hjl : j < L.length := by rw [HN.out]; exact hlt
      have hrow := HV.out.below hb.out
      obtain ⟨b1, o1, rfl, hbB, g0, g1, g2, g3, g4, g5, g6, -⟩ := hrow.entry j hjl
      have HST := Lib.hid (laterTo_step hf.out hjl)
      have HSP := Lib.hid (laterTo_stop hf.out hjl)
      have HX2 := Lib.hid (hx.out.alloc (.cells (ec L[j]) 55))
      have HB2 := Lib.hid (hb.out.alloc hb.out.size (.cells (ec L[j]) 55))
      obtain ⟨q0, q1, q2, q3, q4, q5, q6, q7, q8⟩ := HX2.out.c9
      clear hx hb hf hrow
      generalize L[j] = z at *
      obtain ⟨e1, y1, y2, y3, y4, y5, y6⟩ := z
      dsimp only at *
      clear hjl
      by_cases h1 : t < e1
      · obtain rfl := HSP.out h1
        clear HST HSP
        go_wp2_with fail
        go_ret
        exact ⟨rfl, HB2.out⟩
      · have HS := Lib.hid (HST.out (by omega))
        have d1 : decide (t < e1) = false := by simpa using h1
        clear HST HSP h1
        go_wp2_with fail
        clear q0 q1 q2 q3 q4 q5 q6 q7 q8
        go_roundw
        case rel => exact ⟨j + 1, by omega, by go_num, HS, HX2, HB2⟩
        case measure => simp [intOf]; omega
    · obtain rfl := laterTo_end hf.out (by rw [HN.out]; omega)
      have hle : decide ((j : Int) < (n : Int)) = false := by simpa using hlt
      go_wp2_with fail
      go_ret
      exact ⟨rfl, hb.out⟩
end Go.Proofs.Ytjcljkbalpgfdaa
