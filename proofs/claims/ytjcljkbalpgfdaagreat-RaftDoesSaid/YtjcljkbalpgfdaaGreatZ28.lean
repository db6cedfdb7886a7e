/-
  Parts that the statement rests on, joined: Raddition, Rall, Rlead.
-/
import Derived.Test.YtjcljkbalpgfdaaGreatZ6
import Derived.Test.YtjcljkbalpgfdaaGreatZ11
import Derived.Test.YtjcljkbalpgfdaaGreatZ19
import Derived.Test.YtjcljkbalpgfdaaGreatZ22
import Derived.LoopTactic
/-
  What the reference's addition answers.
-/



namespace Go.Proofs.YtjcljkbalpgfdaaGreat
open Go.RowKit

set_option maxRecDepth 100000 in
theorem raddition_any (n : Rf.Id) (F : Foot) (S : Nat → Prop) (s : Rf.St) (hg : Rf.Good n s) (A : Option Addr) (c : Nat) (w : World) (h : RMem n F S w s A c) (k : Nat) (hk1 : 1 ≤ k) (hk2 : k ≤ n.many) :
    Calls Tryz.prog 70 #[.pointer (some ⟨F.g, 0, none⟩), .int .i64 (k : Int)] w (MsgOut w (Rf.addition n s k)) := by
  have hFlt := Foot.lt h
  have HR0 := Lib.hid (h.here.stay ((Below.refl w.heap.size w).alloc (Nat.le_refl _) (.cells #[.int .i64 0, .int .i64 0, .int .i64 0, .int .i64 0, .int .i64 0, .int .i64 0, .int .i64 0, .bool false, .slice none 0 0] 41)))
  have HB := Lib.hid ((Below.refl w.heap.size w).alloc (Nat.le_refl _) (.cells #[.int .i64 0, .int .i64 0, .int .i64 0, .int .i64 0, .int .i64 0, .int .i64 0, .int .i64 0, .bool false, .slice none 0 0] 41))
  have HX4 := Lib.hid (Whole.new w 41 #[.int .i64 0, .int .i64 0, .int .i64 0, .int .i64 0, .int .i64 0, .int .i64 0, .int .i64 0, .bool false, .slice none 0 0])
  have HMS := Lib.hid (fun W hW => rmsg_any n F (fun b => S b ∧ b < w.heap.size) s A c W hW 2 (k : Int))
  have hnx := Rf.getD_all (k := k - 1) hg.nxs (by omega)
  have HTM := Lib.hid (fun W (hb : Below w.heap.size w W) => rterm_any 0 0 (s.nx[k - 1]?.getD 0 - 1) (by omega) _ s.l W w.heap.size hb.size (h.sl.below hb))
  have HFR := Lib.hid (fun W (hb : Below w.heap.size w W) => rfrom_any 0 0 (s.nx[k - 1]?.getD 0) 8 (by omega) _ s.l W w.heap.size hb.size (h.sl.below hb))
  have HNX := Lib.hid (fun W (hW : Whole W F.gn 3 (rowN' s.nx)) => hW.rowN (k - 1) (by rw [hg.nx]; omega))
  have hnl := hg.many
  clear h hg
  unfold Rf.addition Rf.lg
  generalize Lg.term (0, 0, s.l) (s.nx[k - 1]?.getD 0 - 1) = tt at *
  generalize Lg.from_ (0, 0, s.l) (s.nx[k - 1]?.getD 0) 8 = fl at *
  generalize s.nx[k - 1]?.getD 0 = nk at *
  obtain ⟨tt1, tt2⟩ := tt
  go_enter Tryz.func70, Tryz.ntmps70
  go_wp2_with fail
  refine (HMS.out _ HR0.out).mono ?_
  rintro e w1 ⟨rfl, hb⟩
  replace HR0 := Lib.hid (HR0.out.stay hb)
  replace HX4 := Lib.hid (HX4.out.below hb HX4.out.lt)
  replace HB := Lib.hid (HB.out.trans (hb.mono HB.out.size))
  clear hb HMS
  have hsz := HB.out.size
  have hF5 : ¬ F.has w1.heap.size := fun hh => by have := hFlt _ hh; omega
  have h4lt := HX4.out.lt
  have hS5 : ¬ (S w1.heap.size ∧ w1.heap.size < w.heap.size) := fun hh => by omega
  have h45 : w.heap.size ≠ w1.heap.size := by omega
  have hnk : IntKind.i64.wrap (nk - 1) = nk - 1 := by rw [IntKind.wrap_i64]; omega
  have hi1 : (0 : Int) ≤ (k : Int) - 1 := by omega
  have hi2 : (k : Int) - 1 < (n.many : Int) := by omega
  obtain ⟨k0, k1, k2, k3, k4, k5, k6, k7, k8, k9, k10, k11⟩ := (HR0.out.stay ((Below.refl _ _).alloc (Nat.le_refl _) (.cells (mc 2 (n.id : Int) (k : Int) s.b.1 0 0 0 false (.slice none 0 0)) 41))).st.c12
  have kn := HNX.out _ (HR0.out.stay ((Below.refl _ _).alloc (Nat.le_refl _) (.cells (mc 2 (n.id : Int) (k : Int) s.b.1 0 0 0 false (.slice none 0 0)) 41))).x
  obtain ⟨q0, q1, q2, q3, q4, q5, q6, q7, q8⟩ := (Whole.new w1 41 (mc 2 (n.id : Int) (k : Int) s.b.1 0 0 0 false (.slice none 0 0))).c9
  obtain ⟨f0, f1, f2, f3, f4, f5, f6, f7, f8⟩ := (Whole.new w1 41 (mc 2 (n.id : Int) (k : Int) s.b.1 0 0 0 false (.slice none 0 0))).f9
  go_wp2_with fail
  clear k0 k1 k2 k3 k4 k5 k6 k7 k8 k9 k10 k11 q0 q1 q2 q3 q4 q5 q6 q7 q8 f0 f1 f2 f3 f4 f5 f6 f7 f8
  clear kn
  have HX := Lib.hid (Whole.new w1 41 (mc 2 (n.id : Int) (k : Int) s.b.1 (nk - 1) 0 0 false (.slice none 0 0)))
  replace HR0 := Lib.hid (HR0.out.stay ((Below.refl _ _).alloc (Nat.le_refl _) (.cells (mc 2 (n.id : Int) (k : Int) s.b.1 (nk - 1) 0 0 false (.slice none 0 0)) 41)))
  replace HX4 := Lib.hid (HX4.out.alloc (.cells (mc 2 (n.id : Int) (k : Int) s.b.1 (nk - 1) 0 0 false (.slice none 0 0)) 41))
  replace HB := Lib.hid (HB.out.alloc HB.out.size (.cells (mc 2 (n.id : Int) (k : Int) s.b.1 (nk - 1) 0 0 false (.slice none 0 0)) 41))
  generalize hw3 : w1.alloc (.cells (mc 2 (n.id : Int) (k : Int) s.b.1 (nk - 1) 0 0 false (.slice none 0 0)) 41) = w3 at *
  clear hw3
  generalize hg5 : w1.heap.size = g5 at *
  clear hg5
  have HM := Lib.hid HR0.out.st
  unfold rmc at HM
  refine z_start ((w3).drew.heap.size) [] (by kernel_rfl) ?_
  have HC := Lib.hid (Below.refl ((w3).drew.heap.size) (w3).drew)
  have hBz : (w3).drew.heap.size ≤ (w3).drew.heap.size := Nat.le_refl _
  replace HM := Lib.hid (show Whole (w3).drew _ _ _ from HM.out)
  have hltM := HM.out.lt
  replace HX := Lib.hid (show Whole (w3).drew _ _ _ from HX.out)
  have hltX := HX.out.lt
  replace HB := Lib.hid HB.out.drew
  replace HR0 := Lib.hid (HR0.out.stay (Below.refl _ _).drew)
  replace HX4 := Lib.hid (HX4.out.below (Below.refl _ _).drew HX4.out.lt)
  generalize (w3).drew = z1 at *
  refine z_take (i := 0) (v := ?_) rfl (by kernel_rfl) (by kernel_rfl) (by kernel_rfl) (k0 := 0) (by kernel_rfl) (by kernel_rfl) (.inl rfl) (fun _ _ _ h => h) (by rfl) HC.out ?_ ?_
  rotate_left
  · intro W hW
    go_simp
    first | done | rfl
  simp only [Act.put, List.setIfInBounds_toArray, List.set_cons_zero, List.set_cons_succ, List.getElem_toArray, List.getElem_cons_zero, List.getElem_cons_succ]
  refine z_take (i := 1) (v := ?_) rfl (by kernel_rfl) (by kernel_rfl) (by kernel_rfl) (k0 := 1) (by kernel_rfl) (by kernel_rfl) (.inl rfl) (fun _ _ _ h => h) (by rfl) HC.out ?_ ?_
  rotate_left
  · intro W hW
    go_simp
    first | done | rfl
  simp only [Act.put, List.setIfInBounds_toArray, List.set_cons_zero, List.set_cons_succ, List.getElem_toArray, List.getElem_cons_zero, List.getElem_cons_succ]
  refine z_take (i := 2) (v := ?_) rfl (by kernel_rfl) (by kernel_rfl) (by kernel_rfl) (k0 := 2) (by kernel_rfl) (by kernel_rfl) (.inl rfl) (fun _ _ _ h => h) (by rfl) HC.out ?_ ?_
  rotate_left
  · intro W hW
    go_simp
    first | done | rfl
  simp only [Act.put, List.setIfInBounds_toArray, List.set_cons_zero, List.set_cons_succ, List.getElem_toArray, List.getElem_cons_zero, List.getElem_cons_succ]
  refine z_take (i := 3) (v := ?_) rfl (by kernel_rfl) (by kernel_rfl) (by kernel_rfl) (k0 := 3) (by kernel_rfl) (by kernel_rfl) (.inl rfl) (fun _ _ _ h => h) (by rfl) HC.out ?_ ?_
  rotate_left
  · intro W hW
    obtain ⟨k0, k1, k2, k3, k4, k5, k6, k7, k8, k9, k10, k11⟩ := (HM.out.below hW hltM).c12
    go_simp
    first | done | rfl
  simp only [Act.put, List.setIfInBounds_toArray, List.set_cons_zero, List.set_cons_succ, List.getElem_toArray, List.getElem_cons_zero, List.getElem_cons_succ]
  refine z_take (i := 4) (v := ?_) rfl (by kernel_rfl) (by kernel_rfl) (by kernel_rfl) (k0 := 4) (by kernel_rfl) (by kernel_rfl) (.inl rfl) (fun _ _ _ h => h) (by rfl) HC.out ?_ ?_
  rotate_left
  · intro W hW
    go_simp
    first | done | rfl
  simp only [Act.put, List.setIfInBounds_toArray, List.set_cons_zero, List.set_cons_succ, List.getElem_toArray, List.getElem_cons_zero, List.getElem_cons_succ]
  refine z_take (i := 5) (v := ?_) rfl (by kernel_rfl) (by kernel_rfl) (by kernel_rfl) (k0 := 5) (by kernel_rfl) (by kernel_rfl) (.inl rfl) (fun _ _ _ h => h) (by rfl) HC.out ?_ ?_
  rotate_left
  · intro W hW
    obtain ⟨q0, q1, q2, q3, q4, q5, q6, q7, q8⟩ := (HX.out.below hW hltX).c9
    go_simp
    first | done | rfl
  simp only [Act.put, List.setIfInBounds_toArray, List.set_cons_zero, List.set_cons_succ, List.getElem_toArray, List.getElem_cons_zero, List.getElem_cons_succ]
  refine z_one (i := 6) (by kernel_rfl) ?_
  refine onez_call (i := 6) (f := 77) (args := ?_) rfl (by rfl) ?_ ?_
  rotate_left
  · go_simp
    first | done | rfl
  with_reducible refine (HTM.out _ (HB.out.trans (HC.out.mono HB.out.size))).mono ?_
  rintro e z2 ⟨rfl, hb⟩
  refine ⟨_, rfl, fun _ => HC.out.trans (hb.mono hBz), ?_⟩
  replace HC := Lib.hid (HC.out.trans (hb.mono hBz))
  replace hBz := Nat.le_trans hBz hb.size
  clear hb
  simp only [Act.put, List.setIfInBounds_toArray, List.set_cons_zero, List.set_cons_succ, List.getElem_toArray, List.getElem_cons_zero, List.getElem_cons_succ]
  refine z_take (i := 7) (v := ?_) rfl (by kernel_rfl) (by kernel_rfl) (by kernel_rfl) (k0 := 7) (by kernel_rfl) (by kernel_rfl) (.inl rfl) (fun _ _ _ h => h) (by rfl) HC.out ?_ ?_
  rotate_left
  · intro W hW
    go_simp
    first | done | rfl
  simp only [Act.put, List.setIfInBounds_toArray, List.set_cons_zero, List.set_cons_succ, List.getElem_toArray, List.getElem_cons_zero, List.getElem_cons_succ]
  refine z_take (i := 8) (v := ?_) rfl (by kernel_rfl) (by kernel_rfl) (by kernel_rfl) (k0 := 8) (by kernel_rfl) (by kernel_rfl) (.inl rfl) (fun _ _ _ h => h) (by rfl) HC.out ?_ ?_
  rotate_left
  · intro W hW
    go_simp
    first | done | rfl
  simp only [Act.put, List.setIfInBounds_toArray, List.set_cons_zero, List.set_cons_succ, List.getElem_toArray, List.getElem_cons_zero, List.getElem_cons_succ]
  refine z_take (i := 9) (v := ?_) rfl (by kernel_rfl) (by kernel_rfl) (by kernel_rfl) (k0 := 9) (by kernel_rfl) (by kernel_rfl) (.inl rfl) (fun _ _ _ h => h) (by rfl) HC.out ?_ ?_
  rotate_left
  · intro W hW
    go_simp
    first | done | rfl
  simp only [Act.put, List.setIfInBounds_toArray, List.set_cons_zero, List.set_cons_succ, List.getElem_toArray, List.getElem_cons_zero, List.getElem_cons_succ]
  refine z_take (i := 10) (v := ?_) rfl (by kernel_rfl) (by kernel_rfl) (by kernel_rfl) (k0 := 10) (by kernel_rfl) (by kernel_rfl) (.inl rfl) (fun _ _ _ h => h) (by rfl) HC.out ?_ ?_
  rotate_left
  · intro W hW
    go_simp
    first | done | rfl
  simp only [Act.put, List.setIfInBounds_toArray, List.set_cons_zero, List.set_cons_succ, List.getElem_toArray, List.getElem_cons_zero, List.getElem_cons_succ]
  refine z_take (i := 11) (v := ?_) rfl (by kernel_rfl) (by kernel_rfl) (by kernel_rfl) (k0 := 11) (by kernel_rfl) (by kernel_rfl) (.inl rfl) (fun _ _ _ h => h) (by rfl) HC.out ?_ ?_
  rotate_left
  · intro W hW
    go_simp
    first | done | rfl
  simp only [Act.put, List.setIfInBounds_toArray, List.set_cons_zero, List.set_cons_succ, List.getElem_toArray, List.getElem_cons_zero, List.getElem_cons_succ]
  refine z_done (by kernel_rfl) ?_
  have hkw : IntKind.i64.wrap ((k : Int) - 1) = (k : Int) - 1 := by rw [IntKind.wrap_i64]; omega
  have hkn : ((k : Int) - 1).toNat = k - 1 := by omega
  have hki : (1 : Int) ≤ (k : Int) := by omega
  replace HR0 := Lib.hid (HR0.out.stay HC.out)
  replace HX4 := Lib.hid (HX4.out.below HC.out HX4.out.lt)
  replace HX := Lib.hid (HX.out.below HC.out hltX)
  replace HB := Lib.hid (HB.out.trans (HC.out.mono HB.out.size))
  clear HC hBz HM hltM hltX
  go_simp
  obtain ⟨q0, q1, q2, q3, q4, q5, q6, q7, q8⟩ := HX.out.c9
  obtain ⟨f0, f1, f2, f3, f4, f5, f6, f7, f8⟩ := HX.out.f9
  replace HR0 := Lib.hid (HR0.out.far (p := ⟨g5, 5, none⟩) hF5 hS5 (.int .i64 tt1))
  replace HX4 := Lib.hid (HX4.out.far (p := ⟨g5, 5, none⟩) h45 (.int .i64 tt1))
  have HXa := Lib.hid (Whole.setTo HX.out 5 (.int .i64 tt1) (cs2 := #[.int .i64 2, .int .i64 (n.id : Int), .int .i64 (k : Int), .int .i64 s.b.1, .int .i64 (nk - 1), .int .i64 tt1, .int .i64 0, .bool false, .slice none 0 0]) rfl)
  replace HB := Lib.hid (HB.out.setCell (p := ⟨g5, 5, none⟩) (Nat.le_of_lt h4lt) (.int .i64 tt1))
  obtain ⟨k0, k1, k2, k3, k4, k5, k6, k7, k8, k9, k10, k11⟩ := HR0.out.st.c12
  obtain ⟨e0, e1, e2, e3, e4, e5, e6, e7, e8⟩ := HXa.out.f9
  obtain ⟨r0, r1, r2, r3, r4, r5, r6, r7, r8⟩ := HXa.out.c9
  go_wp2_with fail
  clear k0 k1 k2 k3 k4 k5 k6 k7 k8 k9 k10 k11 q0 q1 q2 q3 q4 q5 q6 q7 q8 f0 f1 f2 f3 f4 f5 f6 f7 f8
  clear e0 e1 e2 e3 e4 e5 e6 e7 e8 r0 r1 r2 r3 r4 r5 r6 r7 r8
  replace HX := HXa
  clear HXa
  replace HR0 := Lib.hid (HR0.out.far (p := ⟨g5, 6, none⟩) hF5 hS5 (.int .i64 s.upto))
  replace HX4 := Lib.hid (HX4.out.far (p := ⟨g5, 6, none⟩) h45 (.int .i64 s.upto))
  replace HX := Lib.hid (Whole.setTo HX.out 6 (.int .i64 s.upto) (cs2 := #[.int .i64 2, .int .i64 (n.id : Int), .int .i64 (k : Int), .int .i64 s.b.1, .int .i64 (nk - 1), .int .i64 tt1, .int .i64 s.upto, .bool false, .slice none 0 0]) rfl)
  replace HB := Lib.hid (HB.out.setCell (p := ⟨g5, 6, none⟩) (Nat.le_of_lt h4lt) (.int .i64 s.upto))
  generalize ((z2.setCell ⟨g5, 5, none⟩ (.int .i64 tt1)).setCell ⟨g5, 6, none⟩ (.int .i64 s.upto)) = w4 at *
  have HM := Lib.hid HR0.out.st
  have HN := Lib.hid HR0.out.x
  unfold rmc at HM
  refine z_start ((w4).drew.heap.size) [14] (by kernel_rfl) ?_
  have HC := Lib.hid (Below.refl ((w4).drew.heap.size) (w4).drew)
  have hBz : (w4).drew.heap.size ≤ (w4).drew.heap.size := Nat.le_refl _
  replace HM := Lib.hid (show Whole (w4).drew _ _ _ from HM.out)
  have hltM := HM.out.lt
  replace HX := Lib.hid (show Whole (w4).drew _ _ _ from HX.out)
  have hltX := HX.out.lt
  replace HN := Lib.hid (show Whole (w4).drew _ _ _ from HN.out)
  have hltN := HN.out.lt
  replace HB := Lib.hid HB.out.drew
  replace HR0 := Lib.hid (HR0.out.stay (Below.refl _ _).drew)
  replace HX4 := Lib.hid (HX4.out.below (Below.refl _ _).drew HX4.out.lt)
  have hb4 := HX4.out.lt
  generalize (w4).drew = y1 at *
  refine z_take (i := 0) (v := ?_) rfl (by kernel_rfl) (by kernel_rfl) (by kernel_rfl) (k0 := 0) (by kernel_rfl) (by kernel_rfl) (.inl rfl) (fun _ _ _ h => h) (by rfl) HC.out ?_ ?_
  rotate_left
  · intro W hW
    go_simp
    first | done | rfl
  simp only [Act.put, List.setIfInBounds_toArray, List.set_cons_zero, List.set_cons_succ, List.getElem_toArray, List.getElem_cons_zero, List.getElem_cons_succ]
  refine z_take (i := 1) (v := ?_) rfl (by kernel_rfl) (by kernel_rfl) (by kernel_rfl) (k0 := 1) (by kernel_rfl) (by kernel_rfl) (.inl rfl) (fun _ _ _ h => h) (by rfl) HC.out ?_ ?_
  rotate_left
  · intro W hW
    go_simp
    first | done | rfl
  simp only [Act.put, List.setIfInBounds_toArray, List.set_cons_zero, List.set_cons_succ, List.getElem_toArray, List.getElem_cons_zero, List.getElem_cons_succ]
  refine z_take (i := 2) (v := ?_) rfl (by kernel_rfl) (by kernel_rfl) (by kernel_rfl) (k0 := 2) (by kernel_rfl) (by kernel_rfl) (.inl rfl) (fun _ _ _ h => h) (by rfl) HC.out ?_ ?_
  rotate_left
  · intro W hW
    go_simp
    first | done | rfl
  simp only [Act.put, List.setIfInBounds_toArray, List.set_cons_zero, List.set_cons_succ, List.getElem_toArray, List.getElem_cons_zero, List.getElem_cons_succ]
  refine z_take (i := 3) (v := ?_) rfl (by kernel_rfl) (by kernel_rfl) (by kernel_rfl) (k0 := 3) (by kernel_rfl) (by kernel_rfl) (.inl rfl) (fun _ _ _ h => h) (by rfl) HC.out ?_ ?_
  rotate_left
  · intro W hW
    obtain ⟨k0, k1, k2, k3, k4, k5, k6, k7, k8, k9, k10, k11⟩ := (HM.out.below hW hltM).c12
    go_simp
    first | done | rfl
  simp only [Act.put, List.setIfInBounds_toArray, List.set_cons_zero, List.set_cons_succ, List.getElem_toArray, List.getElem_cons_zero, List.getElem_cons_succ]
  refine z_take (i := 4) (v := ?_) rfl (by kernel_rfl) (by kernel_rfl) (by kernel_rfl) (k0 := 4) (by kernel_rfl) (by kernel_rfl) (.inl rfl) (fun _ _ _ h => h) (by rfl) HC.out ?_ ?_
  rotate_left
  · intro W hW
    go_simp
    first | done | rfl
  simp only [Act.put, List.setIfInBounds_toArray, List.set_cons_zero, List.set_cons_succ, List.getElem_toArray, List.getElem_cons_zero, List.getElem_cons_succ]
  refine z_take (i := 5) (v := ?_) rfl (by kernel_rfl) (by kernel_rfl) (by kernel_rfl) (k0 := 5) (by kernel_rfl) (by kernel_rfl) (.inl rfl) (fun _ _ _ h => h) (by rfl) HC.out ?_ ?_
  rotate_left
  · intro W hW
    go_simp
    first | done | rfl
  simp only [Act.put, List.setIfInBounds_toArray, List.set_cons_zero, List.set_cons_succ, List.getElem_toArray, List.getElem_cons_zero, List.getElem_cons_succ]
  refine z_take (i := 6) (v := ?_) rfl (by kernel_rfl) (by kernel_rfl) (by kernel_rfl) (k0 := 6) (by kernel_rfl) (by kernel_rfl) (.inl rfl) (fun _ _ _ h => h) (by rfl) HC.out ?_ ?_
  rotate_left
  · intro W hW
    go_simp
    first | done | rfl
  simp only [Act.put, List.setIfInBounds_toArray, List.set_cons_zero, List.set_cons_succ, List.getElem_toArray, List.getElem_cons_zero, List.getElem_cons_succ]
  refine z_take (i := 7) (v := ?_) rfl (by kernel_rfl) (by kernel_rfl) (by kernel_rfl) (k0 := 7) (by kernel_rfl) (by kernel_rfl) (.inl rfl) (fun _ _ _ h => h) (by rfl) HC.out ?_ ?_
  rotate_left
  · intro W hW
    obtain ⟨k0, k1, k2, k3, k4, k5, k6, k7, k8, k9, k10, k11⟩ := (HM.out.below hW hltM).c12
    go_simp
    first | done | rfl
  simp only [Act.put, List.setIfInBounds_toArray, List.set_cons_zero, List.set_cons_succ, List.getElem_toArray, List.getElem_cons_zero, List.getElem_cons_succ]
  refine z_take (i := 8) (v := ?_) rfl (by kernel_rfl) (by kernel_rfl) (by kernel_rfl) (k0 := 8) (by kernel_rfl) (by kernel_rfl) (.inl rfl) (fun _ _ _ h => h) (by rfl) HC.out ?_ ?_
  rotate_left
  · intro W hW
    go_simp
    first | done | rfl
  simp only [Act.put, List.setIfInBounds_toArray, List.set_cons_zero, List.set_cons_succ, List.getElem_toArray, List.getElem_cons_zero, List.getElem_cons_succ]
  refine z_take (i := 9) (v := ?_) rfl (by kernel_rfl) (by kernel_rfl) (by kernel_rfl) (k0 := 9) (by kernel_rfl) (by kernel_rfl) (.inl rfl) (fun _ _ _ h => h) (by rfl) HC.out ?_ ?_
  rotate_left
  · intro W hW
    go_simp
    first | done | rfl
  simp only [Act.put, List.setIfInBounds_toArray, List.set_cons_zero, List.set_cons_succ, List.getElem_toArray, List.getElem_cons_zero, List.getElem_cons_succ]
  refine z_take (i := 10) (v := ?_) rfl (by kernel_rfl) (by kernel_rfl) (by kernel_rfl) (k0 := 10) (by kernel_rfl) (by kernel_rfl) (.inl rfl) (fun _ _ _ h => h) (by rfl) HC.out ?_ ?_
  rotate_left
  · intro W hW
    go_simp
    first | done | rfl
  simp only [Act.put, List.setIfInBounds_toArray, List.set_cons_zero, List.set_cons_succ, List.getElem_toArray, List.getElem_cons_zero, List.getElem_cons_succ]
  refine z_take (i := 11) (v := ?_) rfl (by kernel_rfl) (by kernel_rfl) (by kernel_rfl) (k0 := 11) (by kernel_rfl) (by kernel_rfl) (.inl rfl) (fun _ _ _ h => h) (by rfl) HC.out ?_ ?_
  rotate_left
  · intro W hW
    have kn := HNX.out _ (HN.out.below hW hltN)
    go_simp
    first | done | rfl
  simp only [Act.put, List.setIfInBounds_toArray, List.set_cons_zero, List.set_cons_succ, List.getElem_toArray, List.getElem_cons_zero, List.getElem_cons_succ]
  refine z_one (i := 12) (by kernel_rfl) ?_
  refine onez_call (i := 12) (f := 78) (args := ?_) rfl (by rfl) ?_ ?_
  rotate_left
  · go_simp
    first | done | rfl
  with_reducible refine (HFR.out _ (HB.out.trans (HC.out.mono HB.out.size))).mono ?_
  rintro e y2 ⟨A6, c6, rfl, ho, hb⟩
  refine ⟨_, rfl, fun _ => HC.out.trans (hb.mono hBz), ?_⟩
  replace HC := Lib.hid (HC.out.trans (hb.mono hBz))
  replace hBz := Nat.le_trans hBz hb.size
  have hbase6 := Nat.le_of_lt hb4
  have ho6 := ho
  have hb5 := hltX
  clear ho
  clear hb
  simp only [Act.put, List.setIfInBounds_toArray, List.set_cons_zero, List.set_cons_succ, List.getElem_toArray, List.getElem_cons_zero, List.getElem_cons_succ]
  refine z_take (i := 13) (v := ?_) rfl (by kernel_rfl) (by kernel_rfl) (by kernel_rfl) (k0 := 13) (by kernel_rfl) (by kernel_rfl) (.inl rfl) (fun _ _ _ h => h) (by rfl) HC.out ?_ ?_
  rotate_left
  · intro W hW
    go_simp
    first | done | rfl
  simp only [Act.put, List.setIfInBounds_toArray, List.set_cons_zero, List.set_cons_succ, List.getElem_toArray, List.getElem_cons_zero, List.getElem_cons_succ]
  refine z_one (i := 14) (by kernel_rfl) ?_
  obtain ⟨q0, q1, q2, q3, q4, q5, q6, q7, q8⟩ := (HX.out.below HC.out hltX).c9
  obtain ⟨f0, f1, f2, f3, f4, f5, f6, f7, f8⟩ := (HX.out.below HC.out hltX).f9
  refine onez_skip (i := 14) (w' := ?_) rfl (by rfl) ?_ ?_ ?_
  rotate_left 1
  · go_simp
    first | done | rfl
  · exact fun h => absurd (by decide) h
  simp only [Act.put, List.setIfInBounds_toArray, List.set_cons_zero, List.set_cons_succ, List.getElem_toArray, List.getElem_cons_zero, List.getElem_cons_succ]
  refine z_done (by kernel_rfl) ?_
  replace HR0 := Lib.hid (HR0.out.stay HC.out)
  replace HX4 := Lib.hid (HX4.out.below HC.out HX4.out.lt)
  replace HX := Lib.hid (HX.out.below HC.out hltX)
  replace HB := Lib.hid (HB.out.trans (HC.out.mono HB.out.size))
  have hz4 := HX4.out.lt
  clear HC hBz HM HN hltM hltX hltN q0 q1 q2 q3 q4 q5 q6 q7 q8 f0 f1 f2 f3 f4 f5 f6 f7 f8
  replace HR0 := Lib.hid (HR0.out.far (p := ⟨g5, 8, none⟩) hF5 hS5 (.slice A6 fl.length c6))
  replace HX4 := Lib.hid (HX4.out.far (p := ⟨g5, 8, none⟩) h45 (.slice A6 fl.length c6))
  replace HX := Lib.hid (Whole.setTo HX.out 8 (.slice A6 fl.length c6) (cs2 := #[.int .i64 2, .int .i64 (n.id : Int), .int .i64 (k : Int), .int .i64 s.b.1, .int .i64 (nk - 1), .int .i64 tt1, .int .i64 s.upto, .bool false, .slice A6 fl.length c6]) rfl)
  replace HB := Lib.hid (HB.out.setCell (p := ⟨g5, 8, none⟩) (Nat.le_of_lt h4lt) (.slice A6 fl.length c6))
  have HO := Lib.hid (ho6.set (p := ⟨g5, 8, none⟩) hb5 (.slice A6 fl.length c6))
  clear ho6
  go_simp
  generalize (y2.setCell ⟨g5, 8, none⟩ (.slice A6 fl.length c6)) = w5 at *
  obtain ⟨q0, q1, q2, q3, q4, q5, q6, q7, q8⟩ := HX.out.c9
  obtain ⟨p0, p1, p2, p3, p4, p5, p6, p7, p8⟩ := HX4.out.c9
  obtain ⟨f0, f1, f2, f3, f4, f5, f6, f7, f8⟩ := HX4.out.f9
  have HRR := Lib.hid (HX4.out.set9 (.int .i64 2) (.int .i64 (n.id : Int)) (.int .i64 (k : Int)) (.int .i64 s.b.1) (.int .i64 (nk - 1)) (.int .i64 tt1) (.int .i64 s.upto) (.bool false) (.slice A6 fl.length c6))
  have HBB := Lib.hid (below_set9 HB.out (g := w.heap.size) (Nat.le_refl _) (.int .i64 2) (.int .i64 (n.id : Int)) (.int .i64 (k : Int)) (.int .i64 s.b.1) (.int .i64 (nk - 1)) (.int .i64 tt1) (.int .i64 s.upto) (.bool false) (.slice A6 fl.length c6))
  have HOO := Lib.hid ((((((((((HO.out.set (p := ⟨w.heap.size, 0, none⟩) hb4 (.int .i64 2)).set (p := ⟨w.heap.size, 1, none⟩) hb4 (.int .i64 (n.id : Int))).set (p := ⟨w.heap.size, 2, none⟩) hb4 (.int .i64 (k : Int))).set (p := ⟨w.heap.size, 3, none⟩) hb4 (.int .i64 s.b.1)).set (p := ⟨w.heap.size, 4, none⟩) hb4 (.int .i64 (nk - 1))).set (p := ⟨w.heap.size, 5, none⟩) hb4 (.int .i64 tt1)).set (p := ⟨w.heap.size, 6, none⟩) hb4 (.int .i64 s.upto)).set (p := ⟨w.heap.size, 7, none⟩) hb4 (.bool false)).set (p := ⟨w.heap.size, 8, none⟩) hb4 (.slice A6 fl.length c6)))
  clear HX HX4 HB HO HR0
  go_wp2_with fail
  refine bodyPost_ret (results_msg rfl rfl HRR.out) rfl ?_
  exact ⟨A6, c6, rfl, HOO.out.slS.wide (fun b hb _ => Nat.le_trans hbase6 hb), HBB.out⟩

end Go.Proofs.YtjcljkbalpgfdaaGreat

/-
  What the reference's all answers: an addition to each of the others.
-/



namespace Go.Proofs.YtjcljkbalpgfdaaGreat
open Go.RowKit

set_option maxRecDepth 100000 in
theorem rall_any (n : Rf.Id) (F : Foot) (S : Nat → Prop) (s : Rf.St) (hg : Rf.Good n s) (A : Option Addr) (c : Nat) (w : World) (h : RMem n F S w s A c) :
    Calls Tryz.prog 54 #[.pointer (some ⟨F.g, 0, none⟩)] w fun e w' => ∃ v, e = .returned v ∧ MsgsOut w (Rf.all n s) v w' ∧ Below w.heap.size w w' := by
  have HR := Lib.hid (fun W (hb : Below w.heap.size w W) => h.stay hb)
  have HA := Lib.hid (fun k hk1 hk2 W hW => raddition_any n F S s hg A c W hW k hk1 hk2)
  have HFIT := Lib.hid (fun k (hk : k ≤ n.many) => Rf.addition_fit hg hk)
  have h16 := hg.many
  have hi1 := hg.id1
  have hi2 := hg.id2
  clear h hg
  have H0 := Lib.hid (show Rf.each n (Rf.addition n s) 0 = [] from rfl)
  have HME := Lib.hid (fun k => @Rf.each_me n (Rf.addition n s) k)
  have HOT := Lib.hid (fun k => @Rf.each_other n (Rf.addition n s) k)
  have HEL := Lib.hid (fun k => Rf.each_len n (Rf.addition n s) k)
  unfold Rf.all
  generalize Rf.each n (Rf.addition n s) = ea at *
  generalize Rf.addition n s = f at *
  go_enter Tryz.func54, Tryz.ntmps54
  go_wp2_with fail
  go_loopw [3, 4] (fun ov kv wr => ∃ (j : Nat) (S2 : Nat → Prop), j ≤ n.many ∧ kv = .int .i64 ((j : Int) + 1) ∧ Hid (OwnS (α := M) wr w.heap.size S2 41 ov (ea j)) ∧ Hid (∀ b, S2 b → w.heap.size ≤ b) ∧ Below w.heap.size w wr) (fun _ kv _ => n.many + 1 - (intOf kv).toNat)
  case atStart => exact ⟨0, fun _ => False, Nat.zero_le _, rfl, by rw [H0.out]; exact OwnS.nil _ _ _ _, fun _ h => h.elim, Below.refl _ _⟩
  case round =>
    obtain ⟨j, S2, hj, rfl, ho, hS2, hb⟩ := hrel
    have HB := Lib.hid hb
    have hz := hb.size
    clear hb
    have hst := (HR.out _ HB.out).st
    unfold rmc at hst
    obtain ⟨k0, k1, k2, k3, k4, k5, k6, k7, k8, k9, k10, k11⟩ := hst.c12
    have HM := Lib.hid hst
    clear hst
    by_cases hlt : j < n.many
    · have hle : ((j : Int) + 1 ≤ (n.many : Int)) := by omega
      by_cases hme : j + 1 = n.id
      · have hne : (((j : Int) + 1) != (n.id : Int)) = false := by simp; omega
        have he := HME.out j hme
        clear hme
        go_wp2_with fail
        go_roundw
        case rel => exact ⟨j + 1, S2, by omega, by go_num, by rw [he]; exact ho, hS2, HB.out⟩
        case measure => simp [intOf]; omega
      · have hne : (((j : Int) + 1) != (n.id : Int)) = true := by simp; omega
        have he := Lib.hid (HOT.out j hme)
        have hfit := HFIT.out (j + 1) (by omega)
        have hlen := HEL.out j
        have HAJ := Lib.hid (HA.out (j + 1) (by omega) (by omega) _ (HR.out _ HB.out))
        clear hme HOT HME HEL HFIT HA
        have hcast : ((j + 1 : Nat) : Int) = (j : Int) + 1 := by omega
        rw [hcast] at HAJ
        generalize f (j + 1) = x at *
        generalize hel : (ea j).length = nl at *
        have HELL := Lib.hid hel
        clear hel
        go_wp2_with fail
        refine HAJ.out.mono ?_
        rintro e w1 ⟨A2, c2, rfl, hs2, hb2⟩
        have hsrc := SlS.new1 w1 41 x (mcx x (.slice A2 x.2.2.2.2.2.2.2.2.length c2)) (fits_msg hfit hs2)
        have HS := Lib.hid hsrc
        have hz2 := hb2.size
        have HF2 := Lib.hid ((ho.out.below hb2).below ((Below.refl _ _).alloc (Nat.le_refl _) (.cells (mcx x (.slice A2 x.2.2.2.2.2.2.2.2.length c2)) 41)))
        have hlo := ho.out.lt
        have HBB := Lib.hid ((HB.out.trans (hb2.mono hz)).alloc (Nat.le_trans hz hz2) (.cells (mcx x (.slice A2 x.2.2.2.2.2.2.2.2.length c2)) 41))
        clear hsrc hs2 hb2 ho HAJ HM k0 k1 k2 k3 k4 k5 k6 k7 k8 k9 k10 k11 hfit HB
        go_wp2_with (at_builtin; refine wpList_append_slS rfl _ (.tmp 23) rfl rowM w.heap.size S2 _ _ (ea j) rfl HF2.out _ [x] rfl HS.out (by intro b hb hb2; have := (hlo _ hb2).2; rcases hb with hb | hb <;> omega) (by rw [HELL.out]; unfold maxLen; simp; omega) (by rw [HELL.out]; simp; omega) (by simp; omega) ?_; intro v3 w3 hown3 hg3 hat3; have hb5 := below_of_ownS HBB.out HF2.out hg3 (by simp; omega); have HO3 := Lib.hid hown3; clear hg3 hat3 hown3)
        go_wp2_with fail
        go_roundw
        case rel => exact ⟨j + 1, _, by omega, by go_num, by rw [he.out]; exact HO3.out, fun b hb => by
          rcases hb.1 with hb | hb
          · exact hS2.out b hb
          · rcases hb with hb | hb <;> omega, hb5⟩
        case measure => simp [intOf]; omega
    · obtain rfl : j = n.many := by omega
      have hle : decide ((n.many : Int) + 1 ≤ (n.many : Int)) = false := by simp; omega
      go_wp2_with fail
      go_ret
      exact ⟨_, rfl, ho.out.slS.wide (fun b hb _ => by
        rcases hb with hb | hb
        · exact hS2.out b hb
        · exact (ho.out.lt b hb).1), HB.out⟩
end Go.Proofs.YtjcljkbalpgfdaaGreat

/-
  What the reference's lead answers and leaves.
-/



namespace Go.Proofs.YtjcljkbalpgfdaaGreat
open Go.RowKit

set_option maxRecDepth 100000 in
set_option maxHeartbeats 800000 in
theorem rlead_any (n : Rf.Id) (F : Foot) (S : Nat → Prop) (s : Rf.St) (hg : Rf.Good n s) (hpos : 1 ≤ s.b.1) (A : Option Addr) (c : Nat) (w : World) (h : RMem n F S w s A c) :
    Calls Tryz.prog 53 #[.pointer (some ⟨F.g, 0, none⟩)] w fun e w' => ∃ v, e = .returned v ∧ MsgsOut w (Rf.lead n s).2 v w' ∧ (∃ A2 d2, RMem n F (fun b => S b ∨ w.heap.size ≤ b) w' (Rf.lead n s).1 A2 d2) ∧ Kept F.has w w' := by
  have hFlt := Foot.lt h
  have HFL := Lib.hid hFlt
  have HOFF := Lib.hid h.off
  have hgb := hg.begin_ hpos
  have HGB := Lib.hid hgb
  have HGF := Lib.hid (hgb.first hpos)
  have HGO := Lib.hid ((hgb.first hpos).own)
  have HGS := Lib.hid (((hgb.first hpos).own).settle)
  have hlen := hg.len
  have HR0 := Lib.hid h
  have HL0 := Lib.hid (rlast_any 0 0 _ s.l w w.heap.size (Nat.le_refl _) h.sl)
  have hl1 := hg.last1
  have hid1 := hg.id1
  have hid2 := hg.id2
  have hmany := hg.many
  have HNL := Lib.hid hg.nx
  have HML := Lib.hid hg.mt
  clear h hg hgb
  unfold Rf.last Rf.lg at hl1
  generalize hp : Lg.last (0, 0, s.l) = p at *
  obtain ⟨p1, p2⟩ := p
  have HP := Lib.hid hp
  clear hp
  simp only at hl1 HL0
  subst hl1
  unfold Rf.lead
  generalize hsf : Rf.first (Rf.begin_ n s) = sf at *
  have HSF := Lib.hid hsf
  clear hsf
  go_enter Tryz.func53, Tryz.ntmps53
  have hst := HR0.out.st
  dsimp only [rmc] at hst
  obtain ⟨k0, k1, k2, k3, k4, k5, k6, k7, k8, k9, k10, k11⟩ := hst.c12
  clear hst
  go_wp2_with fail
  with_reducible refine HL0.out.mono ?_
  rintro e w1 ⟨rfl, hb⟩
  replace HR0 := Lib.hid (HR0.out.stay hb)
  have HK := Lib.hid (show Kept F.has w w1 from Below.kept hb)
  clear hb HL0 k0 k1 k2 k3 k4 k5 k6 k7 k8 k9 k10 k11
  have hst := HR0.out.st
  dsimp only [rmc] at hst
  obtain ⟨k0, k1, k2, k3, k4, k5, k6, k7, k8, k9, k10, k11⟩ := hst.c12
  have f7 := hst.free 7
  clear hst
  go_wp2_with fail
  clear k0 k1 k2 k3 k4 k5 k6 k7 k8 k9 k10 k11 f7
  have HR1 := Lib.hid (HR0.out.cell 7 (.int .i64 2) (s' := { s with is := 2 }) rfl rfl rfl rfl rfl)
  replace HK := Lib.hid (HK.out.set (p := ⟨F.g, 7, none⟩) (.inl (.inl rfl)) (.int .i64 2))
  clear HR0
  go_loopw [5] (fun kv wr => ∃ (j : Nat) (X Y : List Int), j ≤ n.many ∧ kv = .int .i64 (j : Int) ∧ Hid (RMem n F S wr { s with is := 2, nx := X, mt := Y } A c) ∧ Hid (Kept F.has w wr) ∧ Hid (X = List.replicate j ((s.l.length : Int) + 1) ++ s.nx.drop j) ∧ Hid (Y = List.replicate j 0 ++ s.mt.drop j)) (fun kv _ => n.many - (intOf kv).toNat)
  case atStart => exact ⟨0, s.nx, s.mt, Nat.zero_le _, rfl, HR1, HK, rfl, rfl⟩
  case round =>
    obtain ⟨j, X, Y, hj, rfl, hr, hk, hX, hY⟩ := hrel
    clear HR1 HK
    by_cases hlt : j < n.many
    · have hXl : j < X.length := by rw [hX.out, List.length_append, List.length_replicate, List.length_drop, HNL.out]; omega
      have hYl : j < Y.length := by rw [hY.out, List.length_append, List.length_replicate, List.length_drop, HML.out]; omega
      have HX2 := Lib.hid (show X.set j ((s.l.length : Int) + 1) = List.replicate (j + 1) ((s.l.length : Int) + 1) ++ s.nx.drop (j + 1) by rw [hX.out]; exact rep_set (by rw [HNL.out]; exact hlt))
      have HY2 := Lib.hid (show Y.set j 0 = List.replicate (j + 1) 0 ++ s.mt.drop (j + 1) by rw [hY.out]; exact rep_set (by rw [HML.out]; exact hlt))
      have hst := hr.out.st
      dsimp only [rmc] at hst
      obtain ⟨k0, k1, k2, k3, k4, k5, k6, k7, k8, k9, k10, k11⟩ := hst.c12
      clear hst
      have kx := hr.out.x.rowN j hXl
      have fx := hr.out.x.free j
      have HR2 := Lib.hid (hr.out.setX j ((s.l.length : Int) + 1))
      dsimp only at HR2
      have hst := HR2.out.st
      dsimp only [rmc] at hst
      obtain ⟨k0, k1, k2, k3, k4, k5, k6, k7, k8, k9, k10, k11⟩ := hst.c12
      clear hst
      have ky := HR2.out.m.rowN j hYl
      have fy := HR2.out.m.free j
      have HR3 := Lib.hid (HR2.out.setM j 0)
      dsimp only at HR3
      have HK3 := Lib.hid ((hk.out.set (p := ⟨F.gn, j, none⟩) (.inl (.inr (.inr (.inr rfl)))) (.int .i64 ((s.l.length : Int) + 1))).set (p := ⟨F.gm, j, none⟩) (.inl (.inr (.inr (.inl rfl)))) (.int .i64 0))
      have hwr : IntKind.i64.wrap ((s.l.length : Int) + 1) = (s.l.length : Int) + 1 := by rw [IntKind.wrap_i64]; omega
      clear hr hk hX hY HR2 hXl hYl
      go_wp2_with fail
      go_roundw
      case rel => exact ⟨j + 1, X.set j ((s.l.length : Int) + 1), Y.set j 0, by omega, by go_num, HR3, HK3, HX2, HY2⟩
      case measure => simp [intOf]; omega
    · obtain rfl : j = n.many := by omega
      have hX2 : X = List.replicate n.many ((s.l.length : Int) + 1) := by rw [hX.out, ← HNL.out, List.drop_length, List.append_nil]
      have hY2 : Y = List.replicate n.many 0 := by rw [hY.out, ← HML.out, List.drop_length, List.append_nil]
      have hsb : ({ s with is := 2, nx := X, mt := Y } : Rf.St) = Rf.begin_ n s := by unfold Rf.begin_ Rf.last Rf.lg; rw [HP.out, hX2, hY2]
      have HRB := Lib.hid hr.out
      rw [hsb] at HRB
      have HK := Lib.hid hk.out
      clear hr hk hX hY hX2 hY2 hsb X Y
      have hst := HRB.out.st
      dsimp only [rmc, Rf.begin_] at hst
      obtain ⟨k0, k1, k2, k3, k4, k5, k6, k7, k8, k9, k10, k11⟩ := hst.c12
      clear hst
      have hbl : (Rf.begin_ n s).l = s.l := rfl
      have hzw := HK.out.size
      by_cases h64 : s.l.length < 64
      · have hfi : sf = Rf.put (Rf.begin_ n s) (0, 0, 0, 0, 0, 0) := by rw [← HSF.out]; unfold Rf.first; rw [if_pos (by rw [hbl]; exact h64)]
        have HFI := Lib.hid hfi
        clear hfi
        have d64 : decide ((s.l.length : Int) < 64) = true := by simp; omega
        go_wp2_with fail
        refine (rput_any n F S _ HGB.out A c _ HRB.out (by rw [hbl]; exact h64) 0 0 0 0 0 0 (by unfold CmdFit; simp [Flat.wf])).mono ?_
        rintro e w3 ⟨rfl, A2, d2, hr3, hk3⟩
        have HR0 := Lib.hid (hr3.wide (S' := fun b => S b ∨ w.heap.size ≤ b) (fun b hb _ => hb.imp id (fun h => Nat.le_trans hzw h)) (fun b hb hf => by
          rcases hb with hb | hb
          · exact HOFF.out b hb hf
          · have := hFlt b hf; omega))
        replace HK := Lib.hid (HK.out.trans hk3)
        clear hr3 hk3 k0 k1 k2 k3 k4 k5 k6 k7 k8 k9 k10 k11 HRB HGB
        rw [← HFI.out] at HR0
        clear HFI hbl
        have hst := HR0.out.st
        dsimp only [rmc] at hst
        obtain ⟨k0, k1, k2, k3, k4, k5, k6, k7, k8, k9, k10, k11⟩ := hst.c12
        clear hst
        have HLL := Lib.hid (rlast_any 0 0 _ sf.l _ _ (Nat.le_refl _) HR0.out.sl)
        have HQ : Hid ({ sf with mt := sf.mt.set (n.id - 1) (Rf.last sf).1 } = Rf.own n sf) := Lib.hid rfl
        unfold Rf.last Rf.lg at HQ
        generalize Lg.last (0, 0, sf.l) = q at *
        obtain ⟨q1, q2⟩ := q
        simp only at HLL HQ
        go_wp2_with fail
        with_reducible refine HLL.out.mono ?_
        rintro e w4 ⟨rfl, hb⟩
        replace HR0 := Lib.hid (HR0.out.stay hb)
        replace HK := Lib.hid (HK.out.trans (Below.kept hb))
        clear k0 k1 k2 k3 k4 k5 k6 k7 k8 k9 k10 k11 hb HLL
        go_wp2_with fail
        have HM := Lib.hid HR0.out.st
        dsimp only [rmc] at HM
        have HN := Lib.hid HR0.out.m
        have HML2 := Lib.hid HGF.out.mt
        have hkw : IntKind.i64.wrap ((n.id : Int) - 1) = (n.id : Int) - 1 := by rw [IntKind.wrap_i64]; omega
        have hkn : ((n.id : Int) - 1).toNat = n.id - 1 := by omega
        have hki : (1 : Int) ≤ (n.id : Int) := by omega
        have hki2 : (n.id : Int) - 1 < (n.many : Int) := by omega
        refine z_start ((w4).drew.heap.size) [11] (by kernel_rfl) ?_
        have HC := Lib.hid (Below.refl ((w4).drew.heap.size) (w4).drew)
        have hBz : (w4).drew.heap.size ≤ (w4).drew.heap.size := Nat.le_refl _
        replace HM := Lib.hid (show Whole (w4).drew _ _ _ from HM.out)
        have hltM := HM.out.lt
        replace HN := Lib.hid (show Whole (w4).drew _ _ _ from HN.out)
        have hltN := HN.out.lt
        replace HK := Lib.hid (HK.out.trans (Below.kept (Below.refl _ _).drew))
        replace HR0 := Lib.hid (HR0.out.stay (Below.refl _ _).drew)
        generalize (w4).drew = y1 at *
        refine z_take (i := 0) (v := ?_) rfl (by kernel_rfl) (by kernel_rfl) (by kernel_rfl) (k0 := 0) (by kernel_rfl) (by kernel_rfl) (.inl rfl) (fun _ _ _ h => h) (by rfl) HC.out ?_ ?_
        rotate_left
        · intro W hW
          go_simp
          first | done | rfl
        simp only [Act.put, List.setIfInBounds_toArray, List.set_cons_zero, List.set_cons_succ, List.getElem_toArray, List.getElem_cons_zero, List.getElem_cons_succ]
        refine z_take (i := 1) (v := ?_) rfl (by kernel_rfl) (by kernel_rfl) (by kernel_rfl) (k0 := 1) (by kernel_rfl) (by kernel_rfl) (.inl rfl) (fun _ _ _ h => h) (by rfl) HC.out ?_ ?_
        rotate_left
        · intro W hW
          go_simp
          first | done | rfl
        simp only [Act.put, List.setIfInBounds_toArray, List.set_cons_zero, List.set_cons_succ, List.getElem_toArray, List.getElem_cons_zero, List.getElem_cons_succ]
        refine z_take (i := 2) (v := ?_) rfl (by kernel_rfl) (by kernel_rfl) (by kernel_rfl) (k0 := 2) (by kernel_rfl) (by kernel_rfl) (.inl rfl) (fun _ _ _ h => h) (by rfl) HC.out ?_ ?_
        rotate_left
        · intro W hW
          go_simp
          first | done | rfl
        simp only [Act.put, List.setIfInBounds_toArray, List.set_cons_zero, List.set_cons_succ, List.getElem_toArray, List.getElem_cons_zero, List.getElem_cons_succ]
        refine z_take (i := 3) (v := ?_) rfl (by kernel_rfl) (by kernel_rfl) (by kernel_rfl) (k0 := 3) (by kernel_rfl) (by kernel_rfl) (.inl rfl) (fun _ _ _ h => h) (by rfl) HC.out ?_ ?_
        rotate_left
        · intro W hW
          obtain ⟨k0, k1, k2, k3, k4, k5, k6, k7, k8, k9, k10, k11⟩ := (HM.out.below hW hltM).c12
          go_simp
          first | done | rfl
        simp only [Act.put, List.setIfInBounds_toArray, List.set_cons_zero, List.set_cons_succ, List.getElem_toArray, List.getElem_cons_zero, List.getElem_cons_succ]
        refine z_take (i := 4) (v := ?_) rfl (by kernel_rfl) (by kernel_rfl) (by kernel_rfl) (k0 := 4) (by kernel_rfl) (by kernel_rfl) (.inl rfl) (fun _ _ _ h => h) (by rfl) HC.out ?_ ?_
        rotate_left
        · intro W hW
          go_simp
          first | done | rfl
        simp only [Act.put, List.setIfInBounds_toArray, List.set_cons_zero, List.set_cons_succ, List.getElem_toArray, List.getElem_cons_zero, List.getElem_cons_succ]
        refine z_take (i := 5) (v := ?_) rfl (by kernel_rfl) (by kernel_rfl) (by kernel_rfl) (k0 := 5) (by kernel_rfl) (by kernel_rfl) (.inl rfl) (fun _ _ _ h => h) (by rfl) HC.out ?_ ?_
        rotate_left
        · intro W hW
          go_simp
          first | done | rfl
        simp only [Act.put, List.setIfInBounds_toArray, List.set_cons_zero, List.set_cons_succ, List.getElem_toArray, List.getElem_cons_zero, List.getElem_cons_succ]
        refine z_take (i := 6) (v := ?_) rfl (by kernel_rfl) (by kernel_rfl) (by kernel_rfl) (k0 := 6) (by kernel_rfl) (by kernel_rfl) (.inl rfl) (fun _ _ _ h => h) (by rfl) HC.out ?_ ?_
        rotate_left
        · intro W hW
          go_simp
          first | done | rfl
        simp only [Act.put, List.setIfInBounds_toArray, List.set_cons_zero, List.set_cons_succ, List.getElem_toArray, List.getElem_cons_zero, List.getElem_cons_succ]
        refine z_take (i := 7) (v := ?_) rfl (by kernel_rfl) (by kernel_rfl) (by kernel_rfl) (k0 := 7) (by kernel_rfl) (by kernel_rfl) (.inl rfl) (fun _ _ _ h => h) (by rfl) HC.out ?_ ?_
        rotate_left
        · intro W hW
          obtain ⟨k0, k1, k2, k3, k4, k5, k6, k7, k8, k9, k10, k11⟩ := (HM.out.below hW hltM).c12
          go_simp
          first | done | rfl
        simp only [Act.put, List.setIfInBounds_toArray, List.set_cons_zero, List.set_cons_succ, List.getElem_toArray, List.getElem_cons_zero, List.getElem_cons_succ]
        refine z_take (i := 8) (v := ?_) rfl (by kernel_rfl) (by kernel_rfl) (by kernel_rfl) (k0 := 8) (by kernel_rfl) (by kernel_rfl) (.inl rfl) (fun _ _ _ h => h) (by rfl) HC.out ?_ ?_
        rotate_left
        · intro W hW
          go_simp
          first | done | rfl
        simp only [Act.put, List.setIfInBounds_toArray, List.set_cons_zero, List.set_cons_succ, List.getElem_toArray, List.getElem_cons_zero, List.getElem_cons_succ]
        refine z_take (i := 9) (v := ?_) rfl (by kernel_rfl) (by kernel_rfl) (by kernel_rfl) (k0 := 9) (by kernel_rfl) (by kernel_rfl) (.inl rfl) (fun _ _ _ h => h) (by rfl) HC.out ?_ ?_
        rotate_left
        · intro W hW
          go_simp
          first | done | rfl
        simp only [Act.put, List.setIfInBounds_toArray, List.set_cons_zero, List.set_cons_succ, List.getElem_toArray, List.getElem_cons_zero, List.getElem_cons_succ]
        refine z_take (i := 10) (v := ?_) rfl (by kernel_rfl) (by kernel_rfl) (by kernel_rfl) (k0 := 10) (by kernel_rfl) (by kernel_rfl) (.inl rfl) (fun _ _ _ h => h) (by rfl) HC.out ?_ ?_
        rotate_left
        · intro W hW
          go_simp
          first | done | rfl
        simp only [Act.put, List.setIfInBounds_toArray, List.set_cons_zero, List.set_cons_succ, List.getElem_toArray, List.getElem_cons_zero, List.getElem_cons_succ]
        refine z_one (i := 11) (by kernel_rfl) ?_
        have kn := (HN.out.below HC.out hltN).rowN (n.id - 1) (by rw [HML2.out]; omega)
        have fn := (HN.out.below HC.out hltN).free (n.id - 1)
        refine onez_skip (i := 11) (w' := ?_) rfl (by rfl) ?_ ?_ ?_
        rotate_left 1
        · go_simp
          first | done | rfl
        · exact fun h => absurd (by decide) h
        simp only [Act.put, List.setIfInBounds_toArray, List.set_cons_zero, List.set_cons_succ, List.getElem_toArray, List.getElem_cons_zero, List.getElem_cons_succ]
        clear kn fn
        refine z_done (by kernel_rfl) ?_
        replace HR0 := Lib.hid ((HR0.out.stay HC.out).setM (n.id - 1) q1)
        replace HK := Lib.hid ((HK.out.trans (Below.kept HC.out)).set (p := ⟨F.gm, n.id - 1, none⟩) (.inl (.inr (.inr (.inl rfl)))) (.int .i64 q1))
        clear HC hBz HM hltM HN hltN
        go_simp
        rw [HQ.out] at HR0
        generalize hw5 : World.setCell _ _ _ = w5 at *
        clear hw5
        go_wp2_with fail
        with_reducible refine (rsettle_any n F _ _ HGO.out A2 d2 _ HR0.out).mono ?_
        rintro e w6 ⟨rfl, hr6, hk6⟩
        replace HR0 := Lib.hid hr6
        replace HK := Lib.hid (HK.out.trans hk6)
        clear hr6 hk6
        go_wp2_with fail
        refine (rall_any n F _ _ HGS.out A2 d2 _ HR0.out).mono ?_
        rintro e w7 ⟨v7, rfl, hv7, hb7⟩
        replace HR0 := Lib.hid (HR0.out.stay hb7)
        have hz7 := HK.out.size
        replace HK := Lib.hid (HK.out.trans (Below.kept hb7))
        have HV := Lib.hid (SlS.wide hv7 (fun b hb _ => Nat.le_trans hz7 hb) : MsgsOut w _ v7 w7)
        clear hv7 hb7 hz7
        go_wp2_with fail
        go_ret
        exact ⟨v7, rfl, HV.out, ⟨A2, d2, HR0.out⟩, HK.out⟩
      · have hfi : sf = Rf.begin_ n s := by rw [← HSF.out]; unfold Rf.first; rw [if_neg (by rw [hbl]; exact h64)]
        have HR0 := Lib.hid (HRB.out.wide (S' := fun b => S b ∨ w.heap.size ≤ b) (fun b hb _ => .inl hb) (fun b hb hf => by
          rcases hb with hb | hb
          · exact HOFF.out b hb hf
          · have := hFlt b hf; omega))
        rw [← hfi] at HR0
        have d64 : decide ((sf.l.length : Int) < 64) = false := by rw [hfi, hbl]; simp; omega
        clear HRB HGB hfi hbl k0 k1 k2 k3 k4 k5 k6 k7 k8 k9 k10 k11
        have hst := HR0.out.st
        dsimp only [rmc] at hst
        obtain ⟨k0, k1, k2, k3, k4, k5, k6, k7, k8, k9, k10, k11⟩ := hst.c12
        clear hst
        have HLL := Lib.hid (rlast_any 0 0 _ sf.l _ _ (Nat.le_refl _) HR0.out.sl)
        have HQ : Hid ({ sf with mt := sf.mt.set (n.id - 1) (Rf.last sf).1 } = Rf.own n sf) := Lib.hid rfl
        unfold Rf.last Rf.lg at HQ
        generalize Lg.last (0, 0, sf.l) = q at *
        obtain ⟨q1, q2⟩ := q
        simp only at HLL HQ
        go_wp2_with fail
        with_reducible refine HLL.out.mono ?_
        rintro e w4 ⟨rfl, hb⟩
        replace HR0 := Lib.hid (HR0.out.stay hb)
        replace HK := Lib.hid (HK.out.trans (Below.kept hb))
        clear k0 k1 k2 k3 k4 k5 k6 k7 k8 k9 k10 k11 hb HLL
        go_wp2_with fail
        have HM := Lib.hid HR0.out.st
        dsimp only [rmc] at HM
        have HN := Lib.hid HR0.out.m
        have HML2 := Lib.hid HGF.out.mt
        have hkw : IntKind.i64.wrap ((n.id : Int) - 1) = (n.id : Int) - 1 := by rw [IntKind.wrap_i64]; omega
        have hkn : ((n.id : Int) - 1).toNat = n.id - 1 := by omega
        have hki : (1 : Int) ≤ (n.id : Int) := by omega
        have hki2 : (n.id : Int) - 1 < (n.many : Int) := by omega
        refine z_start ((w4).drew.heap.size) [11] (by kernel_rfl) ?_
        have HC := Lib.hid (Below.refl ((w4).drew.heap.size) (w4).drew)
        have hBz : (w4).drew.heap.size ≤ (w4).drew.heap.size := Nat.le_refl _
        replace HM := Lib.hid (show Whole (w4).drew _ _ _ from HM.out)
        have hltM := HM.out.lt
        replace HN := Lib.hid (show Whole (w4).drew _ _ _ from HN.out)
        have hltN := HN.out.lt
        replace HK := Lib.hid (HK.out.trans (Below.kept (Below.refl _ _).drew))
        replace HR0 := Lib.hid (HR0.out.stay (Below.refl _ _).drew)
        generalize (w4).drew = y1 at *
        refine z_take (i := 0) (v := ?_) rfl (by kernel_rfl) (by kernel_rfl) (by kernel_rfl) (k0 := 0) (by kernel_rfl) (by kernel_rfl) (.inl rfl) (fun _ _ _ h => h) (by rfl) HC.out ?_ ?_
        rotate_left
        · intro W hW
          go_simp
          first | done | rfl
        simp only [Act.put, List.setIfInBounds_toArray, List.set_cons_zero, List.set_cons_succ, List.getElem_toArray, List.getElem_cons_zero, List.getElem_cons_succ]
        refine z_take (i := 1) (v := ?_) rfl (by kernel_rfl) (by kernel_rfl) (by kernel_rfl) (k0 := 1) (by kernel_rfl) (by kernel_rfl) (.inl rfl) (fun _ _ _ h => h) (by rfl) HC.out ?_ ?_
        rotate_left
        · intro W hW
          go_simp
          first | done | rfl
        simp only [Act.put, List.setIfInBounds_toArray, List.set_cons_zero, List.set_cons_succ, List.getElem_toArray, List.getElem_cons_zero, List.getElem_cons_succ]
        refine z_take (i := 2) (v := ?_) rfl (by kernel_rfl) (by kernel_rfl) (by kernel_rfl) (k0 := 2) (by kernel_rfl) (by kernel_rfl) (.inl rfl) (fun _ _ _ h => h) (by rfl) HC.out ?_ ?_
        rotate_left
        · intro W hW
          go_simp
          first | done | rfl
        simp only [Act.put, List.setIfInBounds_toArray, List.set_cons_zero, List.set_cons_succ, List.getElem_toArray, List.getElem_cons_zero, List.getElem_cons_succ]
        refine z_take (i := 3) (v := ?_) rfl (by kernel_rfl) (by kernel_rfl) (by kernel_rfl) (k0 := 3) (by kernel_rfl) (by kernel_rfl) (.inl rfl) (fun _ _ _ h => h) (by rfl) HC.out ?_ ?_
        rotate_left
        · intro W hW
          obtain ⟨k0, k1, k2, k3, k4, k5, k6, k7, k8, k9, k10, k11⟩ := (HM.out.below hW hltM).c12
          go_simp
          first | done | rfl
        simp only [Act.put, List.setIfInBounds_toArray, List.set_cons_zero, List.set_cons_succ, List.getElem_toArray, List.getElem_cons_zero, List.getElem_cons_succ]
        refine z_take (i := 4) (v := ?_) rfl (by kernel_rfl) (by kernel_rfl) (by kernel_rfl) (k0 := 4) (by kernel_rfl) (by kernel_rfl) (.inl rfl) (fun _ _ _ h => h) (by rfl) HC.out ?_ ?_
        rotate_left
        · intro W hW
          go_simp
          first | done | rfl
        simp only [Act.put, List.setIfInBounds_toArray, List.set_cons_zero, List.set_cons_succ, List.getElem_toArray, List.getElem_cons_zero, List.getElem_cons_succ]
        refine z_take (i := 5) (v := ?_) rfl (by kernel_rfl) (by kernel_rfl) (by kernel_rfl) (k0 := 5) (by kernel_rfl) (by kernel_rfl) (.inl rfl) (fun _ _ _ h => h) (by rfl) HC.out ?_ ?_
        rotate_left
        · intro W hW
          go_simp
          first | done | rfl
        simp only [Act.put, List.setIfInBounds_toArray, List.set_cons_zero, List.set_cons_succ, List.getElem_toArray, List.getElem_cons_zero, List.getElem_cons_succ]
        refine z_take (i := 6) (v := ?_) rfl (by kernel_rfl) (by kernel_rfl) (by kernel_rfl) (k0 := 6) (by kernel_rfl) (by kernel_rfl) (.inl rfl) (fun _ _ _ h => h) (by rfl) HC.out ?_ ?_
        rotate_left
        · intro W hW
          go_simp
          first | done | rfl
        simp only [Act.put, List.setIfInBounds_toArray, List.set_cons_zero, List.set_cons_succ, List.getElem_toArray, List.getElem_cons_zero, List.getElem_cons_succ]
        refine z_take (i := 7) (v := ?_) rfl (by kernel_rfl) (by kernel_rfl) (by kernel_rfl) (k0 := 7) (by kernel_rfl) (by kernel_rfl) (.inl rfl) (fun _ _ _ h => h) (by rfl) HC.out ?_ ?_
        rotate_left
        · intro W hW
          obtain ⟨k0, k1, k2, k3, k4, k5, k6, k7, k8, k9, k10, k11⟩ := (HM.out.below hW hltM).c12
          go_simp
          first | done | rfl
        simp only [Act.put, List.setIfInBounds_toArray, List.set_cons_zero, List.set_cons_succ, List.getElem_toArray, List.getElem_cons_zero, List.getElem_cons_succ]
        refine z_take (i := 8) (v := ?_) rfl (by kernel_rfl) (by kernel_rfl) (by kernel_rfl) (k0 := 8) (by kernel_rfl) (by kernel_rfl) (.inl rfl) (fun _ _ _ h => h) (by rfl) HC.out ?_ ?_
        rotate_left
        · intro W hW
          go_simp
          first | done | rfl
        simp only [Act.put, List.setIfInBounds_toArray, List.set_cons_zero, List.set_cons_succ, List.getElem_toArray, List.getElem_cons_zero, List.getElem_cons_succ]
        refine z_take (i := 9) (v := ?_) rfl (by kernel_rfl) (by kernel_rfl) (by kernel_rfl) (k0 := 9) (by kernel_rfl) (by kernel_rfl) (.inl rfl) (fun _ _ _ h => h) (by rfl) HC.out ?_ ?_
        rotate_left
        · intro W hW
          go_simp
          first | done | rfl
        simp only [Act.put, List.setIfInBounds_toArray, List.set_cons_zero, List.set_cons_succ, List.getElem_toArray, List.getElem_cons_zero, List.getElem_cons_succ]
        refine z_take (i := 10) (v := ?_) rfl (by kernel_rfl) (by kernel_rfl) (by kernel_rfl) (k0 := 10) (by kernel_rfl) (by kernel_rfl) (.inl rfl) (fun _ _ _ h => h) (by rfl) HC.out ?_ ?_
        rotate_left
        · intro W hW
          go_simp
          first | done | rfl
        simp only [Act.put, List.setIfInBounds_toArray, List.set_cons_zero, List.set_cons_succ, List.getElem_toArray, List.getElem_cons_zero, List.getElem_cons_succ]
        refine z_one (i := 11) (by kernel_rfl) ?_
        have kn := (HN.out.below HC.out hltN).rowN (n.id - 1) (by rw [HML2.out]; omega)
        have fn := (HN.out.below HC.out hltN).free (n.id - 1)
        refine onez_skip (i := 11) (w' := ?_) rfl (by rfl) ?_ ?_ ?_
        rotate_left 1
        · go_simp
          first | done | rfl
        · exact fun h => absurd (by decide) h
        simp only [Act.put, List.setIfInBounds_toArray, List.set_cons_zero, List.set_cons_succ, List.getElem_toArray, List.getElem_cons_zero, List.getElem_cons_succ]
        clear kn fn
        refine z_done (by kernel_rfl) ?_
        replace HR0 := Lib.hid ((HR0.out.stay HC.out).setM (n.id - 1) q1)
        replace HK := Lib.hid ((HK.out.trans (Below.kept HC.out)).set (p := ⟨F.gm, n.id - 1, none⟩) (.inl (.inr (.inr (.inl rfl)))) (.int .i64 q1))
        clear HC hBz HM hltM HN hltN
        go_simp
        rw [HQ.out] at HR0
        generalize hw5 : World.setCell _ _ _ = w5 at *
        clear hw5
        go_wp2_with fail
        with_reducible refine (rsettle_any n F _ _ HGO.out A c _ HR0.out).mono ?_
        rintro e w6 ⟨rfl, hr6, hk6⟩
        replace HR0 := Lib.hid hr6
        replace HK := Lib.hid (HK.out.trans hk6)
        clear hr6 hk6
        go_wp2_with fail
        refine (rall_any n F _ _ HGS.out A c _ HR0.out).mono ?_
        rintro e w7 ⟨v7, rfl, hv7, hb7⟩
        replace HR0 := Lib.hid (HR0.out.stay hb7)
        have hz7 := HK.out.size
        replace HK := Lib.hid (HK.out.trans (Below.kept hb7))
        have HV := Lib.hid (SlS.wide hv7 (fun b hb _ => Nat.le_trans hz7 hb) : MsgsOut w _ v7 w7)
        clear hv7 hb7 hz7
        go_wp2_with fail
        go_ret
        exact ⟨v7, rfl, HV.out, ⟨A, c, HR0.out⟩, HK.out⟩
end Go.Proofs.YtjcljkbalpgfdaaGreat
