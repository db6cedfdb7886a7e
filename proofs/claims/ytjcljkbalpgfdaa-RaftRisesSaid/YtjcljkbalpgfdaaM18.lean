/-
  Parts that the statement rests on, joined: Psettle, Plead.
-/
import Derived.Test.YtjcljkbalpgfdaaM10
import Derived.Test.YtjcljkbalpgfdaaM11
import Derived.Test.YtjcljkbalpgfdaaM17
import Derived.Test.YtjcljkbalpgfdaaM19
/-
  What settle leaves.
-/



namespace Go.Proofs.Ytjcljkbalpgfdaa
open Go.RowKit

set_option maxRecDepth 100000 in
theorem psettle_any (n : Rf.Id) (F : Foot) (s : Rf.St) (hg : Rf.Good n s) (A : Option Addr) (c : Nat) (w : World) (h : QMem n F w s A c) :
    Calls Try.prog 33 #[.pointer (some ⟨F.g, 0, none⟩)] w fun e w' => e = .returned (.tuple #[]) ∧ QMem n F w' (Rf.settle s) A c ∧ Kept F.has w w' := by
  have HR0 := Lib.hid h
  have HM := Lib.hid h.st
  have hup := hg.upto
  have HCM := Lib.hid (fun W (hb : Below w.heap.size w W) => commit_any 0 0 _ s.l _ s.mt (by rw [hg.mt]; have := hg.many; omega) s.b.1 s.upto (by omega) W w.heap.size hb.size (h.sl.below hb) ((Sl.rowN h.m hg.mt (fun x hx => by have := hg.mts x hx; omega) hg.many).below hb))
  clear h hg
  unfold rmc at HM
  unfold Rf.settle Rf.lg
  generalize Qr.commit (0, 0, s.l) s.mt s.b.1 s.upto = R at *
  go_enter Try.func33, Try.ntmps33
  refine z_start ((w).drew.heap.size) [21] (by kernel_rfl) ?_
  have HC := Lib.hid (Below.refl ((w).drew.heap.size) (w).drew)
  have hBz : (w).drew.heap.size ≤ (w).drew.heap.size := Nat.le_refl _
  replace HM := Lib.hid (show Whole (w).drew _ _ _ from HM.out)
  have hlt := HM.out.lt
  have HD := Lib.hid ((Below.refl w.heap.size w).drew)
  generalize (w).drew = z1 at *
  refine z_take (i := 0) (v := ?_) rfl (by kernel_rfl) (by kernel_rfl) (by kernel_rfl) (k0 := 0) (by kernel_rfl) (by kernel_rfl) (.inl rfl) (fun _ _ _ h => h) (by rfl) HC.out ?_ ?_
  rotate_left
  · intro W hW
    go_simp
    first | done | rfl
  simp only [Act.put, List.setIfInBounds_toArray, List.set_cons_zero, List.set_cons_succ, List.getElem_toArray, List.getElem_cons_zero]
  refine z_take (i := 1) (v := ?_) rfl (by kernel_rfl) (by kernel_rfl) (by kernel_rfl) (k0 := 1) (by kernel_rfl) (by kernel_rfl) (.inl rfl) (fun _ _ _ h => h) (by rfl) HC.out ?_ ?_
  rotate_left
  · intro W hW
    go_simp
    first | done | rfl
  simp only [Act.put, List.setIfInBounds_toArray, List.set_cons_zero, List.set_cons_succ, List.getElem_toArray, List.getElem_cons_zero, List.getElem_cons_succ]
  refine z_take (i := 2) (v := ?_) rfl (by kernel_rfl) (by kernel_rfl) (by kernel_rfl) (k0 := 2) (by kernel_rfl) (by kernel_rfl) (.inl rfl) (fun _ _ _ h => h) (by rfl) HC.out ?_ ?_
  rotate_left
  · intro W hW
    go_simp
    first | done | rfl
  simp only [Act.put, List.setIfInBounds_toArray, List.set_cons_zero, List.set_cons_succ, List.getElem_toArray, List.getElem_cons_zero, List.getElem_cons_succ]
  refine z_take (i := 3) (v := ?_) rfl (by kernel_rfl) (by kernel_rfl) (by kernel_rfl) (k0 := 3) (by kernel_rfl) (by kernel_rfl) (.inl rfl) (fun _ _ _ h => h) (by rfl) HC.out ?_ ?_
  rotate_left
  · intro W hW
    go_simp
    first | done | rfl
  simp only [Act.put, List.setIfInBounds_toArray, List.set_cons_zero, List.set_cons_succ, List.getElem_toArray, List.getElem_cons_zero, List.getElem_cons_succ]
  refine z_take (i := 4) (v := ?_) rfl (by kernel_rfl) (by kernel_rfl) (by kernel_rfl) (k0 := 4) (by kernel_rfl) (by kernel_rfl) (.inl rfl) (fun _ _ _ h => h) (by rfl) HC.out ?_ ?_
  rotate_left
  · intro W hW
    obtain ⟨k0, k1, k2, k3, k4, k5, k6, k7, k8, k9, k10, k11⟩ := (HM.out.below hW hlt).c12
    go_simp
    first | done | rfl
  simp only [Act.put, List.setIfInBounds_toArray, List.set_cons_zero, List.set_cons_succ, List.getElem_toArray, List.getElem_cons_zero, List.getElem_cons_succ]
  refine z_take (i := 5) (v := ?_) rfl (by kernel_rfl) (by kernel_rfl) (by kernel_rfl) (k0 := 5) (by kernel_rfl) (by kernel_rfl) (.inl rfl) (fun _ _ _ h => h) (by rfl) HC.out ?_ ?_
  rotate_left
  · intro W hW
    go_simp
    first | done | rfl
  simp only [Act.put, List.setIfInBounds_toArray, List.set_cons_zero, List.set_cons_succ, List.getElem_toArray, List.getElem_cons_zero, List.getElem_cons_succ]
  refine z_take (i := 6) (v := ?_) rfl (by kernel_rfl) (by kernel_rfl) (by kernel_rfl) (k0 := 6) (by kernel_rfl) (by kernel_rfl) (.inl rfl) (fun _ _ _ h => h) (by rfl) HC.out ?_ ?_
  rotate_left
  · intro W hW
    go_simp
    first | done | rfl
  simp only [Act.put, List.setIfInBounds_toArray, List.set_cons_zero, List.set_cons_succ, List.getElem_toArray, List.getElem_cons_zero, List.getElem_cons_succ]
  refine z_take (i := 7) (v := ?_) rfl (by kernel_rfl) (by kernel_rfl) (by kernel_rfl) (k0 := 7) (by kernel_rfl) (by kernel_rfl) (.inl rfl) (fun _ _ _ h => h) (by rfl) HC.out ?_ ?_
  rotate_left
  · intro W hW
    go_simp
    first | done | rfl
  simp only [Act.put, List.setIfInBounds_toArray, List.set_cons_zero, List.set_cons_succ, List.getElem_toArray, List.getElem_cons_zero, List.getElem_cons_succ]
  refine z_take (i := 8) (v := ?_) rfl (by kernel_rfl) (by kernel_rfl) (by kernel_rfl) (k0 := 8) (by kernel_rfl) (by kernel_rfl) (.inl rfl) (fun _ _ _ h => h) (by rfl) HC.out ?_ ?_
  rotate_left
  · intro W hW
    obtain ⟨k0, k1, k2, k3, k4, k5, k6, k7, k8, k9, k10, k11⟩ := (HM.out.below hW hlt).c12
    go_simp
    first | done | rfl
  simp only [Act.put, List.setIfInBounds_toArray, List.set_cons_zero, List.set_cons_succ, List.getElem_toArray, List.getElem_cons_zero, List.getElem_cons_succ]
  refine z_take (i := 9) (v := ?_) rfl (by kernel_rfl) (by kernel_rfl) (by kernel_rfl) (k0 := 9) (by kernel_rfl) (by kernel_rfl) (.inl rfl) (fun _ _ _ h => h) (by rfl) HC.out ?_ ?_
  rotate_left
  · intro W hW
    go_simp
    first | done | rfl
  simp only [Act.put, List.setIfInBounds_toArray, List.set_cons_zero, List.set_cons_succ, List.getElem_toArray, List.getElem_cons_zero, List.getElem_cons_succ]
  refine z_take (i := 10) (v := ?_) rfl (by kernel_rfl) (by kernel_rfl) (by kernel_rfl) (k0 := 10) (by kernel_rfl) (by kernel_rfl) (.inl rfl) (fun _ _ _ h => h) (by rfl) HC.out ?_ ?_
  rotate_left
  · intro W hW
    go_simp
    first | done | rfl
  simp only [Act.put, List.setIfInBounds_toArray, List.set_cons_zero, List.set_cons_succ, List.getElem_toArray, List.getElem_cons_zero, List.getElem_cons_succ]
  refine z_take (i := 11) (v := ?_) rfl (by kernel_rfl) (by kernel_rfl) (by kernel_rfl) (k0 := 11) (by kernel_rfl) (by kernel_rfl) (.inl rfl) (fun _ _ _ h => h) (by rfl) HC.out ?_ ?_
  rotate_left
  · intro W hW
    go_simp
    first | done | rfl
  simp only [Act.put, List.setIfInBounds_toArray, List.set_cons_zero, List.set_cons_succ, List.getElem_toArray, List.getElem_cons_zero, List.getElem_cons_succ]
  refine z_take (i := 12) (v := ?_) rfl (by kernel_rfl) (by kernel_rfl) (by kernel_rfl) (k0 := 12) (by kernel_rfl) (by kernel_rfl) (.inl rfl) (fun _ _ _ h => h) (by rfl) HC.out ?_ ?_
  rotate_left
  · intro W hW
    go_simp
    first | done | rfl
  simp only [Act.put, List.setIfInBounds_toArray, List.set_cons_zero, List.set_cons_succ, List.getElem_toArray, List.getElem_cons_zero, List.getElem_cons_succ]
  refine z_take (i := 13) (v := ?_) rfl (by kernel_rfl) (by kernel_rfl) (by kernel_rfl) (k0 := 13) (by kernel_rfl) (by kernel_rfl) (.inl rfl) (fun _ _ _ h => h) (by rfl) HC.out ?_ ?_
  rotate_left
  · intro W hW
    obtain ⟨k0, k1, k2, k3, k4, k5, k6, k7, k8, k9, k10, k11⟩ := (HM.out.below hW hlt).c12
    go_simp
    first | done | rfl
  simp only [Act.put, List.setIfInBounds_toArray, List.set_cons_zero, List.set_cons_succ, List.getElem_toArray, List.getElem_cons_zero, List.getElem_cons_succ]
  refine z_take (i := 14) (v := ?_) rfl (by kernel_rfl) (by kernel_rfl) (by kernel_rfl) (k0 := 14) (by kernel_rfl) (by kernel_rfl) (.inl rfl) (fun _ _ _ h => h) (by rfl) HC.out ?_ ?_
  rotate_left
  · intro W hW
    go_simp
    first | done | rfl
  simp only [Act.put, List.setIfInBounds_toArray, List.set_cons_zero, List.set_cons_succ, List.getElem_toArray, List.getElem_cons_zero, List.getElem_cons_succ]
  refine z_take (i := 15) (v := ?_) rfl (by kernel_rfl) (by kernel_rfl) (by kernel_rfl) (k0 := 15) (by kernel_rfl) (by kernel_rfl) (.inl rfl) (fun _ _ _ h => h) (by rfl) HC.out ?_ ?_
  rotate_left
  · intro W hW
    go_simp
    first | done | rfl
  simp only [Act.put, List.setIfInBounds_toArray, List.set_cons_zero, List.set_cons_succ, List.getElem_toArray, List.getElem_cons_zero, List.getElem_cons_succ]
  refine z_take (i := 16) (v := ?_) rfl (by kernel_rfl) (by kernel_rfl) (by kernel_rfl) (k0 := 16) (by kernel_rfl) (by kernel_rfl) (.inl rfl) (fun _ _ _ h => h) (by rfl) HC.out ?_ ?_
  rotate_left
  · intro W hW
    go_simp
    first | done | rfl
  simp only [Act.put, List.setIfInBounds_toArray, List.set_cons_zero, List.set_cons_succ, List.getElem_toArray, List.getElem_cons_zero, List.getElem_cons_succ]
  refine z_take (i := 17) (v := ?_) rfl (by kernel_rfl) (by kernel_rfl) (by kernel_rfl) (k0 := 17) (by kernel_rfl) (by kernel_rfl) (.inl rfl) (fun _ _ _ h => h) (by rfl) HC.out ?_ ?_
  rotate_left
  · intro W hW
    obtain ⟨k0, k1, k2, k3, k4, k5, k6, k7, k8, k9, k10, k11⟩ := (HM.out.below hW hlt).c12
    go_simp
    first | done | rfl
  simp only [Act.put, List.setIfInBounds_toArray, List.set_cons_zero, List.set_cons_succ, List.getElem_toArray, List.getElem_cons_zero, List.getElem_cons_succ]
  refine z_one (i := 18) (by kernel_rfl) ?_
  refine onez_call (i := 18) (f := 44) (args := ?_) rfl (by rfl) ?_ ?_
  rotate_left
  · go_simp
    first | done | rfl
  with_reducible refine (HCM.out _ (HD.out.trans (HC.out.mono HD.out.size))).mono ?_
  rintro e z2 ⟨rfl, hb⟩
  refine ⟨_, rfl, fun _ => HC.out.trans (hb.mono hBz), ?_⟩
  replace HC := Lib.hid (HC.out.trans (hb.mono hBz))
  replace hBz := Nat.le_trans hBz hb.size
  clear hb
  simp only [Act.put, List.setIfInBounds_toArray, List.set_cons_zero, List.set_cons_succ, List.getElem_toArray, List.getElem_cons_zero, List.getElem_cons_succ]
  refine z_take (i := 19) (v := ?_) rfl (by kernel_rfl) (by kernel_rfl) (by kernel_rfl) (k0 := 20) (by kernel_rfl) (by kernel_rfl) (.inr (by kernel_rfl)) (fun _ _ _ h => h) (by rfl) HC.out ?_ ?_
  rotate_left
  · intro W hW
    go_simp
    first | done | rfl
  simp only [Act.put, List.setIfInBounds_toArray, List.set_cons_zero, List.set_cons_succ, List.getElem_toArray, List.getElem_cons_zero, List.getElem_cons_succ]
  refine z_take (i := 20) (v := ?_) rfl (by kernel_rfl) (by kernel_rfl) (by kernel_rfl) (k0 := 20) (by kernel_rfl) (by kernel_rfl) (.inl rfl) (fun _ _ _ h => h) (by rfl) HC.out ?_ ?_
  rotate_left
  · intro W hW
    go_simp
    first | done | rfl
  simp only [Act.put, List.setIfInBounds_toArray, List.set_cons_zero, List.set_cons_succ, List.getElem_toArray, List.getElem_cons_zero, List.getElem_cons_succ]
  refine z_one (i := 21) (by kernel_rfl) ?_
  obtain ⟨k0, k1, k2, k3, k4, k5, k6, k7, k8, k9, k10, k11⟩ := (HM.out.below HC.out hlt).c12
  have f8 := (HM.out.below HC.out hlt).free 8
  refine onez_skip (i := 21) (w' := ?_) rfl (by rfl) ?_ ?_ ?_
  rotate_left 1
  · go_simp
    first | done | rfl
  · exact fun h => absurd (by decide) h
  simp only [Act.put, List.getElem_toArray, List.getElem_cons_zero, List.getElem_cons_succ]
  refine z_done (by kernel_rfl) ?_
  have HF := Lib.hid (HR0.out.stay (HD.out.trans (HC.out.mono HD.out.size)))
  have HKK := Lib.hid (show Kept F.has w z2 from Below.kept (HD.out.trans (HC.out.mono HD.out.size)))
  clear HM HC HD hBz k0 k1 k2 k3 k4 k5 k6 k7 k8 k9 k10 k11 f8
  go_simp
  go_end0
  exact ⟨rfl, HF.out.cell 8 (.int .i64 R) (s' := { s with upto := R }) rfl rfl rfl rfl rfl, HKK.out.set (.inl (.inl rfl)) _⟩
end Go.Proofs.Ytjcljkbalpgfdaa

/-
  What lead answers and leaves.
-/



namespace Go.Proofs.Ytjcljkbalpgfdaa
open Go.RowKit

set_option maxRecDepth 100000 in
set_option maxHeartbeats 1600000 in
theorem plead_any (n : Rf.Id) (F : Foot) (s : Rf.St) (hg : Rf.Good n s) (hpos : 1 ≤ s.b.1) (A : Option Addr) (c : Nat) (w : World) (h : QMem n F w s A c) :
    Calls Try.prog 29 #[.pointer (some ⟨F.g, 0, none⟩)] w fun e w' => ∃ v, e = .returned v ∧ MsgsOut w (Rf.lead n s).2 v w' ∧ PTo n F A w (Rf.lead n s).1 w' := by
  have hgb := hg.begin_ hpos
  have HGB := Lib.hid hgb
  have HGF := Lib.hid (hgb.first hpos)
  have HGO := Lib.hid ((hgb.first hpos).own)
  have HGS := Lib.hid (((hgb.first hpos).own).settle)
  have hlen := hg.len
  have HR0 := Lib.hid h
  have HL0 := Lib.hid (fun W (hr : QMem n F W { s with is := 2 } A c) => last_any 0 0 _ s.l W W.heap.size (Nat.le_refl _) hr.sl)
  have hl1 := hg.last1
  have hid1 := hg.id1
  have hid2 := hg.id2
  have hmany := hg.many
  have HNL := Lib.hid hg.nx
  have HML := Lib.hid hg.mt
  clear h hg hgb
  unfold Rf.last Rf.lg at hl1
  generalize hp : Lg.last (0, 0, s.l) = p at *
  obtain ⟨p1, p2⟩ := p
  have HP := Lib.hid hp
  clear hp
  simp only at hl1 HL0
  subst hl1
  unfold Rf.lead
  generalize hsf : Rf.first (Rf.begin_ n s) = sf at *
  have HSF := Lib.hid hsf
  clear hsf
  go_enter Try.func29, Try.ntmps29
  have hst := HR0.out.st
  dsimp only [rmc] at hst
  obtain ⟨k0, k1, k2, k3, k4, k5, k6, k7, k8, k9, k10, k11⟩ := hst.c12
  have f7 := hst.free 7
  clear hst
  have HR1 := Lib.hid (HR0.out.cell 7 (.int .i64 2) (s' := { s with is := 2 }) rfl rfl rfl rfl rfl)
  have HK := Lib.hid ((Kept.refl F.has w).set (p := ⟨F.g, 7, none⟩) (.inl (.inl rfl)) (.int .i64 2))
  have hst := HR1.out.st
  dsimp only [rmc] at hst
  obtain ⟨j0, j1, j2, j3, j4, j5, j6, j7, j8, j9, j10, j11⟩ := hst.c12
  clear hst
  go_wp2_with fail
  clear k0 k1 k2 k3 k4 k5 k6 k7 k8 k9 k10 k11 f7 j0 j1 j2 j3 j4 j5 j6 j7 j8 j9 j10 j11
  clear HR0
  have HR0 := HR1
  clear HR1
  generalize hw1 : World.setCell _ _ _ = w1 at *
  clear hw1
  with_reducible refine (HL0.out _ HR0.out).mono ?_
  rintro e w2 ⟨rfl, hb⟩
  replace HR0 := Lib.hid (HR0.out.stay hb)
  replace HK := Lib.hid (HK.out.trans (Below.kept hb))
  clear hb HL0
  have hst := HR0.out.st
  dsimp only [rmc] at hst
  obtain ⟨k0, k1, k2, k3, k4, k5, k6, k7, k8, k9, k10, k11⟩ := hst.c12
  clear hst
  go_wp2_with fail
  clear k0 k1 k2 k3 k4 k5 k6 k7 k8 k9 k10 k11
  go_loopw [21] (fun kv wr => ∃ (j : Nat) (X Y : List Int), j ≤ n.many ∧ kv = .int .i64 (j : Int) ∧ Hid (QMem n F wr { s with is := 2, nx := X, mt := Y } A c) ∧ Hid (Kept F.has w wr) ∧ Hid (X = List.replicate j ((s.l.length : Int) + 1) ++ s.nx.drop j) ∧ Hid (Y = List.replicate j 0 ++ s.mt.drop j)) (fun kv _ => n.many - (intOf kv).toNat)
  case atStart => exact ⟨0, s.nx, s.mt, Nat.zero_le _, rfl, HR0, HK, rfl, rfl⟩
  case round =>
    obtain ⟨j, X, Y, hj, rfl, hr, hk, hX, hY⟩ := hrel
    clear HR0 HK
    by_cases hlt : j < n.many
    · have hle : decide ((j : Int) < (n.many : Int)) = true := by simp; omega
      have hXl : j < X.length := by rw [hX.out, List.length_append, List.length_replicate, List.length_drop, HNL.out]; omega
      have hYl : j < Y.length := by rw [hY.out, List.length_append, List.length_replicate, List.length_drop, HML.out]; omega
      have HX2 := Lib.hid (show X.set j ((s.l.length : Int) + 1) = List.replicate (j + 1) ((s.l.length : Int) + 1) ++ s.nx.drop (j + 1) by rw [hX.out]; exact rep_set (by rw [HNL.out]; exact hlt))
      have HY2 := Lib.hid (show Y.set j 0 = List.replicate (j + 1) 0 ++ s.mt.drop (j + 1) by rw [hY.out]; exact rep_set (by rw [HML.out]; exact hlt))
      have HR0 := Lib.hid hr.out
      have HK := Lib.hid hk.out
      have hwr : IntKind.i64.wrap ((s.l.length : Int) + 1) = (s.l.length : Int) + 1 := by rw [IntKind.wrap_i64]; omega
      clear hr hk hX hY
      go_wp2_with fail
      have HM := Lib.hid HR0.out.st
      dsimp only [rmc] at HM
      have HN := Lib.hid HR0.out.x
      have HMM := Lib.hid HR0.out.m
      dsimp only at HN HMM
      refine z_start ((wr).drew.heap.size) [13, 15] (by kernel_rfl) ?_
      have HC := Lib.hid (Below.refl ((wr).drew.heap.size) (wr).drew)
      have hBz : (wr).drew.heap.size ≤ (wr).drew.heap.size := Nat.le_refl _
      replace HM := Lib.hid (show Whole (wr).drew _ _ _ from HM.out)
      have hltM := HM.out.lt
      replace HN := Lib.hid (show Whole (wr).drew _ _ _ from HN.out)
      have hltN := HN.out.lt
      replace HMM := Lib.hid (show Whole (wr).drew _ _ _ from HMM.out)
      have hltMM := HMM.out.lt
      replace HK := Lib.hid (HK.out.trans (Below.kept (Below.refl _ _).drew))
      replace HR0 := Lib.hid (HR0.out.stay (Below.refl _ _).drew)
      generalize (wr).drew = z1 at *
      refine z_take (i := 0) (v := ?_) rfl (by kernel_rfl) (by kernel_rfl) (by kernel_rfl) (k0 := 0) (by kernel_rfl) (by kernel_rfl) (.inl rfl) (fun _ _ _ h => h) (by rfl) HC.out ?_ ?_
      rotate_left
      · intro W hW
        go_simp
        first | done | rfl
      simp only [Act.put, List.setIfInBounds_toArray, List.set_cons_zero, List.set_cons_succ, List.getElem_toArray, List.getElem_cons_zero]
      refine z_take (i := 1) (v := ?_) rfl (by kernel_rfl) (by kernel_rfl) (by kernel_rfl) (k0 := 1) (by kernel_rfl) (by kernel_rfl) (.inl rfl) (fun _ _ _ h => h) (by rfl) HC.out ?_ ?_
      rotate_left
      · intro W hW
        go_simp
        first | done | rfl
      simp only [Act.put, List.setIfInBounds_toArray, List.set_cons_zero, List.set_cons_succ, List.getElem_toArray, List.getElem_cons_zero, List.getElem_cons_succ]
      refine z_take (i := 2) (v := ?_) rfl (by kernel_rfl) (by kernel_rfl) (by kernel_rfl) (k0 := 2) (by kernel_rfl) (by kernel_rfl) (.inl rfl) (fun _ _ _ h => h) (by rfl) HC.out ?_ ?_
      rotate_left
      · intro W hW
        go_simp
        first | done | rfl
      simp only [Act.put, List.setIfInBounds_toArray, List.set_cons_zero, List.set_cons_succ, List.getElem_toArray, List.getElem_cons_zero, List.getElem_cons_succ]
      refine z_take (i := 3) (v := ?_) rfl (by kernel_rfl) (by kernel_rfl) (by kernel_rfl) (k0 := 3) (by kernel_rfl) (by kernel_rfl) (.inl rfl) (fun _ _ _ h => h) (by rfl) HC.out ?_ ?_
      rotate_left
      · intro W hW
        obtain ⟨k0, k1, k2, k3, k4, k5, k6, k7, k8, k9, k10, k11⟩ := (HM.out.below hW hltM).c12
        go_simp
        first | done | rfl
      simp only [Act.put, List.setIfInBounds_toArray, List.set_cons_zero, List.set_cons_succ, List.getElem_toArray, List.getElem_cons_zero, List.getElem_cons_succ]
      refine z_take (i := 4) (v := ?_) rfl (by kernel_rfl) (by kernel_rfl) (by kernel_rfl) (k0 := 4) (by kernel_rfl) (by kernel_rfl) (.inl rfl) (fun _ _ _ h => h) (by rfl) HC.out ?_ ?_
      rotate_left
      · intro W hW
        go_simp
        first | done | rfl
      simp only [Act.put, List.setIfInBounds_toArray, List.set_cons_zero, List.set_cons_succ, List.getElem_toArray, List.getElem_cons_zero, List.getElem_cons_succ]
      refine z_take (i := 10) (v := ?_) rfl (by kernel_rfl) (by kernel_rfl) (by kernel_rfl) (k0 := 10) (by kernel_rfl) (by kernel_rfl) (.inl rfl) (fun _ _ _ h => h) (by rfl) HC.out ?_ ?_
      rotate_left
      · intro W hW
        go_simp
        first | done | rfl
      simp only [Act.put, List.setIfInBounds_toArray, List.set_cons_zero, List.set_cons_succ, List.getElem_toArray, List.getElem_cons_zero, List.getElem_cons_succ]
      refine z_take (i := 11) (v := ?_) rfl (by kernel_rfl) (by kernel_rfl) (by kernel_rfl) (k0 := 11) (by kernel_rfl) (by kernel_rfl) (.inl rfl) (fun _ _ _ h => h) (by rfl) HC.out ?_ ?_
      rotate_left
      · intro W hW
        go_simp
        first | done | rfl
      simp only [Act.put, List.setIfInBounds_toArray, List.set_cons_zero, List.set_cons_succ, List.getElem_toArray, List.getElem_cons_zero, List.getElem_cons_succ]
      refine z_two (i := 5) (j := 9) (by kernel_rfl) ?_ ?_
      · refine onez_same (i := 5) (v := ?_) rfl (by rfl) ?_ ?_
        rotate_left 1
        · go_simp
          first | done | rfl
        simp only [Act.put, List.setIfInBounds_toArray, List.set_cons_zero, List.set_cons_succ, List.getElem_toArray, List.getElem_cons_zero, List.getElem_cons_succ]
        refine z_two (i := 6) (j := 9) (by kernel_rfl) ?_ ?_
        · refine onez_same (i := 6) (v := ?_) rfl (by rfl) ?_ ?_
          rotate_left 1
          · go_simp
            first | done | rfl
          simp only [Act.put, List.setIfInBounds_toArray, List.set_cons_zero, List.set_cons_succ, List.getElem_toArray, List.getElem_cons_zero, List.getElem_cons_succ]
          refine z_take (i := 7) (v := ?_) rfl (by kernel_rfl) (by kernel_rfl) (by kernel_rfl) (k0 := 8) (by kernel_rfl) (by kernel_rfl) (.inr (by kernel_rfl)) (fun _ _ _ h => h) (by rfl) HC.out ?_ ?_
          rotate_left
          · intro W hW
            go_simp
            first | done | rfl
          simp only [Act.put, List.setIfInBounds_toArray, List.set_cons_zero, List.set_cons_succ, List.getElem_toArray, List.getElem_cons_zero, List.getElem_cons_succ]
          refine z_take (i := 8) (v := ?_) rfl (by kernel_rfl) (by kernel_rfl) (by kernel_rfl) (k0 := 8) (by kernel_rfl) (by kernel_rfl) (.inl rfl) (fun _ _ _ h => h) (by rfl) HC.out ?_ ?_
          rotate_left
          · intro W hW
            obtain ⟨k0, k1, k2, k3, k4, k5, k6, k7, k8, k9, k10, k11⟩ := (HM.out.below hW hltM).c12
            go_simp
            first | done | rfl
          simp only [Act.put, List.setIfInBounds_toArray, List.set_cons_zero, List.set_cons_succ, List.getElem_toArray, List.getElem_cons_zero, List.getElem_cons_succ]
          refine z_take (i := 12) (v := ?_) rfl (by kernel_rfl) (by kernel_rfl) (by kernel_rfl) (k0 := 12) (by kernel_rfl) (by kernel_rfl) (.inl rfl) (fun _ _ _ h => h) (by rfl) HC.out ?_ ?_
          rotate_left
          · intro W hW
            go_simp
            first | done | rfl
          simp only [Act.put, List.setIfInBounds_toArray, List.set_cons_zero, List.set_cons_succ, List.getElem_toArray, List.getElem_cons_zero, List.getElem_cons_succ]
          refine z_two (i := 9) (j := 13) (by kernel_rfl) ?_ ?_
          · refine onez_same (i := 9) (v := ?_) rfl (by rfl) ?_ ?_
            rotate_left 1
            · go_simp
              first | done | rfl
            simp only [Act.put, List.setIfInBounds_toArray, List.set_cons_zero, List.set_cons_succ, List.getElem_toArray, List.getElem_cons_zero, List.getElem_cons_succ]
            refine z_one (i := 13) (by kernel_rfl) ?_
            have kx := (HN.out.below HC.out hltN).rowN j hXl
            have fx := (HN.out.below HC.out hltN).free j
            refine onez_skip (i := 13) (w' := ?_) rfl (by rfl) ?_ ?_ ?_
            rotate_left 1
            · go_simp
              first | done | rfl
            · exact fun h => absurd (by decide) h
            simp only [Act.put, List.getElem_toArray, List.getElem_cons_zero, List.getElem_cons_succ]
            clear kx fx
            refine z_one (i := 14) (by kernel_rfl) ?_
            refine onez_same (i := 14) (v := ?_) rfl (by rfl) ?_ ?_
            rotate_left 1
            · go_simp
              first | done | rfl
            simp only [Act.put, List.setIfInBounds_toArray, List.set_cons_zero, List.set_cons_succ, List.getElem_toArray, List.getElem_cons_zero, List.getElem_cons_succ]
            refine z_one (i := 15) (by kernel_rfl) ?_
            have HR2 := Lib.hid ((HR0.out.stay HC.out).setX j ((s.l.length : Int) + 1))
            dsimp only at HR2
            have ky := HR2.out.m.rowN j hYl
            have fy := HR2.out.m.free j
            have HR3 := Lib.hid (HR2.out.setM j 0)
            dsimp only at HR3
            refine onez_skip (i := 15) (w' := ?_) rfl (by rfl) ?_ ?_ ?_
            rotate_left 1
            · go_simp
              first | done | rfl
            · exact fun h => absurd (by decide) h
            simp only [Act.put, List.getElem_toArray, List.getElem_cons_zero, List.getElem_cons_succ]
            clear ky fy
            refine z_done (by kernel_rfl) ?_
            replace HR3 := Lib.hid HR3.out
            have HK3 := Lib.hid (((HK.out.trans (Below.kept HC.out)).set (p := ⟨F.gn, j, none⟩) (.inl (.inr (.inr (.inr rfl)))) (.int .i64 ((s.l.length : Int) + 1))).set (p := ⟨F.gm, j, none⟩) (.inl (.inr (.inr (.inl rfl)))) (.int .i64 0))
            clear HR0 HR2 HK HC hBz HM hltM HN hltN HMM hltMM
            go_simp
            generalize hw5 : World.setCell (World.setCell _ _ _) _ _ = w5 at *
            clear hw5
            go_wp2_with fail
            go_roundw
            case rel => exact ⟨j + 1, X.set j ((s.l.length : Int) + 1), Y.set j 0, by omega, by go_num, HR3, HK3, HX2, HY2⟩
            case measure => simp [intOf]; omega
          · have kx := (HN.out.below HC.out hltN).rowN j hXl
            have fx := (HN.out.below HC.out hltN).free j
            refine onez_skip (i := 13) (w' := ?_) rfl (by rfl) ?_ ?_ ?_
            rotate_left 1
            · go_simp
              first | done | rfl
            · exact fun h => absurd (by decide) h
            simp only [Act.put, List.getElem_toArray, List.getElem_cons_zero, List.getElem_cons_succ]
            clear kx fx
            refine z_one (i := 9) (by kernel_rfl) ?_
            refine onez_same (i := 9) (v := ?_) rfl (by rfl) ?_ ?_
            rotate_left 1
            · go_simp
              first | done | rfl
            simp only [Act.put, List.setIfInBounds_toArray, List.set_cons_zero, List.set_cons_succ, List.getElem_toArray, List.getElem_cons_zero, List.getElem_cons_succ]
            refine z_one (i := 14) (by kernel_rfl) ?_
            refine onez_same (i := 14) (v := ?_) rfl (by rfl) ?_ ?_
            rotate_left 1
            · go_simp
              first | done | rfl
            simp only [Act.put, List.setIfInBounds_toArray, List.set_cons_zero, List.set_cons_succ, List.getElem_toArray, List.getElem_cons_zero, List.getElem_cons_succ]
            refine z_one (i := 15) (by kernel_rfl) ?_
            have HR2 := Lib.hid ((HR0.out.stay HC.out).setX j ((s.l.length : Int) + 1))
            dsimp only at HR2
            have ky := HR2.out.m.rowN j hYl
            have fy := HR2.out.m.free j
            have HR3 := Lib.hid (HR2.out.setM j 0)
            dsimp only at HR3
            refine onez_skip (i := 15) (w' := ?_) rfl (by rfl) ?_ ?_ ?_
            rotate_left 1
            · go_simp
              first | done | rfl
            · exact fun h => absurd (by decide) h
            simp only [Act.put, List.getElem_toArray, List.getElem_cons_zero, List.getElem_cons_succ]
            clear ky fy
            refine z_done (by kernel_rfl) ?_
            replace HR3 := Lib.hid HR3.out
            have HK3 := Lib.hid (((HK.out.trans (Below.kept HC.out)).set (p := ⟨F.gn, j, none⟩) (.inl (.inr (.inr (.inr rfl)))) (.int .i64 ((s.l.length : Int) + 1))).set (p := ⟨F.gm, j, none⟩) (.inl (.inr (.inr (.inl rfl)))) (.int .i64 0))
            clear HR0 HR2 HK HC hBz HM hltM HN hltN HMM hltMM
            go_simp
            generalize hw5 : World.setCell (World.setCell _ _ _) _ _ = w5 at *
            clear hw5
            go_wp2_with fail
            go_roundw
            case rel => exact ⟨j + 1, X.set j ((s.l.length : Int) + 1), Y.set j 0, by omega, by go_num, HR3, HK3, HX2, HY2⟩
            case measure => simp [intOf]; omega
        · refine onez_same (i := 9) (v := ?_) rfl (by rfl) ?_ ?_
          rotate_left 1
          · go_simp
            first | done | rfl
          simp only [Act.put, List.setIfInBounds_toArray, List.set_cons_zero, List.set_cons_succ, List.getElem_toArray, List.getElem_cons_zero, List.getElem_cons_succ]
          refine z_one (i := 6) (by kernel_rfl) ?_
          refine onez_same (i := 6) (v := ?_) rfl (by rfl) ?_ ?_
          rotate_left 1
          · go_simp
            first | done | rfl
          simp only [Act.put, List.setIfInBounds_toArray, List.set_cons_zero, List.set_cons_succ, List.getElem_toArray, List.getElem_cons_zero, List.getElem_cons_succ]
          refine z_take (i := 7) (v := ?_) rfl (by kernel_rfl) (by kernel_rfl) (by kernel_rfl) (k0 := 8) (by kernel_rfl) (by kernel_rfl) (.inr (by kernel_rfl)) (fun _ _ _ h => h) (by rfl) HC.out ?_ ?_
          rotate_left
          · intro W hW
            go_simp
            first | done | rfl
          simp only [Act.put, List.setIfInBounds_toArray, List.set_cons_zero, List.set_cons_succ, List.getElem_toArray, List.getElem_cons_zero, List.getElem_cons_succ]
          refine z_take (i := 8) (v := ?_) rfl (by kernel_rfl) (by kernel_rfl) (by kernel_rfl) (k0 := 8) (by kernel_rfl) (by kernel_rfl) (.inl rfl) (fun _ _ _ h => h) (by rfl) HC.out ?_ ?_
          rotate_left
          · intro W hW
            obtain ⟨k0, k1, k2, k3, k4, k5, k6, k7, k8, k9, k10, k11⟩ := (HM.out.below hW hltM).c12
            go_simp
            first | done | rfl
          simp only [Act.put, List.setIfInBounds_toArray, List.set_cons_zero, List.set_cons_succ, List.getElem_toArray, List.getElem_cons_zero, List.getElem_cons_succ]
          refine z_take (i := 12) (v := ?_) rfl (by kernel_rfl) (by kernel_rfl) (by kernel_rfl) (k0 := 12) (by kernel_rfl) (by kernel_rfl) (.inl rfl) (fun _ _ _ h => h) (by rfl) HC.out ?_ ?_
          rotate_left
          · intro W hW
            go_simp
            first | done | rfl
          simp only [Act.put, List.setIfInBounds_toArray, List.set_cons_zero, List.set_cons_succ, List.getElem_toArray, List.getElem_cons_zero, List.getElem_cons_succ]
          refine z_one (i := 13) (by kernel_rfl) ?_
          have kx := (HN.out.below HC.out hltN).rowN j hXl
          have fx := (HN.out.below HC.out hltN).free j
          refine onez_skip (i := 13) (w' := ?_) rfl (by rfl) ?_ ?_ ?_
          rotate_left 1
          · go_simp
            first | done | rfl
          · exact fun h => absurd (by decide) h
          simp only [Act.put, List.getElem_toArray, List.getElem_cons_zero, List.getElem_cons_succ]
          clear kx fx
          refine z_one (i := 14) (by kernel_rfl) ?_
          refine onez_same (i := 14) (v := ?_) rfl (by rfl) ?_ ?_
          rotate_left 1
          · go_simp
            first | done | rfl
          simp only [Act.put, List.setIfInBounds_toArray, List.set_cons_zero, List.set_cons_succ, List.getElem_toArray, List.getElem_cons_zero, List.getElem_cons_succ]
          refine z_one (i := 15) (by kernel_rfl) ?_
          have HR2 := Lib.hid ((HR0.out.stay HC.out).setX j ((s.l.length : Int) + 1))
          dsimp only at HR2
          have ky := HR2.out.m.rowN j hYl
          have fy := HR2.out.m.free j
          have HR3 := Lib.hid (HR2.out.setM j 0)
          dsimp only at HR3
          refine onez_skip (i := 15) (w' := ?_) rfl (by rfl) ?_ ?_ ?_
          rotate_left 1
          · go_simp
            first | done | rfl
          · exact fun h => absurd (by decide) h
          simp only [Act.put, List.getElem_toArray, List.getElem_cons_zero, List.getElem_cons_succ]
          clear ky fy
          refine z_done (by kernel_rfl) ?_
          replace HR3 := Lib.hid HR3.out
          have HK3 := Lib.hid (((HK.out.trans (Below.kept HC.out)).set (p := ⟨F.gn, j, none⟩) (.inl (.inr (.inr (.inr rfl)))) (.int .i64 ((s.l.length : Int) + 1))).set (p := ⟨F.gm, j, none⟩) (.inl (.inr (.inr (.inl rfl)))) (.int .i64 0))
          clear HR0 HR2 HK HC hBz HM hltM HN hltN HMM hltMM
          go_simp
          generalize hw5 : World.setCell (World.setCell _ _ _) _ _ = w5 at *
          clear hw5
          go_wp2_with fail
          go_roundw
          case rel => exact ⟨j + 1, X.set j ((s.l.length : Int) + 1), Y.set j 0, by omega, by go_num, HR3, HK3, HX2, HY2⟩
          case measure => simp [intOf]; omega
      · refine onez_same (i := 9) (v := ?_) rfl (by rfl) ?_ ?_
        rotate_left 1
        · go_simp
          first | done | rfl
        simp only [Act.put, List.setIfInBounds_toArray, List.set_cons_zero, List.set_cons_succ, List.getElem_toArray, List.getElem_cons_zero, List.getElem_cons_succ]
        refine z_one (i := 5) (by kernel_rfl) ?_
        refine onez_same (i := 5) (v := ?_) rfl (by rfl) ?_ ?_
        rotate_left 1
        · go_simp
          first | done | rfl
        simp only [Act.put, List.setIfInBounds_toArray, List.set_cons_zero, List.set_cons_succ, List.getElem_toArray, List.getElem_cons_zero, List.getElem_cons_succ]
        refine z_one (i := 6) (by kernel_rfl) ?_
        refine onez_same (i := 6) (v := ?_) rfl (by rfl) ?_ ?_
        rotate_left 1
        · go_simp
          first | done | rfl
        simp only [Act.put, List.setIfInBounds_toArray, List.set_cons_zero, List.set_cons_succ, List.getElem_toArray, List.getElem_cons_zero, List.getElem_cons_succ]
        refine z_take (i := 7) (v := ?_) rfl (by kernel_rfl) (by kernel_rfl) (by kernel_rfl) (k0 := 8) (by kernel_rfl) (by kernel_rfl) (.inr (by kernel_rfl)) (fun _ _ _ h => h) (by rfl) HC.out ?_ ?_
        rotate_left
        · intro W hW
          go_simp
          first | done | rfl
        simp only [Act.put, List.setIfInBounds_toArray, List.set_cons_zero, List.set_cons_succ, List.getElem_toArray, List.getElem_cons_zero, List.getElem_cons_succ]
        refine z_take (i := 8) (v := ?_) rfl (by kernel_rfl) (by kernel_rfl) (by kernel_rfl) (k0 := 8) (by kernel_rfl) (by kernel_rfl) (.inl rfl) (fun _ _ _ h => h) (by rfl) HC.out ?_ ?_
        rotate_left
        · intro W hW
          obtain ⟨k0, k1, k2, k3, k4, k5, k6, k7, k8, k9, k10, k11⟩ := (HM.out.below hW hltM).c12
          go_simp
          first | done | rfl
        simp only [Act.put, List.setIfInBounds_toArray, List.set_cons_zero, List.set_cons_succ, List.getElem_toArray, List.getElem_cons_zero, List.getElem_cons_succ]
        refine z_take (i := 12) (v := ?_) rfl (by kernel_rfl) (by kernel_rfl) (by kernel_rfl) (k0 := 12) (by kernel_rfl) (by kernel_rfl) (.inl rfl) (fun _ _ _ h => h) (by rfl) HC.out ?_ ?_
        rotate_left
        · intro W hW
          go_simp
          first | done | rfl
        simp only [Act.put, List.setIfInBounds_toArray, List.set_cons_zero, List.set_cons_succ, List.getElem_toArray, List.getElem_cons_zero, List.getElem_cons_succ]
        refine z_one (i := 13) (by kernel_rfl) ?_
        have kx := (HN.out.below HC.out hltN).rowN j hXl
        have fx := (HN.out.below HC.out hltN).free j
        refine onez_skip (i := 13) (w' := ?_) rfl (by rfl) ?_ ?_ ?_
        rotate_left 1
        · go_simp
          first | done | rfl
        · exact fun h => absurd (by decide) h
        simp only [Act.put, List.getElem_toArray, List.getElem_cons_zero, List.getElem_cons_succ]
        clear kx fx
        refine z_one (i := 14) (by kernel_rfl) ?_
        refine onez_same (i := 14) (v := ?_) rfl (by rfl) ?_ ?_
        rotate_left 1
        · go_simp
          first | done | rfl
        simp only [Act.put, List.setIfInBounds_toArray, List.set_cons_zero, List.set_cons_succ, List.getElem_toArray, List.getElem_cons_zero, List.getElem_cons_succ]
        refine z_one (i := 15) (by kernel_rfl) ?_
        have HR2 := Lib.hid ((HR0.out.stay HC.out).setX j ((s.l.length : Int) + 1))
        dsimp only at HR2
        have ky := HR2.out.m.rowN j hYl
        have fy := HR2.out.m.free j
        have HR3 := Lib.hid (HR2.out.setM j 0)
        dsimp only at HR3
        refine onez_skip (i := 15) (w' := ?_) rfl (by rfl) ?_ ?_ ?_
        rotate_left 1
        · go_simp
          first | done | rfl
        · exact fun h => absurd (by decide) h
        simp only [Act.put, List.getElem_toArray, List.getElem_cons_zero, List.getElem_cons_succ]
        clear ky fy
        refine z_done (by kernel_rfl) ?_
        replace HR3 := Lib.hid HR3.out
        have HK3 := Lib.hid (((HK.out.trans (Below.kept HC.out)).set (p := ⟨F.gn, j, none⟩) (.inl (.inr (.inr (.inr rfl)))) (.int .i64 ((s.l.length : Int) + 1))).set (p := ⟨F.gm, j, none⟩) (.inl (.inr (.inr (.inl rfl)))) (.int .i64 0))
        clear HR0 HR2 HK HC hBz HM hltM HN hltN HMM hltMM
        go_simp
        generalize hw5 : World.setCell (World.setCell _ _ _) _ _ = w5 at *
        clear hw5
        go_wp2_with fail
        go_roundw
        case rel => exact ⟨j + 1, X.set j ((s.l.length : Int) + 1), Y.set j 0, by omega, by go_num, HR3, HK3, HX2, HY2⟩
        case measure => simp [intOf]; omega
    · obtain rfl : j = n.many := by omega
      have hle : decide ((n.many : Int) < (n.many : Int)) = false := by simp
      have hX2 : X = List.replicate n.many ((s.l.length : Int) + 1) := by rw [hX.out, ← HNL.out, List.drop_length, List.append_nil]
      have hY2 : Y = List.replicate n.many 0 := by rw [hY.out, ← HML.out, List.drop_length, List.append_nil]
      have hsb : ({ s with is := 2, nx := X, mt := Y } : Rf.St) = Rf.begin_ n s := by unfold Rf.begin_ Rf.last Rf.lg; rw [HP.out, hX2, hY2]
      have HRB := Lib.hid hr.out
      rw [hsb] at HRB
      have HK := Lib.hid hk.out
      clear hr hk hX hY hX2 hY2 hsb X Y
      have hst := HRB.out.st
      dsimp only [rmc, Rf.begin_] at hst
      obtain ⟨k0, k1, k2, k3, k4, k5, k6, k7, k8, k9, k10, k11⟩ := hst.c12
      clear hst
      have hbl : (Rf.begin_ n s).l = s.l := rfl
      have hzw := HK.out.size
      by_cases h64 : s.l.length < 64
      · have hfi : sf = Rf.put (Rf.begin_ n s) (0, 0, 0, 0, 0, 0) := by rw [← HSF.out]; unfold Rf.first; rw [if_pos (by rw [hbl]; exact h64)]
        have HFI := Lib.hid hfi
        clear hfi
        have d64 : decide ((s.l.length : Int) < 64) = true := by simp; omega
        go_wp2_with fail
        refine (pput_any n F _ HGB.out A c _ HRB.out (by rw [hbl]; exact h64) 0 0 0 0 0 0 (by unfold CmdFit; simp [Flat.wf])).mono ?_
        rintro e w3 ⟨rfl, A2, d2, hr3, hA3, hk3⟩
        have HR0 := Lib.hid hr3
        have HA2 := Lib.hid (show ∀ b, lbk A2 = some b → lbk A = some b ∨ w.heap.size ≤ b from fun b hb => (hA3 b hb).imp id (fun h => Nat.le_trans hzw h))
        replace HK := Lib.hid ((HK.out.gof (A := A)).trans hk3)
        clear hr3 hk3 hA3 k0 k1 k2 k3 k4 k5 k6 k7 k8 k9 k10 k11 HRB HGB
        rw [← HFI.out] at HR0
        clear HFI hbl
        go_wp2_with fail
        have HLL := Lib.hid (fun W (hr : QMem n F W sf A2 d2) => last_any 0 0 _ sf.l W W.heap.size (Nat.le_refl _) hr.sl)
        have HQ : Hid ({ sf with mt := sf.mt.set (n.id - 1) (Rf.last sf).1 } = Rf.own n sf) := Lib.hid rfl
        unfold Rf.last Rf.lg at HQ
        generalize Lg.last (0, 0, sf.l) = q at *
        obtain ⟨q1, q2⟩ := q
        simp only at HLL HQ
        have HM := Lib.hid HR0.out.st
        dsimp only [rmc] at HM
        have HN := Lib.hid HR0.out.m
        have HML2 := Lib.hid HGF.out.mt
        have hkw : IntKind.i64.wrap ((n.id : Int) - 1) = (n.id : Int) - 1 := by rw [IntKind.wrap_i64]; omega
        have hkn : ((n.id : Int) - 1).toNat = n.id - 1 := by omega
        have hki : (1 : Int) ≤ (n.id : Int) := by omega
        have hki2 : (n.id : Int) - 1 < (n.many : Int) := by omega
        refine z_start ((w3).drew.heap.size) [18] (by kernel_rfl) ?_
        have HC := Lib.hid (Below.refl ((w3).drew.heap.size) (w3).drew)
        have hBz : (w3).drew.heap.size ≤ (w3).drew.heap.size := Nat.le_refl _
        replace HM := Lib.hid (show Whole (w3).drew _ _ _ from HM.out)
        have hltM := HM.out.lt
        replace HN := Lib.hid (show Whole (w3).drew _ _ _ from HN.out)
        have hltN := HN.out.lt
        replace HK := Lib.hid (HK.out.trans (Below.kept (Below.refl _ _).drew))
        replace HR0 := Lib.hid (HR0.out.stay (Below.refl _ _).drew)
        generalize (w3).drew = y1 at *
        refine z_take (i := 0) (v := ?_) rfl (by kernel_rfl) (by kernel_rfl) (by kernel_rfl) (k0 := 0) (by kernel_rfl) (by kernel_rfl) (.inl rfl) (fun _ _ _ h => h) (by rfl) HC.out ?_ ?_
        rotate_left
        · intro W hW
          go_simp
          first | done | rfl
        simp only [Act.put, List.setIfInBounds_toArray, List.set_cons_zero, List.set_cons_succ, List.getElem_toArray, List.getElem_cons_zero]
        refine z_take (i := 1) (v := ?_) rfl (by kernel_rfl) (by kernel_rfl) (by kernel_rfl) (k0 := 1) (by kernel_rfl) (by kernel_rfl) (.inl rfl) (fun _ _ _ h => h) (by rfl) HC.out ?_ ?_
        rotate_left
        · intro W hW
          go_simp
          first | done | rfl
        simp only [Act.put, List.setIfInBounds_toArray, List.set_cons_zero, List.set_cons_succ, List.getElem_toArray, List.getElem_cons_zero, List.getElem_cons_succ]
        refine z_take (i := 2) (v := ?_) rfl (by kernel_rfl) (by kernel_rfl) (by kernel_rfl) (k0 := 2) (by kernel_rfl) (by kernel_rfl) (.inl rfl) (fun _ _ _ h => h) (by rfl) HC.out ?_ ?_
        rotate_left
        · intro W hW
          go_simp
          first | done | rfl
        simp only [Act.put, List.setIfInBounds_toArray, List.set_cons_zero, List.set_cons_succ, List.getElem_toArray, List.getElem_cons_zero, List.getElem_cons_succ]
        refine z_take (i := 3) (v := ?_) rfl (by kernel_rfl) (by kernel_rfl) (by kernel_rfl) (k0 := 3) (by kernel_rfl) (by kernel_rfl) (.inl rfl) (fun _ _ _ h => h) (by rfl) HC.out ?_ ?_
        rotate_left
        · intro W hW
          obtain ⟨k0, k1, k2, k3, k4, k5, k6, k7, k8, k9, k10, k11⟩ := (HM.out.below hW hltM).c12
          go_simp
          first | done | rfl
        simp only [Act.put, List.setIfInBounds_toArray, List.set_cons_zero, List.set_cons_succ, List.getElem_toArray, List.getElem_cons_zero, List.getElem_cons_succ]
        refine z_take (i := 4) (v := ?_) rfl (by kernel_rfl) (by kernel_rfl) (by kernel_rfl) (k0 := 4) (by kernel_rfl) (by kernel_rfl) (.inl rfl) (fun _ _ _ h => h) (by rfl) HC.out ?_ ?_
        rotate_left
        · intro W hW
          go_simp
          first | done | rfl
        simp only [Act.put, List.setIfInBounds_toArray, List.set_cons_zero, List.set_cons_succ, List.getElem_toArray, List.getElem_cons_zero, List.getElem_cons_succ]
        refine z_take (i := 5) (v := ?_) rfl (by kernel_rfl) (by kernel_rfl) (by kernel_rfl) (k0 := 5) (by kernel_rfl) (by kernel_rfl) (.inl rfl) (fun _ _ _ h => h) (by rfl) HC.out ?_ ?_
        rotate_left
        · intro W hW
          go_simp
          first | done | rfl
        simp only [Act.put, List.setIfInBounds_toArray, List.set_cons_zero, List.set_cons_succ, List.getElem_toArray, List.getElem_cons_zero, List.getElem_cons_succ]
        refine z_take (i := 6) (v := ?_) rfl (by kernel_rfl) (by kernel_rfl) (by kernel_rfl) (k0 := 6) (by kernel_rfl) (by kernel_rfl) (.inl rfl) (fun _ _ _ h => h) (by rfl) HC.out ?_ ?_
        rotate_left
        · intro W hW
          go_simp
          first | done | rfl
        simp only [Act.put, List.setIfInBounds_toArray, List.set_cons_zero, List.set_cons_succ, List.getElem_toArray, List.getElem_cons_zero, List.getElem_cons_succ]
        refine z_take (i := 7) (v := ?_) rfl (by kernel_rfl) (by kernel_rfl) (by kernel_rfl) (k0 := 7) (by kernel_rfl) (by kernel_rfl) (.inl rfl) (fun _ _ _ h => h) (by rfl) HC.out ?_ ?_
        rotate_left
        · intro W hW
          obtain ⟨k0, k1, k2, k3, k4, k5, k6, k7, k8, k9, k10, k11⟩ := (HM.out.below hW hltM).c12
          go_simp
          first | done | rfl
        simp only [Act.put, List.setIfInBounds_toArray, List.set_cons_zero, List.set_cons_succ, List.getElem_toArray, List.getElem_cons_zero, List.getElem_cons_succ]
        refine z_take (i := 8) (v := ?_) rfl (by kernel_rfl) (by kernel_rfl) (by kernel_rfl) (k0 := 8) (by kernel_rfl) (by kernel_rfl) (.inl rfl) (fun _ _ _ h => h) (by rfl) HC.out ?_ ?_
        rotate_left
        · intro W hW
          go_simp
          first | done | rfl
        simp only [Act.put, List.setIfInBounds_toArray, List.set_cons_zero, List.set_cons_succ, List.getElem_toArray, List.getElem_cons_zero, List.getElem_cons_succ]
        refine z_take (i := 9) (v := ?_) rfl (by kernel_rfl) (by kernel_rfl) (by kernel_rfl) (k0 := 9) (by kernel_rfl) (by kernel_rfl) (.inl rfl) (fun _ _ _ h => h) (by rfl) HC.out ?_ ?_
        rotate_left
        · intro W hW
          go_simp
          first | done | rfl
        simp only [Act.put, List.setIfInBounds_toArray, List.set_cons_zero, List.set_cons_succ, List.getElem_toArray, List.getElem_cons_zero, List.getElem_cons_succ]
        refine z_take (i := 10) (v := ?_) rfl (by kernel_rfl) (by kernel_rfl) (by kernel_rfl) (k0 := 10) (by kernel_rfl) (by kernel_rfl) (.inl rfl) (fun _ _ _ h => h) (by rfl) HC.out ?_ ?_
        rotate_left
        · intro W hW
          go_simp
          first | done | rfl
        simp only [Act.put, List.setIfInBounds_toArray, List.set_cons_zero, List.set_cons_succ, List.getElem_toArray, List.getElem_cons_zero, List.getElem_cons_succ]
        refine z_take (i := 11) (v := ?_) rfl (by kernel_rfl) (by kernel_rfl) (by kernel_rfl) (k0 := 11) (by kernel_rfl) (by kernel_rfl) (.inl rfl) (fun _ _ _ h => h) (by rfl) HC.out ?_ ?_
        rotate_left
        · intro W hW
          go_simp
          first | done | rfl
        simp only [Act.put, List.setIfInBounds_toArray, List.set_cons_zero, List.set_cons_succ, List.getElem_toArray, List.getElem_cons_zero, List.getElem_cons_succ]
        refine z_take (i := 12) (v := ?_) rfl (by kernel_rfl) (by kernel_rfl) (by kernel_rfl) (k0 := 12) (by kernel_rfl) (by kernel_rfl) (.inl rfl) (fun _ _ _ h => h) (by rfl) HC.out ?_ ?_
        rotate_left
        · intro W hW
          obtain ⟨k0, k1, k2, k3, k4, k5, k6, k7, k8, k9, k10, k11⟩ := (HM.out.below hW hltM).c12
          go_simp
          first | done | rfl
        simp only [Act.put, List.setIfInBounds_toArray, List.set_cons_zero, List.set_cons_succ, List.getElem_toArray, List.getElem_cons_zero, List.getElem_cons_succ]
        refine z_one (i := 13) (by kernel_rfl) ?_
        refine onez_call (i := 13) (f := 21) (args := ?_) rfl (by rfl) ?_ ?_
        rotate_left
        · go_simp
          first | done | rfl
        with_reducible refine (HLL.out _ (HR0.out.stay HC.out)).mono ?_
        rintro e y2 ⟨rfl, hb⟩
        refine ⟨_, rfl, fun _ => HC.out.trans (hb.mono hBz), ?_⟩
        replace HC := Lib.hid (HC.out.trans (hb.mono hBz))
        replace hBz := Nat.le_trans hBz hb.size
        clear hb
        simp only [Act.put, List.setIfInBounds_toArray, List.set_cons_zero, List.set_cons_succ, List.getElem_toArray, List.getElem_cons_zero, List.getElem_cons_succ]
        refine z_take (i := 14) (v := ?_) rfl (by kernel_rfl) (by kernel_rfl) (by kernel_rfl) (k0 := 14) (by kernel_rfl) (by kernel_rfl) (.inl rfl) (fun _ _ _ h => h) (by rfl) HC.out ?_ ?_
        rotate_left
        · intro W hW
          go_simp
          first | done | rfl
        simp only [Act.put, List.setIfInBounds_toArray, List.set_cons_zero, List.set_cons_succ, List.getElem_toArray, List.getElem_cons_zero, List.getElem_cons_succ]
        refine z_take (i := 15) (v := ?_) rfl (by kernel_rfl) (by kernel_rfl) (by kernel_rfl) (k0 := 15) (by kernel_rfl) (by kernel_rfl) (.inl rfl) (fun _ _ _ h => h) (by rfl) HC.out ?_ ?_
        rotate_left
        · intro W hW
          go_simp
          first | done | rfl
        simp only [Act.put, List.setIfInBounds_toArray, List.set_cons_zero, List.set_cons_succ, List.getElem_toArray, List.getElem_cons_zero, List.getElem_cons_succ]
        refine z_take (i := 17) (v := ?_) rfl (by kernel_rfl) (by kernel_rfl) (by kernel_rfl) (k0 := 17) (by kernel_rfl) (by kernel_rfl) (.inl rfl) (fun _ _ _ h => h) (by rfl) HC.out ?_ ?_
        rotate_left
        · intro W hW
          go_simp
          first | done | rfl
        simp only [Act.put, List.setIfInBounds_toArray, List.set_cons_zero, List.set_cons_succ, List.getElem_toArray, List.getElem_cons_zero, List.getElem_cons_succ]
        refine z_two (i := 16) (j := 18) (by kernel_rfl) ?_ ?_
        · refine onez_same (i := 16) (v := ?_) rfl (by rfl) ?_ ?_
          rotate_left 1
          · go_simp
            first | done | rfl
          simp only [Act.put, List.setIfInBounds_toArray, List.set_cons_zero, List.set_cons_succ, List.getElem_toArray, List.getElem_cons_zero, List.getElem_cons_succ]
          refine z_one (i := 18) (by kernel_rfl) ?_
          have kn := (HN.out.below HC.out hltN).rowN (n.id - 1) (by rw [HML2.out]; omega)
          have fn := (HN.out.below HC.out hltN).free (n.id - 1)
          refine onez_skip (i := 18) (w' := ?_) rfl (by rfl) ?_ ?_ ?_
          rotate_left 1
          · go_simp
            first | done | rfl
          · exact fun h => absurd (by decide) h
          simp only [Act.put, List.getElem_toArray, List.getElem_cons_zero, List.getElem_cons_succ]
          clear kn fn
          refine z_done (by kernel_rfl) ?_
          replace HR0 := Lib.hid ((HR0.out.stay HC.out).setM (n.id - 1) q1)
          replace HK := Lib.hid ((HK.out.trans (Below.kept HC.out)).set (p := ⟨F.gm, n.id - 1, none⟩) (.inl (.inl (.inr (.inr (.inl rfl))))) (.int .i64 q1))
          clear HC hBz HM hltM HN hltN
          go_simp
          rw [HQ.out] at HR0
          generalize hw5 : World.setCell _ _ _ = w5 at *
          clear hw5
          have hst := HR0.out.st
          clear hst
          go_wp2_with fail
          with_reducible refine (psettle_any n F _ HGO.out A2 d2 _ HR0.out).mono ?_
          rintro e w6 ⟨rfl, hr6, hk6⟩
          replace HR0 := Lib.hid hr6
          replace HK := Lib.hid (HK.out.trans hk6.gof)
          clear hr6 hk6
          have hmf : ∀ (fn : Fn) (first cap : Array Value) (w : World), (Instr.makeFunc fn first cap).run Try.prog w = .ok (.func fn first cap) w := fun _ _ _ _ => rfl
          go_wp2_with fail
          refine (pothers_addition_any n F _ HGS.out A2 d2 _ HR0.out).mono ?_
          rintro e w7 ⟨v7, rfl, hv7, hb7⟩
          replace HR0 := Lib.hid (HR0.out.stay hb7)
          have hz7 := HK.out.size
          replace HK := Lib.hid (HK.out.trans (Below.kept hb7))
          have HV := Lib.hid (SlS.wide hv7 (fun b hb _ => Nat.le_trans hz7 hb) : MsgsOut w _ v7 w7)
          clear hv7 hb7 hz7
          go_wp2_with fail
          go_ret
          exact ⟨v7, rfl, HV.out, A2, d2, HR0.out, HA2.out, HK.out⟩
        · have kn := (HN.out.below HC.out hltN).rowN (n.id - 1) (by rw [HML2.out]; omega)
          have fn := (HN.out.below HC.out hltN).free (n.id - 1)
          refine onez_skip (i := 18) (w' := ?_) rfl (by rfl) ?_ ?_ ?_
          rotate_left 1
          · go_simp
            first | done | rfl
          · exact fun h => absurd (by decide) h
          simp only [Act.put, List.getElem_toArray, List.getElem_cons_zero, List.getElem_cons_succ]
          clear kn fn
          refine z_one (i := 16) (by kernel_rfl) ?_
          refine onez_same (i := 16) (v := ?_) rfl (by rfl) ?_ ?_
          rotate_left 1
          · go_simp
            first | done | rfl
          simp only [Act.put, List.setIfInBounds_toArray, List.set_cons_zero, List.set_cons_succ, List.getElem_toArray, List.getElem_cons_zero, List.getElem_cons_succ]
          refine z_done (by kernel_rfl) ?_
          replace HR0 := Lib.hid ((HR0.out.stay HC.out).setM (n.id - 1) q1)
          replace HK := Lib.hid ((HK.out.trans (Below.kept HC.out)).set (p := ⟨F.gm, n.id - 1, none⟩) (.inl (.inl (.inr (.inr (.inl rfl))))) (.int .i64 q1))
          clear HC hBz HM hltM HN hltN
          go_simp
          rw [HQ.out] at HR0
          generalize hw5 : World.setCell _ _ _ = w5 at *
          clear hw5
          have hst := HR0.out.st
          clear hst
          go_wp2_with fail
          with_reducible refine (psettle_any n F _ HGO.out A2 d2 _ HR0.out).mono ?_
          rintro e w6 ⟨rfl, hr6, hk6⟩
          replace HR0 := Lib.hid hr6
          replace HK := Lib.hid (HK.out.trans hk6.gof)
          clear hr6 hk6
          have hmf : ∀ (fn : Fn) (first cap : Array Value) (w : World), (Instr.makeFunc fn first cap).run Try.prog w = .ok (.func fn first cap) w := fun _ _ _ _ => rfl
          go_wp2_with fail
          refine (pothers_addition_any n F _ HGS.out A2 d2 _ HR0.out).mono ?_
          rintro e w7 ⟨v7, rfl, hv7, hb7⟩
          replace HR0 := Lib.hid (HR0.out.stay hb7)
          have hz7 := HK.out.size
          replace HK := Lib.hid (HK.out.trans (Below.kept hb7))
          have HV := Lib.hid (SlS.wide hv7 (fun b hb _ => Nat.le_trans hz7 hb) : MsgsOut w _ v7 w7)
          clear hv7 hb7 hz7
          go_wp2_with fail
          go_ret
          exact ⟨v7, rfl, HV.out, A2, d2, HR0.out, HA2.out, HK.out⟩
      · have hfi : sf = Rf.begin_ n s := by rw [← HSF.out]; unfold Rf.first; rw [if_neg (by rw [hbl]; exact h64)]
        have HR0 := Lib.hid HRB.out
        rw [← hfi] at HR0
        have HA2 := Lib.hid (show ∀ b, lbk A = some b → lbk A = some b ∨ w.heap.size ≤ b from fun b hb => .inl hb)
        replace HK := Lib.hid (HK.out.gof (A := A))
        have d64 : decide ((sf.l.length : Int) < 64) = false := by rw [hfi, hbl]; simp; omega
        clear HRB HGB hfi hbl k0 k1 k2 k3 k4 k5 k6 k7 k8 k9 k10 k11
        have hst := HR0.out.st
        dsimp only [rmc] at hst
        obtain ⟨k0, k1, k2, k3, k4, k5, k6, k7, k8, k9, k10, k11⟩ := hst.c12
        clear hst
        go_wp2_with fail
        clear k0 k1 k2 k3 k4 k5 k6 k7 k8 k9 k10 k11
        have HLL := Lib.hid (fun W (hr : QMem n F W sf A c) => last_any 0 0 _ sf.l W W.heap.size (Nat.le_refl _) hr.sl)
        have HQ : Hid ({ sf with mt := sf.mt.set (n.id - 1) (Rf.last sf).1 } = Rf.own n sf) := Lib.hid rfl
        unfold Rf.last Rf.lg at HQ
        generalize Lg.last (0, 0, sf.l) = q at *
        obtain ⟨q1, q2⟩ := q
        simp only at HLL HQ
        have HM := Lib.hid HR0.out.st
        dsimp only [rmc] at HM
        have HN := Lib.hid HR0.out.m
        have HML2 := Lib.hid HGF.out.mt
        have hkw : IntKind.i64.wrap ((n.id : Int) - 1) = (n.id : Int) - 1 := by rw [IntKind.wrap_i64]; omega
        have hkn : ((n.id : Int) - 1).toNat = n.id - 1 := by omega
        have hki : (1 : Int) ≤ (n.id : Int) := by omega
        have hki2 : (n.id : Int) - 1 < (n.many : Int) := by omega
        refine z_start ((wr).drew.heap.size) [18] (by kernel_rfl) ?_
        have HC := Lib.hid (Below.refl ((wr).drew.heap.size) (wr).drew)
        have hBz : (wr).drew.heap.size ≤ (wr).drew.heap.size := Nat.le_refl _
        replace HM := Lib.hid (show Whole (wr).drew _ _ _ from HM.out)
        have hltM := HM.out.lt
        replace HN := Lib.hid (show Whole (wr).drew _ _ _ from HN.out)
        have hltN := HN.out.lt
        replace HK := Lib.hid (HK.out.trans (Below.kept (Below.refl _ _).drew))
        replace HR0 := Lib.hid (HR0.out.stay (Below.refl _ _).drew)
        generalize (wr).drew = y1 at *
        refine z_take (i := 0) (v := ?_) rfl (by kernel_rfl) (by kernel_rfl) (by kernel_rfl) (k0 := 0) (by kernel_rfl) (by kernel_rfl) (.inl rfl) (fun _ _ _ h => h) (by rfl) HC.out ?_ ?_
        rotate_left
        · intro W hW
          go_simp
          first | done | rfl
        simp only [Act.put, List.setIfInBounds_toArray, List.set_cons_zero, List.set_cons_succ, List.getElem_toArray, List.getElem_cons_zero]
        refine z_take (i := 1) (v := ?_) rfl (by kernel_rfl) (by kernel_rfl) (by kernel_rfl) (k0 := 1) (by kernel_rfl) (by kernel_rfl) (.inl rfl) (fun _ _ _ h => h) (by rfl) HC.out ?_ ?_
        rotate_left
        · intro W hW
          go_simp
          first | done | rfl
        simp only [Act.put, List.setIfInBounds_toArray, List.set_cons_zero, List.set_cons_succ, List.getElem_toArray, List.getElem_cons_zero, List.getElem_cons_succ]
        refine z_take (i := 2) (v := ?_) rfl (by kernel_rfl) (by kernel_rfl) (by kernel_rfl) (k0 := 2) (by kernel_rfl) (by kernel_rfl) (.inl rfl) (fun _ _ _ h => h) (by rfl) HC.out ?_ ?_
        rotate_left
        · intro W hW
          go_simp
          first | done | rfl
        simp only [Act.put, List.setIfInBounds_toArray, List.set_cons_zero, List.set_cons_succ, List.getElem_toArray, List.getElem_cons_zero, List.getElem_cons_succ]
        refine z_take (i := 3) (v := ?_) rfl (by kernel_rfl) (by kernel_rfl) (by kernel_rfl) (k0 := 3) (by kernel_rfl) (by kernel_rfl) (.inl rfl) (fun _ _ _ h => h) (by rfl) HC.out ?_ ?_
        rotate_left
        · intro W hW
          obtain ⟨k0, k1, k2, k3, k4, k5, k6, k7, k8, k9, k10, k11⟩ := (HM.out.below hW hltM).c12
          go_simp
          first | done | rfl
        simp only [Act.put, List.setIfInBounds_toArray, List.set_cons_zero, List.set_cons_succ, List.getElem_toArray, List.getElem_cons_zero, List.getElem_cons_succ]
        refine z_take (i := 4) (v := ?_) rfl (by kernel_rfl) (by kernel_rfl) (by kernel_rfl) (k0 := 4) (by kernel_rfl) (by kernel_rfl) (.inl rfl) (fun _ _ _ h => h) (by rfl) HC.out ?_ ?_
        rotate_left
        · intro W hW
          go_simp
          first | done | rfl
        simp only [Act.put, List.setIfInBounds_toArray, List.set_cons_zero, List.set_cons_succ, List.getElem_toArray, List.getElem_cons_zero, List.getElem_cons_succ]
        refine z_take (i := 5) (v := ?_) rfl (by kernel_rfl) (by kernel_rfl) (by kernel_rfl) (k0 := 5) (by kernel_rfl) (by kernel_rfl) (.inl rfl) (fun _ _ _ h => h) (by rfl) HC.out ?_ ?_
        rotate_left
        · intro W hW
          go_simp
          first | done | rfl
        simp only [Act.put, List.setIfInBounds_toArray, List.set_cons_zero, List.set_cons_succ, List.getElem_toArray, List.getElem_cons_zero, List.getElem_cons_succ]
        refine z_take (i := 6) (v := ?_) rfl (by kernel_rfl) (by kernel_rfl) (by kernel_rfl) (k0 := 6) (by kernel_rfl) (by kernel_rfl) (.inl rfl) (fun _ _ _ h => h) (by rfl) HC.out ?_ ?_
        rotate_left
        · intro W hW
          go_simp
          first | done | rfl
        simp only [Act.put, List.setIfInBounds_toArray, List.set_cons_zero, List.set_cons_succ, List.getElem_toArray, List.getElem_cons_zero, List.getElem_cons_succ]
        refine z_take (i := 7) (v := ?_) rfl (by kernel_rfl) (by kernel_rfl) (by kernel_rfl) (k0 := 7) (by kernel_rfl) (by kernel_rfl) (.inl rfl) (fun _ _ _ h => h) (by rfl) HC.out ?_ ?_
        rotate_left
        · intro W hW
          obtain ⟨k0, k1, k2, k3, k4, k5, k6, k7, k8, k9, k10, k11⟩ := (HM.out.below hW hltM).c12
          go_simp
          first | done | rfl
        simp only [Act.put, List.setIfInBounds_toArray, List.set_cons_zero, List.set_cons_succ, List.getElem_toArray, List.getElem_cons_zero, List.getElem_cons_succ]
        refine z_take (i := 8) (v := ?_) rfl (by kernel_rfl) (by kernel_rfl) (by kernel_rfl) (k0 := 8) (by kernel_rfl) (by kernel_rfl) (.inl rfl) (fun _ _ _ h => h) (by rfl) HC.out ?_ ?_
        rotate_left
        · intro W hW
          go_simp
          first | done | rfl
        simp only [Act.put, List.setIfInBounds_toArray, List.set_cons_zero, List.set_cons_succ, List.getElem_toArray, List.getElem_cons_zero, List.getElem_cons_succ]
        refine z_take (i := 9) (v := ?_) rfl (by kernel_rfl) (by kernel_rfl) (by kernel_rfl) (k0 := 9) (by kernel_rfl) (by kernel_rfl) (.inl rfl) (fun _ _ _ h => h) (by rfl) HC.out ?_ ?_
        rotate_left
        · intro W hW
          go_simp
          first | done | rfl
        simp only [Act.put, List.setIfInBounds_toArray, List.set_cons_zero, List.set_cons_succ, List.getElem_toArray, List.getElem_cons_zero, List.getElem_cons_succ]
        refine z_take (i := 10) (v := ?_) rfl (by kernel_rfl) (by kernel_rfl) (by kernel_rfl) (k0 := 10) (by kernel_rfl) (by kernel_rfl) (.inl rfl) (fun _ _ _ h => h) (by rfl) HC.out ?_ ?_
        rotate_left
        · intro W hW
          go_simp
          first | done | rfl
        simp only [Act.put, List.setIfInBounds_toArray, List.set_cons_zero, List.set_cons_succ, List.getElem_toArray, List.getElem_cons_zero, List.getElem_cons_succ]
        refine z_take (i := 11) (v := ?_) rfl (by kernel_rfl) (by kernel_rfl) (by kernel_rfl) (k0 := 11) (by kernel_rfl) (by kernel_rfl) (.inl rfl) (fun _ _ _ h => h) (by rfl) HC.out ?_ ?_
        rotate_left
        · intro W hW
          go_simp
          first | done | rfl
        simp only [Act.put, List.setIfInBounds_toArray, List.set_cons_zero, List.set_cons_succ, List.getElem_toArray, List.getElem_cons_zero, List.getElem_cons_succ]
        refine z_take (i := 12) (v := ?_) rfl (by kernel_rfl) (by kernel_rfl) (by kernel_rfl) (k0 := 12) (by kernel_rfl) (by kernel_rfl) (.inl rfl) (fun _ _ _ h => h) (by rfl) HC.out ?_ ?_
        rotate_left
        · intro W hW
          obtain ⟨k0, k1, k2, k3, k4, k5, k6, k7, k8, k9, k10, k11⟩ := (HM.out.below hW hltM).c12
          go_simp
          first | done | rfl
        simp only [Act.put, List.setIfInBounds_toArray, List.set_cons_zero, List.set_cons_succ, List.getElem_toArray, List.getElem_cons_zero, List.getElem_cons_succ]
        refine z_one (i := 13) (by kernel_rfl) ?_
        refine onez_call (i := 13) (f := 21) (args := ?_) rfl (by rfl) ?_ ?_
        rotate_left
        · go_simp
          first | done | rfl
        with_reducible refine (HLL.out _ (HR0.out.stay HC.out)).mono ?_
        rintro e y2 ⟨rfl, hb⟩
        refine ⟨_, rfl, fun _ => HC.out.trans (hb.mono hBz), ?_⟩
        replace HC := Lib.hid (HC.out.trans (hb.mono hBz))
        replace hBz := Nat.le_trans hBz hb.size
        clear hb
        simp only [Act.put, List.setIfInBounds_toArray, List.set_cons_zero, List.set_cons_succ, List.getElem_toArray, List.getElem_cons_zero, List.getElem_cons_succ]
        refine z_take (i := 14) (v := ?_) rfl (by kernel_rfl) (by kernel_rfl) (by kernel_rfl) (k0 := 14) (by kernel_rfl) (by kernel_rfl) (.inl rfl) (fun _ _ _ h => h) (by rfl) HC.out ?_ ?_
        rotate_left
        · intro W hW
          go_simp
          first | done | rfl
        simp only [Act.put, List.setIfInBounds_toArray, List.set_cons_zero, List.set_cons_succ, List.getElem_toArray, List.getElem_cons_zero, List.getElem_cons_succ]
        refine z_take (i := 15) (v := ?_) rfl (by kernel_rfl) (by kernel_rfl) (by kernel_rfl) (k0 := 15) (by kernel_rfl) (by kernel_rfl) (.inl rfl) (fun _ _ _ h => h) (by rfl) HC.out ?_ ?_
        rotate_left
        · intro W hW
          go_simp
          first | done | rfl
        simp only [Act.put, List.setIfInBounds_toArray, List.set_cons_zero, List.set_cons_succ, List.getElem_toArray, List.getElem_cons_zero, List.getElem_cons_succ]
        refine z_take (i := 17) (v := ?_) rfl (by kernel_rfl) (by kernel_rfl) (by kernel_rfl) (k0 := 17) (by kernel_rfl) (by kernel_rfl) (.inl rfl) (fun _ _ _ h => h) (by rfl) HC.out ?_ ?_
        rotate_left
        · intro W hW
          go_simp
          first | done | rfl
        simp only [Act.put, List.setIfInBounds_toArray, List.set_cons_zero, List.set_cons_succ, List.getElem_toArray, List.getElem_cons_zero, List.getElem_cons_succ]
        refine z_two (i := 16) (j := 18) (by kernel_rfl) ?_ ?_
        · refine onez_same (i := 16) (v := ?_) rfl (by rfl) ?_ ?_
          rotate_left 1
          · go_simp
            first | done | rfl
          simp only [Act.put, List.setIfInBounds_toArray, List.set_cons_zero, List.set_cons_succ, List.getElem_toArray, List.getElem_cons_zero, List.getElem_cons_succ]
          refine z_one (i := 18) (by kernel_rfl) ?_
          have kn := (HN.out.below HC.out hltN).rowN (n.id - 1) (by rw [HML2.out]; omega)
          have fn := (HN.out.below HC.out hltN).free (n.id - 1)
          refine onez_skip (i := 18) (w' := ?_) rfl (by rfl) ?_ ?_ ?_
          rotate_left 1
          · go_simp
            first | done | rfl
          · exact fun h => absurd (by decide) h
          simp only [Act.put, List.getElem_toArray, List.getElem_cons_zero, List.getElem_cons_succ]
          clear kn fn
          refine z_done (by kernel_rfl) ?_
          replace HR0 := Lib.hid ((HR0.out.stay HC.out).setM (n.id - 1) q1)
          replace HK := Lib.hid ((HK.out.trans (Below.kept HC.out)).set (p := ⟨F.gm, n.id - 1, none⟩) (.inl (.inl (.inr (.inr (.inl rfl))))) (.int .i64 q1))
          clear HC hBz HM hltM HN hltN
          go_simp
          rw [HQ.out] at HR0
          generalize hw5 : World.setCell _ _ _ = w5 at *
          clear hw5
          have hst := HR0.out.st
          clear hst
          go_wp2_with fail
          with_reducible refine (psettle_any n F _ HGO.out A c _ HR0.out).mono ?_
          rintro e w6 ⟨rfl, hr6, hk6⟩
          replace HR0 := Lib.hid hr6
          replace HK := Lib.hid (HK.out.trans hk6.gof)
          clear hr6 hk6
          have hmf : ∀ (fn : Fn) (first cap : Array Value) (w : World), (Instr.makeFunc fn first cap).run Try.prog w = .ok (.func fn first cap) w := fun _ _ _ _ => rfl
          go_wp2_with fail
          refine (pothers_addition_any n F _ HGS.out A c _ HR0.out).mono ?_
          rintro e w7 ⟨v7, rfl, hv7, hb7⟩
          replace HR0 := Lib.hid (HR0.out.stay hb7)
          have hz7 := HK.out.size
          replace HK := Lib.hid (HK.out.trans (Below.kept hb7))
          have HV := Lib.hid (SlS.wide hv7 (fun b hb _ => Nat.le_trans hz7 hb) : MsgsOut w _ v7 w7)
          clear hv7 hb7 hz7
          go_wp2_with fail
          go_ret
          exact ⟨v7, rfl, HV.out, A, c, HR0.out, HA2.out, HK.out⟩
        · have kn := (HN.out.below HC.out hltN).rowN (n.id - 1) (by rw [HML2.out]; omega)
          have fn := (HN.out.below HC.out hltN).free (n.id - 1)
          refine onez_skip (i := 18) (w' := ?_) rfl (by rfl) ?_ ?_ ?_
          rotate_left 1
          · go_simp
            first | done | rfl
          · exact fun h => absurd (by decide) h
          simp only [Act.put, List.getElem_toArray, List.getElem_cons_zero, List.getElem_cons_succ]
          clear kn fn
          refine z_one (i := 16) (by kernel_rfl) ?_
          refine onez_same (i := 16) (v := ?_) rfl (by rfl) ?_ ?_
          rotate_left 1
          · go_simp
            first | done | rfl
          simp only [Act.put, List.setIfInBounds_toArray, List.set_cons_zero, List.set_cons_succ, List.getElem_toArray, List.getElem_cons_zero, List.getElem_cons_succ]
          refine z_done (by kernel_rfl) ?_
          replace HR0 := Lib.hid ((HR0.out.stay HC.out).setM (n.id - 1) q1)
          replace HK := Lib.hid ((HK.out.trans (Below.kept HC.out)).set (p := ⟨F.gm, n.id - 1, none⟩) (.inl (.inl (.inr (.inr (.inl rfl))))) (.int .i64 q1))
          clear HC hBz HM hltM HN hltN
          go_simp
          rw [HQ.out] at HR0
          generalize hw5 : World.setCell _ _ _ = w5 at *
          clear hw5
          have hst := HR0.out.st
          clear hst
          go_wp2_with fail
          with_reducible refine (psettle_any n F _ HGO.out A c _ HR0.out).mono ?_
          rintro e w6 ⟨rfl, hr6, hk6⟩
          replace HR0 := Lib.hid hr6
          replace HK := Lib.hid (HK.out.trans hk6.gof)
          clear hr6 hk6
          have hmf : ∀ (fn : Fn) (first cap : Array Value) (w : World), (Instr.makeFunc fn first cap).run Try.prog w = .ok (.func fn first cap) w := fun _ _ _ _ => rfl
          go_wp2_with fail
          refine (pothers_addition_any n F _ HGS.out A c _ HR0.out).mono ?_
          rintro e w7 ⟨v7, rfl, hv7, hb7⟩
          replace HR0 := Lib.hid (HR0.out.stay hb7)
          have hz7 := HK.out.size
          replace HK := Lib.hid (HK.out.trans (Below.kept hb7))
          have HV := Lib.hid (SlS.wide hv7 (fun b hb _ => Nat.le_trans hz7 hb) : MsgsOut w _ v7 w7)
          clear hv7 hb7 hz7
          go_wp2_with fail
          go_ret
          exact ⟨v7, rfl, HV.out, A, c, HR0.out, HA2.out, HK.out⟩
end Go.Proofs.Ytjcljkbalpgfdaa
