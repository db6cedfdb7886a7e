/-
  Parts that the statement rests on, joined: Rcrash.
-/
import Derived.Test.YtcacebkbfnnjbaaDoorV14
import Derived.Test.YtcacebkbfnnjbaaDoorV24
import Derived.Test.YtcacebkbfnnjbaaDoorV39
import Derived.BigQuiet
/-
  What the reference's Crash leaves.
-/




namespace Go.Proofs.YtcacebkbfnnjbaaDoor
open Go.RowKit

theorem SlS.drewN' {α : Type} [Rep α] {S : Nat → Prop} {w : World} {v : Value} {l : List α} (h : SlS w S v l) (n : Nat) : SlS (w.drewN n) S v l := SlS.drewN h n
theorem RVMem.drewN {g : Nat} {S : Nat → Prop} {w : World} {v : Vl.V} {A A2 : Option Addr} {c c2 : Nat} (h : RVMem g S w v A c A2 c2) (n : Nat) : RVMem g S (w.drewN n) v A c A2 c2 := ⟨h.st, h.d.drewN n, h.l.drewN n, h.off⟩

set_option maxRecDepth 100000 in
set_option maxHeartbeats 8000000 in
theorem rcrash_any (g : Nat) (S : Nat → Prop) (v : Vl.V) (hok : Vl.Ok v) (A : Option Addr) (c : Nat) (A2 : Option Addr) (c2 : Nat) (keep : Int) (hkr : -9223372036854775808 ≤ keep ∧ keep ≤ 9223372036854775807) (w : World) (h : RVMem g S w v A c A2 c2) :
    Calls Tryd.prog 17 #[.pointer (some ⟨g, 0, none⟩), .int .i64 keep] w fun e w' => e = .returned (.tuple #[]) ∧ RVTo g S w (Vl.crash v keep) w' := by
  have hgw := h.glt
  have hSg := h.off
  have hd := hok.len
  have hsy := hok.syn
  have hkl := Vl.kept_le hok keep
  have hHK : Hid (Vl.kept v keep = v.synced + if 0 < keep then keep.toNat % (v.disk.length - v.synced + 1) else 0) := rfl
  have HCR : Hid (Vl.crash v keep = ⟨v.disk.take (Vl.read (v.disk.take (Vl.kept v keep))).2, (Vl.read (v.disk.take (Vl.kept v keep))).2, (Vl.read (v.disk.take (Vl.kept v keep))).1⟩) := rfl
  have hul := Vl.read_len (v.disk.take (Vl.kept v keep))
  rw [List.length_take] at hul
  have hcap := (SlS.room h.d).2
  unfold maxLen at hcap
  have HRUN := Lib.hid (fun (k : Nat) (i : Int) (hi : i = (k : Int)) (hk : k ≤ c) W => run_uptoB A v.disk.length c k i hi hk W)
  have HUP := Lib.hid (fun (k : Nat) (hk : k ≤ v.disk.length) W (hW : Below w.heap.size w W) => ((h.stay hW).d.uptoB k hk).here)
  have HRD := Lib.hid (fun W (A3 : Option Addr) (hv : Sl W W.heap.size (.slice A3 (Vl.kept v keep) c) (v.disk.take (Vl.kept v keep))) => rrd_any (.slice A3 (Vl.kept v keep) c) (v.disk.take (Vl.kept v keep)) (by rw [List.length_take]; omega) W W.heap.size (Nat.le_refl _) hv)
  have HV := Lib.hid h
  clear hok h
  generalize hK : Vl.kept v keep = K at *
  generalize Vl.crash v keep = R at *
  generalize Vl.read (v.disk.take K) = r at *
  obtain ⟨⟨⟨t', vo'⟩, sl'⟩, u⟩ := r
  obtain ⟨d, sy, ⟨⟨t, vo⟩, sl⟩⟩ := v
  simp only at *
  clear hK
  have huk : u ≤ d.length := by omega
  have HLT := Lib.hid (show (d.take u).length = u by rw [List.length_take]; omega)
  generalize hdn : d.length = dn at *
  have HDN := Lib.hid hdn
  generalize hsn : sl.length = sn at *
  have HSN := Lib.hid hsn
  generalize hsn' : sl'.length = sn' at *
  have HSN' := Lib.hid hsn'
  have hr2 := HRUN.out u (u : Int) rfl (by omega)
  have hst := HV.out.st
  dsimp only at hst
  rw [HDN.out, HSN.out] at hst
  obtain ⟨k0, k1, k2, k3, k4⟩ := hst.c5
  clear hst hdn hsn hsn'
  go_enter Tryd.func17, Tryd.ntmps17
  by_cases hpos : 0 < keep
  · have d0 : decide (0 < keep) = true := by simpa using hpos
    obtain ⟨m, hm⟩ : ∃ m, m = keep.toNat % (dn - sy + 1) := ⟨_, rfl⟩
    have hKm : K = sy + m := by have := hHK.out; rw [if_pos hpos] at this; omega
    have htm : Int.tmod keep ((dn : Int) - (sy : Int) + 1) = (m : Int) := by
      obtain ⟨kn, rfl⟩ := Int.eq_ofNat_of_zero_le (Int.le_of_lt hpos)
      rw [show (dn : Int) - (sy : Int) + 1 = ((dn - sy + 1 : Nat) : Int) by omega, hm]
      rfl
    have hml : m ≤ dn - sy := by omega
    have hr3 := HRUN.out K ((sy : Int) + (m : Int)) (by omega) (by omega)
    have hw1 : IntKind.i64.wrap ((dn : Int) - (sy : Int)) = (dn : Int) - (sy : Int) := by rw [IntKind.wrap_i64]; omega
    have hw2 : IntKind.i64.wrap ((dn : Int) - (sy : Int) + 1) = (dn : Int) - (sy : Int) + 1 := by rw [IntKind.wrap_i64]; omega
    have hw3 : IntKind.i64.wrap (m : Int) = (m : Int) := by rw [IntKind.wrap_i64]; omega
    have hw4 : IntKind.i64.wrap ((sy : Int) + (m : Int)) = (sy : Int) + (m : Int) := by rw [IntKind.wrap_i64]; omega
    have hne : (((dn : Int) - (sy : Int) + 1) == 0) = false := by simp; omega
    have hne2 : ¬ ((dn : Int) - (sy : Int) + 1) = 0 := by omega
    clear hKm hm
    generalize (if c = 0 then A else A.map (·.add (0 * 1))) = A3 at *
    go_wp2_with fail
    go_quiet (fail)
    have HVz := Lib.hid (HV.out.drewN nq)
    have HBz := Lib.hid (below_drewN (Below.refl w.heap.size w) nq)
    clear k0 k1 k2 k3 k4 HV
    generalize hwz : World.drewN w nq = wz at *
    clear hwz
    go_wp2_with fail
    refine s_start (fun W => Kept (fun _ => False) (wz).drew W) [] (by kernel_rfl) ?_
    have HC := Lib.hid (Kept.refl (fun _ => False) (wz).drew)
    have HXK := Lib.hid (fun W (hW : Kept (fun _ => False) wz.drew W) => by
      have h5 := (hW.whole (show Whole wz.drew _ _ _ from HVz.out.st) (fun h => h)).c5
      dsimp only at h5
      rw [HDN.out, HSN.out] at h5
      exact h5)
    have hDz : Below wz.heap.size wz wz.drew := (Below.refl _ _).drew
    have hzz0 : wz.heap.size ≤ wz.drew.heap.size := Nat.le_refl _
    have hgz : g < wz.drew.heap.size := HVz.out.glt
    have hwzz : w.heap.size ≤ wz.drew.heap.size := HBz.out.size
    generalize (wz).drew = z1 at *
    refine s_take (i := 0) (v := ?_) rfl (by kernel_rfl) (by kernel_rfl) (by kernel_rfl) (k0 := 0) (by kernel_rfl) (by kernel_rfl) (.inl rfl) (fun _ _ _ h => h) (by rfl) HC.out ?_ ?_
    rotate_left
    · intro W hW
      go_simp
      first | done | rfl
    simp only [Act.put, List.setIfInBounds_toArray, List.set_cons_zero, List.set_cons_succ, List.getElem_toArray, List.getElem_cons_zero]
    refine s_take (i := 1) (v := ?_) rfl (by kernel_rfl) (by kernel_rfl) (by kernel_rfl) (k0 := 1) (by kernel_rfl) (by kernel_rfl) (.inl rfl) (fun _ _ _ h => h) (by rfl) HC.out ?_ ?_
    rotate_left
    · intro W hW
      go_simp
      first | done | rfl
    simp only [Act.put, List.setIfInBounds_toArray, List.set_cons_zero, List.set_cons_succ, List.getElem_toArray, List.getElem_cons_zero, List.getElem_cons_succ]
    refine s_take (i := 2) (v := ?_) rfl (by kernel_rfl) (by kernel_rfl) (by kernel_rfl) (k0 := 2) (by kernel_rfl) (by kernel_rfl) (.inl rfl) (fun _ _ _ h => h) (by rfl) HC.out ?_ ?_
    rotate_left
    · intro W hW
      go_simp
      first | done | rfl
    simp only [Act.put, List.setIfInBounds_toArray, List.set_cons_zero, List.set_cons_succ, List.getElem_toArray, List.getElem_cons_zero, List.getElem_cons_succ]
    refine s_take (i := 3) (v := ?_) rfl (by kernel_rfl) (by kernel_rfl) (by kernel_rfl) (k0 := 3) (by kernel_rfl) (by kernel_rfl) (.inl rfl) (fun _ _ _ h => h) (by rfl) HC.out ?_ ?_
    rotate_left
    · intro W hW
      obtain ⟨k0, k1, k2, k3, k4⟩ := HXK.out _ hW
      go_simp
      first | done | rfl
    simp only [Act.put, List.setIfInBounds_toArray, List.set_cons_zero, List.set_cons_succ, List.getElem_toArray, List.getElem_cons_zero, List.getElem_cons_succ]
    refine s_take (i := 4) (v := ?_) rfl (by kernel_rfl) (by kernel_rfl) (by kernel_rfl) (k0 := 4) (by kernel_rfl) (by kernel_rfl) (.inl rfl) (fun _ _ _ h => h) (by rfl) HC.out ?_ ?_
    rotate_left
    · intro W hW
      go_simp
      first | done | rfl
    simp only [Act.put, List.setIfInBounds_toArray, List.set_cons_zero, List.set_cons_succ, List.getElem_toArray, List.getElem_cons_zero, List.getElem_cons_succ]
    refine s_take (i := 5) (v := ?_) rfl (by kernel_rfl) (by kernel_rfl) (by kernel_rfl) (k0 := 5) (by kernel_rfl) (by kernel_rfl) (.inl rfl) (fun _ _ _ h => h) (by rfl) HC.out ?_ ?_
    rotate_left
    · intro W hW
      go_simp
      first | done | rfl
    simp only [Act.put, List.setIfInBounds_toArray, List.set_cons_zero, List.set_cons_succ, List.getElem_toArray, List.getElem_cons_zero, List.getElem_cons_succ]
    refine s_take (i := 6) (v := ?_) rfl (by kernel_rfl) (by kernel_rfl) (by kernel_rfl) (k0 := 6) (by kernel_rfl) (by kernel_rfl) (.inl rfl) (fun _ _ _ h => h) (by rfl) HC.out ?_ ?_
    rotate_left
    · intro W hW
      go_simp
      first | done | rfl
    simp only [Act.put, List.setIfInBounds_toArray, List.set_cons_zero, List.set_cons_succ, List.getElem_toArray, List.getElem_cons_zero, List.getElem_cons_succ]
    refine s_take (i := 7) (v := ?_) rfl (by kernel_rfl) (by kernel_rfl) (by kernel_rfl) (k0 := 7) (by kernel_rfl) (by kernel_rfl) (.inl rfl) (fun _ _ _ h => h) (by rfl) HC.out ?_ ?_
    rotate_left
    · intro W hW
      obtain ⟨k0, k1, k2, k3, k4⟩ := HXK.out _ hW
      go_simp
      first | done | rfl
    simp only [Act.put, List.setIfInBounds_toArray, List.set_cons_zero, List.set_cons_succ, List.getElem_toArray, List.getElem_cons_zero, List.getElem_cons_succ]
    refine s_take (i := 8) (v := ?_) rfl (by kernel_rfl) (by kernel_rfl) (by kernel_rfl) (k0 := 8) (by kernel_rfl) (by kernel_rfl) (.inl rfl) (fun _ _ _ h => h) (by rfl) HC.out ?_ ?_
    rotate_left
    · intro W hW
      go_simp
      first | done | rfl
    simp only [Act.put, List.setIfInBounds_toArray, List.set_cons_zero, List.set_cons_succ, List.getElem_toArray, List.getElem_cons_zero, List.getElem_cons_succ]
    refine s_take (i := 9) (v := ?_) rfl (by kernel_rfl) (by kernel_rfl) (by kernel_rfl) (k0 := 9) (by kernel_rfl) (by kernel_rfl) (.inl rfl) (fun _ _ _ h => h) (by rfl) HC.out ?_ ?_
    rotate_left
    · intro W hW
      go_simp
      first | done | rfl
    simp only [Act.put, List.setIfInBounds_toArray, List.set_cons_zero, List.set_cons_succ, List.getElem_toArray, List.getElem_cons_zero, List.getElem_cons_succ]
    refine s_take (i := 10) (v := ?_) rfl (by kernel_rfl) (by kernel_rfl) (by kernel_rfl) (k0 := 10) (by kernel_rfl) (by kernel_rfl) (.inl rfl) (fun _ _ _ h => h) (by rfl) HC.out ?_ ?_
    rotate_left
    · intro W hW
      go_simp
      first | done | rfl
    simp only [Act.put, List.setIfInBounds_toArray, List.set_cons_zero, List.set_cons_succ, List.getElem_toArray, List.getElem_cons_zero, List.getElem_cons_succ]
    refine s_three (i := 11) (j := 16) (k := 17) (by kernel_rfl) ?_ ?_ ?_
    · refine ones_call (i := 11) (f := 22) (args := ?_) rfl (by rfl) ?_ ?_
      rotate_left
      · go_simp
        first | done | rfl
      with_reducible refine (HRD.out _ A3 (HUP.out K (by omega) _ (HBz.out.trans (hDz.trans (HC.out.below (B := wz.heap.size) (fun _ h => h.elim) hzz0) |>.mono HBz.out.size)))).mono ?_
      rintro e z2 ⟨A5, c5, rfl, hsl, hb⟩
      refine ⟨_, rfl, fun _ => HC.out.trans (Below.kept hb), ?_⟩
      replace HC := Lib.hid (HC.out.trans (Below.kept hb))
      simp only [HSN'.out] at hsl ⊢
      have hsc := hb.size
      have HLR := Lib.hid (hsl.wide (T := fun b => z1.heap.size ≤ b ∧ b < z2.heap.size) (fun b hb hlt => ⟨hb, hlt⟩))
      clear hsl
      clear hb
      simp only [Act.put, List.setIfInBounds_toArray, List.set_cons_zero, List.set_cons_succ, List.getElem_toArray, List.getElem_cons_zero, List.getElem_cons_succ]
      refine s_take (i := 12) (v := ?_) rfl (by kernel_rfl) (by kernel_rfl) (by kernel_rfl) (k0 := 12) (by kernel_rfl) (by kernel_rfl) (.inl rfl) (fun _ _ _ h => h) (by rfl) HC.out ?_ ?_
      rotate_left
      · intro W hW
        go_simp
        first | done | rfl
      simp only [Act.put, List.setIfInBounds_toArray, List.set_cons_zero, List.set_cons_succ, List.getElem_toArray, List.getElem_cons_zero, List.getElem_cons_succ]
      refine s_take (i := 13) (v := ?_) rfl (by kernel_rfl) (by kernel_rfl) (by kernel_rfl) (k0 := 13) (by kernel_rfl) (by kernel_rfl) (.inl rfl) (fun _ _ _ h => h) (by rfl) HC.out ?_ ?_
      rotate_left
      · intro W hW
        go_simp
        first | done | rfl
      simp only [Act.put, List.setIfInBounds_toArray, List.set_cons_zero, List.set_cons_succ, List.getElem_toArray, List.getElem_cons_zero, List.getElem_cons_succ]
      refine s_take (i := 14) (v := ?_) rfl (by kernel_rfl) (by kernel_rfl) (by kernel_rfl) (k0 := 14) (by kernel_rfl) (by kernel_rfl) (.inl rfl) (fun _ _ _ h => h) (by rfl) HC.out ?_ ?_
      rotate_left
      · intro W hW
        go_simp
        first | done | rfl
      simp only [Act.put, List.setIfInBounds_toArray, List.set_cons_zero, List.set_cons_succ, List.getElem_toArray, List.getElem_cons_zero, List.getElem_cons_succ]
      refine s_take (i := 15) (v := ?_) rfl (by kernel_rfl) (by kernel_rfl) (by kernel_rfl) (k0 := 15) (by kernel_rfl) (by kernel_rfl) (.inl rfl) (fun _ _ _ h => h) (by rfl) HC.out ?_ ?_
      rotate_left
      · intro W hW
        go_simp
        first | done | rfl
      simp only [Act.put, List.setIfInBounds_toArray, List.set_cons_zero, List.set_cons_succ, List.getElem_toArray, List.getElem_cons_zero, List.getElem_cons_succ]
      refine s_two (i := 16) (j := 17) (by kernel_rfl) ?_ ?_
      · refine ones_run (i := 16) (v := ?_) (w' := World.alloc (z2) (.cells #[.int .i64 0, .int .i64 0] 30)) rfl (by rfl) ?_ ?_ ?_
        rotate_left 1
        · go_simp
          first | done | rfl | (constructor <;> rfl)
        · exact fun _ => HC.out.trans (Below.kept ((Below.refl _ _).alloc (Nat.le_refl _) _))
        simp only [Act.put, List.setIfInBounds_toArray, List.set_cons_zero, List.set_cons_succ, List.getElem_toArray, List.getElem_cons_zero, List.getElem_cons_succ]
        have gage := HC.out.size
        have gas : z2.heap.size < (World.alloc (z2) (.cells #[.int .i64 0, .int .i64 0] 30)).heap.size := by simp
        replace HLR := Lib.hid (HLR.out.stay (fun b _ hlt => ((Below.refl z2.heap.size z2).alloc (Nat.le_refl _) (.cells #[.int .i64 0, .int .i64 0] 30)).block b hlt))
        have HG1 := Lib.hid (Whole.new (z2) 30 #[.int .i64 0, .int .i64 0])
        replace HC := Lib.hid (HC.out.trans (Below.kept ((Below.refl _ _).alloc (Nat.le_refl _) (.cells #[.int .i64 0, .int .i64 0] 30))))
        generalize hw6 : World.alloc (z2) _ = z3 at *
        clear hw6
        generalize hg6 : (z2).heap.size = ga at *
        clear hg6
        refine s_one (i := 17) (by kernel_rfl) ?_
        refine ones_run (i := 17) (v := ?_) (w' := World.alloc (z3) (.cells #[.int .i64 0, .int .i64 0, .slice none 0 0] 38)) rfl (by rfl) ?_ ?_ ?_
        rotate_left 1
        · go_simp
          first | done | rfl | (constructor <;> rfl)
        · exact fun _ => HC.out.trans (Below.kept ((Below.refl _ _).alloc (Nat.le_refl _) _))
        simp only [Act.put, List.setIfInBounds_toArray, List.set_cons_zero, List.set_cons_succ, List.getElem_toArray, List.getElem_cons_zero, List.getElem_cons_succ]
        have gbge := HC.out.size
        have gbs : z3.heap.size < (World.alloc (z3) (.cells #[.int .i64 0, .int .i64 0, .slice none 0 0] 38)).heap.size := by simp
        have hneq : ga ≠ z3.heap.size := Nat.ne_of_lt HG1.out.lt
        replace HG1 := Lib.hid (HG1.out.alloc (.cells #[.int .i64 0, .int .i64 0, .slice none 0 0] 38))
        replace HLR := Lib.hid (HLR.out.stay (fun b _ hlt => ((Below.refl z3.heap.size z3).alloc (Nat.le_refl _) (.cells #[.int .i64 0, .int .i64 0, .slice none 0 0] 38)).block b hlt))
        have HG2 := Lib.hid (Whole.new (z3) 38 #[.int .i64 0, .int .i64 0, .slice none 0 0])
        replace HC := Lib.hid (HC.out.trans (Below.kept ((Below.refl _ _).alloc (Nat.le_refl _) (.cells #[.int .i64 0, .int .i64 0, .slice none 0 0] 38))))
        generalize hw6 : World.alloc (z3) _ = z4 at *
        clear hw6
        generalize hg6 : (z3).heap.size = gb at *
        clear hg6
        refine s_one (i := 18) (by kernel_rfl) ?_
        obtain ⟨c_0, c_1⟩ := HG1.out.c2
        obtain ⟨f_0, f_1⟩ := HG1.out.f2
        refine ones_skip (i := 18) (w' := ?_) rfl (by rfl) ?_ ?_ ?_
        rotate_left 1
        · go_simp
          first | done | rfl
        · exact fun _ => ((HC.out.set (p := ⟨ga, 0, none⟩) (.inr (by omega)) (.int .i64 t')).set (p := ⟨ga, 1, none⟩) (.inr (by omega)) (.int .i64 vo'))
        simp only [Act.put, List.getElem_toArray, List.getElem_cons_zero, List.getElem_cons_succ]
        clear c_0 f_0 c_1 f_1
        replace HG1 := Lib.hid (show Whole _ _ _ #[.int .i64 t', .int .i64 vo'] from ((HG1.out.set 0 (.int .i64 t')).set 1 (.int .i64 vo')))
        replace HC := Lib.hid ((HC.out.set (p := ⟨ga, 0, none⟩) (.inr (by omega)) (.int .i64 t')).set (p := ⟨ga, 1, none⟩) (.inr (by omega)) (.int .i64 vo'))
        replace HG2 := Lib.hid (HG2.out.far (p := ⟨ga, 0, none⟩) (by first | exact hneq | exact hneq.symm) (.int .i64 t'))
        replace HLR := Lib.hid (sls_far HLR.out (p := ⟨ga, 0, none⟩) (by simp only; omega) (.int .i64 t'))
        replace HG2 := Lib.hid (HG2.out.far (p := ⟨ga, 1, none⟩) (by first | exact hneq | exact hneq.symm) (.int .i64 vo'))
        replace HLR := Lib.hid (sls_far HLR.out (p := ⟨ga, 1, none⟩) (by simp only; omega) (.int .i64 vo'))
        generalize hw6 : (World.setCell (World.setCell z4 ⟨ga, 0, none⟩ (.int .i64 t')) ⟨ga, 1, none⟩ (.int .i64 vo')) = z5 at *
        clear hw6
        refine s_one (i := 19) (by kernel_rfl) ?_
        obtain ⟨c_0, c_1, c_2⟩ := HG2.out.c3
        obtain ⟨f_0, f_1, f_2⟩ := HG2.out.f3
        refine ones_skip (i := 19) (w' := ?_) rfl (by rfl) ?_ ?_ ?_
        rotate_left 1
        · go_simp
          first | done | rfl
        · exact fun _ => (((HC.out.set (p := ⟨gb, 0, none⟩) (.inr (by omega)) (.int .i64 0)).set (p := ⟨gb, 1, none⟩) (.inr (by omega)) (.int .i64 0)).set (p := ⟨gb, 2, none⟩) (.inr (by omega)) (.slice A5 sn' c5))
        simp only [Act.put, List.getElem_toArray, List.getElem_cons_zero, List.getElem_cons_succ]
        clear c_0 f_0 c_1 f_1 c_2 f_2
        replace HG2 := Lib.hid (show Whole _ _ _ #[.int .i64 0, .int .i64 0, .slice A5 sn' c5] from (((HG2.out.set 0 (.int .i64 0)).set 1 (.int .i64 0)).set 2 (.slice A5 sn' c5)))
        replace HC := Lib.hid (((HC.out.set (p := ⟨gb, 0, none⟩) (.inr (by omega)) (.int .i64 0)).set (p := ⟨gb, 1, none⟩) (.inr (by omega)) (.int .i64 0)).set (p := ⟨gb, 2, none⟩) (.inr (by omega)) (.slice A5 sn' c5))
        replace HG1 := Lib.hid (HG1.out.far (p := ⟨gb, 0, none⟩) (by first | exact hneq | exact hneq.symm) (.int .i64 0))
        replace HLR := Lib.hid (sls_far HLR.out (p := ⟨gb, 0, none⟩) (by simp only; omega) (.int .i64 0))
        replace HG1 := Lib.hid (HG1.out.far (p := ⟨gb, 1, none⟩) (by first | exact hneq | exact hneq.symm) (.int .i64 0))
        replace HLR := Lib.hid (sls_far HLR.out (p := ⟨gb, 1, none⟩) (by simp only; omega) (.int .i64 0))
        replace HG1 := Lib.hid (HG1.out.far (p := ⟨gb, 2, none⟩) (by first | exact hneq | exact hneq.symm) (.slice A5 sn' c5))
        replace HLR := Lib.hid (sls_far HLR.out (p := ⟨gb, 2, none⟩) (by simp only; omega) (.slice A5 sn' c5))
        generalize hw6 : (World.setCell (World.setCell (World.setCell z5 ⟨gb, 0, none⟩ (.int .i64 0)) ⟨gb, 1, none⟩ (.int .i64 0)) ⟨gb, 2, none⟩ (.slice A5 sn' c5)) = z6 at *
        clear hw6
        refine s_take (i := 20) (v := ?_) rfl (by kernel_rfl) (by kernel_rfl) (by kernel_rfl) (k0 := 20) (by kernel_rfl) (by kernel_rfl) (.inl rfl) (fun _ _ _ h => h) (by rfl) HC.out ?_ ?_
        rotate_left
        · intro W hW
          go_simp
          first | done | rfl
        simp only [Act.put, List.setIfInBounds_toArray, List.set_cons_zero, List.set_cons_succ, List.getElem_toArray, List.getElem_cons_zero, List.getElem_cons_succ]
        refine s_done (by kernel_rfl) ?_
        replace HBz := Lib.hid (HBz.out.trans (hDz.trans (HC.out.below (B := wz.heap.size) (fun _ h => h.elim) hzz0) |>.mono HBz.out.size))
        replace HVz := Lib.hid (HVz.out.keep (Below.kept hDz) (fun h => h) (fun _ _ h => h) |>.keep HC.out (fun h => h) (fun _ _ h => h))
        have hga : g ≠ ga ∧ g ≠ gb := by omega
        have hgtw : ∀ b, (b < z1.heap.size → b < z6.heap.size) := fun b hb => by have := HC.out.size; omega
        clear HC HXK hDz
        generalize hw5 : z6 = w5 at *
        clear hw5
        have hvs := HVz.out.st
        dsimp only at hvs
        rw [HDN.out, HSN.out] at hvs
        have HVS := Lib.hid hvs
        obtain ⟨k0, k1, k2, k3, k4⟩ := hvs.c5
        clear hvs
        have HDU := Lib.hid (HUP.out u huk _ HBz.out)
        have hgw5 := HVS.out.lt
        go_simp
        go_wp2_with (at_builtin; refine wpList_append_sl rfl _ (.tmp 45) rfl rowB w5.heap.size _ [] rfl (Own.nil _ _ _) w5.heap.size _ (d.take u) rfl HDU.out (by rw [HLT.out]; unfold maxLen; simp; omega) (by rw [HLT.out]; simp; omega) (Nat.le_refl _) ?_; intro v7 w7 hown7 hg7 hat7; rw [List.nil_append] at hown7; have hb7 := (Below.refl w5.heap.size w5).grown hg7 (Nat.le_refl _) (fun k hk => by cases hk); obtain ⟨A7, c7, rfl, -, -⟩ := hown7.sl.form; rw [HLT.out] at hown7 ⊢; have HO7 := Lib.hid hown7; have HB7 := Lib.hid hb7; replace HVS := Lib.hid (HVS.out.below hb7 HVS.out.lt); replace HG1 := Lib.hid (HG1.out.below hb7 HG1.out.lt); replace HG2 := Lib.hid (HG2.out.below hb7 HG2.out.lt); replace HLR := Lib.hid (HLR.out.stay (fun b _ hlt => hb7.block b hlt)); obtain ⟨c_0, c_1, c_2, c_3, c_4⟩ := HVS.out.c5; obtain ⟨f_0, f_1, f_2, f_3, f_4⟩ := HVS.out.f5; clear hown7 hg7 hat7 hb7 k0 k1 k2 k3 k4; have HV1 := Lib.hid (show Whole _ _ _ #[.slice A7 u c7, .int .i64 (sy : Int), .int .i64 t, .int .i64 vo, .slice A2 sn c2] from HVS.out.set 0 (.slice A7 u c7)); have HV2 := Lib.hid (show Whole _ _ _ #[.slice A7 u c7, .int .i64 (u : Int), .int .i64 t, .int .i64 vo, .slice A2 sn c2] from HV1.out.set 1 (.int .i64 (u : Int))); have HV5 := Lib.hid (show Whole _ _ _ #[.slice A7 u c7, .int .i64 (u : Int), .int .i64 t', .int .i64 vo', .slice A5 sn' c5] from ((HV2.out.set 2 (.int .i64 t')).set 3 (.int .i64 vo')).set 4 (.slice A5 sn' c5)); replace HG1 := Lib.hid ((HG1.out.far (p := ⟨g, 0, none⟩) (fun e => hga.1 e.symm) (.slice A7 u c7)).far (p := ⟨g, 1, none⟩) (fun e => hga.1 e.symm) (.int .i64 (u : Int))); replace HG2 := Lib.hid ((HG2.out.far (p := ⟨g, 0, none⟩) (fun e => hga.2 e.symm) (.slice A7 u c7)).far (p := ⟨g, 1, none⟩) (fun e => hga.2 e.symm) (.int .i64 (u : Int))); obtain ⟨d_0, d_1, d_2, d_3, d_4⟩ := HV1.out.c5; obtain ⟨e_0, e_1, e_2, e_3, e_4⟩ := HV1.out.f5; obtain ⟨m_0, m_1, m_2, m_3, m_4⟩ := HV2.out.c5; obtain ⟨n_0, n_1, n_2, n_3, n_4⟩ := HV2.out.f5; obtain ⟨x_0, x_1⟩ := HG1.out.c2; obtain ⟨y_0, y_1, y_2⟩ := HG2.out.c3; have HKK := Lib.hid ((((((Below.kept (D := fun b => b = g) (HBz.out.trans (HB7.out.mono HBz.out.size))).set (p := ⟨g, 0, none⟩) (.inl rfl) (.slice A7 u c7)).set (p := ⟨g, 1, none⟩) (.inl rfl) (.int .i64 (u : Int))).set (p := ⟨g, 2, none⟩) (.inl rfl) (.int .i64 t')).set (p := ⟨g, 3, none⟩) (.inl rfl) (.int .i64 vo')).set (p := ⟨g, 4, none⟩) (.inl rfl) (.slice A5 sn' c5)))
        have HOF := Lib.hid (((((HO7.out.set (p := ⟨g, 0, none⟩) (by simp; omega) (.slice A7 u c7)).set (p := ⟨g, 1, none⟩) (by simp; omega) (.int .i64 (u : Int))).set (p := ⟨g, 2, none⟩) (by simp; omega) (.int .i64 t')).set (p := ⟨g, 3, none⟩) (by simp; omega) (.int .i64 vo')).set (p := ⟨g, 4, none⟩) (by simp; omega) (.slice A5 sn' c5))
        have HLF := Lib.hid (sls_far (sls_far (sls_far (sls_far (sls_far HLR.out (p := ⟨g, 0, none⟩) (by simp only; omega) (.slice A7 u c7)) (p := ⟨g, 1, none⟩) (by simp only; omega) (.int .i64 (u : Int))) (p := ⟨g, 2, none⟩) (by simp only; omega) (.int .i64 t')) (p := ⟨g, 3, none⟩) (by simp only; omega) (.int .i64 vo')) (p := ⟨g, 4, none⟩) (by simp only; omega) (.slice A5 sn' c5))
        clear HV1 HV2 HG1 HG2 HVS
        go_end0
        rw [HCR.out]
        have hzb := HBz.out.size
        refine ⟨rfl, A7, c7, A5, c5, ⟨?_, ?_, ?_, ?_⟩, HKK.out⟩
        · dsimp only
          rw [HLT.out, HSN'.out]
          exact HV5.out
        · dsimp only
          rw [HLT.out]
          exact HOF.out.slS.wide (fun b hb _ => .inr (by omega))
        · dsimp only
          rw [HSN'.out]
          exact HLF.out.wide (fun b hb _ => .inr (by omega))
        · rintro (h | h)
          · exact hSg h
          · omega
      · refine ones_run (i := 17) (v := ?_) (w' := World.alloc (z2) (.cells #[.int .i64 0, .int .i64 0, .slice none 0 0] 38)) rfl (by rfl) ?_ ?_ ?_
        rotate_left 1
        · go_simp
          first | done | rfl | (constructor <;> rfl)
        · exact fun _ => HC.out.trans (Below.kept ((Below.refl _ _).alloc (Nat.le_refl _) _))
        simp only [Act.put, List.setIfInBounds_toArray, List.set_cons_zero, List.set_cons_succ, List.getElem_toArray, List.getElem_cons_zero, List.getElem_cons_succ]
        have gbge := HC.out.size
        have gbs : z2.heap.size < (World.alloc (z2) (.cells #[.int .i64 0, .int .i64 0, .slice none 0 0] 38)).heap.size := by simp
        replace HLR := Lib.hid (HLR.out.stay (fun b _ hlt => ((Below.refl z2.heap.size z2).alloc (Nat.le_refl _) (.cells #[.int .i64 0, .int .i64 0, .slice none 0 0] 38)).block b hlt))
        have HG2 := Lib.hid (Whole.new (z2) 38 #[.int .i64 0, .int .i64 0, .slice none 0 0])
        replace HC := Lib.hid (HC.out.trans (Below.kept ((Below.refl _ _).alloc (Nat.le_refl _) (.cells #[.int .i64 0, .int .i64 0, .slice none 0 0] 38))))
        generalize hw6 : World.alloc (z2) _ = z7 at *
        clear hw6
        generalize hg6 : (z2).heap.size = gb at *
        clear hg6
        refine s_one (i := 16) (by kernel_rfl) ?_
        refine ones_run (i := 16) (v := ?_) (w' := World.alloc (z7) (.cells #[.int .i64 0, .int .i64 0] 30)) rfl (by rfl) ?_ ?_ ?_
        rotate_left 1
        · go_simp
          first | done | rfl | (constructor <;> rfl)
        · exact fun _ => HC.out.trans (Below.kept ((Below.refl _ _).alloc (Nat.le_refl _) _))
        simp only [Act.put, List.setIfInBounds_toArray, List.set_cons_zero, List.set_cons_succ, List.getElem_toArray, List.getElem_cons_zero, List.getElem_cons_succ]
        have gage := HC.out.size
        have gas : z7.heap.size < (World.alloc (z7) (.cells #[.int .i64 0, .int .i64 0] 30)).heap.size := by simp
        have hneq : gb ≠ z7.heap.size := Nat.ne_of_lt HG2.out.lt
        replace HG2 := Lib.hid (HG2.out.alloc (.cells #[.int .i64 0, .int .i64 0] 30))
        replace HLR := Lib.hid (HLR.out.stay (fun b _ hlt => ((Below.refl z7.heap.size z7).alloc (Nat.le_refl _) (.cells #[.int .i64 0, .int .i64 0] 30)).block b hlt))
        have HG1 := Lib.hid (Whole.new (z7) 30 #[.int .i64 0, .int .i64 0])
        replace HC := Lib.hid (HC.out.trans (Below.kept ((Below.refl _ _).alloc (Nat.le_refl _) (.cells #[.int .i64 0, .int .i64 0] 30))))
        generalize hw6 : World.alloc (z7) _ = z8 at *
        clear hw6
        generalize hg6 : (z7).heap.size = ga at *
        clear hg6
        refine s_one (i := 18) (by kernel_rfl) ?_
        obtain ⟨c_0, c_1⟩ := HG1.out.c2
        obtain ⟨f_0, f_1⟩ := HG1.out.f2
        refine ones_skip (i := 18) (w' := ?_) rfl (by rfl) ?_ ?_ ?_
        rotate_left 1
        · go_simp
          first | done | rfl
        · exact fun _ => ((HC.out.set (p := ⟨ga, 0, none⟩) (.inr (by omega)) (.int .i64 t')).set (p := ⟨ga, 1, none⟩) (.inr (by omega)) (.int .i64 vo'))
        simp only [Act.put, List.getElem_toArray, List.getElem_cons_zero, List.getElem_cons_succ]
        clear c_0 f_0 c_1 f_1
        replace HG1 := Lib.hid (show Whole _ _ _ #[.int .i64 t', .int .i64 vo'] from ((HG1.out.set 0 (.int .i64 t')).set 1 (.int .i64 vo')))
        replace HC := Lib.hid ((HC.out.set (p := ⟨ga, 0, none⟩) (.inr (by omega)) (.int .i64 t')).set (p := ⟨ga, 1, none⟩) (.inr (by omega)) (.int .i64 vo'))
        replace HG2 := Lib.hid (HG2.out.far (p := ⟨ga, 0, none⟩) (by first | exact hneq | exact hneq.symm) (.int .i64 t'))
        replace HLR := Lib.hid (sls_far HLR.out (p := ⟨ga, 0, none⟩) (by simp only; omega) (.int .i64 t'))
        replace HG2 := Lib.hid (HG2.out.far (p := ⟨ga, 1, none⟩) (by first | exact hneq | exact hneq.symm) (.int .i64 vo'))
        replace HLR := Lib.hid (sls_far HLR.out (p := ⟨ga, 1, none⟩) (by simp only; omega) (.int .i64 vo'))
        generalize hw6 : (World.setCell (World.setCell z8 ⟨ga, 0, none⟩ (.int .i64 t')) ⟨ga, 1, none⟩ (.int .i64 vo')) = z9 at *
        clear hw6
        refine s_one (i := 19) (by kernel_rfl) ?_
        obtain ⟨c_0, c_1, c_2⟩ := HG2.out.c3
        obtain ⟨f_0, f_1, f_2⟩ := HG2.out.f3
        refine ones_skip (i := 19) (w' := ?_) rfl (by rfl) ?_ ?_ ?_
        rotate_left 1
        · go_simp
          first | done | rfl
        · exact fun _ => (((HC.out.set (p := ⟨gb, 0, none⟩) (.inr (by omega)) (.int .i64 0)).set (p := ⟨gb, 1, none⟩) (.inr (by omega)) (.int .i64 0)).set (p := ⟨gb, 2, none⟩) (.inr (by omega)) (.slice A5 sn' c5))
        simp only [Act.put, List.getElem_toArray, List.getElem_cons_zero, List.getElem_cons_succ]
        clear c_0 f_0 c_1 f_1 c_2 f_2
        replace HG2 := Lib.hid (show Whole _ _ _ #[.int .i64 0, .int .i64 0, .slice A5 sn' c5] from (((HG2.out.set 0 (.int .i64 0)).set 1 (.int .i64 0)).set 2 (.slice A5 sn' c5)))
        replace HC := Lib.hid (((HC.out.set (p := ⟨gb, 0, none⟩) (.inr (by omega)) (.int .i64 0)).set (p := ⟨gb, 1, none⟩) (.inr (by omega)) (.int .i64 0)).set (p := ⟨gb, 2, none⟩) (.inr (by omega)) (.slice A5 sn' c5))
        replace HG1 := Lib.hid (HG1.out.far (p := ⟨gb, 0, none⟩) (by first | exact hneq | exact hneq.symm) (.int .i64 0))
        replace HLR := Lib.hid (sls_far HLR.out (p := ⟨gb, 0, none⟩) (by simp only; omega) (.int .i64 0))
        replace HG1 := Lib.hid (HG1.out.far (p := ⟨gb, 1, none⟩) (by first | exact hneq | exact hneq.symm) (.int .i64 0))
        replace HLR := Lib.hid (sls_far HLR.out (p := ⟨gb, 1, none⟩) (by simp only; omega) (.int .i64 0))
        replace HG1 := Lib.hid (HG1.out.far (p := ⟨gb, 2, none⟩) (by first | exact hneq | exact hneq.symm) (.slice A5 sn' c5))
        replace HLR := Lib.hid (sls_far HLR.out (p := ⟨gb, 2, none⟩) (by simp only; omega) (.slice A5 sn' c5))
        generalize hw6 : (World.setCell (World.setCell (World.setCell z9 ⟨gb, 0, none⟩ (.int .i64 0)) ⟨gb, 1, none⟩ (.int .i64 0)) ⟨gb, 2, none⟩ (.slice A5 sn' c5)) = z10 at *
        clear hw6
        refine s_take (i := 20) (v := ?_) rfl (by kernel_rfl) (by kernel_rfl) (by kernel_rfl) (k0 := 20) (by kernel_rfl) (by kernel_rfl) (.inl rfl) (fun _ _ _ h => h) (by rfl) HC.out ?_ ?_
        rotate_left
        · intro W hW
          go_simp
          first | done | rfl
        simp only [Act.put, List.setIfInBounds_toArray, List.set_cons_zero, List.set_cons_succ, List.getElem_toArray, List.getElem_cons_zero, List.getElem_cons_succ]
        refine s_done (by kernel_rfl) ?_
        replace HBz := Lib.hid (HBz.out.trans (hDz.trans (HC.out.below (B := wz.heap.size) (fun _ h => h.elim) hzz0) |>.mono HBz.out.size))
        replace HVz := Lib.hid (HVz.out.keep (Below.kept hDz) (fun h => h) (fun _ _ h => h) |>.keep HC.out (fun h => h) (fun _ _ h => h))
        have hga : g ≠ ga ∧ g ≠ gb := by omega
        have hgtw : ∀ b, (b < z1.heap.size → b < z10.heap.size) := fun b hb => by have := HC.out.size; omega
        clear HC HXK hDz
        generalize hw5 : z10 = w5 at *
        clear hw5
        have hvs := HVz.out.st
        dsimp only at hvs
        rw [HDN.out, HSN.out] at hvs
        have HVS := Lib.hid hvs
        obtain ⟨k0, k1, k2, k3, k4⟩ := hvs.c5
        clear hvs
        have HDU := Lib.hid (HUP.out u huk _ HBz.out)
        have hgw5 := HVS.out.lt
        go_simp
        go_wp2_with (at_builtin; refine wpList_append_sl rfl _ (.tmp 45) rfl rowB w5.heap.size _ [] rfl (Own.nil _ _ _) w5.heap.size _ (d.take u) rfl HDU.out (by rw [HLT.out]; unfold maxLen; simp; omega) (by rw [HLT.out]; simp; omega) (Nat.le_refl _) ?_; intro v7 w7 hown7 hg7 hat7; rw [List.nil_append] at hown7; have hb7 := (Below.refl w5.heap.size w5).grown hg7 (Nat.le_refl _) (fun k hk => by cases hk); obtain ⟨A7, c7, rfl, -, -⟩ := hown7.sl.form; rw [HLT.out] at hown7 ⊢; have HO7 := Lib.hid hown7; have HB7 := Lib.hid hb7; replace HVS := Lib.hid (HVS.out.below hb7 HVS.out.lt); replace HG1 := Lib.hid (HG1.out.below hb7 HG1.out.lt); replace HG2 := Lib.hid (HG2.out.below hb7 HG2.out.lt); replace HLR := Lib.hid (HLR.out.stay (fun b _ hlt => hb7.block b hlt)); obtain ⟨c_0, c_1, c_2, c_3, c_4⟩ := HVS.out.c5; obtain ⟨f_0, f_1, f_2, f_3, f_4⟩ := HVS.out.f5; clear hown7 hg7 hat7 hb7 k0 k1 k2 k3 k4; have HV1 := Lib.hid (show Whole _ _ _ #[.slice A7 u c7, .int .i64 (sy : Int), .int .i64 t, .int .i64 vo, .slice A2 sn c2] from HVS.out.set 0 (.slice A7 u c7)); have HV2 := Lib.hid (show Whole _ _ _ #[.slice A7 u c7, .int .i64 (u : Int), .int .i64 t, .int .i64 vo, .slice A2 sn c2] from HV1.out.set 1 (.int .i64 (u : Int))); have HV5 := Lib.hid (show Whole _ _ _ #[.slice A7 u c7, .int .i64 (u : Int), .int .i64 t', .int .i64 vo', .slice A5 sn' c5] from ((HV2.out.set 2 (.int .i64 t')).set 3 (.int .i64 vo')).set 4 (.slice A5 sn' c5)); replace HG1 := Lib.hid ((HG1.out.far (p := ⟨g, 0, none⟩) (fun e => hga.1 e.symm) (.slice A7 u c7)).far (p := ⟨g, 1, none⟩) (fun e => hga.1 e.symm) (.int .i64 (u : Int))); replace HG2 := Lib.hid ((HG2.out.far (p := ⟨g, 0, none⟩) (fun e => hga.2 e.symm) (.slice A7 u c7)).far (p := ⟨g, 1, none⟩) (fun e => hga.2 e.symm) (.int .i64 (u : Int))); obtain ⟨d_0, d_1, d_2, d_3, d_4⟩ := HV1.out.c5; obtain ⟨e_0, e_1, e_2, e_3, e_4⟩ := HV1.out.f5; obtain ⟨m_0, m_1, m_2, m_3, m_4⟩ := HV2.out.c5; obtain ⟨n_0, n_1, n_2, n_3, n_4⟩ := HV2.out.f5; obtain ⟨x_0, x_1⟩ := HG1.out.c2; obtain ⟨y_0, y_1, y_2⟩ := HG2.out.c3; have HKK := Lib.hid ((((((Below.kept (D := fun b => b = g) (HBz.out.trans (HB7.out.mono HBz.out.size))).set (p := ⟨g, 0, none⟩) (.inl rfl) (.slice A7 u c7)).set (p := ⟨g, 1, none⟩) (.inl rfl) (.int .i64 (u : Int))).set (p := ⟨g, 2, none⟩) (.inl rfl) (.int .i64 t')).set (p := ⟨g, 3, none⟩) (.inl rfl) (.int .i64 vo')).set (p := ⟨g, 4, none⟩) (.inl rfl) (.slice A5 sn' c5)))
        have HOF := Lib.hid (((((HO7.out.set (p := ⟨g, 0, none⟩) (by simp; omega) (.slice A7 u c7)).set (p := ⟨g, 1, none⟩) (by simp; omega) (.int .i64 (u : Int))).set (p := ⟨g, 2, none⟩) (by simp; omega) (.int .i64 t')).set (p := ⟨g, 3, none⟩) (by simp; omega) (.int .i64 vo')).set (p := ⟨g, 4, none⟩) (by simp; omega) (.slice A5 sn' c5))
        have HLF := Lib.hid (sls_far (sls_far (sls_far (sls_far (sls_far HLR.out (p := ⟨g, 0, none⟩) (by simp only; omega) (.slice A7 u c7)) (p := ⟨g, 1, none⟩) (by simp only; omega) (.int .i64 (u : Int))) (p := ⟨g, 2, none⟩) (by simp only; omega) (.int .i64 t')) (p := ⟨g, 3, none⟩) (by simp only; omega) (.int .i64 vo')) (p := ⟨g, 4, none⟩) (by simp only; omega) (.slice A5 sn' c5))
        clear HV1 HV2 HG1 HG2 HVS
        go_end0
        rw [HCR.out]
        have hzb := HBz.out.size
        refine ⟨rfl, A7, c7, A5, c5, ⟨?_, ?_, ?_, ?_⟩, HKK.out⟩
        · dsimp only
          rw [HLT.out, HSN'.out]
          exact HV5.out
        · dsimp only
          rw [HLT.out]
          exact HOF.out.slS.wide (fun b hb _ => .inr (by omega))
        · dsimp only
          rw [HSN'.out]
          exact HLF.out.wide (fun b hb _ => .inr (by omega))
        · rintro (h | h)
          · exact hSg h
          · omega
    · refine ones_run (i := 16) (v := ?_) (w' := World.alloc (z1) (.cells #[.int .i64 0, .int .i64 0] 30)) rfl (by rfl) ?_ ?_ ?_
      rotate_left 1
      · go_simp
        first | done | rfl | (constructor <;> rfl)
      · exact fun _ => HC.out.trans (Below.kept ((Below.refl _ _).alloc (Nat.le_refl _) _))
      simp only [Act.put, List.setIfInBounds_toArray, List.set_cons_zero, List.set_cons_succ, List.getElem_toArray, List.getElem_cons_zero, List.getElem_cons_succ]
      have gage := HC.out.size
      have gas : z1.heap.size < (World.alloc (z1) (.cells #[.int .i64 0, .int .i64 0] 30)).heap.size := by simp
      have HG1 := Lib.hid (Whole.new (z1) 30 #[.int .i64 0, .int .i64 0])
      replace HC := Lib.hid (HC.out.trans (Below.kept ((Below.refl _ _).alloc (Nat.le_refl _) (.cells #[.int .i64 0, .int .i64 0] 30))))
      generalize hw6 : World.alloc (z1) _ = z11 at *
      clear hw6
      refine s_two (i := 11) (j := 17) (by kernel_rfl) ?_ ?_
      · refine ones_call (i := 11) (f := 22) (args := ?_) rfl (by rfl) ?_ ?_
        rotate_left
        · go_simp
          first | done | rfl
        with_reducible refine (HRD.out _ A3 (HUP.out K (by omega) _ (HBz.out.trans (hDz.trans (HC.out.below (B := wz.heap.size) (fun _ h => h.elim) hzz0) |>.mono HBz.out.size)))).mono ?_
        rintro e z12 ⟨A5, c5, rfl, hsl, hb⟩
        refine ⟨_, rfl, fun _ => HC.out.trans (Below.kept hb), ?_⟩
        replace HC := Lib.hid (HC.out.trans (Below.kept hb))
        simp only [HSN'.out] at hsl ⊢
        have hsc := hb.size
        have HLR := Lib.hid (hsl.wide (T := fun b => z11.heap.size ≤ b ∧ b < z12.heap.size) (fun b hb hlt => ⟨hb, hlt⟩))
        clear hsl
        replace HG1 := Lib.hid (HG1.out.below hb HG1.out.lt)
        clear hb
        simp only [Act.put, List.setIfInBounds_toArray, List.set_cons_zero, List.set_cons_succ, List.getElem_toArray, List.getElem_cons_zero, List.getElem_cons_succ]
        refine s_take (i := 12) (v := ?_) rfl (by kernel_rfl) (by kernel_rfl) (by kernel_rfl) (k0 := 12) (by kernel_rfl) (by kernel_rfl) (.inl rfl) (fun _ _ _ h => h) (by rfl) HC.out ?_ ?_
        rotate_left
        · intro W hW
          go_simp
          first | done | rfl
        simp only [Act.put, List.setIfInBounds_toArray, List.set_cons_zero, List.set_cons_succ, List.getElem_toArray, List.getElem_cons_zero, List.getElem_cons_succ]
        refine s_take (i := 13) (v := ?_) rfl (by kernel_rfl) (by kernel_rfl) (by kernel_rfl) (k0 := 13) (by kernel_rfl) (by kernel_rfl) (.inl rfl) (fun _ _ _ h => h) (by rfl) HC.out ?_ ?_
        rotate_left
        · intro W hW
          go_simp
          first | done | rfl
        simp only [Act.put, List.setIfInBounds_toArray, List.set_cons_zero, List.set_cons_succ, List.getElem_toArray, List.getElem_cons_zero, List.getElem_cons_succ]
        refine s_take (i := 14) (v := ?_) rfl (by kernel_rfl) (by kernel_rfl) (by kernel_rfl) (k0 := 14) (by kernel_rfl) (by kernel_rfl) (.inl rfl) (fun _ _ _ h => h) (by rfl) HC.out ?_ ?_
        rotate_left
        · intro W hW
          go_simp
          first | done | rfl
        simp only [Act.put, List.setIfInBounds_toArray, List.set_cons_zero, List.set_cons_succ, List.getElem_toArray, List.getElem_cons_zero, List.getElem_cons_succ]
        refine s_take (i := 15) (v := ?_) rfl (by kernel_rfl) (by kernel_rfl) (by kernel_rfl) (k0 := 15) (by kernel_rfl) (by kernel_rfl) (.inl rfl) (fun _ _ _ h => h) (by rfl) HC.out ?_ ?_
        rotate_left
        · intro W hW
          go_simp
          first | done | rfl
        simp only [Act.put, List.setIfInBounds_toArray, List.set_cons_zero, List.set_cons_succ, List.getElem_toArray, List.getElem_cons_zero, List.getElem_cons_succ]
        refine s_one (i := 17) (by kernel_rfl) ?_
        refine ones_run (i := 17) (v := ?_) (w' := World.alloc (z12) (.cells #[.int .i64 0, .int .i64 0, .slice none 0 0] 38)) rfl (by rfl) ?_ ?_ ?_
        rotate_left 1
        · go_simp
          first | done | rfl | (constructor <;> rfl)
        · exact fun _ => HC.out.trans (Below.kept ((Below.refl _ _).alloc (Nat.le_refl _) _))
        simp only [Act.put, List.setIfInBounds_toArray, List.set_cons_zero, List.set_cons_succ, List.getElem_toArray, List.getElem_cons_zero, List.getElem_cons_succ]
        have gbge := HC.out.size
        have gbs : z12.heap.size < (World.alloc (z12) (.cells #[.int .i64 0, .int .i64 0, .slice none 0 0] 38)).heap.size := by simp
        have hneq : z1.heap.size ≠ z12.heap.size := Nat.ne_of_lt HG1.out.lt
        replace HG1 := Lib.hid (HG1.out.alloc (.cells #[.int .i64 0, .int .i64 0, .slice none 0 0] 38))
        replace HLR := Lib.hid (HLR.out.stay (fun b _ hlt => ((Below.refl z12.heap.size z12).alloc (Nat.le_refl _) (.cells #[.int .i64 0, .int .i64 0, .slice none 0 0] 38)).block b hlt))
        have HG2 := Lib.hid (Whole.new (z12) 38 #[.int .i64 0, .int .i64 0, .slice none 0 0])
        replace HC := Lib.hid (HC.out.trans (Below.kept ((Below.refl _ _).alloc (Nat.le_refl _) (.cells #[.int .i64 0, .int .i64 0, .slice none 0 0] 38))))
        generalize hw6 : World.alloc (z12) _ = z13 at *
        clear hw6
        generalize hg6 : (z12).heap.size = gb at *
        clear hg6
        refine s_one (i := 18) (by kernel_rfl) ?_
        obtain ⟨c_0, c_1⟩ := HG1.out.c2
        obtain ⟨f_0, f_1⟩ := HG1.out.f2
        refine ones_skip (i := 18) (w' := ?_) rfl (by rfl) ?_ ?_ ?_
        rotate_left 1
        · go_simp
          first | done | rfl
        · exact fun _ => ((HC.out.set (p := ⟨z1.heap.size, 0, none⟩) (.inr (by omega)) (.int .i64 t')).set (p := ⟨z1.heap.size, 1, none⟩) (.inr (by omega)) (.int .i64 vo'))
        simp only [Act.put, List.getElem_toArray, List.getElem_cons_zero, List.getElem_cons_succ]
        clear c_0 f_0 c_1 f_1
        replace HG1 := Lib.hid (show Whole _ _ _ #[.int .i64 t', .int .i64 vo'] from ((HG1.out.set 0 (.int .i64 t')).set 1 (.int .i64 vo')))
        replace HC := Lib.hid ((HC.out.set (p := ⟨z1.heap.size, 0, none⟩) (.inr (by omega)) (.int .i64 t')).set (p := ⟨z1.heap.size, 1, none⟩) (.inr (by omega)) (.int .i64 vo'))
        replace HG2 := Lib.hid (HG2.out.far (p := ⟨z1.heap.size, 0, none⟩) (by first | exact hneq | exact hneq.symm) (.int .i64 t'))
        replace HLR := Lib.hid (sls_far HLR.out (p := ⟨z1.heap.size, 0, none⟩) (by simp only; omega) (.int .i64 t'))
        replace HG2 := Lib.hid (HG2.out.far (p := ⟨z1.heap.size, 1, none⟩) (by first | exact hneq | exact hneq.symm) (.int .i64 vo'))
        replace HLR := Lib.hid (sls_far HLR.out (p := ⟨z1.heap.size, 1, none⟩) (by simp only; omega) (.int .i64 vo'))
        generalize hw6 : (World.setCell (World.setCell z13 ⟨z1.heap.size, 0, none⟩ (.int .i64 t')) ⟨z1.heap.size, 1, none⟩ (.int .i64 vo')) = z14 at *
        clear hw6
        refine s_one (i := 19) (by kernel_rfl) ?_
        obtain ⟨c_0, c_1, c_2⟩ := HG2.out.c3
        obtain ⟨f_0, f_1, f_2⟩ := HG2.out.f3
        refine ones_skip (i := 19) (w' := ?_) rfl (by rfl) ?_ ?_ ?_
        rotate_left 1
        · go_simp
          first | done | rfl
        · exact fun _ => (((HC.out.set (p := ⟨gb, 0, none⟩) (.inr (by omega)) (.int .i64 0)).set (p := ⟨gb, 1, none⟩) (.inr (by omega)) (.int .i64 0)).set (p := ⟨gb, 2, none⟩) (.inr (by omega)) (.slice A5 sn' c5))
        simp only [Act.put, List.getElem_toArray, List.getElem_cons_zero, List.getElem_cons_succ]
        clear c_0 f_0 c_1 f_1 c_2 f_2
        replace HG2 := Lib.hid (show Whole _ _ _ #[.int .i64 0, .int .i64 0, .slice A5 sn' c5] from (((HG2.out.set 0 (.int .i64 0)).set 1 (.int .i64 0)).set 2 (.slice A5 sn' c5)))
        replace HC := Lib.hid (((HC.out.set (p := ⟨gb, 0, none⟩) (.inr (by omega)) (.int .i64 0)).set (p := ⟨gb, 1, none⟩) (.inr (by omega)) (.int .i64 0)).set (p := ⟨gb, 2, none⟩) (.inr (by omega)) (.slice A5 sn' c5))
        replace HG1 := Lib.hid (HG1.out.far (p := ⟨gb, 0, none⟩) (by first | exact hneq | exact hneq.symm) (.int .i64 0))
        replace HLR := Lib.hid (sls_far HLR.out (p := ⟨gb, 0, none⟩) (by simp only; omega) (.int .i64 0))
        replace HG1 := Lib.hid (HG1.out.far (p := ⟨gb, 1, none⟩) (by first | exact hneq | exact hneq.symm) (.int .i64 0))
        replace HLR := Lib.hid (sls_far HLR.out (p := ⟨gb, 1, none⟩) (by simp only; omega) (.int .i64 0))
        replace HG1 := Lib.hid (HG1.out.far (p := ⟨gb, 2, none⟩) (by first | exact hneq | exact hneq.symm) (.slice A5 sn' c5))
        replace HLR := Lib.hid (sls_far HLR.out (p := ⟨gb, 2, none⟩) (by simp only; omega) (.slice A5 sn' c5))
        generalize hw6 : (World.setCell (World.setCell (World.setCell z14 ⟨gb, 0, none⟩ (.int .i64 0)) ⟨gb, 1, none⟩ (.int .i64 0)) ⟨gb, 2, none⟩ (.slice A5 sn' c5)) = z15 at *
        clear hw6
        refine s_take (i := 20) (v := ?_) rfl (by kernel_rfl) (by kernel_rfl) (by kernel_rfl) (k0 := 20) (by kernel_rfl) (by kernel_rfl) (.inl rfl) (fun _ _ _ h => h) (by rfl) HC.out ?_ ?_
        rotate_left
        · intro W hW
          go_simp
          first | done | rfl
        simp only [Act.put, List.setIfInBounds_toArray, List.set_cons_zero, List.set_cons_succ, List.getElem_toArray, List.getElem_cons_zero, List.getElem_cons_succ]
        refine s_done (by kernel_rfl) ?_
        replace HBz := Lib.hid (HBz.out.trans (hDz.trans (HC.out.below (B := wz.heap.size) (fun _ h => h.elim) hzz0) |>.mono HBz.out.size))
        replace HVz := Lib.hid (HVz.out.keep (Below.kept hDz) (fun h => h) (fun _ _ h => h) |>.keep HC.out (fun h => h) (fun _ _ h => h))
        have hga : g ≠ z1.heap.size ∧ g ≠ gb := by omega
        have hgtw : ∀ b, (b < z1.heap.size → b < z15.heap.size) := fun b hb => by have := HC.out.size; omega
        clear HC HXK hDz
        generalize hw5 : z15 = w5 at *
        clear hw5
        have hvs := HVz.out.st
        dsimp only at hvs
        rw [HDN.out, HSN.out] at hvs
        have HVS := Lib.hid hvs
        obtain ⟨k0, k1, k2, k3, k4⟩ := hvs.c5
        clear hvs
        have HDU := Lib.hid (HUP.out u huk _ HBz.out)
        have hgw5 := HVS.out.lt
        go_simp
        go_wp2_with (at_builtin; refine wpList_append_sl rfl _ (.tmp 45) rfl rowB w5.heap.size _ [] rfl (Own.nil _ _ _) w5.heap.size _ (d.take u) rfl HDU.out (by rw [HLT.out]; unfold maxLen; simp; omega) (by rw [HLT.out]; simp; omega) (Nat.le_refl _) ?_; intro v7 w7 hown7 hg7 hat7; rw [List.nil_append] at hown7; have hb7 := (Below.refl w5.heap.size w5).grown hg7 (Nat.le_refl _) (fun k hk => by cases hk); obtain ⟨A7, c7, rfl, -, -⟩ := hown7.sl.form; rw [HLT.out] at hown7 ⊢; have HO7 := Lib.hid hown7; have HB7 := Lib.hid hb7; replace HVS := Lib.hid (HVS.out.below hb7 HVS.out.lt); replace HG1 := Lib.hid (HG1.out.below hb7 HG1.out.lt); replace HG2 := Lib.hid (HG2.out.below hb7 HG2.out.lt); replace HLR := Lib.hid (HLR.out.stay (fun b _ hlt => hb7.block b hlt)); obtain ⟨c_0, c_1, c_2, c_3, c_4⟩ := HVS.out.c5; obtain ⟨f_0, f_1, f_2, f_3, f_4⟩ := HVS.out.f5; clear hown7 hg7 hat7 hb7 k0 k1 k2 k3 k4; have HV1 := Lib.hid (show Whole _ _ _ #[.slice A7 u c7, .int .i64 (sy : Int), .int .i64 t, .int .i64 vo, .slice A2 sn c2] from HVS.out.set 0 (.slice A7 u c7)); have HV2 := Lib.hid (show Whole _ _ _ #[.slice A7 u c7, .int .i64 (u : Int), .int .i64 t, .int .i64 vo, .slice A2 sn c2] from HV1.out.set 1 (.int .i64 (u : Int))); have HV5 := Lib.hid (show Whole _ _ _ #[.slice A7 u c7, .int .i64 (u : Int), .int .i64 t', .int .i64 vo', .slice A5 sn' c5] from ((HV2.out.set 2 (.int .i64 t')).set 3 (.int .i64 vo')).set 4 (.slice A5 sn' c5)); replace HG1 := Lib.hid ((HG1.out.far (p := ⟨g, 0, none⟩) (fun e => hga.1 e.symm) (.slice A7 u c7)).far (p := ⟨g, 1, none⟩) (fun e => hga.1 e.symm) (.int .i64 (u : Int))); replace HG2 := Lib.hid ((HG2.out.far (p := ⟨g, 0, none⟩) (fun e => hga.2 e.symm) (.slice A7 u c7)).far (p := ⟨g, 1, none⟩) (fun e => hga.2 e.symm) (.int .i64 (u : Int))); obtain ⟨d_0, d_1, d_2, d_3, d_4⟩ := HV1.out.c5; obtain ⟨e_0, e_1, e_2, e_3, e_4⟩ := HV1.out.f5; obtain ⟨m_0, m_1, m_2, m_3, m_4⟩ := HV2.out.c5; obtain ⟨n_0, n_1, n_2, n_3, n_4⟩ := HV2.out.f5; obtain ⟨x_0, x_1⟩ := HG1.out.c2; obtain ⟨y_0, y_1, y_2⟩ := HG2.out.c3; have HKK := Lib.hid ((((((Below.kept (D := fun b => b = g) (HBz.out.trans (HB7.out.mono HBz.out.size))).set (p := ⟨g, 0, none⟩) (.inl rfl) (.slice A7 u c7)).set (p := ⟨g, 1, none⟩) (.inl rfl) (.int .i64 (u : Int))).set (p := ⟨g, 2, none⟩) (.inl rfl) (.int .i64 t')).set (p := ⟨g, 3, none⟩) (.inl rfl) (.int .i64 vo')).set (p := ⟨g, 4, none⟩) (.inl rfl) (.slice A5 sn' c5)))
        have HOF := Lib.hid (((((HO7.out.set (p := ⟨g, 0, none⟩) (by simp; omega) (.slice A7 u c7)).set (p := ⟨g, 1, none⟩) (by simp; omega) (.int .i64 (u : Int))).set (p := ⟨g, 2, none⟩) (by simp; omega) (.int .i64 t')).set (p := ⟨g, 3, none⟩) (by simp; omega) (.int .i64 vo')).set (p := ⟨g, 4, none⟩) (by simp; omega) (.slice A5 sn' c5))
        have HLF := Lib.hid (sls_far (sls_far (sls_far (sls_far (sls_far HLR.out (p := ⟨g, 0, none⟩) (by simp only; omega) (.slice A7 u c7)) (p := ⟨g, 1, none⟩) (by simp only; omega) (.int .i64 (u : Int))) (p := ⟨g, 2, none⟩) (by simp only; omega) (.int .i64 t')) (p := ⟨g, 3, none⟩) (by simp only; omega) (.int .i64 vo')) (p := ⟨g, 4, none⟩) (by simp only; omega) (.slice A5 sn' c5))
        clear HV1 HV2 HG1 HG2 HVS
        go_end0
        rw [HCR.out]
        have hzb := HBz.out.size
        refine ⟨rfl, A7, c7, A5, c5, ⟨?_, ?_, ?_, ?_⟩, HKK.out⟩
        · dsimp only
          rw [HLT.out, HSN'.out]
          exact HV5.out
        · dsimp only
          rw [HLT.out]
          exact HOF.out.slS.wide (fun b hb _ => .inr (by omega))
        · dsimp only
          rw [HSN'.out]
          exact HLF.out.wide (fun b hb _ => .inr (by omega))
        · rintro (h | h)
          · exact hSg h
          · omega
      · refine ones_run (i := 17) (v := ?_) (w' := World.alloc (z11) (.cells #[.int .i64 0, .int .i64 0, .slice none 0 0] 38)) rfl (by rfl) ?_ ?_ ?_
        rotate_left 1
        · go_simp
          first | done | rfl | (constructor <;> rfl)
        · exact fun _ => HC.out.trans (Below.kept ((Below.refl _ _).alloc (Nat.le_refl _) _))
        simp only [Act.put, List.setIfInBounds_toArray, List.set_cons_zero, List.set_cons_succ, List.getElem_toArray, List.getElem_cons_zero, List.getElem_cons_succ]
        have gbge := HC.out.size
        have gbs : z11.heap.size < (World.alloc (z11) (.cells #[.int .i64 0, .int .i64 0, .slice none 0 0] 38)).heap.size := by simp
        have hneq : z1.heap.size ≠ z11.heap.size := Nat.ne_of_lt HG1.out.lt
        replace HG1 := Lib.hid (HG1.out.alloc (.cells #[.int .i64 0, .int .i64 0, .slice none 0 0] 38))
        have HG2 := Lib.hid (Whole.new (z11) 38 #[.int .i64 0, .int .i64 0, .slice none 0 0])
        replace HC := Lib.hid (HC.out.trans (Below.kept ((Below.refl _ _).alloc (Nat.le_refl _) (.cells #[.int .i64 0, .int .i64 0, .slice none 0 0] 38))))
        generalize hw6 : World.alloc (z11) _ = z16 at *
        clear hw6
        generalize hg6 : (z11).heap.size = gb at *
        clear hg6
        refine s_one (i := 11) (by kernel_rfl) ?_
        refine ones_call (i := 11) (f := 22) (args := ?_) rfl (by rfl) ?_ ?_
        rotate_left
        · go_simp
          first | done | rfl
        with_reducible refine (HRD.out _ A3 (HUP.out K (by omega) _ (HBz.out.trans (hDz.trans (HC.out.below (B := wz.heap.size) (fun _ h => h.elim) hzz0) |>.mono HBz.out.size)))).mono ?_
        rintro e z17 ⟨A5, c5, rfl, hsl, hb⟩
        refine ⟨_, rfl, fun _ => HC.out.trans (Below.kept hb), ?_⟩
        replace HC := Lib.hid (HC.out.trans (Below.kept hb))
        simp only [HSN'.out] at hsl ⊢
        have hsc := hb.size
        have HLR := Lib.hid (hsl.wide (T := fun b => z16.heap.size ≤ b ∧ b < z17.heap.size) (fun b hb hlt => ⟨hb, hlt⟩))
        clear hsl
        replace HG1 := Lib.hid (HG1.out.below hb HG1.out.lt)
        replace HG2 := Lib.hid (HG2.out.below hb HG2.out.lt)
        clear hb
        simp only [Act.put, List.setIfInBounds_toArray, List.set_cons_zero, List.set_cons_succ, List.getElem_toArray, List.getElem_cons_zero, List.getElem_cons_succ]
        refine s_take (i := 12) (v := ?_) rfl (by kernel_rfl) (by kernel_rfl) (by kernel_rfl) (k0 := 12) (by kernel_rfl) (by kernel_rfl) (.inl rfl) (fun _ _ _ h => h) (by rfl) HC.out ?_ ?_
        rotate_left
        · intro W hW
          go_simp
          first | done | rfl
        simp only [Act.put, List.setIfInBounds_toArray, List.set_cons_zero, List.set_cons_succ, List.getElem_toArray, List.getElem_cons_zero, List.getElem_cons_succ]
        refine s_take (i := 13) (v := ?_) rfl (by kernel_rfl) (by kernel_rfl) (by kernel_rfl) (k0 := 13) (by kernel_rfl) (by kernel_rfl) (.inl rfl) (fun _ _ _ h => h) (by rfl) HC.out ?_ ?_
        rotate_left
        · intro W hW
          go_simp
          first | done | rfl
        simp only [Act.put, List.setIfInBounds_toArray, List.set_cons_zero, List.set_cons_succ, List.getElem_toArray, List.getElem_cons_zero, List.getElem_cons_succ]
        refine s_take (i := 14) (v := ?_) rfl (by kernel_rfl) (by kernel_rfl) (by kernel_rfl) (k0 := 14) (by kernel_rfl) (by kernel_rfl) (.inl rfl) (fun _ _ _ h => h) (by rfl) HC.out ?_ ?_
        rotate_left
        · intro W hW
          go_simp
          first | done | rfl
        simp only [Act.put, List.setIfInBounds_toArray, List.set_cons_zero, List.set_cons_succ, List.getElem_toArray, List.getElem_cons_zero, List.getElem_cons_succ]
        refine s_take (i := 15) (v := ?_) rfl (by kernel_rfl) (by kernel_rfl) (by kernel_rfl) (k0 := 15) (by kernel_rfl) (by kernel_rfl) (.inl rfl) (fun _ _ _ h => h) (by rfl) HC.out ?_ ?_
        rotate_left
        · intro W hW
          go_simp
          first | done | rfl
        simp only [Act.put, List.setIfInBounds_toArray, List.set_cons_zero, List.set_cons_succ, List.getElem_toArray, List.getElem_cons_zero, List.getElem_cons_succ]
        refine s_one (i := 18) (by kernel_rfl) ?_
        obtain ⟨c_0, c_1⟩ := HG1.out.c2
        obtain ⟨f_0, f_1⟩ := HG1.out.f2
        refine ones_skip (i := 18) (w' := ?_) rfl (by rfl) ?_ ?_ ?_
        rotate_left 1
        · go_simp
          first | done | rfl
        · exact fun _ => ((HC.out.set (p := ⟨z1.heap.size, 0, none⟩) (.inr (by omega)) (.int .i64 t')).set (p := ⟨z1.heap.size, 1, none⟩) (.inr (by omega)) (.int .i64 vo'))
        simp only [Act.put, List.getElem_toArray, List.getElem_cons_zero, List.getElem_cons_succ]
        clear c_0 f_0 c_1 f_1
        replace HG1 := Lib.hid (show Whole _ _ _ #[.int .i64 t', .int .i64 vo'] from ((HG1.out.set 0 (.int .i64 t')).set 1 (.int .i64 vo')))
        replace HC := Lib.hid ((HC.out.set (p := ⟨z1.heap.size, 0, none⟩) (.inr (by omega)) (.int .i64 t')).set (p := ⟨z1.heap.size, 1, none⟩) (.inr (by omega)) (.int .i64 vo'))
        replace HG2 := Lib.hid (HG2.out.far (p := ⟨z1.heap.size, 0, none⟩) (by first | exact hneq | exact hneq.symm) (.int .i64 t'))
        replace HLR := Lib.hid (sls_far HLR.out (p := ⟨z1.heap.size, 0, none⟩) (by simp only; omega) (.int .i64 t'))
        replace HG2 := Lib.hid (HG2.out.far (p := ⟨z1.heap.size, 1, none⟩) (by first | exact hneq | exact hneq.symm) (.int .i64 vo'))
        replace HLR := Lib.hid (sls_far HLR.out (p := ⟨z1.heap.size, 1, none⟩) (by simp only; omega) (.int .i64 vo'))
        generalize hw6 : (World.setCell (World.setCell z17 ⟨z1.heap.size, 0, none⟩ (.int .i64 t')) ⟨z1.heap.size, 1, none⟩ (.int .i64 vo')) = z18 at *
        clear hw6
        refine s_one (i := 19) (by kernel_rfl) ?_
        obtain ⟨c_0, c_1, c_2⟩ := HG2.out.c3
        obtain ⟨f_0, f_1, f_2⟩ := HG2.out.f3
        refine ones_skip (i := 19) (w' := ?_) rfl (by rfl) ?_ ?_ ?_
        rotate_left 1
        · go_simp
          first | done | rfl
        · exact fun _ => (((HC.out.set (p := ⟨gb, 0, none⟩) (.inr (by omega)) (.int .i64 0)).set (p := ⟨gb, 1, none⟩) (.inr (by omega)) (.int .i64 0)).set (p := ⟨gb, 2, none⟩) (.inr (by omega)) (.slice A5 sn' c5))
        simp only [Act.put, List.getElem_toArray, List.getElem_cons_zero, List.getElem_cons_succ]
        clear c_0 f_0 c_1 f_1 c_2 f_2
        replace HG2 := Lib.hid (show Whole _ _ _ #[.int .i64 0, .int .i64 0, .slice A5 sn' c5] from (((HG2.out.set 0 (.int .i64 0)).set 1 (.int .i64 0)).set 2 (.slice A5 sn' c5)))
        replace HC := Lib.hid (((HC.out.set (p := ⟨gb, 0, none⟩) (.inr (by omega)) (.int .i64 0)).set (p := ⟨gb, 1, none⟩) (.inr (by omega)) (.int .i64 0)).set (p := ⟨gb, 2, none⟩) (.inr (by omega)) (.slice A5 sn' c5))
        replace HG1 := Lib.hid (HG1.out.far (p := ⟨gb, 0, none⟩) (by first | exact hneq | exact hneq.symm) (.int .i64 0))
        replace HLR := Lib.hid (sls_far HLR.out (p := ⟨gb, 0, none⟩) (by simp only; omega) (.int .i64 0))
        replace HG1 := Lib.hid (HG1.out.far (p := ⟨gb, 1, none⟩) (by first | exact hneq | exact hneq.symm) (.int .i64 0))
        replace HLR := Lib.hid (sls_far HLR.out (p := ⟨gb, 1, none⟩) (by simp only; omega) (.int .i64 0))
        replace HG1 := Lib.hid (HG1.out.far (p := ⟨gb, 2, none⟩) (by first | exact hneq | exact hneq.symm) (.slice A5 sn' c5))
        replace HLR := Lib.hid (sls_far HLR.out (p := ⟨gb, 2, none⟩) (by simp only; omega) (.slice A5 sn' c5))
        generalize hw6 : (World.setCell (World.setCell (World.setCell z18 ⟨gb, 0, none⟩ (.int .i64 0)) ⟨gb, 1, none⟩ (.int .i64 0)) ⟨gb, 2, none⟩ (.slice A5 sn' c5)) = z19 at *
        clear hw6
        refine s_take (i := 20) (v := ?_) rfl (by kernel_rfl) (by kernel_rfl) (by kernel_rfl) (k0 := 20) (by kernel_rfl) (by kernel_rfl) (.inl rfl) (fun _ _ _ h => h) (by rfl) HC.out ?_ ?_
        rotate_left
        · intro W hW
          go_simp
          first | done | rfl
        simp only [Act.put, List.setIfInBounds_toArray, List.set_cons_zero, List.set_cons_succ, List.getElem_toArray, List.getElem_cons_zero, List.getElem_cons_succ]
        refine s_done (by kernel_rfl) ?_
        replace HBz := Lib.hid (HBz.out.trans (hDz.trans (HC.out.below (B := wz.heap.size) (fun _ h => h.elim) hzz0) |>.mono HBz.out.size))
        replace HVz := Lib.hid (HVz.out.keep (Below.kept hDz) (fun h => h) (fun _ _ h => h) |>.keep HC.out (fun h => h) (fun _ _ h => h))
        have hga : g ≠ z1.heap.size ∧ g ≠ gb := by omega
        have hgtw : ∀ b, (b < z1.heap.size → b < z19.heap.size) := fun b hb => by have := HC.out.size; omega
        clear HC HXK hDz
        generalize hw5 : z19 = w5 at *
        clear hw5
        have hvs := HVz.out.st
        dsimp only at hvs
        rw [HDN.out, HSN.out] at hvs
        have HVS := Lib.hid hvs
        obtain ⟨k0, k1, k2, k3, k4⟩ := hvs.c5
        clear hvs
        have HDU := Lib.hid (HUP.out u huk _ HBz.out)
        have hgw5 := HVS.out.lt
        go_simp
        go_wp2_with (at_builtin; refine wpList_append_sl rfl _ (.tmp 45) rfl rowB w5.heap.size _ [] rfl (Own.nil _ _ _) w5.heap.size _ (d.take u) rfl HDU.out (by rw [HLT.out]; unfold maxLen; simp; omega) (by rw [HLT.out]; simp; omega) (Nat.le_refl _) ?_; intro v7 w7 hown7 hg7 hat7; rw [List.nil_append] at hown7; have hb7 := (Below.refl w5.heap.size w5).grown hg7 (Nat.le_refl _) (fun k hk => by cases hk); obtain ⟨A7, c7, rfl, -, -⟩ := hown7.sl.form; rw [HLT.out] at hown7 ⊢; have HO7 := Lib.hid hown7; have HB7 := Lib.hid hb7; replace HVS := Lib.hid (HVS.out.below hb7 HVS.out.lt); replace HG1 := Lib.hid (HG1.out.below hb7 HG1.out.lt); replace HG2 := Lib.hid (HG2.out.below hb7 HG2.out.lt); replace HLR := Lib.hid (HLR.out.stay (fun b _ hlt => hb7.block b hlt)); obtain ⟨c_0, c_1, c_2, c_3, c_4⟩ := HVS.out.c5; obtain ⟨f_0, f_1, f_2, f_3, f_4⟩ := HVS.out.f5; clear hown7 hg7 hat7 hb7 k0 k1 k2 k3 k4; have HV1 := Lib.hid (show Whole _ _ _ #[.slice A7 u c7, .int .i64 (sy : Int), .int .i64 t, .int .i64 vo, .slice A2 sn c2] from HVS.out.set 0 (.slice A7 u c7)); have HV2 := Lib.hid (show Whole _ _ _ #[.slice A7 u c7, .int .i64 (u : Int), .int .i64 t, .int .i64 vo, .slice A2 sn c2] from HV1.out.set 1 (.int .i64 (u : Int))); have HV5 := Lib.hid (show Whole _ _ _ #[.slice A7 u c7, .int .i64 (u : Int), .int .i64 t', .int .i64 vo', .slice A5 sn' c5] from ((HV2.out.set 2 (.int .i64 t')).set 3 (.int .i64 vo')).set 4 (.slice A5 sn' c5)); replace HG1 := Lib.hid ((HG1.out.far (p := ⟨g, 0, none⟩) (fun e => hga.1 e.symm) (.slice A7 u c7)).far (p := ⟨g, 1, none⟩) (fun e => hga.1 e.symm) (.int .i64 (u : Int))); replace HG2 := Lib.hid ((HG2.out.far (p := ⟨g, 0, none⟩) (fun e => hga.2 e.symm) (.slice A7 u c7)).far (p := ⟨g, 1, none⟩) (fun e => hga.2 e.symm) (.int .i64 (u : Int))); obtain ⟨d_0, d_1, d_2, d_3, d_4⟩ := HV1.out.c5; obtain ⟨e_0, e_1, e_2, e_3, e_4⟩ := HV1.out.f5; obtain ⟨m_0, m_1, m_2, m_3, m_4⟩ := HV2.out.c5; obtain ⟨n_0, n_1, n_2, n_3, n_4⟩ := HV2.out.f5; obtain ⟨x_0, x_1⟩ := HG1.out.c2; obtain ⟨y_0, y_1, y_2⟩ := HG2.out.c3; have HKK := Lib.hid ((((((Below.kept (D := fun b => b = g) (HBz.out.trans (HB7.out.mono HBz.out.size))).set (p := ⟨g, 0, none⟩) (.inl rfl) (.slice A7 u c7)).set (p := ⟨g, 1, none⟩) (.inl rfl) (.int .i64 (u : Int))).set (p := ⟨g, 2, none⟩) (.inl rfl) (.int .i64 t')).set (p := ⟨g, 3, none⟩) (.inl rfl) (.int .i64 vo')).set (p := ⟨g, 4, none⟩) (.inl rfl) (.slice A5 sn' c5)))
        have HOF := Lib.hid (((((HO7.out.set (p := ⟨g, 0, none⟩) (by simp; omega) (.slice A7 u c7)).set (p := ⟨g, 1, none⟩) (by simp; omega) (.int .i64 (u : Int))).set (p := ⟨g, 2, none⟩) (by simp; omega) (.int .i64 t')).set (p := ⟨g, 3, none⟩) (by simp; omega) (.int .i64 vo')).set (p := ⟨g, 4, none⟩) (by simp; omega) (.slice A5 sn' c5))
        have HLF := Lib.hid (sls_far (sls_far (sls_far (sls_far (sls_far HLR.out (p := ⟨g, 0, none⟩) (by simp only; omega) (.slice A7 u c7)) (p := ⟨g, 1, none⟩) (by simp only; omega) (.int .i64 (u : Int))) (p := ⟨g, 2, none⟩) (by simp only; omega) (.int .i64 t')) (p := ⟨g, 3, none⟩) (by simp only; omega) (.int .i64 vo')) (p := ⟨g, 4, none⟩) (by simp only; omega) (.slice A5 sn' c5))
        clear HV1 HV2 HG1 HG2 HVS
        go_end0
        rw [HCR.out]
        have hzb := HBz.out.size
        refine ⟨rfl, A7, c7, A5, c5, ⟨?_, ?_, ?_, ?_⟩, HKK.out⟩
        · dsimp only
          rw [HLT.out, HSN'.out]
          exact HV5.out
        · dsimp only
          rw [HLT.out]
          exact HOF.out.slS.wide (fun b hb _ => .inr (by omega))
        · dsimp only
          rw [HSN'.out]
          exact HLF.out.wide (fun b hb _ => .inr (by omega))
        · rintro (h | h)
          · exact hSg h
          · omega
    · refine ones_run (i := 17) (v := ?_) (w' := World.alloc (z1) (.cells #[.int .i64 0, .int .i64 0, .slice none 0 0] 38)) rfl (by rfl) ?_ ?_ ?_
      rotate_left 1
      · go_simp
        first | done | rfl | (constructor <;> rfl)
      · exact fun _ => HC.out.trans (Below.kept ((Below.refl _ _).alloc (Nat.le_refl _) _))
      simp only [Act.put, List.setIfInBounds_toArray, List.set_cons_zero, List.set_cons_succ, List.getElem_toArray, List.getElem_cons_zero, List.getElem_cons_succ]
      have gbge := HC.out.size
      have gbs : z1.heap.size < (World.alloc (z1) (.cells #[.int .i64 0, .int .i64 0, .slice none 0 0] 38)).heap.size := by simp
      have HG2 := Lib.hid (Whole.new (z1) 38 #[.int .i64 0, .int .i64 0, .slice none 0 0])
      replace HC := Lib.hid (HC.out.trans (Below.kept ((Below.refl _ _).alloc (Nat.le_refl _) (.cells #[.int .i64 0, .int .i64 0, .slice none 0 0] 38))))
      generalize hw6 : World.alloc (z1) _ = z20 at *
      clear hw6
      refine s_two (i := 11) (j := 16) (by kernel_rfl) ?_ ?_
      · refine ones_call (i := 11) (f := 22) (args := ?_) rfl (by rfl) ?_ ?_
        rotate_left
        · go_simp
          first | done | rfl
        with_reducible refine (HRD.out _ A3 (HUP.out K (by omega) _ (HBz.out.trans (hDz.trans (HC.out.below (B := wz.heap.size) (fun _ h => h.elim) hzz0) |>.mono HBz.out.size)))).mono ?_
        rintro e z21 ⟨A5, c5, rfl, hsl, hb⟩
        refine ⟨_, rfl, fun _ => HC.out.trans (Below.kept hb), ?_⟩
        replace HC := Lib.hid (HC.out.trans (Below.kept hb))
        simp only [HSN'.out] at hsl ⊢
        have hsc := hb.size
        have HLR := Lib.hid (hsl.wide (T := fun b => z20.heap.size ≤ b ∧ b < z21.heap.size) (fun b hb hlt => ⟨hb, hlt⟩))
        clear hsl
        replace HG2 := Lib.hid (HG2.out.below hb HG2.out.lt)
        clear hb
        simp only [Act.put, List.setIfInBounds_toArray, List.set_cons_zero, List.set_cons_succ, List.getElem_toArray, List.getElem_cons_zero, List.getElem_cons_succ]
        refine s_take (i := 12) (v := ?_) rfl (by kernel_rfl) (by kernel_rfl) (by kernel_rfl) (k0 := 12) (by kernel_rfl) (by kernel_rfl) (.inl rfl) (fun _ _ _ h => h) (by rfl) HC.out ?_ ?_
        rotate_left
        · intro W hW
          go_simp
          first | done | rfl
        simp only [Act.put, List.setIfInBounds_toArray, List.set_cons_zero, List.set_cons_succ, List.getElem_toArray, List.getElem_cons_zero, List.getElem_cons_succ]
        refine s_take (i := 13) (v := ?_) rfl (by kernel_rfl) (by kernel_rfl) (by kernel_rfl) (k0 := 13) (by kernel_rfl) (by kernel_rfl) (.inl rfl) (fun _ _ _ h => h) (by rfl) HC.out ?_ ?_
        rotate_left
        · intro W hW
          go_simp
          first | done | rfl
        simp only [Act.put, List.setIfInBounds_toArray, List.set_cons_zero, List.set_cons_succ, List.getElem_toArray, List.getElem_cons_zero, List.getElem_cons_succ]
        refine s_take (i := 14) (v := ?_) rfl (by kernel_rfl) (by kernel_rfl) (by kernel_rfl) (k0 := 14) (by kernel_rfl) (by kernel_rfl) (.inl rfl) (fun _ _ _ h => h) (by rfl) HC.out ?_ ?_
        rotate_left
        · intro W hW
          go_simp
          first | done | rfl
        simp only [Act.put, List.setIfInBounds_toArray, List.set_cons_zero, List.set_cons_succ, List.getElem_toArray, List.getElem_cons_zero, List.getElem_cons_succ]
        refine s_take (i := 15) (v := ?_) rfl (by kernel_rfl) (by kernel_rfl) (by kernel_rfl) (k0 := 15) (by kernel_rfl) (by kernel_rfl) (.inl rfl) (fun _ _ _ h => h) (by rfl) HC.out ?_ ?_
        rotate_left
        · intro W hW
          go_simp
          first | done | rfl
        simp only [Act.put, List.setIfInBounds_toArray, List.set_cons_zero, List.set_cons_succ, List.getElem_toArray, List.getElem_cons_zero, List.getElem_cons_succ]
        refine s_one (i := 16) (by kernel_rfl) ?_
        refine ones_run (i := 16) (v := ?_) (w' := World.alloc (z21) (.cells #[.int .i64 0, .int .i64 0] 30)) rfl (by rfl) ?_ ?_ ?_
        rotate_left 1
        · go_simp
          first | done | rfl | (constructor <;> rfl)
        · exact fun _ => HC.out.trans (Below.kept ((Below.refl _ _).alloc (Nat.le_refl _) _))
        simp only [Act.put, List.setIfInBounds_toArray, List.set_cons_zero, List.set_cons_succ, List.getElem_toArray, List.getElem_cons_zero, List.getElem_cons_succ]
        have gage := HC.out.size
        have gas : z21.heap.size < (World.alloc (z21) (.cells #[.int .i64 0, .int .i64 0] 30)).heap.size := by simp
        have hneq : z1.heap.size ≠ z21.heap.size := Nat.ne_of_lt HG2.out.lt
        replace HG2 := Lib.hid (HG2.out.alloc (.cells #[.int .i64 0, .int .i64 0] 30))
        replace HLR := Lib.hid (HLR.out.stay (fun b _ hlt => ((Below.refl z21.heap.size z21).alloc (Nat.le_refl _) (.cells #[.int .i64 0, .int .i64 0] 30)).block b hlt))
        have HG1 := Lib.hid (Whole.new (z21) 30 #[.int .i64 0, .int .i64 0])
        replace HC := Lib.hid (HC.out.trans (Below.kept ((Below.refl _ _).alloc (Nat.le_refl _) (.cells #[.int .i64 0, .int .i64 0] 30))))
        generalize hw6 : World.alloc (z21) _ = z22 at *
        clear hw6
        generalize hg6 : (z21).heap.size = ga at *
        clear hg6
        refine s_one (i := 18) (by kernel_rfl) ?_
        obtain ⟨c_0, c_1⟩ := HG1.out.c2
        obtain ⟨f_0, f_1⟩ := HG1.out.f2
        refine ones_skip (i := 18) (w' := ?_) rfl (by rfl) ?_ ?_ ?_
        rotate_left 1
        · go_simp
          first | done | rfl
        · exact fun _ => ((HC.out.set (p := ⟨ga, 0, none⟩) (.inr (by omega)) (.int .i64 t')).set (p := ⟨ga, 1, none⟩) (.inr (by omega)) (.int .i64 vo'))
        simp only [Act.put, List.getElem_toArray, List.getElem_cons_zero, List.getElem_cons_succ]
        clear c_0 f_0 c_1 f_1
        replace HG1 := Lib.hid (show Whole _ _ _ #[.int .i64 t', .int .i64 vo'] from ((HG1.out.set 0 (.int .i64 t')).set 1 (.int .i64 vo')))
        replace HC := Lib.hid ((HC.out.set (p := ⟨ga, 0, none⟩) (.inr (by omega)) (.int .i64 t')).set (p := ⟨ga, 1, none⟩) (.inr (by omega)) (.int .i64 vo'))
        replace HG2 := Lib.hid (HG2.out.far (p := ⟨ga, 0, none⟩) (by first | exact hneq | exact hneq.symm) (.int .i64 t'))
        replace HLR := Lib.hid (sls_far HLR.out (p := ⟨ga, 0, none⟩) (by simp only; omega) (.int .i64 t'))
        replace HG2 := Lib.hid (HG2.out.far (p := ⟨ga, 1, none⟩) (by first | exact hneq | exact hneq.symm) (.int .i64 vo'))
        replace HLR := Lib.hid (sls_far HLR.out (p := ⟨ga, 1, none⟩) (by simp only; omega) (.int .i64 vo'))
        generalize hw6 : (World.setCell (World.setCell z22 ⟨ga, 0, none⟩ (.int .i64 t')) ⟨ga, 1, none⟩ (.int .i64 vo')) = z23 at *
        clear hw6
        refine s_one (i := 19) (by kernel_rfl) ?_
        obtain ⟨c_0, c_1, c_2⟩ := HG2.out.c3
        obtain ⟨f_0, f_1, f_2⟩ := HG2.out.f3
        refine ones_skip (i := 19) (w' := ?_) rfl (by rfl) ?_ ?_ ?_
        rotate_left 1
        · go_simp
          first | done | rfl
        · exact fun _ => (((HC.out.set (p := ⟨z1.heap.size, 0, none⟩) (.inr (by omega)) (.int .i64 0)).set (p := ⟨z1.heap.size, 1, none⟩) (.inr (by omega)) (.int .i64 0)).set (p := ⟨z1.heap.size, 2, none⟩) (.inr (by omega)) (.slice A5 sn' c5))
        simp only [Act.put, List.getElem_toArray, List.getElem_cons_zero, List.getElem_cons_succ]
        clear c_0 f_0 c_1 f_1 c_2 f_2
        replace HG2 := Lib.hid (show Whole _ _ _ #[.int .i64 0, .int .i64 0, .slice A5 sn' c5] from (((HG2.out.set 0 (.int .i64 0)).set 1 (.int .i64 0)).set 2 (.slice A5 sn' c5)))
        replace HC := Lib.hid (((HC.out.set (p := ⟨z1.heap.size, 0, none⟩) (.inr (by omega)) (.int .i64 0)).set (p := ⟨z1.heap.size, 1, none⟩) (.inr (by omega)) (.int .i64 0)).set (p := ⟨z1.heap.size, 2, none⟩) (.inr (by omega)) (.slice A5 sn' c5))
        replace HG1 := Lib.hid (HG1.out.far (p := ⟨z1.heap.size, 0, none⟩) (by first | exact hneq | exact hneq.symm) (.int .i64 0))
        replace HLR := Lib.hid (sls_far HLR.out (p := ⟨z1.heap.size, 0, none⟩) (by simp only; omega) (.int .i64 0))
        replace HG1 := Lib.hid (HG1.out.far (p := ⟨z1.heap.size, 1, none⟩) (by first | exact hneq | exact hneq.symm) (.int .i64 0))
        replace HLR := Lib.hid (sls_far HLR.out (p := ⟨z1.heap.size, 1, none⟩) (by simp only; omega) (.int .i64 0))
        replace HG1 := Lib.hid (HG1.out.far (p := ⟨z1.heap.size, 2, none⟩) (by first | exact hneq | exact hneq.symm) (.slice A5 sn' c5))
        replace HLR := Lib.hid (sls_far HLR.out (p := ⟨z1.heap.size, 2, none⟩) (by simp only; omega) (.slice A5 sn' c5))
        generalize hw6 : (World.setCell (World.setCell (World.setCell z23 ⟨z1.heap.size, 0, none⟩ (.int .i64 0)) ⟨z1.heap.size, 1, none⟩ (.int .i64 0)) ⟨z1.heap.size, 2, none⟩ (.slice A5 sn' c5)) = z24 at *
        clear hw6
        refine s_take (i := 20) (v := ?_) rfl (by kernel_rfl) (by kernel_rfl) (by kernel_rfl) (k0 := 20) (by kernel_rfl) (by kernel_rfl) (.inl rfl) (fun _ _ _ h => h) (by rfl) HC.out ?_ ?_
        rotate_left
        · intro W hW
          go_simp
          first | done | rfl
        simp only [Act.put, List.setIfInBounds_toArray, List.set_cons_zero, List.set_cons_succ, List.getElem_toArray, List.getElem_cons_zero, List.getElem_cons_succ]
        refine s_done (by kernel_rfl) ?_
        replace HBz := Lib.hid (HBz.out.trans (hDz.trans (HC.out.below (B := wz.heap.size) (fun _ h => h.elim) hzz0) |>.mono HBz.out.size))
        replace HVz := Lib.hid (HVz.out.keep (Below.kept hDz) (fun h => h) (fun _ _ h => h) |>.keep HC.out (fun h => h) (fun _ _ h => h))
        have hga : g ≠ ga ∧ g ≠ z1.heap.size := by omega
        have hgtw : ∀ b, (b < z1.heap.size → b < z24.heap.size) := fun b hb => by have := HC.out.size; omega
        clear HC HXK hDz
        generalize hw5 : z24 = w5 at *
        clear hw5
        have hvs := HVz.out.st
        dsimp only at hvs
        rw [HDN.out, HSN.out] at hvs
        have HVS := Lib.hid hvs
        obtain ⟨k0, k1, k2, k3, k4⟩ := hvs.c5
        clear hvs
        have HDU := Lib.hid (HUP.out u huk _ HBz.out)
        have hgw5 := HVS.out.lt
        go_simp
        go_wp2_with (at_builtin; refine wpList_append_sl rfl _ (.tmp 45) rfl rowB w5.heap.size _ [] rfl (Own.nil _ _ _) w5.heap.size _ (d.take u) rfl HDU.out (by rw [HLT.out]; unfold maxLen; simp; omega) (by rw [HLT.out]; simp; omega) (Nat.le_refl _) ?_; intro v7 w7 hown7 hg7 hat7; rw [List.nil_append] at hown7; have hb7 := (Below.refl w5.heap.size w5).grown hg7 (Nat.le_refl _) (fun k hk => by cases hk); obtain ⟨A7, c7, rfl, -, -⟩ := hown7.sl.form; rw [HLT.out] at hown7 ⊢; have HO7 := Lib.hid hown7; have HB7 := Lib.hid hb7; replace HVS := Lib.hid (HVS.out.below hb7 HVS.out.lt); replace HG1 := Lib.hid (HG1.out.below hb7 HG1.out.lt); replace HG2 := Lib.hid (HG2.out.below hb7 HG2.out.lt); replace HLR := Lib.hid (HLR.out.stay (fun b _ hlt => hb7.block b hlt)); obtain ⟨c_0, c_1, c_2, c_3, c_4⟩ := HVS.out.c5; obtain ⟨f_0, f_1, f_2, f_3, f_4⟩ := HVS.out.f5; clear hown7 hg7 hat7 hb7 k0 k1 k2 k3 k4; have HV1 := Lib.hid (show Whole _ _ _ #[.slice A7 u c7, .int .i64 (sy : Int), .int .i64 t, .int .i64 vo, .slice A2 sn c2] from HVS.out.set 0 (.slice A7 u c7)); have HV2 := Lib.hid (show Whole _ _ _ #[.slice A7 u c7, .int .i64 (u : Int), .int .i64 t, .int .i64 vo, .slice A2 sn c2] from HV1.out.set 1 (.int .i64 (u : Int))); have HV5 := Lib.hid (show Whole _ _ _ #[.slice A7 u c7, .int .i64 (u : Int), .int .i64 t', .int .i64 vo', .slice A5 sn' c5] from ((HV2.out.set 2 (.int .i64 t')).set 3 (.int .i64 vo')).set 4 (.slice A5 sn' c5)); replace HG1 := Lib.hid ((HG1.out.far (p := ⟨g, 0, none⟩) (fun e => hga.1 e.symm) (.slice A7 u c7)).far (p := ⟨g, 1, none⟩) (fun e => hga.1 e.symm) (.int .i64 (u : Int))); replace HG2 := Lib.hid ((HG2.out.far (p := ⟨g, 0, none⟩) (fun e => hga.2 e.symm) (.slice A7 u c7)).far (p := ⟨g, 1, none⟩) (fun e => hga.2 e.symm) (.int .i64 (u : Int))); obtain ⟨d_0, d_1, d_2, d_3, d_4⟩ := HV1.out.c5; obtain ⟨e_0, e_1, e_2, e_3, e_4⟩ := HV1.out.f5; obtain ⟨m_0, m_1, m_2, m_3, m_4⟩ := HV2.out.c5; obtain ⟨n_0, n_1, n_2, n_3, n_4⟩ := HV2.out.f5; obtain ⟨x_0, x_1⟩ := HG1.out.c2; obtain ⟨y_0, y_1, y_2⟩ := HG2.out.c3; have HKK := Lib.hid ((((((Below.kept (D := fun b => b = g) (HBz.out.trans (HB7.out.mono HBz.out.size))).set (p := ⟨g, 0, none⟩) (.inl rfl) (.slice A7 u c7)).set (p := ⟨g, 1, none⟩) (.inl rfl) (.int .i64 (u : Int))).set (p := ⟨g, 2, none⟩) (.inl rfl) (.int .i64 t')).set (p := ⟨g, 3, none⟩) (.inl rfl) (.int .i64 vo')).set (p := ⟨g, 4, none⟩) (.inl rfl) (.slice A5 sn' c5)))
        have HOF := Lib.hid (((((HO7.out.set (p := ⟨g, 0, none⟩) (by simp; omega) (.slice A7 u c7)).set (p := ⟨g, 1, none⟩) (by simp; omega) (.int .i64 (u : Int))).set (p := ⟨g, 2, none⟩) (by simp; omega) (.int .i64 t')).set (p := ⟨g, 3, none⟩) (by simp; omega) (.int .i64 vo')).set (p := ⟨g, 4, none⟩) (by simp; omega) (.slice A5 sn' c5))
        have HLF := Lib.hid (sls_far (sls_far (sls_far (sls_far (sls_far HLR.out (p := ⟨g, 0, none⟩) (by simp only; omega) (.slice A7 u c7)) (p := ⟨g, 1, none⟩) (by simp only; omega) (.int .i64 (u : Int))) (p := ⟨g, 2, none⟩) (by simp only; omega) (.int .i64 t')) (p := ⟨g, 3, none⟩) (by simp only; omega) (.int .i64 vo')) (p := ⟨g, 4, none⟩) (by simp only; omega) (.slice A5 sn' c5))
        clear HV1 HV2 HG1 HG2 HVS
        go_end0
        rw [HCR.out]
        have hzb := HBz.out.size
        refine ⟨rfl, A7, c7, A5, c5, ⟨?_, ?_, ?_, ?_⟩, HKK.out⟩
        · dsimp only
          rw [HLT.out, HSN'.out]
          exact HV5.out
        · dsimp only
          rw [HLT.out]
          exact HOF.out.slS.wide (fun b hb _ => .inr (by omega))
        · dsimp only
          rw [HSN'.out]
          exact HLF.out.wide (fun b hb _ => .inr (by omega))
        · rintro (h | h)
          · exact hSg h
          · omega
      · refine ones_run (i := 16) (v := ?_) (w' := World.alloc (z20) (.cells #[.int .i64 0, .int .i64 0] 30)) rfl (by rfl) ?_ ?_ ?_
        rotate_left 1
        · go_simp
          first | done | rfl | (constructor <;> rfl)
        · exact fun _ => HC.out.trans (Below.kept ((Below.refl _ _).alloc (Nat.le_refl _) _))
        simp only [Act.put, List.setIfInBounds_toArray, List.set_cons_zero, List.set_cons_succ, List.getElem_toArray, List.getElem_cons_zero, List.getElem_cons_succ]
        have gage := HC.out.size
        have gas : z20.heap.size < (World.alloc (z20) (.cells #[.int .i64 0, .int .i64 0] 30)).heap.size := by simp
        have hneq : z1.heap.size ≠ z20.heap.size := Nat.ne_of_lt HG2.out.lt
        replace HG2 := Lib.hid (HG2.out.alloc (.cells #[.int .i64 0, .int .i64 0] 30))
        have HG1 := Lib.hid (Whole.new (z20) 30 #[.int .i64 0, .int .i64 0])
        replace HC := Lib.hid (HC.out.trans (Below.kept ((Below.refl _ _).alloc (Nat.le_refl _) (.cells #[.int .i64 0, .int .i64 0] 30))))
        generalize hw6 : World.alloc (z20) _ = z25 at *
        clear hw6
        generalize hg6 : (z20).heap.size = ga at *
        clear hg6
        refine s_one (i := 11) (by kernel_rfl) ?_
        refine ones_call (i := 11) (f := 22) (args := ?_) rfl (by rfl) ?_ ?_
        rotate_left
        · go_simp
          first | done | rfl
        with_reducible refine (HRD.out _ A3 (HUP.out K (by omega) _ (HBz.out.trans (hDz.trans (HC.out.below (B := wz.heap.size) (fun _ h => h.elim) hzz0) |>.mono HBz.out.size)))).mono ?_
        rintro e z26 ⟨A5, c5, rfl, hsl, hb⟩
        refine ⟨_, rfl, fun _ => HC.out.trans (Below.kept hb), ?_⟩
        replace HC := Lib.hid (HC.out.trans (Below.kept hb))
        simp only [HSN'.out] at hsl ⊢
        have hsc := hb.size
        have HLR := Lib.hid (hsl.wide (T := fun b => z25.heap.size ≤ b ∧ b < z26.heap.size) (fun b hb hlt => ⟨hb, hlt⟩))
        clear hsl
        replace HG1 := Lib.hid (HG1.out.below hb HG1.out.lt)
        replace HG2 := Lib.hid (HG2.out.below hb HG2.out.lt)
        clear hb
        simp only [Act.put, List.setIfInBounds_toArray, List.set_cons_zero, List.set_cons_succ, List.getElem_toArray, List.getElem_cons_zero, List.getElem_cons_succ]
        refine s_take (i := 12) (v := ?_) rfl (by kernel_rfl) (by kernel_rfl) (by kernel_rfl) (k0 := 12) (by kernel_rfl) (by kernel_rfl) (.inl rfl) (fun _ _ _ h => h) (by rfl) HC.out ?_ ?_
        rotate_left
        · intro W hW
          go_simp
          first | done | rfl
        simp only [Act.put, List.setIfInBounds_toArray, List.set_cons_zero, List.set_cons_succ, List.getElem_toArray, List.getElem_cons_zero, List.getElem_cons_succ]
        refine s_take (i := 13) (v := ?_) rfl (by kernel_rfl) (by kernel_rfl) (by kernel_rfl) (k0 := 13) (by kernel_rfl) (by kernel_rfl) (.inl rfl) (fun _ _ _ h => h) (by rfl) HC.out ?_ ?_
        rotate_left
        · intro W hW
          go_simp
          first | done | rfl
        simp only [Act.put, List.setIfInBounds_toArray, List.set_cons_zero, List.set_cons_succ, List.getElem_toArray, List.getElem_cons_zero, List.getElem_cons_succ]
        refine s_take (i := 14) (v := ?_) rfl (by kernel_rfl) (by kernel_rfl) (by kernel_rfl) (k0 := 14) (by kernel_rfl) (by kernel_rfl) (.inl rfl) (fun _ _ _ h => h) (by rfl) HC.out ?_ ?_
        rotate_left
        · intro W hW
          go_simp
          first | done | rfl
        simp only [Act.put, List.setIfInBounds_toArray, List.set_cons_zero, List.set_cons_succ, List.getElem_toArray, List.getElem_cons_zero, List.getElem_cons_succ]
        refine s_take (i := 15) (v := ?_) rfl (by kernel_rfl) (by kernel_rfl) (by kernel_rfl) (k0 := 15) (by kernel_rfl) (by kernel_rfl) (.inl rfl) (fun _ _ _ h => h) (by rfl) HC.out ?_ ?_
        rotate_left
        · intro W hW
          go_simp
          first | done | rfl
        simp only [Act.put, List.setIfInBounds_toArray, List.set_cons_zero, List.set_cons_succ, List.getElem_toArray, List.getElem_cons_zero, List.getElem_cons_succ]
        refine s_one (i := 18) (by kernel_rfl) ?_
        obtain ⟨c_0, c_1⟩ := HG1.out.c2
        obtain ⟨f_0, f_1⟩ := HG1.out.f2
        refine ones_skip (i := 18) (w' := ?_) rfl (by rfl) ?_ ?_ ?_
        rotate_left 1
        · go_simp
          first | done | rfl
        · exact fun _ => ((HC.out.set (p := ⟨ga, 0, none⟩) (.inr (by omega)) (.int .i64 t')).set (p := ⟨ga, 1, none⟩) (.inr (by omega)) (.int .i64 vo'))
        simp only [Act.put, List.getElem_toArray, List.getElem_cons_zero, List.getElem_cons_succ]
        clear c_0 f_0 c_1 f_1
        replace HG1 := Lib.hid (show Whole _ _ _ #[.int .i64 t', .int .i64 vo'] from ((HG1.out.set 0 (.int .i64 t')).set 1 (.int .i64 vo')))
        replace HC := Lib.hid ((HC.out.set (p := ⟨ga, 0, none⟩) (.inr (by omega)) (.int .i64 t')).set (p := ⟨ga, 1, none⟩) (.inr (by omega)) (.int .i64 vo'))
        replace HG2 := Lib.hid (HG2.out.far (p := ⟨ga, 0, none⟩) (by first | exact hneq | exact hneq.symm) (.int .i64 t'))
        replace HLR := Lib.hid (sls_far HLR.out (p := ⟨ga, 0, none⟩) (by simp only; omega) (.int .i64 t'))
        replace HG2 := Lib.hid (HG2.out.far (p := ⟨ga, 1, none⟩) (by first | exact hneq | exact hneq.symm) (.int .i64 vo'))
        replace HLR := Lib.hid (sls_far HLR.out (p := ⟨ga, 1, none⟩) (by simp only; omega) (.int .i64 vo'))
        generalize hw6 : (World.setCell (World.setCell z26 ⟨ga, 0, none⟩ (.int .i64 t')) ⟨ga, 1, none⟩ (.int .i64 vo')) = z27 at *
        clear hw6
        refine s_one (i := 19) (by kernel_rfl) ?_
        obtain ⟨c_0, c_1, c_2⟩ := HG2.out.c3
        obtain ⟨f_0, f_1, f_2⟩ := HG2.out.f3
        refine ones_skip (i := 19) (w' := ?_) rfl (by rfl) ?_ ?_ ?_
        rotate_left 1
        · go_simp
          first | done | rfl
        · exact fun _ => (((HC.out.set (p := ⟨z1.heap.size, 0, none⟩) (.inr (by omega)) (.int .i64 0)).set (p := ⟨z1.heap.size, 1, none⟩) (.inr (by omega)) (.int .i64 0)).set (p := ⟨z1.heap.size, 2, none⟩) (.inr (by omega)) (.slice A5 sn' c5))
        simp only [Act.put, List.getElem_toArray, List.getElem_cons_zero, List.getElem_cons_succ]
        clear c_0 f_0 c_1 f_1 c_2 f_2
        replace HG2 := Lib.hid (show Whole _ _ _ #[.int .i64 0, .int .i64 0, .slice A5 sn' c5] from (((HG2.out.set 0 (.int .i64 0)).set 1 (.int .i64 0)).set 2 (.slice A5 sn' c5)))
        replace HC := Lib.hid (((HC.out.set (p := ⟨z1.heap.size, 0, none⟩) (.inr (by omega)) (.int .i64 0)).set (p := ⟨z1.heap.size, 1, none⟩) (.inr (by omega)) (.int .i64 0)).set (p := ⟨z1.heap.size, 2, none⟩) (.inr (by omega)) (.slice A5 sn' c5))
        replace HG1 := Lib.hid (HG1.out.far (p := ⟨z1.heap.size, 0, none⟩) (by first | exact hneq | exact hneq.symm) (.int .i64 0))
        replace HLR := Lib.hid (sls_far HLR.out (p := ⟨z1.heap.size, 0, none⟩) (by simp only; omega) (.int .i64 0))
        replace HG1 := Lib.hid (HG1.out.far (p := ⟨z1.heap.size, 1, none⟩) (by first | exact hneq | exact hneq.symm) (.int .i64 0))
        replace HLR := Lib.hid (sls_far HLR.out (p := ⟨z1.heap.size, 1, none⟩) (by simp only; omega) (.int .i64 0))
        replace HG1 := Lib.hid (HG1.out.far (p := ⟨z1.heap.size, 2, none⟩) (by first | exact hneq | exact hneq.symm) (.slice A5 sn' c5))
        replace HLR := Lib.hid (sls_far HLR.out (p := ⟨z1.heap.size, 2, none⟩) (by simp only; omega) (.slice A5 sn' c5))
        generalize hw6 : (World.setCell (World.setCell (World.setCell z27 ⟨z1.heap.size, 0, none⟩ (.int .i64 0)) ⟨z1.heap.size, 1, none⟩ (.int .i64 0)) ⟨z1.heap.size, 2, none⟩ (.slice A5 sn' c5)) = z28 at *
        clear hw6
        refine s_take (i := 20) (v := ?_) rfl (by kernel_rfl) (by kernel_rfl) (by kernel_rfl) (k0 := 20) (by kernel_rfl) (by kernel_rfl) (.inl rfl) (fun _ _ _ h => h) (by rfl) HC.out ?_ ?_
        rotate_left
        · intro W hW
          go_simp
          first | done | rfl
        simp only [Act.put, List.setIfInBounds_toArray, List.set_cons_zero, List.set_cons_succ, List.getElem_toArray, List.getElem_cons_zero, List.getElem_cons_succ]
        refine s_done (by kernel_rfl) ?_
        replace HBz := Lib.hid (HBz.out.trans (hDz.trans (HC.out.below (B := wz.heap.size) (fun _ h => h.elim) hzz0) |>.mono HBz.out.size))
        replace HVz := Lib.hid (HVz.out.keep (Below.kept hDz) (fun h => h) (fun _ _ h => h) |>.keep HC.out (fun h => h) (fun _ _ h => h))
        have hga : g ≠ ga ∧ g ≠ z1.heap.size := by omega
        have hgtw : ∀ b, (b < z1.heap.size → b < z28.heap.size) := fun b hb => by have := HC.out.size; omega
        clear HC HXK hDz
        generalize hw5 : z28 = w5 at *
        clear hw5
        have hvs := HVz.out.st
        dsimp only at hvs
        rw [HDN.out, HSN.out] at hvs
        have HVS := Lib.hid hvs
        obtain ⟨k0, k1, k2, k3, k4⟩ := hvs.c5
        clear hvs
        have HDU := Lib.hid (HUP.out u huk _ HBz.out)
        have hgw5 := HVS.out.lt
        go_simp
        go_wp2_with (at_builtin; refine wpList_append_sl rfl _ (.tmp 45) rfl rowB w5.heap.size _ [] rfl (Own.nil _ _ _) w5.heap.size _ (d.take u) rfl HDU.out (by rw [HLT.out]; unfold maxLen; simp; omega) (by rw [HLT.out]; simp; omega) (Nat.le_refl _) ?_; intro v7 w7 hown7 hg7 hat7; rw [List.nil_append] at hown7; have hb7 := (Below.refl w5.heap.size w5).grown hg7 (Nat.le_refl _) (fun k hk => by cases hk); obtain ⟨A7, c7, rfl, -, -⟩ := hown7.sl.form; rw [HLT.out] at hown7 ⊢; have HO7 := Lib.hid hown7; have HB7 := Lib.hid hb7; replace HVS := Lib.hid (HVS.out.below hb7 HVS.out.lt); replace HG1 := Lib.hid (HG1.out.below hb7 HG1.out.lt); replace HG2 := Lib.hid (HG2.out.below hb7 HG2.out.lt); replace HLR := Lib.hid (HLR.out.stay (fun b _ hlt => hb7.block b hlt)); obtain ⟨c_0, c_1, c_2, c_3, c_4⟩ := HVS.out.c5; obtain ⟨f_0, f_1, f_2, f_3, f_4⟩ := HVS.out.f5; clear hown7 hg7 hat7 hb7 k0 k1 k2 k3 k4; have HV1 := Lib.hid (show Whole _ _ _ #[.slice A7 u c7, .int .i64 (sy : Int), .int .i64 t, .int .i64 vo, .slice A2 sn c2] from HVS.out.set 0 (.slice A7 u c7)); have HV2 := Lib.hid (show Whole _ _ _ #[.slice A7 u c7, .int .i64 (u : Int), .int .i64 t, .int .i64 vo, .slice A2 sn c2] from HV1.out.set 1 (.int .i64 (u : Int))); have HV5 := Lib.hid (show Whole _ _ _ #[.slice A7 u c7, .int .i64 (u : Int), .int .i64 t', .int .i64 vo', .slice A5 sn' c5] from ((HV2.out.set 2 (.int .i64 t')).set 3 (.int .i64 vo')).set 4 (.slice A5 sn' c5)); replace HG1 := Lib.hid ((HG1.out.far (p := ⟨g, 0, none⟩) (fun e => hga.1 e.symm) (.slice A7 u c7)).far (p := ⟨g, 1, none⟩) (fun e => hga.1 e.symm) (.int .i64 (u : Int))); replace HG2 := Lib.hid ((HG2.out.far (p := ⟨g, 0, none⟩) (fun e => hga.2 e.symm) (.slice A7 u c7)).far (p := ⟨g, 1, none⟩) (fun e => hga.2 e.symm) (.int .i64 (u : Int))); obtain ⟨d_0, d_1, d_2, d_3, d_4⟩ := HV1.out.c5; obtain ⟨e_0, e_1, e_2, e_3, e_4⟩ := HV1.out.f5; obtain ⟨m_0, m_1, m_2, m_3, m_4⟩ := HV2.out.c5; obtain ⟨n_0, n_1, n_2, n_3, n_4⟩ := HV2.out.f5; obtain ⟨x_0, x_1⟩ := HG1.out.c2; obtain ⟨y_0, y_1, y_2⟩ := HG2.out.c3; have HKK := Lib.hid ((((((Below.kept (D := fun b => b = g) (HBz.out.trans (HB7.out.mono HBz.out.size))).set (p := ⟨g, 0, none⟩) (.inl rfl) (.slice A7 u c7)).set (p := ⟨g, 1, none⟩) (.inl rfl) (.int .i64 (u : Int))).set (p := ⟨g, 2, none⟩) (.inl rfl) (.int .i64 t')).set (p := ⟨g, 3, none⟩) (.inl rfl) (.int .i64 vo')).set (p := ⟨g, 4, none⟩) (.inl rfl) (.slice A5 sn' c5)))
        have HOF := Lib.hid (((((HO7.out.set (p := ⟨g, 0, none⟩) (by simp; omega) (.slice A7 u c7)).set (p := ⟨g, 1, none⟩) (by simp; omega) (.int .i64 (u : Int))).set (p := ⟨g, 2, none⟩) (by simp; omega) (.int .i64 t')).set (p := ⟨g, 3, none⟩) (by simp; omega) (.int .i64 vo')).set (p := ⟨g, 4, none⟩) (by simp; omega) (.slice A5 sn' c5))
        have HLF := Lib.hid (sls_far (sls_far (sls_far (sls_far (sls_far HLR.out (p := ⟨g, 0, none⟩) (by simp only; omega) (.slice A7 u c7)) (p := ⟨g, 1, none⟩) (by simp only; omega) (.int .i64 (u : Int))) (p := ⟨g, 2, none⟩) (by simp only; omega) (.int .i64 t')) (p := ⟨g, 3, none⟩) (by simp only; omega) (.int .i64 vo')) (p := ⟨g, 4, none⟩) (by simp only; omega) (.slice A5 sn' c5))
        clear HV1 HV2 HG1 HG2 HVS
        go_end0
        rw [HCR.out]
        have hzb := HBz.out.size
        refine ⟨rfl, A7, c7, A5, c5, ⟨?_, ?_, ?_, ?_⟩, HKK.out⟩
        · dsimp only
          rw [HLT.out, HSN'.out]
          exact HV5.out
        · dsimp only
          rw [HLT.out]
          exact HOF.out.slS.wide (fun b hb _ => .inr (by omega))
        · dsimp only
          rw [HSN'.out]
          exact HLF.out.wide (fun b hb _ => .inr (by omega))
        · rintro (h | h)
          · exact hSg h
          · omega
  · have d0 : decide (0 < keep) = false := by simpa using hpos
    have hks : K = sy := by have := hHK.out; rw [if_neg hpos] at this; omega
    subst hks
    have hr3 := HRUN.out K (K : Int) rfl (by omega)
    have hw4 : IntKind.i64.wrap (K : Int) = (K : Int) := by rw [IntKind.wrap_i64]; omega
    generalize (if c = 0 then A else A.map (·.add (0 * 1))) = A3 at *
    have HVz := HV
    have HBz := Lib.hid (Below.refl w.heap.size w)
    go_wp2_with fail
    clear k0 k1 k2 k3 k4 HV
    refine s_start (fun W => Kept (fun _ => False) (w).drew W) [] (by kernel_rfl) ?_
    have HC := Lib.hid (Kept.refl (fun _ => False) (w).drew)
    have HXK := Lib.hid (fun W (hW : Kept (fun _ => False) w.drew W) => by
      have h5 := (hW.whole (show Whole w.drew _ _ _ from HVz.out.st) (fun h => h)).c5
      dsimp only at h5
      rw [HDN.out, HSN.out] at h5
      exact h5)
    have hDz : Below w.heap.size w w.drew := (Below.refl _ _).drew
    have hzz0 : w.heap.size ≤ w.drew.heap.size := Nat.le_refl _
    have hgz : g < w.drew.heap.size := HVz.out.glt
    have hwzz : w.heap.size ≤ w.drew.heap.size := HBz.out.size
    generalize (w).drew = z1 at *
    refine s_take (i := 0) (v := ?_) rfl (by kernel_rfl) (by kernel_rfl) (by kernel_rfl) (k0 := 0) (by kernel_rfl) (by kernel_rfl) (.inl rfl) (fun _ _ _ h => h) (by rfl) HC.out ?_ ?_
    rotate_left
    · intro W hW
      go_simp
      first | done | rfl
    simp only [Act.put, List.setIfInBounds_toArray, List.set_cons_zero, List.set_cons_succ, List.getElem_toArray, List.getElem_cons_zero]
    refine s_take (i := 1) (v := ?_) rfl (by kernel_rfl) (by kernel_rfl) (by kernel_rfl) (k0 := 1) (by kernel_rfl) (by kernel_rfl) (.inl rfl) (fun _ _ _ h => h) (by rfl) HC.out ?_ ?_
    rotate_left
    · intro W hW
      go_simp
      first | done | rfl
    simp only [Act.put, List.setIfInBounds_toArray, List.set_cons_zero, List.set_cons_succ, List.getElem_toArray, List.getElem_cons_zero, List.getElem_cons_succ]
    refine s_take (i := 2) (v := ?_) rfl (by kernel_rfl) (by kernel_rfl) (by kernel_rfl) (k0 := 2) (by kernel_rfl) (by kernel_rfl) (.inl rfl) (fun _ _ _ h => h) (by rfl) HC.out ?_ ?_
    rotate_left
    · intro W hW
      go_simp
      first | done | rfl
    simp only [Act.put, List.setIfInBounds_toArray, List.set_cons_zero, List.set_cons_succ, List.getElem_toArray, List.getElem_cons_zero, List.getElem_cons_succ]
    refine s_take (i := 3) (v := ?_) rfl (by kernel_rfl) (by kernel_rfl) (by kernel_rfl) (k0 := 3) (by kernel_rfl) (by kernel_rfl) (.inl rfl) (fun _ _ _ h => h) (by rfl) HC.out ?_ ?_
    rotate_left
    · intro W hW
      obtain ⟨k0, k1, k2, k3, k4⟩ := HXK.out _ hW
      go_simp
      first | done | rfl
    simp only [Act.put, List.setIfInBounds_toArray, List.set_cons_zero, List.set_cons_succ, List.getElem_toArray, List.getElem_cons_zero, List.getElem_cons_succ]
    refine s_take (i := 4) (v := ?_) rfl (by kernel_rfl) (by kernel_rfl) (by kernel_rfl) (k0 := 4) (by kernel_rfl) (by kernel_rfl) (.inl rfl) (fun _ _ _ h => h) (by rfl) HC.out ?_ ?_
    rotate_left
    · intro W hW
      go_simp
      first | done | rfl
    simp only [Act.put, List.setIfInBounds_toArray, List.set_cons_zero, List.set_cons_succ, List.getElem_toArray, List.getElem_cons_zero, List.getElem_cons_succ]
    refine s_take (i := 5) (v := ?_) rfl (by kernel_rfl) (by kernel_rfl) (by kernel_rfl) (k0 := 5) (by kernel_rfl) (by kernel_rfl) (.inl rfl) (fun _ _ _ h => h) (by rfl) HC.out ?_ ?_
    rotate_left
    · intro W hW
      go_simp
      first | done | rfl
    simp only [Act.put, List.setIfInBounds_toArray, List.set_cons_zero, List.set_cons_succ, List.getElem_toArray, List.getElem_cons_zero, List.getElem_cons_succ]
    refine s_take (i := 6) (v := ?_) rfl (by kernel_rfl) (by kernel_rfl) (by kernel_rfl) (k0 := 6) (by kernel_rfl) (by kernel_rfl) (.inl rfl) (fun _ _ _ h => h) (by rfl) HC.out ?_ ?_
    rotate_left
    · intro W hW
      go_simp
      first | done | rfl
    simp only [Act.put, List.setIfInBounds_toArray, List.set_cons_zero, List.set_cons_succ, List.getElem_toArray, List.getElem_cons_zero, List.getElem_cons_succ]
    refine s_take (i := 7) (v := ?_) rfl (by kernel_rfl) (by kernel_rfl) (by kernel_rfl) (k0 := 7) (by kernel_rfl) (by kernel_rfl) (.inl rfl) (fun _ _ _ h => h) (by rfl) HC.out ?_ ?_
    rotate_left
    · intro W hW
      obtain ⟨k0, k1, k2, k3, k4⟩ := HXK.out _ hW
      go_simp
      first | done | rfl
    simp only [Act.put, List.setIfInBounds_toArray, List.set_cons_zero, List.set_cons_succ, List.getElem_toArray, List.getElem_cons_zero, List.getElem_cons_succ]
    refine s_take (i := 8) (v := ?_) rfl (by kernel_rfl) (by kernel_rfl) (by kernel_rfl) (k0 := 8) (by kernel_rfl) (by kernel_rfl) (.inl rfl) (fun _ _ _ h => h) (by rfl) HC.out ?_ ?_
    rotate_left
    · intro W hW
      go_simp
      first | done | rfl
    simp only [Act.put, List.setIfInBounds_toArray, List.set_cons_zero, List.set_cons_succ, List.getElem_toArray, List.getElem_cons_zero, List.getElem_cons_succ]
    refine s_take (i := 9) (v := ?_) rfl (by kernel_rfl) (by kernel_rfl) (by kernel_rfl) (k0 := 9) (by kernel_rfl) (by kernel_rfl) (.inl rfl) (fun _ _ _ h => h) (by rfl) HC.out ?_ ?_
    rotate_left
    · intro W hW
      go_simp
      first | done | rfl
    simp only [Act.put, List.setIfInBounds_toArray, List.set_cons_zero, List.set_cons_succ, List.getElem_toArray, List.getElem_cons_zero, List.getElem_cons_succ]
    refine s_take (i := 10) (v := ?_) rfl (by kernel_rfl) (by kernel_rfl) (by kernel_rfl) (k0 := 10) (by kernel_rfl) (by kernel_rfl) (.inl rfl) (fun _ _ _ h => h) (by rfl) HC.out ?_ ?_
    rotate_left
    · intro W hW
      go_simp
      first | done | rfl
    simp only [Act.put, List.setIfInBounds_toArray, List.set_cons_zero, List.set_cons_succ, List.getElem_toArray, List.getElem_cons_zero, List.getElem_cons_succ]
    refine s_three (i := 11) (j := 16) (k := 17) (by kernel_rfl) ?_ ?_ ?_
    · refine ones_call (i := 11) (f := 22) (args := ?_) rfl (by rfl) ?_ ?_
      rotate_left
      · go_simp
        first | done | rfl
      with_reducible refine (HRD.out _ A3 (HUP.out K (by omega) _ (HBz.out.trans (hDz.trans (HC.out.below (B := w.heap.size) (fun _ h => h.elim) hzz0) |>.mono HBz.out.size)))).mono ?_
      rintro e z2 ⟨A5, c5, rfl, hsl, hb⟩
      refine ⟨_, rfl, fun _ => HC.out.trans (Below.kept hb), ?_⟩
      replace HC := Lib.hid (HC.out.trans (Below.kept hb))
      simp only [HSN'.out] at hsl ⊢
      have hsc := hb.size
      have HLR := Lib.hid (hsl.wide (T := fun b => z1.heap.size ≤ b ∧ b < z2.heap.size) (fun b hb hlt => ⟨hb, hlt⟩))
      clear hsl
      clear hb
      simp only [Act.put, List.setIfInBounds_toArray, List.set_cons_zero, List.set_cons_succ, List.getElem_toArray, List.getElem_cons_zero, List.getElem_cons_succ]
      refine s_take (i := 12) (v := ?_) rfl (by kernel_rfl) (by kernel_rfl) (by kernel_rfl) (k0 := 12) (by kernel_rfl) (by kernel_rfl) (.inl rfl) (fun _ _ _ h => h) (by rfl) HC.out ?_ ?_
      rotate_left
      · intro W hW
        go_simp
        first | done | rfl
      simp only [Act.put, List.setIfInBounds_toArray, List.set_cons_zero, List.set_cons_succ, List.getElem_toArray, List.getElem_cons_zero, List.getElem_cons_succ]
      refine s_take (i := 13) (v := ?_) rfl (by kernel_rfl) (by kernel_rfl) (by kernel_rfl) (k0 := 13) (by kernel_rfl) (by kernel_rfl) (.inl rfl) (fun _ _ _ h => h) (by rfl) HC.out ?_ ?_
      rotate_left
      · intro W hW
        go_simp
        first | done | rfl
      simp only [Act.put, List.setIfInBounds_toArray, List.set_cons_zero, List.set_cons_succ, List.getElem_toArray, List.getElem_cons_zero, List.getElem_cons_succ]
      refine s_take (i := 14) (v := ?_) rfl (by kernel_rfl) (by kernel_rfl) (by kernel_rfl) (k0 := 14) (by kernel_rfl) (by kernel_rfl) (.inl rfl) (fun _ _ _ h => h) (by rfl) HC.out ?_ ?_
      rotate_left
      · intro W hW
        go_simp
        first | done | rfl
      simp only [Act.put, List.setIfInBounds_toArray, List.set_cons_zero, List.set_cons_succ, List.getElem_toArray, List.getElem_cons_zero, List.getElem_cons_succ]
      refine s_take (i := 15) (v := ?_) rfl (by kernel_rfl) (by kernel_rfl) (by kernel_rfl) (k0 := 15) (by kernel_rfl) (by kernel_rfl) (.inl rfl) (fun _ _ _ h => h) (by rfl) HC.out ?_ ?_
      rotate_left
      · intro W hW
        go_simp
        first | done | rfl
      simp only [Act.put, List.setIfInBounds_toArray, List.set_cons_zero, List.set_cons_succ, List.getElem_toArray, List.getElem_cons_zero, List.getElem_cons_succ]
      refine s_two (i := 16) (j := 17) (by kernel_rfl) ?_ ?_
      · refine ones_run (i := 16) (v := ?_) (w' := World.alloc (z2) (.cells #[.int .i64 0, .int .i64 0] 30)) rfl (by rfl) ?_ ?_ ?_
        rotate_left 1
        · go_simp
          first | done | rfl | (constructor <;> rfl)
        · exact fun _ => HC.out.trans (Below.kept ((Below.refl _ _).alloc (Nat.le_refl _) _))
        simp only [Act.put, List.setIfInBounds_toArray, List.set_cons_zero, List.set_cons_succ, List.getElem_toArray, List.getElem_cons_zero, List.getElem_cons_succ]
        have gage := HC.out.size
        have gas : z2.heap.size < (World.alloc (z2) (.cells #[.int .i64 0, .int .i64 0] 30)).heap.size := by simp
        replace HLR := Lib.hid (HLR.out.stay (fun b _ hlt => ((Below.refl z2.heap.size z2).alloc (Nat.le_refl _) (.cells #[.int .i64 0, .int .i64 0] 30)).block b hlt))
        have HG1 := Lib.hid (Whole.new (z2) 30 #[.int .i64 0, .int .i64 0])
        replace HC := Lib.hid (HC.out.trans (Below.kept ((Below.refl _ _).alloc (Nat.le_refl _) (.cells #[.int .i64 0, .int .i64 0] 30))))
        generalize hw6 : World.alloc (z2) _ = z3 at *
        clear hw6
        generalize hg6 : (z2).heap.size = ga at *
        clear hg6
        refine s_one (i := 17) (by kernel_rfl) ?_
        refine ones_run (i := 17) (v := ?_) (w' := World.alloc (z3) (.cells #[.int .i64 0, .int .i64 0, .slice none 0 0] 38)) rfl (by rfl) ?_ ?_ ?_
        rotate_left 1
        · go_simp
          first | done | rfl | (constructor <;> rfl)
        · exact fun _ => HC.out.trans (Below.kept ((Below.refl _ _).alloc (Nat.le_refl _) _))
        simp only [Act.put, List.setIfInBounds_toArray, List.set_cons_zero, List.set_cons_succ, List.getElem_toArray, List.getElem_cons_zero, List.getElem_cons_succ]
        have gbge := HC.out.size
        have gbs : z3.heap.size < (World.alloc (z3) (.cells #[.int .i64 0, .int .i64 0, .slice none 0 0] 38)).heap.size := by simp
        have hneq : ga ≠ z3.heap.size := Nat.ne_of_lt HG1.out.lt
        replace HG1 := Lib.hid (HG1.out.alloc (.cells #[.int .i64 0, .int .i64 0, .slice none 0 0] 38))
        replace HLR := Lib.hid (HLR.out.stay (fun b _ hlt => ((Below.refl z3.heap.size z3).alloc (Nat.le_refl _) (.cells #[.int .i64 0, .int .i64 0, .slice none 0 0] 38)).block b hlt))
        have HG2 := Lib.hid (Whole.new (z3) 38 #[.int .i64 0, .int .i64 0, .slice none 0 0])
        replace HC := Lib.hid (HC.out.trans (Below.kept ((Below.refl _ _).alloc (Nat.le_refl _) (.cells #[.int .i64 0, .int .i64 0, .slice none 0 0] 38))))
        generalize hw6 : World.alloc (z3) _ = z4 at *
        clear hw6
        generalize hg6 : (z3).heap.size = gb at *
        clear hg6
        refine s_one (i := 18) (by kernel_rfl) ?_
        obtain ⟨c_0, c_1⟩ := HG1.out.c2
        obtain ⟨f_0, f_1⟩ := HG1.out.f2
        refine ones_skip (i := 18) (w' := ?_) rfl (by rfl) ?_ ?_ ?_
        rotate_left 1
        · go_simp
          first | done | rfl
        · exact fun _ => ((HC.out.set (p := ⟨ga, 0, none⟩) (.inr (by omega)) (.int .i64 t')).set (p := ⟨ga, 1, none⟩) (.inr (by omega)) (.int .i64 vo'))
        simp only [Act.put, List.getElem_toArray, List.getElem_cons_zero, List.getElem_cons_succ]
        clear c_0 f_0 c_1 f_1
        replace HG1 := Lib.hid (show Whole _ _ _ #[.int .i64 t', .int .i64 vo'] from ((HG1.out.set 0 (.int .i64 t')).set 1 (.int .i64 vo')))
        replace HC := Lib.hid ((HC.out.set (p := ⟨ga, 0, none⟩) (.inr (by omega)) (.int .i64 t')).set (p := ⟨ga, 1, none⟩) (.inr (by omega)) (.int .i64 vo'))
        replace HG2 := Lib.hid (HG2.out.far (p := ⟨ga, 0, none⟩) (by first | exact hneq | exact hneq.symm) (.int .i64 t'))
        replace HLR := Lib.hid (sls_far HLR.out (p := ⟨ga, 0, none⟩) (by simp only; omega) (.int .i64 t'))
        replace HG2 := Lib.hid (HG2.out.far (p := ⟨ga, 1, none⟩) (by first | exact hneq | exact hneq.symm) (.int .i64 vo'))
        replace HLR := Lib.hid (sls_far HLR.out (p := ⟨ga, 1, none⟩) (by simp only; omega) (.int .i64 vo'))
        generalize hw6 : (World.setCell (World.setCell z4 ⟨ga, 0, none⟩ (.int .i64 t')) ⟨ga, 1, none⟩ (.int .i64 vo')) = z5 at *
        clear hw6
        refine s_one (i := 19) (by kernel_rfl) ?_
        obtain ⟨c_0, c_1, c_2⟩ := HG2.out.c3
        obtain ⟨f_0, f_1, f_2⟩ := HG2.out.f3
        refine ones_skip (i := 19) (w' := ?_) rfl (by rfl) ?_ ?_ ?_
        rotate_left 1
        · go_simp
          first | done | rfl
        · exact fun _ => (((HC.out.set (p := ⟨gb, 0, none⟩) (.inr (by omega)) (.int .i64 0)).set (p := ⟨gb, 1, none⟩) (.inr (by omega)) (.int .i64 0)).set (p := ⟨gb, 2, none⟩) (.inr (by omega)) (.slice A5 sn' c5))
        simp only [Act.put, List.getElem_toArray, List.getElem_cons_zero, List.getElem_cons_succ]
        clear c_0 f_0 c_1 f_1 c_2 f_2
        replace HG2 := Lib.hid (show Whole _ _ _ #[.int .i64 0, .int .i64 0, .slice A5 sn' c5] from (((HG2.out.set 0 (.int .i64 0)).set 1 (.int .i64 0)).set 2 (.slice A5 sn' c5)))
        replace HC := Lib.hid (((HC.out.set (p := ⟨gb, 0, none⟩) (.inr (by omega)) (.int .i64 0)).set (p := ⟨gb, 1, none⟩) (.inr (by omega)) (.int .i64 0)).set (p := ⟨gb, 2, none⟩) (.inr (by omega)) (.slice A5 sn' c5))
        replace HG1 := Lib.hid (HG1.out.far (p := ⟨gb, 0, none⟩) (by first | exact hneq | exact hneq.symm) (.int .i64 0))
        replace HLR := Lib.hid (sls_far HLR.out (p := ⟨gb, 0, none⟩) (by simp only; omega) (.int .i64 0))
        replace HG1 := Lib.hid (HG1.out.far (p := ⟨gb, 1, none⟩) (by first | exact hneq | exact hneq.symm) (.int .i64 0))
        replace HLR := Lib.hid (sls_far HLR.out (p := ⟨gb, 1, none⟩) (by simp only; omega) (.int .i64 0))
        replace HG1 := Lib.hid (HG1.out.far (p := ⟨gb, 2, none⟩) (by first | exact hneq | exact hneq.symm) (.slice A5 sn' c5))
        replace HLR := Lib.hid (sls_far HLR.out (p := ⟨gb, 2, none⟩) (by simp only; omega) (.slice A5 sn' c5))
        generalize hw6 : (World.setCell (World.setCell (World.setCell z5 ⟨gb, 0, none⟩ (.int .i64 0)) ⟨gb, 1, none⟩ (.int .i64 0)) ⟨gb, 2, none⟩ (.slice A5 sn' c5)) = z6 at *
        clear hw6
        refine s_take (i := 20) (v := ?_) rfl (by kernel_rfl) (by kernel_rfl) (by kernel_rfl) (k0 := 20) (by kernel_rfl) (by kernel_rfl) (.inl rfl) (fun _ _ _ h => h) (by rfl) HC.out ?_ ?_
        rotate_left
        · intro W hW
          go_simp
          first | done | rfl
        simp only [Act.put, List.setIfInBounds_toArray, List.set_cons_zero, List.set_cons_succ, List.getElem_toArray, List.getElem_cons_zero, List.getElem_cons_succ]
        refine s_done (by kernel_rfl) ?_
        replace HBz := Lib.hid (HBz.out.trans (hDz.trans (HC.out.below (B := w.heap.size) (fun _ h => h.elim) hzz0) |>.mono HBz.out.size))
        replace HVz := Lib.hid (HVz.out.keep (Below.kept hDz) (fun h => h) (fun _ _ h => h) |>.keep HC.out (fun h => h) (fun _ _ h => h))
        have hga : g ≠ ga ∧ g ≠ gb := by omega
        have hgtw : ∀ b, (b < z1.heap.size → b < z6.heap.size) := fun b hb => by have := HC.out.size; omega
        clear HC HXK hDz
        generalize hw5 : z6 = w5 at *
        clear hw5
        have hvs := HVz.out.st
        dsimp only at hvs
        rw [HDN.out, HSN.out] at hvs
        have HVS := Lib.hid hvs
        obtain ⟨k0, k1, k2, k3, k4⟩ := hvs.c5
        clear hvs
        have HDU := Lib.hid (HUP.out u huk _ HBz.out)
        have hgw5 := HVS.out.lt
        go_simp
        go_wp2_with (at_builtin; refine wpList_append_sl rfl _ (.tmp 45) rfl rowB w5.heap.size _ [] rfl (Own.nil _ _ _) w5.heap.size _ (d.take u) rfl HDU.out (by rw [HLT.out]; unfold maxLen; simp; omega) (by rw [HLT.out]; simp; omega) (Nat.le_refl _) ?_; intro v7 w7 hown7 hg7 hat7; rw [List.nil_append] at hown7; have hb7 := (Below.refl w5.heap.size w5).grown hg7 (Nat.le_refl _) (fun k hk => by cases hk); obtain ⟨A7, c7, rfl, -, -⟩ := hown7.sl.form; rw [HLT.out] at hown7 ⊢; have HO7 := Lib.hid hown7; have HB7 := Lib.hid hb7; replace HVS := Lib.hid (HVS.out.below hb7 HVS.out.lt); replace HG1 := Lib.hid (HG1.out.below hb7 HG1.out.lt); replace HG2 := Lib.hid (HG2.out.below hb7 HG2.out.lt); replace HLR := Lib.hid (HLR.out.stay (fun b _ hlt => hb7.block b hlt)); obtain ⟨c_0, c_1, c_2, c_3, c_4⟩ := HVS.out.c5; obtain ⟨f_0, f_1, f_2, f_3, f_4⟩ := HVS.out.f5; clear hown7 hg7 hat7 hb7 k0 k1 k2 k3 k4; have HV1 := Lib.hid (show Whole _ _ _ #[.slice A7 u c7, .int .i64 (K : Int), .int .i64 t, .int .i64 vo, .slice A2 sn c2] from HVS.out.set 0 (.slice A7 u c7)); have HV2 := Lib.hid (show Whole _ _ _ #[.slice A7 u c7, .int .i64 (u : Int), .int .i64 t, .int .i64 vo, .slice A2 sn c2] from HV1.out.set 1 (.int .i64 (u : Int))); have HV5 := Lib.hid (show Whole _ _ _ #[.slice A7 u c7, .int .i64 (u : Int), .int .i64 t', .int .i64 vo', .slice A5 sn' c5] from ((HV2.out.set 2 (.int .i64 t')).set 3 (.int .i64 vo')).set 4 (.slice A5 sn' c5)); replace HG1 := Lib.hid ((HG1.out.far (p := ⟨g, 0, none⟩) (fun e => hga.1 e.symm) (.slice A7 u c7)).far (p := ⟨g, 1, none⟩) (fun e => hga.1 e.symm) (.int .i64 (u : Int))); replace HG2 := Lib.hid ((HG2.out.far (p := ⟨g, 0, none⟩) (fun e => hga.2 e.symm) (.slice A7 u c7)).far (p := ⟨g, 1, none⟩) (fun e => hga.2 e.symm) (.int .i64 (u : Int))); obtain ⟨d_0, d_1, d_2, d_3, d_4⟩ := HV1.out.c5; obtain ⟨e_0, e_1, e_2, e_3, e_4⟩ := HV1.out.f5; obtain ⟨m_0, m_1, m_2, m_3, m_4⟩ := HV2.out.c5; obtain ⟨n_0, n_1, n_2, n_3, n_4⟩ := HV2.out.f5; obtain ⟨x_0, x_1⟩ := HG1.out.c2; obtain ⟨y_0, y_1, y_2⟩ := HG2.out.c3; have HKK := Lib.hid ((((((Below.kept (D := fun b => b = g) (HBz.out.trans (HB7.out.mono HBz.out.size))).set (p := ⟨g, 0, none⟩) (.inl rfl) (.slice A7 u c7)).set (p := ⟨g, 1, none⟩) (.inl rfl) (.int .i64 (u : Int))).set (p := ⟨g, 2, none⟩) (.inl rfl) (.int .i64 t')).set (p := ⟨g, 3, none⟩) (.inl rfl) (.int .i64 vo')).set (p := ⟨g, 4, none⟩) (.inl rfl) (.slice A5 sn' c5)))
        have HOF := Lib.hid (((((HO7.out.set (p := ⟨g, 0, none⟩) (by simp; omega) (.slice A7 u c7)).set (p := ⟨g, 1, none⟩) (by simp; omega) (.int .i64 (u : Int))).set (p := ⟨g, 2, none⟩) (by simp; omega) (.int .i64 t')).set (p := ⟨g, 3, none⟩) (by simp; omega) (.int .i64 vo')).set (p := ⟨g, 4, none⟩) (by simp; omega) (.slice A5 sn' c5))
        have HLF := Lib.hid (sls_far (sls_far (sls_far (sls_far (sls_far HLR.out (p := ⟨g, 0, none⟩) (by simp only; omega) (.slice A7 u c7)) (p := ⟨g, 1, none⟩) (by simp only; omega) (.int .i64 (u : Int))) (p := ⟨g, 2, none⟩) (by simp only; omega) (.int .i64 t')) (p := ⟨g, 3, none⟩) (by simp only; omega) (.int .i64 vo')) (p := ⟨g, 4, none⟩) (by simp only; omega) (.slice A5 sn' c5))
        clear HV1 HV2 HG1 HG2 HVS
        go_end0
        rw [HCR.out]
        have hzb := HBz.out.size
        refine ⟨rfl, A7, c7, A5, c5, ⟨?_, ?_, ?_, ?_⟩, HKK.out⟩
        · dsimp only
          rw [HLT.out, HSN'.out]
          exact HV5.out
        · dsimp only
          rw [HLT.out]
          exact HOF.out.slS.wide (fun b hb _ => .inr (by omega))
        · dsimp only
          rw [HSN'.out]
          exact HLF.out.wide (fun b hb _ => .inr (by omega))
        · rintro (h | h)
          · exact hSg h
          · omega
      · refine ones_run (i := 17) (v := ?_) (w' := World.alloc (z2) (.cells #[.int .i64 0, .int .i64 0, .slice none 0 0] 38)) rfl (by rfl) ?_ ?_ ?_
        rotate_left 1
        · go_simp
          first | done | rfl | (constructor <;> rfl)
        · exact fun _ => HC.out.trans (Below.kept ((Below.refl _ _).alloc (Nat.le_refl _) _))
        simp only [Act.put, List.setIfInBounds_toArray, List.set_cons_zero, List.set_cons_succ, List.getElem_toArray, List.getElem_cons_zero, List.getElem_cons_succ]
        have gbge := HC.out.size
        have gbs : z2.heap.size < (World.alloc (z2) (.cells #[.int .i64 0, .int .i64 0, .slice none 0 0] 38)).heap.size := by simp
        replace HLR := Lib.hid (HLR.out.stay (fun b _ hlt => ((Below.refl z2.heap.size z2).alloc (Nat.le_refl _) (.cells #[.int .i64 0, .int .i64 0, .slice none 0 0] 38)).block b hlt))
        have HG2 := Lib.hid (Whole.new (z2) 38 #[.int .i64 0, .int .i64 0, .slice none 0 0])
        replace HC := Lib.hid (HC.out.trans (Below.kept ((Below.refl _ _).alloc (Nat.le_refl _) (.cells #[.int .i64 0, .int .i64 0, .slice none 0 0] 38))))
        generalize hw6 : World.alloc (z2) _ = z7 at *
        clear hw6
        generalize hg6 : (z2).heap.size = gb at *
        clear hg6
        refine s_one (i := 16) (by kernel_rfl) ?_
        refine ones_run (i := 16) (v := ?_) (w' := World.alloc (z7) (.cells #[.int .i64 0, .int .i64 0] 30)) rfl (by rfl) ?_ ?_ ?_
        rotate_left 1
        · go_simp
          first | done | rfl | (constructor <;> rfl)
        · exact fun _ => HC.out.trans (Below.kept ((Below.refl _ _).alloc (Nat.le_refl _) _))
        simp only [Act.put, List.setIfInBounds_toArray, List.set_cons_zero, List.set_cons_succ, List.getElem_toArray, List.getElem_cons_zero, List.getElem_cons_succ]
        have gage := HC.out.size
        have gas : z7.heap.size < (World.alloc (z7) (.cells #[.int .i64 0, .int .i64 0] 30)).heap.size := by simp
        have hneq : gb ≠ z7.heap.size := Nat.ne_of_lt HG2.out.lt
        replace HG2 := Lib.hid (HG2.out.alloc (.cells #[.int .i64 0, .int .i64 0] 30))
        replace HLR := Lib.hid (HLR.out.stay (fun b _ hlt => ((Below.refl z7.heap.size z7).alloc (Nat.le_refl _) (.cells #[.int .i64 0, .int .i64 0] 30)).block b hlt))
        have HG1 := Lib.hid (Whole.new (z7) 30 #[.int .i64 0, .int .i64 0])
        replace HC := Lib.hid (HC.out.trans (Below.kept ((Below.refl _ _).alloc (Nat.le_refl _) (.cells #[.int .i64 0, .int .i64 0] 30))))
        generalize hw6 : World.alloc (z7) _ = z8 at *
        clear hw6
        generalize hg6 : (z7).heap.size = ga at *
        clear hg6
        refine s_one (i := 18) (by kernel_rfl) ?_
        obtain ⟨c_0, c_1⟩ := HG1.out.c2
        obtain ⟨f_0, f_1⟩ := HG1.out.f2
        refine ones_skip (i := 18) (w' := ?_) rfl (by rfl) ?_ ?_ ?_
        rotate_left 1
        · go_simp
          first | done | rfl
        · exact fun _ => ((HC.out.set (p := ⟨ga, 0, none⟩) (.inr (by omega)) (.int .i64 t')).set (p := ⟨ga, 1, none⟩) (.inr (by omega)) (.int .i64 vo'))
        simp only [Act.put, List.getElem_toArray, List.getElem_cons_zero, List.getElem_cons_succ]
        clear c_0 f_0 c_1 f_1
        replace HG1 := Lib.hid (show Whole _ _ _ #[.int .i64 t', .int .i64 vo'] from ((HG1.out.set 0 (.int .i64 t')).set 1 (.int .i64 vo')))
        replace HC := Lib.hid ((HC.out.set (p := ⟨ga, 0, none⟩) (.inr (by omega)) (.int .i64 t')).set (p := ⟨ga, 1, none⟩) (.inr (by omega)) (.int .i64 vo'))
        replace HG2 := Lib.hid (HG2.out.far (p := ⟨ga, 0, none⟩) (by first | exact hneq | exact hneq.symm) (.int .i64 t'))
        replace HLR := Lib.hid (sls_far HLR.out (p := ⟨ga, 0, none⟩) (by simp only; omega) (.int .i64 t'))
        replace HG2 := Lib.hid (HG2.out.far (p := ⟨ga, 1, none⟩) (by first | exact hneq | exact hneq.symm) (.int .i64 vo'))
        replace HLR := Lib.hid (sls_far HLR.out (p := ⟨ga, 1, none⟩) (by simp only; omega) (.int .i64 vo'))
        generalize hw6 : (World.setCell (World.setCell z8 ⟨ga, 0, none⟩ (.int .i64 t')) ⟨ga, 1, none⟩ (.int .i64 vo')) = z9 at *
        clear hw6
        refine s_one (i := 19) (by kernel_rfl) ?_
        obtain ⟨c_0, c_1, c_2⟩ := HG2.out.c3
        obtain ⟨f_0, f_1, f_2⟩ := HG2.out.f3
        refine ones_skip (i := 19) (w' := ?_) rfl (by rfl) ?_ ?_ ?_
        rotate_left 1
        · go_simp
          first | done | rfl
        · exact fun _ => (((HC.out.set (p := ⟨gb, 0, none⟩) (.inr (by omega)) (.int .i64 0)).set (p := ⟨gb, 1, none⟩) (.inr (by omega)) (.int .i64 0)).set (p := ⟨gb, 2, none⟩) (.inr (by omega)) (.slice A5 sn' c5))
        simp only [Act.put, List.getElem_toArray, List.getElem_cons_zero, List.getElem_cons_succ]
        clear c_0 f_0 c_1 f_1 c_2 f_2
        replace HG2 := Lib.hid (show Whole _ _ _ #[.int .i64 0, .int .i64 0, .slice A5 sn' c5] from (((HG2.out.set 0 (.int .i64 0)).set 1 (.int .i64 0)).set 2 (.slice A5 sn' c5)))
        replace HC := Lib.hid (((HC.out.set (p := ⟨gb, 0, none⟩) (.inr (by omega)) (.int .i64 0)).set (p := ⟨gb, 1, none⟩) (.inr (by omega)) (.int .i64 0)).set (p := ⟨gb, 2, none⟩) (.inr (by omega)) (.slice A5 sn' c5))
        replace HG1 := Lib.hid (HG1.out.far (p := ⟨gb, 0, none⟩) (by first | exact hneq | exact hneq.symm) (.int .i64 0))
        replace HLR := Lib.hid (sls_far HLR.out (p := ⟨gb, 0, none⟩) (by simp only; omega) (.int .i64 0))
        replace HG1 := Lib.hid (HG1.out.far (p := ⟨gb, 1, none⟩) (by first | exact hneq | exact hneq.symm) (.int .i64 0))
        replace HLR := Lib.hid (sls_far HLR.out (p := ⟨gb, 1, none⟩) (by simp only; omega) (.int .i64 0))
        replace HG1 := Lib.hid (HG1.out.far (p := ⟨gb, 2, none⟩) (by first | exact hneq | exact hneq.symm) (.slice A5 sn' c5))
        replace HLR := Lib.hid (sls_far HLR.out (p := ⟨gb, 2, none⟩) (by simp only; omega) (.slice A5 sn' c5))
        generalize hw6 : (World.setCell (World.setCell (World.setCell z9 ⟨gb, 0, none⟩ (.int .i64 0)) ⟨gb, 1, none⟩ (.int .i64 0)) ⟨gb, 2, none⟩ (.slice A5 sn' c5)) = z10 at *
        clear hw6
        refine s_take (i := 20) (v := ?_) rfl (by kernel_rfl) (by kernel_rfl) (by kernel_rfl) (k0 := 20) (by kernel_rfl) (by kernel_rfl) (.inl rfl) (fun _ _ _ h => h) (by rfl) HC.out ?_ ?_
        rotate_left
        · intro W hW
          go_simp
          first | done | rfl
        simp only [Act.put, List.setIfInBounds_toArray, List.set_cons_zero, List.set_cons_succ, List.getElem_toArray, List.getElem_cons_zero, List.getElem_cons_succ]
        refine s_done (by kernel_rfl) ?_
        replace HBz := Lib.hid (HBz.out.trans (hDz.trans (HC.out.below (B := w.heap.size) (fun _ h => h.elim) hzz0) |>.mono HBz.out.size))
        replace HVz := Lib.hid (HVz.out.keep (Below.kept hDz) (fun h => h) (fun _ _ h => h) |>.keep HC.out (fun h => h) (fun _ _ h => h))
        have hga : g ≠ ga ∧ g ≠ gb := by omega
        have hgtw : ∀ b, (b < z1.heap.size → b < z10.heap.size) := fun b hb => by have := HC.out.size; omega
        clear HC HXK hDz
        generalize hw5 : z10 = w5 at *
        clear hw5
        have hvs := HVz.out.st
        dsimp only at hvs
        rw [HDN.out, HSN.out] at hvs
        have HVS := Lib.hid hvs
        obtain ⟨k0, k1, k2, k3, k4⟩ := hvs.c5
        clear hvs
        have HDU := Lib.hid (HUP.out u huk _ HBz.out)
        have hgw5 := HVS.out.lt
        go_simp
        go_wp2_with (at_builtin; refine wpList_append_sl rfl _ (.tmp 45) rfl rowB w5.heap.size _ [] rfl (Own.nil _ _ _) w5.heap.size _ (d.take u) rfl HDU.out (by rw [HLT.out]; unfold maxLen; simp; omega) (by rw [HLT.out]; simp; omega) (Nat.le_refl _) ?_; intro v7 w7 hown7 hg7 hat7; rw [List.nil_append] at hown7; have hb7 := (Below.refl w5.heap.size w5).grown hg7 (Nat.le_refl _) (fun k hk => by cases hk); obtain ⟨A7, c7, rfl, -, -⟩ := hown7.sl.form; rw [HLT.out] at hown7 ⊢; have HO7 := Lib.hid hown7; have HB7 := Lib.hid hb7; replace HVS := Lib.hid (HVS.out.below hb7 HVS.out.lt); replace HG1 := Lib.hid (HG1.out.below hb7 HG1.out.lt); replace HG2 := Lib.hid (HG2.out.below hb7 HG2.out.lt); replace HLR := Lib.hid (HLR.out.stay (fun b _ hlt => hb7.block b hlt)); obtain ⟨c_0, c_1, c_2, c_3, c_4⟩ := HVS.out.c5; obtain ⟨f_0, f_1, f_2, f_3, f_4⟩ := HVS.out.f5; clear hown7 hg7 hat7 hb7 k0 k1 k2 k3 k4; have HV1 := Lib.hid (show Whole _ _ _ #[.slice A7 u c7, .int .i64 (K : Int), .int .i64 t, .int .i64 vo, .slice A2 sn c2] from HVS.out.set 0 (.slice A7 u c7)); have HV2 := Lib.hid (show Whole _ _ _ #[.slice A7 u c7, .int .i64 (u : Int), .int .i64 t, .int .i64 vo, .slice A2 sn c2] from HV1.out.set 1 (.int .i64 (u : Int))); have HV5 := Lib.hid (show Whole _ _ _ #[.slice A7 u c7, .int .i64 (u : Int), .int .i64 t', .int .i64 vo', .slice A5 sn' c5] from ((HV2.out.set 2 (.int .i64 t')).set 3 (.int .i64 vo')).set 4 (.slice A5 sn' c5)); replace HG1 := Lib.hid ((HG1.out.far (p := ⟨g, 0, none⟩) (fun e => hga.1 e.symm) (.slice A7 u c7)).far (p := ⟨g, 1, none⟩) (fun e => hga.1 e.symm) (.int .i64 (u : Int))); replace HG2 := Lib.hid ((HG2.out.far (p := ⟨g, 0, none⟩) (fun e => hga.2 e.symm) (.slice A7 u c7)).far (p := ⟨g, 1, none⟩) (fun e => hga.2 e.symm) (.int .i64 (u : Int))); obtain ⟨d_0, d_1, d_2, d_3, d_4⟩ := HV1.out.c5; obtain ⟨e_0, e_1, e_2, e_3, e_4⟩ := HV1.out.f5; obtain ⟨m_0, m_1, m_2, m_3, m_4⟩ := HV2.out.c5; obtain ⟨n_0, n_1, n_2, n_3, n_4⟩ := HV2.out.f5; obtain ⟨x_0, x_1⟩ := HG1.out.c2; obtain ⟨y_0, y_1, y_2⟩ := HG2.out.c3; have HKK := Lib.hid ((((((Below.kept (D := fun b => b = g) (HBz.out.trans (HB7.out.mono HBz.out.size))).set (p := ⟨g, 0, none⟩) (.inl rfl) (.slice A7 u c7)).set (p := ⟨g, 1, none⟩) (.inl rfl) (.int .i64 (u : Int))).set (p := ⟨g, 2, none⟩) (.inl rfl) (.int .i64 t')).set (p := ⟨g, 3, none⟩) (.inl rfl) (.int .i64 vo')).set (p := ⟨g, 4, none⟩) (.inl rfl) (.slice A5 sn' c5)))
        have HOF := Lib.hid (((((HO7.out.set (p := ⟨g, 0, none⟩) (by simp; omega) (.slice A7 u c7)).set (p := ⟨g, 1, none⟩) (by simp; omega) (.int .i64 (u : Int))).set (p := ⟨g, 2, none⟩) (by simp; omega) (.int .i64 t')).set (p := ⟨g, 3, none⟩) (by simp; omega) (.int .i64 vo')).set (p := ⟨g, 4, none⟩) (by simp; omega) (.slice A5 sn' c5))
        have HLF := Lib.hid (sls_far (sls_far (sls_far (sls_far (sls_far HLR.out (p := ⟨g, 0, none⟩) (by simp only; omega) (.slice A7 u c7)) (p := ⟨g, 1, none⟩) (by simp only; omega) (.int .i64 (u : Int))) (p := ⟨g, 2, none⟩) (by simp only; omega) (.int .i64 t')) (p := ⟨g, 3, none⟩) (by simp only; omega) (.int .i64 vo')) (p := ⟨g, 4, none⟩) (by simp only; omega) (.slice A5 sn' c5))
        clear HV1 HV2 HG1 HG2 HVS
        go_end0
        rw [HCR.out]
        have hzb := HBz.out.size
        refine ⟨rfl, A7, c7, A5, c5, ⟨?_, ?_, ?_, ?_⟩, HKK.out⟩
        · dsimp only
          rw [HLT.out, HSN'.out]
          exact HV5.out
        · dsimp only
          rw [HLT.out]
          exact HOF.out.slS.wide (fun b hb _ => .inr (by omega))
        · dsimp only
          rw [HSN'.out]
          exact HLF.out.wide (fun b hb _ => .inr (by omega))
        · rintro (h | h)
          · exact hSg h
          · omega
    · refine ones_run (i := 16) (v := ?_) (w' := World.alloc (z1) (.cells #[.int .i64 0, .int .i64 0] 30)) rfl (by rfl) ?_ ?_ ?_
      rotate_left 1
      · go_simp
        first | done | rfl | (constructor <;> rfl)
      · exact fun _ => HC.out.trans (Below.kept ((Below.refl _ _).alloc (Nat.le_refl _) _))
      simp only [Act.put, List.setIfInBounds_toArray, List.set_cons_zero, List.set_cons_succ, List.getElem_toArray, List.getElem_cons_zero, List.getElem_cons_succ]
      have gage := HC.out.size
      have gas : z1.heap.size < (World.alloc (z1) (.cells #[.int .i64 0, .int .i64 0] 30)).heap.size := by simp
      have HG1 := Lib.hid (Whole.new (z1) 30 #[.int .i64 0, .int .i64 0])
      replace HC := Lib.hid (HC.out.trans (Below.kept ((Below.refl _ _).alloc (Nat.le_refl _) (.cells #[.int .i64 0, .int .i64 0] 30))))
      generalize hw6 : World.alloc (z1) _ = z11 at *
      clear hw6
      refine s_two (i := 11) (j := 17) (by kernel_rfl) ?_ ?_
      · refine ones_call (i := 11) (f := 22) (args := ?_) rfl (by rfl) ?_ ?_
        rotate_left
        · go_simp
          first | done | rfl
        with_reducible refine (HRD.out _ A3 (HUP.out K (by omega) _ (HBz.out.trans (hDz.trans (HC.out.below (B := w.heap.size) (fun _ h => h.elim) hzz0) |>.mono HBz.out.size)))).mono ?_
        rintro e z12 ⟨A5, c5, rfl, hsl, hb⟩
        refine ⟨_, rfl, fun _ => HC.out.trans (Below.kept hb), ?_⟩
        replace HC := Lib.hid (HC.out.trans (Below.kept hb))
        simp only [HSN'.out] at hsl ⊢
        have hsc := hb.size
        have HLR := Lib.hid (hsl.wide (T := fun b => z11.heap.size ≤ b ∧ b < z12.heap.size) (fun b hb hlt => ⟨hb, hlt⟩))
        clear hsl
        replace HG1 := Lib.hid (HG1.out.below hb HG1.out.lt)
        clear hb
        simp only [Act.put, List.setIfInBounds_toArray, List.set_cons_zero, List.set_cons_succ, List.getElem_toArray, List.getElem_cons_zero, List.getElem_cons_succ]
        refine s_take (i := 12) (v := ?_) rfl (by kernel_rfl) (by kernel_rfl) (by kernel_rfl) (k0 := 12) (by kernel_rfl) (by kernel_rfl) (.inl rfl) (fun _ _ _ h => h) (by rfl) HC.out ?_ ?_
        rotate_left
        · intro W hW
          go_simp
          first | done | rfl
        simp only [Act.put, List.setIfInBounds_toArray, List.set_cons_zero, List.set_cons_succ, List.getElem_toArray, List.getElem_cons_zero, List.getElem_cons_succ]
        refine s_take (i := 13) (v := ?_) rfl (by kernel_rfl) (by kernel_rfl) (by kernel_rfl) (k0 := 13) (by kernel_rfl) (by kernel_rfl) (.inl rfl) (fun _ _ _ h => h) (by rfl) HC.out ?_ ?_
        rotate_left
        · intro W hW
          go_simp
          first | done | rfl
        simp only [Act.put, List.setIfInBounds_toArray, List.set_cons_zero, List.set_cons_succ, List.getElem_toArray, List.getElem_cons_zero, List.getElem_cons_succ]
        refine s_take (i := 14) (v := ?_) rfl (by kernel_rfl) (by kernel_rfl) (by kernel_rfl) (k0 := 14) (by kernel_rfl) (by kernel_rfl) (.inl rfl) (fun _ _ _ h => h) (by rfl) HC.out ?_ ?_
        rotate_left
        · intro W hW
          go_simp
          first | done | rfl
        simp only [Act.put, List.setIfInBounds_toArray, List.set_cons_zero, List.set_cons_succ, List.getElem_toArray, List.getElem_cons_zero, List.getElem_cons_succ]
        refine s_take (i := 15) (v := ?_) rfl (by kernel_rfl) (by kernel_rfl) (by kernel_rfl) (k0 := 15) (by kernel_rfl) (by kernel_rfl) (.inl rfl) (fun _ _ _ h => h) (by rfl) HC.out ?_ ?_
        rotate_left
        · intro W hW
          go_simp
          first | done | rfl
        simp only [Act.put, List.setIfInBounds_toArray, List.set_cons_zero, List.set_cons_succ, List.getElem_toArray, List.getElem_cons_zero, List.getElem_cons_succ]
        refine s_one (i := 17) (by kernel_rfl) ?_
        refine ones_run (i := 17) (v := ?_) (w' := World.alloc (z12) (.cells #[.int .i64 0, .int .i64 0, .slice none 0 0] 38)) rfl (by rfl) ?_ ?_ ?_
        rotate_left 1
        · go_simp
          first | done | rfl | (constructor <;> rfl)
        · exact fun _ => HC.out.trans (Below.kept ((Below.refl _ _).alloc (Nat.le_refl _) _))
        simp only [Act.put, List.setIfInBounds_toArray, List.set_cons_zero, List.set_cons_succ, List.getElem_toArray, List.getElem_cons_zero, List.getElem_cons_succ]
        have gbge := HC.out.size
        have gbs : z12.heap.size < (World.alloc (z12) (.cells #[.int .i64 0, .int .i64 0, .slice none 0 0] 38)).heap.size := by simp
        have hneq : z1.heap.size ≠ z12.heap.size := Nat.ne_of_lt HG1.out.lt
        replace HG1 := Lib.hid (HG1.out.alloc (.cells #[.int .i64 0, .int .i64 0, .slice none 0 0] 38))
        replace HLR := Lib.hid (HLR.out.stay (fun b _ hlt => ((Below.refl z12.heap.size z12).alloc (Nat.le_refl _) (.cells #[.int .i64 0, .int .i64 0, .slice none 0 0] 38)).block b hlt))
        have HG2 := Lib.hid (Whole.new (z12) 38 #[.int .i64 0, .int .i64 0, .slice none 0 0])
        replace HC := Lib.hid (HC.out.trans (Below.kept ((Below.refl _ _).alloc (Nat.le_refl _) (.cells #[.int .i64 0, .int .i64 0, .slice none 0 0] 38))))
        generalize hw6 : World.alloc (z12) _ = z13 at *
        clear hw6
        generalize hg6 : (z12).heap.size = gb at *
        clear hg6
        refine s_one (i := 18) (by kernel_rfl) ?_
        obtain ⟨c_0, c_1⟩ := HG1.out.c2
        obtain ⟨f_0, f_1⟩ := HG1.out.f2
        refine ones_skip (i := 18) (w' := ?_) rfl (by rfl) ?_ ?_ ?_
        rotate_left 1
        · go_simp
          first | done | rfl
        · exact fun _ => ((HC.out.set (p := ⟨z1.heap.size, 0, none⟩) (.inr (by omega)) (.int .i64 t')).set (p := ⟨z1.heap.size, 1, none⟩) (.inr (by omega)) (.int .i64 vo'))
        simp only [Act.put, List.getElem_toArray, List.getElem_cons_zero, List.getElem_cons_succ]
        clear c_0 f_0 c_1 f_1
        replace HG1 := Lib.hid (show Whole _ _ _ #[.int .i64 t', .int .i64 vo'] from ((HG1.out.set 0 (.int .i64 t')).set 1 (.int .i64 vo')))
        replace HC := Lib.hid ((HC.out.set (p := ⟨z1.heap.size, 0, none⟩) (.inr (by omega)) (.int .i64 t')).set (p := ⟨z1.heap.size, 1, none⟩) (.inr (by omega)) (.int .i64 vo'))
        replace HG2 := Lib.hid (HG2.out.far (p := ⟨z1.heap.size, 0, none⟩) (by first | exact hneq | exact hneq.symm) (.int .i64 t'))
        replace HLR := Lib.hid (sls_far HLR.out (p := ⟨z1.heap.size, 0, none⟩) (by simp only; omega) (.int .i64 t'))
        replace HG2 := Lib.hid (HG2.out.far (p := ⟨z1.heap.size, 1, none⟩) (by first | exact hneq | exact hneq.symm) (.int .i64 vo'))
        replace HLR := Lib.hid (sls_far HLR.out (p := ⟨z1.heap.size, 1, none⟩) (by simp only; omega) (.int .i64 vo'))
        generalize hw6 : (World.setCell (World.setCell z13 ⟨z1.heap.size, 0, none⟩ (.int .i64 t')) ⟨z1.heap.size, 1, none⟩ (.int .i64 vo')) = z14 at *
        clear hw6
        refine s_one (i := 19) (by kernel_rfl) ?_
        obtain ⟨c_0, c_1, c_2⟩ := HG2.out.c3
        obtain ⟨f_0, f_1, f_2⟩ := HG2.out.f3
        refine ones_skip (i := 19) (w' := ?_) rfl (by rfl) ?_ ?_ ?_
        rotate_left 1
        · go_simp
          first | done | rfl
        · exact fun _ => (((HC.out.set (p := ⟨gb, 0, none⟩) (.inr (by omega)) (.int .i64 0)).set (p := ⟨gb, 1, none⟩) (.inr (by omega)) (.int .i64 0)).set (p := ⟨gb, 2, none⟩) (.inr (by omega)) (.slice A5 sn' c5))
        simp only [Act.put, List.getElem_toArray, List.getElem_cons_zero, List.getElem_cons_succ]
        clear c_0 f_0 c_1 f_1 c_2 f_2
        replace HG2 := Lib.hid (show Whole _ _ _ #[.int .i64 0, .int .i64 0, .slice A5 sn' c5] from (((HG2.out.set 0 (.int .i64 0)).set 1 (.int .i64 0)).set 2 (.slice A5 sn' c5)))
        replace HC := Lib.hid (((HC.out.set (p := ⟨gb, 0, none⟩) (.inr (by omega)) (.int .i64 0)).set (p := ⟨gb, 1, none⟩) (.inr (by omega)) (.int .i64 0)).set (p := ⟨gb, 2, none⟩) (.inr (by omega)) (.slice A5 sn' c5))
        replace HG1 := Lib.hid (HG1.out.far (p := ⟨gb, 0, none⟩) (by first | exact hneq | exact hneq.symm) (.int .i64 0))
        replace HLR := Lib.hid (sls_far HLR.out (p := ⟨gb, 0, none⟩) (by simp only; omega) (.int .i64 0))
        replace HG1 := Lib.hid (HG1.out.far (p := ⟨gb, 1, none⟩) (by first | exact hneq | exact hneq.symm) (.int .i64 0))
        replace HLR := Lib.hid (sls_far HLR.out (p := ⟨gb, 1, none⟩) (by simp only; omega) (.int .i64 0))
        replace HG1 := Lib.hid (HG1.out.far (p := ⟨gb, 2, none⟩) (by first | exact hneq | exact hneq.symm) (.slice A5 sn' c5))
        replace HLR := Lib.hid (sls_far HLR.out (p := ⟨gb, 2, none⟩) (by simp only; omega) (.slice A5 sn' c5))
        generalize hw6 : (World.setCell (World.setCell (World.setCell z14 ⟨gb, 0, none⟩ (.int .i64 0)) ⟨gb, 1, none⟩ (.int .i64 0)) ⟨gb, 2, none⟩ (.slice A5 sn' c5)) = z15 at *
        clear hw6
        refine s_take (i := 20) (v := ?_) rfl (by kernel_rfl) (by kernel_rfl) (by kernel_rfl) (k0 := 20) (by kernel_rfl) (by kernel_rfl) (.inl rfl) (fun _ _ _ h => h) (by rfl) HC.out ?_ ?_
        rotate_left
        · intro W hW
          go_simp
          first | done | rfl
        simp only [Act.put, List.setIfInBounds_toArray, List.set_cons_zero, List.set_cons_succ, List.getElem_toArray, List.getElem_cons_zero, List.getElem_cons_succ]
        refine s_done (by kernel_rfl) ?_
        replace HBz := Lib.hid (HBz.out.trans (hDz.trans (HC.out.below (B := w.heap.size) (fun _ h => h.elim) hzz0) |>.mono HBz.out.size))
        replace HVz := Lib.hid (HVz.out.keep (Below.kept hDz) (fun h => h) (fun _ _ h => h) |>.keep HC.out (fun h => h) (fun _ _ h => h))
        have hga : g ≠ z1.heap.size ∧ g ≠ gb := by omega
        have hgtw : ∀ b, (b < z1.heap.size → b < z15.heap.size) := fun b hb => by have := HC.out.size; omega
        clear HC HXK hDz
        generalize hw5 : z15 = w5 at *
        clear hw5
        have hvs := HVz.out.st
        dsimp only at hvs
        rw [HDN.out, HSN.out] at hvs
        have HVS := Lib.hid hvs
        obtain ⟨k0, k1, k2, k3, k4⟩ := hvs.c5
        clear hvs
        have HDU := Lib.hid (HUP.out u huk _ HBz.out)
        have hgw5 := HVS.out.lt
        go_simp
        go_wp2_with (at_builtin; refine wpList_append_sl rfl _ (.tmp 45) rfl rowB w5.heap.size _ [] rfl (Own.nil _ _ _) w5.heap.size _ (d.take u) rfl HDU.out (by rw [HLT.out]; unfold maxLen; simp; omega) (by rw [HLT.out]; simp; omega) (Nat.le_refl _) ?_; intro v7 w7 hown7 hg7 hat7; rw [List.nil_append] at hown7; have hb7 := (Below.refl w5.heap.size w5).grown hg7 (Nat.le_refl _) (fun k hk => by cases hk); obtain ⟨A7, c7, rfl, -, -⟩ := hown7.sl.form; rw [HLT.out] at hown7 ⊢; have HO7 := Lib.hid hown7; have HB7 := Lib.hid hb7; replace HVS := Lib.hid (HVS.out.below hb7 HVS.out.lt); replace HG1 := Lib.hid (HG1.out.below hb7 HG1.out.lt); replace HG2 := Lib.hid (HG2.out.below hb7 HG2.out.lt); replace HLR := Lib.hid (HLR.out.stay (fun b _ hlt => hb7.block b hlt)); obtain ⟨c_0, c_1, c_2, c_3, c_4⟩ := HVS.out.c5; obtain ⟨f_0, f_1, f_2, f_3, f_4⟩ := HVS.out.f5; clear hown7 hg7 hat7 hb7 k0 k1 k2 k3 k4; have HV1 := Lib.hid (show Whole _ _ _ #[.slice A7 u c7, .int .i64 (K : Int), .int .i64 t, .int .i64 vo, .slice A2 sn c2] from HVS.out.set 0 (.slice A7 u c7)); have HV2 := Lib.hid (show Whole _ _ _ #[.slice A7 u c7, .int .i64 (u : Int), .int .i64 t, .int .i64 vo, .slice A2 sn c2] from HV1.out.set 1 (.int .i64 (u : Int))); have HV5 := Lib.hid (show Whole _ _ _ #[.slice A7 u c7, .int .i64 (u : Int), .int .i64 t', .int .i64 vo', .slice A5 sn' c5] from ((HV2.out.set 2 (.int .i64 t')).set 3 (.int .i64 vo')).set 4 (.slice A5 sn' c5)); replace HG1 := Lib.hid ((HG1.out.far (p := ⟨g, 0, none⟩) (fun e => hga.1 e.symm) (.slice A7 u c7)).far (p := ⟨g, 1, none⟩) (fun e => hga.1 e.symm) (.int .i64 (u : Int))); replace HG2 := Lib.hid ((HG2.out.far (p := ⟨g, 0, none⟩) (fun e => hga.2 e.symm) (.slice A7 u c7)).far (p := ⟨g, 1, none⟩) (fun e => hga.2 e.symm) (.int .i64 (u : Int))); obtain ⟨d_0, d_1, d_2, d_3, d_4⟩ := HV1.out.c5; obtain ⟨e_0, e_1, e_2, e_3, e_4⟩ := HV1.out.f5; obtain ⟨m_0, m_1, m_2, m_3, m_4⟩ := HV2.out.c5; obtain ⟨n_0, n_1, n_2, n_3, n_4⟩ := HV2.out.f5; obtain ⟨x_0, x_1⟩ := HG1.out.c2; obtain ⟨y_0, y_1, y_2⟩ := HG2.out.c3; have HKK := Lib.hid ((((((Below.kept (D := fun b => b = g) (HBz.out.trans (HB7.out.mono HBz.out.size))).set (p := ⟨g, 0, none⟩) (.inl rfl) (.slice A7 u c7)).set (p := ⟨g, 1, none⟩) (.inl rfl) (.int .i64 (u : Int))).set (p := ⟨g, 2, none⟩) (.inl rfl) (.int .i64 t')).set (p := ⟨g, 3, none⟩) (.inl rfl) (.int .i64 vo')).set (p := ⟨g, 4, none⟩) (.inl rfl) (.slice A5 sn' c5)))
        have HOF := Lib.hid (((((HO7.out.set (p := ⟨g, 0, none⟩) (by simp; omega) (.slice A7 u c7)).set (p := ⟨g, 1, none⟩) (by simp; omega) (.int .i64 (u : Int))).set (p := ⟨g, 2, none⟩) (by simp; omega) (.int .i64 t')).set (p := ⟨g, 3, none⟩) (by simp; omega) (.int .i64 vo')).set (p := ⟨g, 4, none⟩) (by simp; omega) (.slice A5 sn' c5))
        have HLF := Lib.hid (sls_far (sls_far (sls_far (sls_far (sls_far HLR.out (p := ⟨g, 0, none⟩) (by simp only; omega) (.slice A7 u c7)) (p := ⟨g, 1, none⟩) (by simp only; omega) (.int .i64 (u : Int))) (p := ⟨g, 2, none⟩) (by simp only; omega) (.int .i64 t')) (p := ⟨g, 3, none⟩) (by simp only; omega) (.int .i64 vo')) (p := ⟨g, 4, none⟩) (by simp only; omega) (.slice A5 sn' c5))
        clear HV1 HV2 HG1 HG2 HVS
        go_end0
        rw [HCR.out]
        have hzb := HBz.out.size
        refine ⟨rfl, A7, c7, A5, c5, ⟨?_, ?_, ?_, ?_⟩, HKK.out⟩
        · dsimp only
          rw [HLT.out, HSN'.out]
          exact HV5.out
        · dsimp only
          rw [HLT.out]
          exact HOF.out.slS.wide (fun b hb _ => .inr (by omega))
        · dsimp only
          rw [HSN'.out]
          exact HLF.out.wide (fun b hb _ => .inr (by omega))
        · rintro (h | h)
          · exact hSg h
          · omega
      · refine ones_run (i := 17) (v := ?_) (w' := World.alloc (z11) (.cells #[.int .i64 0, .int .i64 0, .slice none 0 0] 38)) rfl (by rfl) ?_ ?_ ?_
        rotate_left 1
        · go_simp
          first | done | rfl | (constructor <;> rfl)
        · exact fun _ => HC.out.trans (Below.kept ((Below.refl _ _).alloc (Nat.le_refl _) _))
        simp only [Act.put, List.setIfInBounds_toArray, List.set_cons_zero, List.set_cons_succ, List.getElem_toArray, List.getElem_cons_zero, List.getElem_cons_succ]
        have gbge := HC.out.size
        have gbs : z11.heap.size < (World.alloc (z11) (.cells #[.int .i64 0, .int .i64 0, .slice none 0 0] 38)).heap.size := by simp
        have hneq : z1.heap.size ≠ z11.heap.size := Nat.ne_of_lt HG1.out.lt
        replace HG1 := Lib.hid (HG1.out.alloc (.cells #[.int .i64 0, .int .i64 0, .slice none 0 0] 38))
        have HG2 := Lib.hid (Whole.new (z11) 38 #[.int .i64 0, .int .i64 0, .slice none 0 0])
        replace HC := Lib.hid (HC.out.trans (Below.kept ((Below.refl _ _).alloc (Nat.le_refl _) (.cells #[.int .i64 0, .int .i64 0, .slice none 0 0] 38))))
        generalize hw6 : World.alloc (z11) _ = z16 at *
        clear hw6
        generalize hg6 : (z11).heap.size = gb at *
        clear hg6
        refine s_one (i := 11) (by kernel_rfl) ?_
        refine ones_call (i := 11) (f := 22) (args := ?_) rfl (by rfl) ?_ ?_
        rotate_left
        · go_simp
          first | done | rfl
        with_reducible refine (HRD.out _ A3 (HUP.out K (by omega) _ (HBz.out.trans (hDz.trans (HC.out.below (B := w.heap.size) (fun _ h => h.elim) hzz0) |>.mono HBz.out.size)))).mono ?_
        rintro e z17 ⟨A5, c5, rfl, hsl, hb⟩
        refine ⟨_, rfl, fun _ => HC.out.trans (Below.kept hb), ?_⟩
        replace HC := Lib.hid (HC.out.trans (Below.kept hb))
        simp only [HSN'.out] at hsl ⊢
        have hsc := hb.size
        have HLR := Lib.hid (hsl.wide (T := fun b => z16.heap.size ≤ b ∧ b < z17.heap.size) (fun b hb hlt => ⟨hb, hlt⟩))
        clear hsl
        replace HG1 := Lib.hid (HG1.out.below hb HG1.out.lt)
        replace HG2 := Lib.hid (HG2.out.below hb HG2.out.lt)
        clear hb
        simp only [Act.put, List.setIfInBounds_toArray, List.set_cons_zero, List.set_cons_succ, List.getElem_toArray, List.getElem_cons_zero, List.getElem_cons_succ]
        refine s_take (i := 12) (v := ?_) rfl (by kernel_rfl) (by kernel_rfl) (by kernel_rfl) (k0 := 12) (by kernel_rfl) (by kernel_rfl) (.inl rfl) (fun _ _ _ h => h) (by rfl) HC.out ?_ ?_
        rotate_left
        · intro W hW
          go_simp
          first | done | rfl
        simp only [Act.put, List.setIfInBounds_toArray, List.set_cons_zero, List.set_cons_succ, List.getElem_toArray, List.getElem_cons_zero, List.getElem_cons_succ]
        refine s_take (i := 13) (v := ?_) rfl (by kernel_rfl) (by kernel_rfl) (by kernel_rfl) (k0 := 13) (by kernel_rfl) (by kernel_rfl) (.inl rfl) (fun _ _ _ h => h) (by rfl) HC.out ?_ ?_
        rotate_left
        · intro W hW
          go_simp
          first | done | rfl
        simp only [Act.put, List.setIfInBounds_toArray, List.set_cons_zero, List.set_cons_succ, List.getElem_toArray, List.getElem_cons_zero, List.getElem_cons_succ]
        refine s_take (i := 14) (v := ?_) rfl (by kernel_rfl) (by kernel_rfl) (by kernel_rfl) (k0 := 14) (by kernel_rfl) (by kernel_rfl) (.inl rfl) (fun _ _ _ h => h) (by rfl) HC.out ?_ ?_
        rotate_left
        · intro W hW
          go_simp
          first | done | rfl
        simp only [Act.put, List.setIfInBounds_toArray, List.set_cons_zero, List.set_cons_succ, List.getElem_toArray, List.getElem_cons_zero, List.getElem_cons_succ]
        refine s_take (i := 15) (v := ?_) rfl (by kernel_rfl) (by kernel_rfl) (by kernel_rfl) (k0 := 15) (by kernel_rfl) (by kernel_rfl) (.inl rfl) (fun _ _ _ h => h) (by rfl) HC.out ?_ ?_
        rotate_left
        · intro W hW
          go_simp
          first | done | rfl
        simp only [Act.put, List.setIfInBounds_toArray, List.set_cons_zero, List.set_cons_succ, List.getElem_toArray, List.getElem_cons_zero, List.getElem_cons_succ]
        refine s_one (i := 18) (by kernel_rfl) ?_
        obtain ⟨c_0, c_1⟩ := HG1.out.c2
        obtain ⟨f_0, f_1⟩ := HG1.out.f2
        refine ones_skip (i := 18) (w' := ?_) rfl (by rfl) ?_ ?_ ?_
        rotate_left 1
        · go_simp
          first | done | rfl
        · exact fun _ => ((HC.out.set (p := ⟨z1.heap.size, 0, none⟩) (.inr (by omega)) (.int .i64 t')).set (p := ⟨z1.heap.size, 1, none⟩) (.inr (by omega)) (.int .i64 vo'))
        simp only [Act.put, List.getElem_toArray, List.getElem_cons_zero, List.getElem_cons_succ]
        clear c_0 f_0 c_1 f_1
        replace HG1 := Lib.hid (show Whole _ _ _ #[.int .i64 t', .int .i64 vo'] from ((HG1.out.set 0 (.int .i64 t')).set 1 (.int .i64 vo')))
        replace HC := Lib.hid ((HC.out.set (p := ⟨z1.heap.size, 0, none⟩) (.inr (by omega)) (.int .i64 t')).set (p := ⟨z1.heap.size, 1, none⟩) (.inr (by omega)) (.int .i64 vo'))
        replace HG2 := Lib.hid (HG2.out.far (p := ⟨z1.heap.size, 0, none⟩) (by first | exact hneq | exact hneq.symm) (.int .i64 t'))
        replace HLR := Lib.hid (sls_far HLR.out (p := ⟨z1.heap.size, 0, none⟩) (by simp only; omega) (.int .i64 t'))
        replace HG2 := Lib.hid (HG2.out.far (p := ⟨z1.heap.size, 1, none⟩) (by first | exact hneq | exact hneq.symm) (.int .i64 vo'))
        replace HLR := Lib.hid (sls_far HLR.out (p := ⟨z1.heap.size, 1, none⟩) (by simp only; omega) (.int .i64 vo'))
        generalize hw6 : (World.setCell (World.setCell z17 ⟨z1.heap.size, 0, none⟩ (.int .i64 t')) ⟨z1.heap.size, 1, none⟩ (.int .i64 vo')) = z18 at *
        clear hw6
        refine s_one (i := 19) (by kernel_rfl) ?_
        obtain ⟨c_0, c_1, c_2⟩ := HG2.out.c3
        obtain ⟨f_0, f_1, f_2⟩ := HG2.out.f3
        refine ones_skip (i := 19) (w' := ?_) rfl (by rfl) ?_ ?_ ?_
        rotate_left 1
        · go_simp
          first | done | rfl
        · exact fun _ => (((HC.out.set (p := ⟨gb, 0, none⟩) (.inr (by omega)) (.int .i64 0)).set (p := ⟨gb, 1, none⟩) (.inr (by omega)) (.int .i64 0)).set (p := ⟨gb, 2, none⟩) (.inr (by omega)) (.slice A5 sn' c5))
        simp only [Act.put, List.getElem_toArray, List.getElem_cons_zero, List.getElem_cons_succ]
        clear c_0 f_0 c_1 f_1 c_2 f_2
        replace HG2 := Lib.hid (show Whole _ _ _ #[.int .i64 0, .int .i64 0, .slice A5 sn' c5] from (((HG2.out.set 0 (.int .i64 0)).set 1 (.int .i64 0)).set 2 (.slice A5 sn' c5)))
        replace HC := Lib.hid (((HC.out.set (p := ⟨gb, 0, none⟩) (.inr (by omega)) (.int .i64 0)).set (p := ⟨gb, 1, none⟩) (.inr (by omega)) (.int .i64 0)).set (p := ⟨gb, 2, none⟩) (.inr (by omega)) (.slice A5 sn' c5))
        replace HG1 := Lib.hid (HG1.out.far (p := ⟨gb, 0, none⟩) (by first | exact hneq | exact hneq.symm) (.int .i64 0))
        replace HLR := Lib.hid (sls_far HLR.out (p := ⟨gb, 0, none⟩) (by simp only; omega) (.int .i64 0))
        replace HG1 := Lib.hid (HG1.out.far (p := ⟨gb, 1, none⟩) (by first | exact hneq | exact hneq.symm) (.int .i64 0))
        replace HLR := Lib.hid (sls_far HLR.out (p := ⟨gb, 1, none⟩) (by simp only; omega) (.int .i64 0))
        replace HG1 := Lib.hid (HG1.out.far (p := ⟨gb, 2, none⟩) (by first | exact hneq | exact hneq.symm) (.slice A5 sn' c5))
        replace HLR := Lib.hid (sls_far HLR.out (p := ⟨gb, 2, none⟩) (by simp only; omega) (.slice A5 sn' c5))
        generalize hw6 : (World.setCell (World.setCell (World.setCell z18 ⟨gb, 0, none⟩ (.int .i64 0)) ⟨gb, 1, none⟩ (.int .i64 0)) ⟨gb, 2, none⟩ (.slice A5 sn' c5)) = z19 at *
        clear hw6
        refine s_take (i := 20) (v := ?_) rfl (by kernel_rfl) (by kernel_rfl) (by kernel_rfl) (k0 := 20) (by kernel_rfl) (by kernel_rfl) (.inl rfl) (fun _ _ _ h => h) (by rfl) HC.out ?_ ?_
        rotate_left
        · intro W hW
          go_simp
          first | done | rfl
        simp only [Act.put, List.setIfInBounds_toArray, List.set_cons_zero, List.set_cons_succ, List.getElem_toArray, List.getElem_cons_zero, List.getElem_cons_succ]
        refine s_done (by kernel_rfl) ?_
        replace HBz := Lib.hid (HBz.out.trans (hDz.trans (HC.out.below (B := w.heap.size) (fun _ h => h.elim) hzz0) |>.mono HBz.out.size))
        replace HVz := Lib.hid (HVz.out.keep (Below.kept hDz) (fun h => h) (fun _ _ h => h) |>.keep HC.out (fun h => h) (fun _ _ h => h))
        have hga : g ≠ z1.heap.size ∧ g ≠ gb := by omega
        have hgtw : ∀ b, (b < z1.heap.size → b < z19.heap.size) := fun b hb => by have := HC.out.size; omega
        clear HC HXK hDz
        generalize hw5 : z19 = w5 at *
        clear hw5
        have hvs := HVz.out.st
        dsimp only at hvs
        rw [HDN.out, HSN.out] at hvs
        have HVS := Lib.hid hvs
        obtain ⟨k0, k1, k2, k3, k4⟩ := hvs.c5
        clear hvs
        have HDU := Lib.hid (HUP.out u huk _ HBz.out)
        have hgw5 := HVS.out.lt
        go_simp
        go_wp2_with (at_builtin; refine wpList_append_sl rfl _ (.tmp 45) rfl rowB w5.heap.size _ [] rfl (Own.nil _ _ _) w5.heap.size _ (d.take u) rfl HDU.out (by rw [HLT.out]; unfold maxLen; simp; omega) (by rw [HLT.out]; simp; omega) (Nat.le_refl _) ?_; intro v7 w7 hown7 hg7 hat7; rw [List.nil_append] at hown7; have hb7 := (Below.refl w5.heap.size w5).grown hg7 (Nat.le_refl _) (fun k hk => by cases hk); obtain ⟨A7, c7, rfl, -, -⟩ := hown7.sl.form; rw [HLT.out] at hown7 ⊢; have HO7 := Lib.hid hown7; have HB7 := Lib.hid hb7; replace HVS := Lib.hid (HVS.out.below hb7 HVS.out.lt); replace HG1 := Lib.hid (HG1.out.below hb7 HG1.out.lt); replace HG2 := Lib.hid (HG2.out.below hb7 HG2.out.lt); replace HLR := Lib.hid (HLR.out.stay (fun b _ hlt => hb7.block b hlt)); obtain ⟨c_0, c_1, c_2, c_3, c_4⟩ := HVS.out.c5; obtain ⟨f_0, f_1, f_2, f_3, f_4⟩ := HVS.out.f5; clear hown7 hg7 hat7 hb7 k0 k1 k2 k3 k4; have HV1 := Lib.hid (show Whole _ _ _ #[.slice A7 u c7, .int .i64 (K : Int), .int .i64 t, .int .i64 vo, .slice A2 sn c2] from HVS.out.set 0 (.slice A7 u c7)); have HV2 := Lib.hid (show Whole _ _ _ #[.slice A7 u c7, .int .i64 (u : Int), .int .i64 t, .int .i64 vo, .slice A2 sn c2] from HV1.out.set 1 (.int .i64 (u : Int))); have HV5 := Lib.hid (show Whole _ _ _ #[.slice A7 u c7, .int .i64 (u : Int), .int .i64 t', .int .i64 vo', .slice A5 sn' c5] from ((HV2.out.set 2 (.int .i64 t')).set 3 (.int .i64 vo')).set 4 (.slice A5 sn' c5)); replace HG1 := Lib.hid ((HG1.out.far (p := ⟨g, 0, none⟩) (fun e => hga.1 e.symm) (.slice A7 u c7)).far (p := ⟨g, 1, none⟩) (fun e => hga.1 e.symm) (.int .i64 (u : Int))); replace HG2 := Lib.hid ((HG2.out.far (p := ⟨g, 0, none⟩) (fun e => hga.2 e.symm) (.slice A7 u c7)).far (p := ⟨g, 1, none⟩) (fun e => hga.2 e.symm) (.int .i64 (u : Int))); obtain ⟨d_0, d_1, d_2, d_3, d_4⟩ := HV1.out.c5; obtain ⟨e_0, e_1, e_2, e_3, e_4⟩ := HV1.out.f5; obtain ⟨m_0, m_1, m_2, m_3, m_4⟩ := HV2.out.c5; obtain ⟨n_0, n_1, n_2, n_3, n_4⟩ := HV2.out.f5; obtain ⟨x_0, x_1⟩ := HG1.out.c2; obtain ⟨y_0, y_1, y_2⟩ := HG2.out.c3; have HKK := Lib.hid ((((((Below.kept (D := fun b => b = g) (HBz.out.trans (HB7.out.mono HBz.out.size))).set (p := ⟨g, 0, none⟩) (.inl rfl) (.slice A7 u c7)).set (p := ⟨g, 1, none⟩) (.inl rfl) (.int .i64 (u : Int))).set (p := ⟨g, 2, none⟩) (.inl rfl) (.int .i64 t')).set (p := ⟨g, 3, none⟩) (.inl rfl) (.int .i64 vo')).set (p := ⟨g, 4, none⟩) (.inl rfl) (.slice A5 sn' c5)))
        have HOF := Lib.hid (((((HO7.out.set (p := ⟨g, 0, none⟩) (by simp; omega) (.slice A7 u c7)).set (p := ⟨g, 1, none⟩) (by simp; omega) (.int .i64 (u : Int))).set (p := ⟨g, 2, none⟩) (by simp; omega) (.int .i64 t')).set (p := ⟨g, 3, none⟩) (by simp; omega) (.int .i64 vo')).set (p := ⟨g, 4, none⟩) (by simp; omega) (.slice A5 sn' c5))
        have HLF := Lib.hid (sls_far (sls_far (sls_far (sls_far (sls_far HLR.out (p := ⟨g, 0, none⟩) (by simp only; omega) (.slice A7 u c7)) (p := ⟨g, 1, none⟩) (by simp only; omega) (.int .i64 (u : Int))) (p := ⟨g, 2, none⟩) (by simp only; omega) (.int .i64 t')) (p := ⟨g, 3, none⟩) (by simp only; omega) (.int .i64 vo')) (p := ⟨g, 4, none⟩) (by simp only; omega) (.slice A5 sn' c5))
        clear HV1 HV2 HG1 HG2 HVS
        go_end0
        rw [HCR.out]
        have hzb := HBz.out.size
        refine ⟨rfl, A7, c7, A5, c5, ⟨?_, ?_, ?_, ?_⟩, HKK.out⟩
        · dsimp only
          rw [HLT.out, HSN'.out]
          exact HV5.out
        · dsimp only
          rw [HLT.out]
          exact HOF.out.slS.wide (fun b hb _ => .inr (by omega))
        · dsimp only
          rw [HSN'.out]
          exact HLF.out.wide (fun b hb _ => .inr (by omega))
        · rintro (h | h)
          · exact hSg h
          · omega
    · refine ones_run (i := 17) (v := ?_) (w' := World.alloc (z1) (.cells #[.int .i64 0, .int .i64 0, .slice none 0 0] 38)) rfl (by rfl) ?_ ?_ ?_
      rotate_left 1
      · go_simp
        first | done | rfl | (constructor <;> rfl)
      · exact fun _ => HC.out.trans (Below.kept ((Below.refl _ _).alloc (Nat.le_refl _) _))
      simp only [Act.put, List.setIfInBounds_toArray, List.set_cons_zero, List.set_cons_succ, List.getElem_toArray, List.getElem_cons_zero, List.getElem_cons_succ]
      have gbge := HC.out.size
      have gbs : z1.heap.size < (World.alloc (z1) (.cells #[.int .i64 0, .int .i64 0, .slice none 0 0] 38)).heap.size := by simp
      have HG2 := Lib.hid (Whole.new (z1) 38 #[.int .i64 0, .int .i64 0, .slice none 0 0])
      replace HC := Lib.hid (HC.out.trans (Below.kept ((Below.refl _ _).alloc (Nat.le_refl _) (.cells #[.int .i64 0, .int .i64 0, .slice none 0 0] 38))))
      generalize hw6 : World.alloc (z1) _ = z20 at *
      clear hw6
      refine s_two (i := 11) (j := 16) (by kernel_rfl) ?_ ?_
      · refine ones_call (i := 11) (f := 22) (args := ?_) rfl (by rfl) ?_ ?_
        rotate_left
        · go_simp
          first | done | rfl
        with_reducible refine (HRD.out _ A3 (HUP.out K (by omega) _ (HBz.out.trans (hDz.trans (HC.out.below (B := w.heap.size) (fun _ h => h.elim) hzz0) |>.mono HBz.out.size)))).mono ?_
        rintro e z21 ⟨A5, c5, rfl, hsl, hb⟩
        refine ⟨_, rfl, fun _ => HC.out.trans (Below.kept hb), ?_⟩
        replace HC := Lib.hid (HC.out.trans (Below.kept hb))
        simp only [HSN'.out] at hsl ⊢
        have hsc := hb.size
        have HLR := Lib.hid (hsl.wide (T := fun b => z20.heap.size ≤ b ∧ b < z21.heap.size) (fun b hb hlt => ⟨hb, hlt⟩))
        clear hsl
        replace HG2 := Lib.hid (HG2.out.below hb HG2.out.lt)
        clear hb
        simp only [Act.put, List.setIfInBounds_toArray, List.set_cons_zero, List.set_cons_succ, List.getElem_toArray, List.getElem_cons_zero, List.getElem_cons_succ]
        refine s_take (i := 12) (v := ?_) rfl (by kernel_rfl) (by kernel_rfl) (by kernel_rfl) (k0 := 12) (by kernel_rfl) (by kernel_rfl) (.inl rfl) (fun _ _ _ h => h) (by rfl) HC.out ?_ ?_
        rotate_left
        · intro W hW
          go_simp
          first | done | rfl
        simp only [Act.put, List.setIfInBounds_toArray, List.set_cons_zero, List.set_cons_succ, List.getElem_toArray, List.getElem_cons_zero, List.getElem_cons_succ]
        refine s_take (i := 13) (v := ?_) rfl (by kernel_rfl) (by kernel_rfl) (by kernel_rfl) (k0 := 13) (by kernel_rfl) (by kernel_rfl) (.inl rfl) (fun _ _ _ h => h) (by rfl) HC.out ?_ ?_
        rotate_left
        · intro W hW
          go_simp
          first | done | rfl
        simp only [Act.put, List.setIfInBounds_toArray, List.set_cons_zero, List.set_cons_succ, List.getElem_toArray, List.getElem_cons_zero, List.getElem_cons_succ]
        refine s_take (i := 14) (v := ?_) rfl (by kernel_rfl) (by kernel_rfl) (by kernel_rfl) (k0 := 14) (by kernel_rfl) (by kernel_rfl) (.inl rfl) (fun _ _ _ h => h) (by rfl) HC.out ?_ ?_
        rotate_left
        · intro W hW
          go_simp
          first | done | rfl
        simp only [Act.put, List.setIfInBounds_toArray, List.set_cons_zero, List.set_cons_succ, List.getElem_toArray, List.getElem_cons_zero, List.getElem_cons_succ]
        refine s_take (i := 15) (v := ?_) rfl (by kernel_rfl) (by kernel_rfl) (by kernel_rfl) (k0 := 15) (by kernel_rfl) (by kernel_rfl) (.inl rfl) (fun _ _ _ h => h) (by rfl) HC.out ?_ ?_
        rotate_left
        · intro W hW
          go_simp
          first | done | rfl
        simp only [Act.put, List.setIfInBounds_toArray, List.set_cons_zero, List.set_cons_succ, List.getElem_toArray, List.getElem_cons_zero, List.getElem_cons_succ]
        refine s_one (i := 16) (by kernel_rfl) ?_
        refine ones_run (i := 16) (v := ?_) (w' := World.alloc (z21) (.cells #[.int .i64 0, .int .i64 0] 30)) rfl (by rfl) ?_ ?_ ?_
        rotate_left 1
        · go_simp
          first | done | rfl | (constructor <;> rfl)
        · exact fun _ => HC.out.trans (Below.kept ((Below.refl _ _).alloc (Nat.le_refl _) _))
        simp only [Act.put, List.setIfInBounds_toArray, List.set_cons_zero, List.set_cons_succ, List.getElem_toArray, List.getElem_cons_zero, List.getElem_cons_succ]
        have gage := HC.out.size
        have gas : z21.heap.size < (World.alloc (z21) (.cells #[.int .i64 0, .int .i64 0] 30)).heap.size := by simp
        have hneq : z1.heap.size ≠ z21.heap.size := Nat.ne_of_lt HG2.out.lt
        replace HG2 := Lib.hid (HG2.out.alloc (.cells #[.int .i64 0, .int .i64 0] 30))
        replace HLR := Lib.hid (HLR.out.stay (fun b _ hlt => ((Below.refl z21.heap.size z21).alloc (Nat.le_refl _) (.cells #[.int .i64 0, .int .i64 0] 30)).block b hlt))
        have HG1 := Lib.hid (Whole.new (z21) 30 #[.int .i64 0, .int .i64 0])
        replace HC := Lib.hid (HC.out.trans (Below.kept ((Below.refl _ _).alloc (Nat.le_refl _) (.cells #[.int .i64 0, .int .i64 0] 30))))
        generalize hw6 : World.alloc (z21) _ = z22 at *
        clear hw6
        generalize hg6 : (z21).heap.size = ga at *
        clear hg6
        refine s_one (i := 18) (by kernel_rfl) ?_
        obtain ⟨c_0, c_1⟩ := HG1.out.c2
        obtain ⟨f_0, f_1⟩ := HG1.out.f2
        refine ones_skip (i := 18) (w' := ?_) rfl (by rfl) ?_ ?_ ?_
        rotate_left 1
        · go_simp
          first | done | rfl
        · exact fun _ => ((HC.out.set (p := ⟨ga, 0, none⟩) (.inr (by omega)) (.int .i64 t')).set (p := ⟨ga, 1, none⟩) (.inr (by omega)) (.int .i64 vo'))
        simp only [Act.put, List.getElem_toArray, List.getElem_cons_zero, List.getElem_cons_succ]
        clear c_0 f_0 c_1 f_1
        replace HG1 := Lib.hid (show Whole _ _ _ #[.int .i64 t', .int .i64 vo'] from ((HG1.out.set 0 (.int .i64 t')).set 1 (.int .i64 vo')))
        replace HC := Lib.hid ((HC.out.set (p := ⟨ga, 0, none⟩) (.inr (by omega)) (.int .i64 t')).set (p := ⟨ga, 1, none⟩) (.inr (by omega)) (.int .i64 vo'))
        replace HG2 := Lib.hid (HG2.out.far (p := ⟨ga, 0, none⟩) (by first | exact hneq | exact hneq.symm) (.int .i64 t'))
        replace HLR := Lib.hid (sls_far HLR.out (p := ⟨ga, 0, none⟩) (by simp only; omega) (.int .i64 t'))
        replace HG2 := Lib.hid (HG2.out.far (p := ⟨ga, 1, none⟩) (by first | exact hneq | exact hneq.symm) (.int .i64 vo'))
        replace HLR := Lib.hid (sls_far HLR.out (p := ⟨ga, 1, none⟩) (by simp only; omega) (.int .i64 vo'))
        generalize hw6 : (World.setCell (World.setCell z22 ⟨ga, 0, none⟩ (.int .i64 t')) ⟨ga, 1, none⟩ (.int .i64 vo')) = z23 at *
        clear hw6
        refine s_one (i := 19) (by kernel_rfl) ?_
        obtain ⟨c_0, c_1, c_2⟩ := HG2.out.c3
        obtain ⟨f_0, f_1, f_2⟩ := HG2.out.f3
        refine ones_skip (i := 19) (w' := ?_) rfl (by rfl) ?_ ?_ ?_
        rotate_left 1
        · go_simp
          first | done | rfl
        · exact fun _ => (((HC.out.set (p := ⟨z1.heap.size, 0, none⟩) (.inr (by omega)) (.int .i64 0)).set (p := ⟨z1.heap.size, 1, none⟩) (.inr (by omega)) (.int .i64 0)).set (p := ⟨z1.heap.size, 2, none⟩) (.inr (by omega)) (.slice A5 sn' c5))
        simp only [Act.put, List.getElem_toArray, List.getElem_cons_zero, List.getElem_cons_succ]
        clear c_0 f_0 c_1 f_1 c_2 f_2
        replace HG2 := Lib.hid (show Whole _ _ _ #[.int .i64 0, .int .i64 0, .slice A5 sn' c5] from (((HG2.out.set 0 (.int .i64 0)).set 1 (.int .i64 0)).set 2 (.slice A5 sn' c5)))
        replace HC := Lib.hid (((HC.out.set (p := ⟨z1.heap.size, 0, none⟩) (.inr (by omega)) (.int .i64 0)).set (p := ⟨z1.heap.size, 1, none⟩) (.inr (by omega)) (.int .i64 0)).set (p := ⟨z1.heap.size, 2, none⟩) (.inr (by omega)) (.slice A5 sn' c5))
        replace HG1 := Lib.hid (HG1.out.far (p := ⟨z1.heap.size, 0, none⟩) (by first | exact hneq | exact hneq.symm) (.int .i64 0))
        replace HLR := Lib.hid (sls_far HLR.out (p := ⟨z1.heap.size, 0, none⟩) (by simp only; omega) (.int .i64 0))
        replace HG1 := Lib.hid (HG1.out.far (p := ⟨z1.heap.size, 1, none⟩) (by first | exact hneq | exact hneq.symm) (.int .i64 0))
        replace HLR := Lib.hid (sls_far HLR.out (p := ⟨z1.heap.size, 1, none⟩) (by simp only; omega) (.int .i64 0))
        replace HG1 := Lib.hid (HG1.out.far (p := ⟨z1.heap.size, 2, none⟩) (by first | exact hneq | exact hneq.symm) (.slice A5 sn' c5))
        replace HLR := Lib.hid (sls_far HLR.out (p := ⟨z1.heap.size, 2, none⟩) (by simp only; omega) (.slice A5 sn' c5))
        generalize hw6 : (World.setCell (World.setCell (World.setCell z23 ⟨z1.heap.size, 0, none⟩ (.int .i64 0)) ⟨z1.heap.size, 1, none⟩ (.int .i64 0)) ⟨z1.heap.size, 2, none⟩ (.slice A5 sn' c5)) = z24 at *
        clear hw6
        refine s_take (i := 20) (v := ?_) rfl (by kernel_rfl) (by kernel_rfl) (by kernel_rfl) (k0 := 20) (by kernel_rfl) (by kernel_rfl) (.inl rfl) (fun _ _ _ h => h) (by rfl) HC.out ?_ ?_
        rotate_left
        · intro W hW
          go_simp
          first | done | rfl
        simp only [Act.put, List.setIfInBounds_toArray, List.set_cons_zero, List.set_cons_succ, List.getElem_toArray, List.getElem_cons_zero, List.getElem_cons_succ]
        refine s_done (by kernel_rfl) ?_
        replace HBz := Lib.hid (HBz.out.trans (hDz.trans (HC.out.below (B := w.heap.size) (fun _ h => h.elim) hzz0) |>.mono HBz.out.size))
        replace HVz := Lib.hid (HVz.out.keep (Below.kept hDz) (fun h => h) (fun _ _ h => h) |>.keep HC.out (fun h => h) (fun _ _ h => h))
        have hga : g ≠ ga ∧ g ≠ z1.heap.size := by omega
        have hgtw : ∀ b, (b < z1.heap.size → b < z24.heap.size) := fun b hb => by have := HC.out.size; omega
        clear HC HXK hDz
        generalize hw5 : z24 = w5 at *
        clear hw5
        have hvs := HVz.out.st
        dsimp only at hvs
        rw [HDN.out, HSN.out] at hvs
        have HVS := Lib.hid hvs
        obtain ⟨k0, k1, k2, k3, k4⟩ := hvs.c5
        clear hvs
        have HDU := Lib.hid (HUP.out u huk _ HBz.out)
        have hgw5 := HVS.out.lt
        go_simp
        go_wp2_with (at_builtin; refine wpList_append_sl rfl _ (.tmp 45) rfl rowB w5.heap.size _ [] rfl (Own.nil _ _ _) w5.heap.size _ (d.take u) rfl HDU.out (by rw [HLT.out]; unfold maxLen; simp; omega) (by rw [HLT.out]; simp; omega) (Nat.le_refl _) ?_; intro v7 w7 hown7 hg7 hat7; rw [List.nil_append] at hown7; have hb7 := (Below.refl w5.heap.size w5).grown hg7 (Nat.le_refl _) (fun k hk => by cases hk); obtain ⟨A7, c7, rfl, -, -⟩ := hown7.sl.form; rw [HLT.out] at hown7 ⊢; have HO7 := Lib.hid hown7; have HB7 := Lib.hid hb7; replace HVS := Lib.hid (HVS.out.below hb7 HVS.out.lt); replace HG1 := Lib.hid (HG1.out.below hb7 HG1.out.lt); replace HG2 := Lib.hid (HG2.out.below hb7 HG2.out.lt); replace HLR := Lib.hid (HLR.out.stay (fun b _ hlt => hb7.block b hlt)); obtain ⟨c_0, c_1, c_2, c_3, c_4⟩ := HVS.out.c5; obtain ⟨f_0, f_1, f_2, f_3, f_4⟩ := HVS.out.f5; clear hown7 hg7 hat7 hb7 k0 k1 k2 k3 k4; have HV1 := Lib.hid (show Whole _ _ _ #[.slice A7 u c7, .int .i64 (K : Int), .int .i64 t, .int .i64 vo, .slice A2 sn c2] from HVS.out.set 0 (.slice A7 u c7)); have HV2 := Lib.hid (show Whole _ _ _ #[.slice A7 u c7, .int .i64 (u : Int), .int .i64 t, .int .i64 vo, .slice A2 sn c2] from HV1.out.set 1 (.int .i64 (u : Int))); have HV5 := Lib.hid (show Whole _ _ _ #[.slice A7 u c7, .int .i64 (u : Int), .int .i64 t', .int .i64 vo', .slice A5 sn' c5] from ((HV2.out.set 2 (.int .i64 t')).set 3 (.int .i64 vo')).set 4 (.slice A5 sn' c5)); replace HG1 := Lib.hid ((HG1.out.far (p := ⟨g, 0, none⟩) (fun e => hga.1 e.symm) (.slice A7 u c7)).far (p := ⟨g, 1, none⟩) (fun e => hga.1 e.symm) (.int .i64 (u : Int))); replace HG2 := Lib.hid ((HG2.out.far (p := ⟨g, 0, none⟩) (fun e => hga.2 e.symm) (.slice A7 u c7)).far (p := ⟨g, 1, none⟩) (fun e => hga.2 e.symm) (.int .i64 (u : Int))); obtain ⟨d_0, d_1, d_2, d_3, d_4⟩ := HV1.out.c5; obtain ⟨e_0, e_1, e_2, e_3, e_4⟩ := HV1.out.f5; obtain ⟨m_0, m_1, m_2, m_3, m_4⟩ := HV2.out.c5; obtain ⟨n_0, n_1, n_2, n_3, n_4⟩ := HV2.out.f5; obtain ⟨x_0, x_1⟩ := HG1.out.c2; obtain ⟨y_0, y_1, y_2⟩ := HG2.out.c3; have HKK := Lib.hid ((((((Below.kept (D := fun b => b = g) (HBz.out.trans (HB7.out.mono HBz.out.size))).set (p := ⟨g, 0, none⟩) (.inl rfl) (.slice A7 u c7)).set (p := ⟨g, 1, none⟩) (.inl rfl) (.int .i64 (u : Int))).set (p := ⟨g, 2, none⟩) (.inl rfl) (.int .i64 t')).set (p := ⟨g, 3, none⟩) (.inl rfl) (.int .i64 vo')).set (p := ⟨g, 4, none⟩) (.inl rfl) (.slice A5 sn' c5)))
        have HOF := Lib.hid (((((HO7.out.set (p := ⟨g, 0, none⟩) (by simp; omega) (.slice A7 u c7)).set (p := ⟨g, 1, none⟩) (by simp; omega) (.int .i64 (u : Int))).set (p := ⟨g, 2, none⟩) (by simp; omega) (.int .i64 t')).set (p := ⟨g, 3, none⟩) (by simp; omega) (.int .i64 vo')).set (p := ⟨g, 4, none⟩) (by simp; omega) (.slice A5 sn' c5))
        have HLF := Lib.hid (sls_far (sls_far (sls_far (sls_far (sls_far HLR.out (p := ⟨g, 0, none⟩) (by simp only; omega) (.slice A7 u c7)) (p := ⟨g, 1, none⟩) (by simp only; omega) (.int .i64 (u : Int))) (p := ⟨g, 2, none⟩) (by simp only; omega) (.int .i64 t')) (p := ⟨g, 3, none⟩) (by simp only; omega) (.int .i64 vo')) (p := ⟨g, 4, none⟩) (by simp only; omega) (.slice A5 sn' c5))
        clear HV1 HV2 HG1 HG2 HVS
        go_end0
        rw [HCR.out]
        have hzb := HBz.out.size
        refine ⟨rfl, A7, c7, A5, c5, ⟨?_, ?_, ?_, ?_⟩, HKK.out⟩
        · dsimp only
          rw [HLT.out, HSN'.out]
          exact HV5.out
        · dsimp only
          rw [HLT.out]
          exact HOF.out.slS.wide (fun b hb _ => .inr (by omega))
        · dsimp only
          rw [HSN'.out]
          exact HLF.out.wide (fun b hb _ => .inr (by omega))
        · rintro (h | h)
          · exact hSg h
          · omega
      · refine ones_run (i := 16) (v := ?_) (w' := World.alloc (z20) (.cells #[.int .i64 0, .int .i64 0] 30)) rfl (by rfl) ?_ ?_ ?_
        rotate_left 1
        · go_simp
          first | done | rfl | (constructor <;> rfl)
        · exact fun _ => HC.out.trans (Below.kept ((Below.refl _ _).alloc (Nat.le_refl _) _))
        simp only [Act.put, List.setIfInBounds_toArray, List.set_cons_zero, List.set_cons_succ, List.getElem_toArray, List.getElem_cons_zero, List.getElem_cons_succ]
        have gage := HC.out.size
        have gas : z20.heap.size < (World.alloc (z20) (.cells #[.int .i64 0, .int .i64 0] 30)).heap.size := by simp
        have hneq : z1.heap.size ≠ z20.heap.size := Nat.ne_of_lt HG2.out.lt
        replace HG2 := Lib.hid (HG2.out.alloc (.cells #[.int .i64 0, .int .i64 0] 30))
        have HG1 := Lib.hid (Whole.new (z20) 30 #[.int .i64 0, .int .i64 0])
        replace HC := Lib.hid (HC.out.trans (Below.kept ((Below.refl _ _).alloc (Nat.le_refl _) (.cells #[.int .i64 0, .int .i64 0] 30))))
        generalize hw6 : World.alloc (z20) _ = z25 at *
        clear hw6
        generalize hg6 : (z20).heap.size = ga at *
        clear hg6
        refine s_one (i := 11) (by kernel_rfl) ?_
        refine ones_call (i := 11) (f := 22) (args := ?_) rfl (by rfl) ?_ ?_
        rotate_left
        · go_simp
          first | done | rfl
        with_reducible refine (HRD.out _ A3 (HUP.out K (by omega) _ (HBz.out.trans (hDz.trans (HC.out.below (B := w.heap.size) (fun _ h => h.elim) hzz0) |>.mono HBz.out.size)))).mono ?_
        rintro e z26 ⟨A5, c5, rfl, hsl, hb⟩
        refine ⟨_, rfl, fun _ => HC.out.trans (Below.kept hb), ?_⟩
        replace HC := Lib.hid (HC.out.trans (Below.kept hb))
        simp only [HSN'.out] at hsl ⊢
        have hsc := hb.size
        have HLR := Lib.hid (hsl.wide (T := fun b => z25.heap.size ≤ b ∧ b < z26.heap.size) (fun b hb hlt => ⟨hb, hlt⟩))
        clear hsl
        replace HG1 := Lib.hid (HG1.out.below hb HG1.out.lt)
        replace HG2 := Lib.hid (HG2.out.below hb HG2.out.lt)
        clear hb
        simp only [Act.put, List.setIfInBounds_toArray, List.set_cons_zero, List.set_cons_succ, List.getElem_toArray, List.getElem_cons_zero, List.getElem_cons_succ]
        refine s_take (i := 12) (v := ?_) rfl (by kernel_rfl) (by kernel_rfl) (by kernel_rfl) (k0 := 12) (by kernel_rfl) (by kernel_rfl) (.inl rfl) (fun _ _ _ h => h) (by rfl) HC.out ?_ ?_
        rotate_left
        · intro W hW
          go_simp
          first | done | rfl
        simp only [Act.put, List.setIfInBounds_toArray, List.set_cons_zero, List.set_cons_succ, List.getElem_toArray, List.getElem_cons_zero, List.getElem_cons_succ]
        refine s_take (i := 13) (v := ?_) rfl (by kernel_rfl) (by kernel_rfl) (by kernel_rfl) (k0 := 13) (by kernel_rfl) (by kernel_rfl) (.inl rfl) (fun _ _ _ h => h) (by rfl) HC.out ?_ ?_
        rotate_left
        · intro W hW
          go_simp
          first | done | rfl
        simp only [Act.put, List.setIfInBounds_toArray, List.set_cons_zero, List.set_cons_succ, List.getElem_toArray, List.getElem_cons_zero, List.getElem_cons_succ]
        refine s_take (i := 14) (v := ?_) rfl (by kernel_rfl) (by kernel_rfl) (by kernel_rfl) (k0 := 14) (by kernel_rfl) (by kernel_rfl) (.inl rfl) (fun _ _ _ h => h) (by rfl) HC.out ?_ ?_
        rotate_left
        · intro W hW
          go_simp
          first | done | rfl
        simp only [Act.put, List.setIfInBounds_toArray, List.set_cons_zero, List.set_cons_succ, List.getElem_toArray, List.getElem_cons_zero, List.getElem_cons_succ]
        refine s_take (i := 15) (v := ?_) rfl (by kernel_rfl) (by kernel_rfl) (by kernel_rfl) (k0 := 15) (by kernel_rfl) (by kernel_rfl) (.inl rfl) (fun _ _ _ h => h) (by rfl) HC.out ?_ ?_
        rotate_left
        · intro W hW
          go_simp
          first | done | rfl
        simp only [Act.put, List.setIfInBounds_toArray, List.set_cons_zero, List.set_cons_succ, List.getElem_toArray, List.getElem_cons_zero, List.getElem_cons_succ]
        refine s_one (i := 18) (by kernel_rfl) ?_
        obtain ⟨c_0, c_1⟩ := HG1.out.c2
        obtain ⟨f_0, f_1⟩ := HG1.out.f2
        refine ones_skip (i := 18) (w' := ?_) rfl (by rfl) ?_ ?_ ?_
        rotate_left 1
        · go_simp
          first | done | rfl
        · exact fun _ => ((HC.out.set (p := ⟨ga, 0, none⟩) (.inr (by omega)) (.int .i64 t')).set (p := ⟨ga, 1, none⟩) (.inr (by omega)) (.int .i64 vo'))
        simp only [Act.put, List.getElem_toArray, List.getElem_cons_zero, List.getElem_cons_succ]
        clear c_0 f_0 c_1 f_1
        replace HG1 := Lib.hid (show Whole _ _ _ #[.int .i64 t', .int .i64 vo'] from ((HG1.out.set 0 (.int .i64 t')).set 1 (.int .i64 vo')))
        replace HC := Lib.hid ((HC.out.set (p := ⟨ga, 0, none⟩) (.inr (by omega)) (.int .i64 t')).set (p := ⟨ga, 1, none⟩) (.inr (by omega)) (.int .i64 vo'))
        replace HG2 := Lib.hid (HG2.out.far (p := ⟨ga, 0, none⟩) (by first | exact hneq | exact hneq.symm) (.int .i64 t'))
        replace HLR := Lib.hid (sls_far HLR.out (p := ⟨ga, 0, none⟩) (by simp only; omega) (.int .i64 t'))
        replace HG2 := Lib.hid (HG2.out.far (p := ⟨ga, 1, none⟩) (by first | exact hneq | exact hneq.symm) (.int .i64 vo'))
        replace HLR := Lib.hid (sls_far HLR.out (p := ⟨ga, 1, none⟩) (by simp only; omega) (.int .i64 vo'))
        generalize hw6 : (World.setCell (World.setCell z26 ⟨ga, 0, none⟩ (.int .i64 t')) ⟨ga, 1, none⟩ (.int .i64 vo')) = z27 at *
        clear hw6
        refine s_one (i := 19) (by kernel_rfl) ?_
        obtain ⟨c_0, c_1, c_2⟩ := HG2.out.c3
        obtain ⟨f_0, f_1, f_2⟩ := HG2.out.f3
        refine ones_skip (i := 19) (w' := ?_) rfl (by rfl) ?_ ?_ ?_
        rotate_left 1
        · go_simp
          first | done | rfl
        · exact fun _ => (((HC.out.set (p := ⟨z1.heap.size, 0, none⟩) (.inr (by omega)) (.int .i64 0)).set (p := ⟨z1.heap.size, 1, none⟩) (.inr (by omega)) (.int .i64 0)).set (p := ⟨z1.heap.size, 2, none⟩) (.inr (by omega)) (.slice A5 sn' c5))
        simp only [Act.put, List.getElem_toArray, List.getElem_cons_zero, List.getElem_cons_succ]
        clear c_0 f_0 c_1 f_1 c_2 f_2
        replace HG2 := Lib.hid (show Whole _ _ _ #[.int .i64 0, .int .i64 0, .slice A5 sn' c5] from (((HG2.out.set 0 (.int .i64 0)).set 1 (.int .i64 0)).set 2 (.slice A5 sn' c5)))
        replace HC := Lib.hid (((HC.out.set (p := ⟨z1.heap.size, 0, none⟩) (.inr (by omega)) (.int .i64 0)).set (p := ⟨z1.heap.size, 1, none⟩) (.inr (by omega)) (.int .i64 0)).set (p := ⟨z1.heap.size, 2, none⟩) (.inr (by omega)) (.slice A5 sn' c5))
        replace HG1 := Lib.hid (HG1.out.far (p := ⟨z1.heap.size, 0, none⟩) (by first | exact hneq | exact hneq.symm) (.int .i64 0))
        replace HLR := Lib.hid (sls_far HLR.out (p := ⟨z1.heap.size, 0, none⟩) (by simp only; omega) (.int .i64 0))
        replace HG1 := Lib.hid (HG1.out.far (p := ⟨z1.heap.size, 1, none⟩) (by first | exact hneq | exact hneq.symm) (.int .i64 0))
        replace HLR := Lib.hid (sls_far HLR.out (p := ⟨z1.heap.size, 1, none⟩) (by simp only; omega) (.int .i64 0))
        replace HG1 := Lib.hid (HG1.out.far (p := ⟨z1.heap.size, 2, none⟩) (by first | exact hneq | exact hneq.symm) (.slice A5 sn' c5))
        replace HLR := Lib.hid (sls_far HLR.out (p := ⟨z1.heap.size, 2, none⟩) (by simp only; omega) (.slice A5 sn' c5))
        generalize hw6 : (World.setCell (World.setCell (World.setCell z27 ⟨z1.heap.size, 0, none⟩ (.int .i64 0)) ⟨z1.heap.size, 1, none⟩ (.int .i64 0)) ⟨z1.heap.size, 2, none⟩ (.slice A5 sn' c5)) = z28 at *
        clear hw6
        refine s_take (i := 20) (v := ?_) rfl (by kernel_rfl) (by kernel_rfl) (by kernel_rfl) (k0 := 20) (by kernel_rfl) (by kernel_rfl) (.inl rfl) (fun _ _ _ h => h) (by rfl) HC.out ?_ ?_
        rotate_left
        · intro W hW
          go_simp
          first | done | rfl
        simp only [Act.put, List.setIfInBounds_toArray, List.set_cons_zero, List.set_cons_succ, List.getElem_toArray, List.getElem_cons_zero, List.getElem_cons_succ]
        refine s_done (by kernel_rfl) ?_
        replace HBz := Lib.hid (HBz.out.trans (hDz.trans (HC.out.below (B := w.heap.size) (fun _ h => h.elim) hzz0) |>.mono HBz.out.size))
        replace HVz := Lib.hid (HVz.out.keep (Below.kept hDz) (fun h => h) (fun _ _ h => h) |>.keep HC.out (fun h => h) (fun _ _ h => h))
        have hga : g ≠ ga ∧ g ≠ z1.heap.size := by omega
        have hgtw : ∀ b, (b < z1.heap.size → b < z28.heap.size) := fun b hb => by have := HC.out.size; omega
        clear HC HXK hDz
        generalize hw5 : z28 = w5 at *
        clear hw5
        have hvs := HVz.out.st
        dsimp only at hvs
        rw [HDN.out, HSN.out] at hvs
        have HVS := Lib.hid hvs
        obtain ⟨k0, k1, k2, k3, k4⟩ := hvs.c5
        clear hvs
        have HDU := Lib.hid (HUP.out u huk _ HBz.out)
        have hgw5 := HVS.out.lt
        go_simp
        go_wp2_with (at_builtin; refine wpList_append_sl rfl _ (.tmp 45) rfl rowB w5.heap.size _ [] rfl (Own.nil _ _ _) w5.heap.size _ (d.take u) rfl HDU.out (by rw [HLT.out]; unfold maxLen; simp; omega) (by rw [HLT.out]; simp; omega) (Nat.le_refl _) ?_; intro v7 w7 hown7 hg7 hat7; rw [List.nil_append] at hown7; have hb7 := (Below.refl w5.heap.size w5).grown hg7 (Nat.le_refl _) (fun k hk => by cases hk); obtain ⟨A7, c7, rfl, -, -⟩ := hown7.sl.form; rw [HLT.out] at hown7 ⊢; have HO7 := Lib.hid hown7; have HB7 := Lib.hid hb7; replace HVS := Lib.hid (HVS.out.below hb7 HVS.out.lt); replace HG1 := Lib.hid (HG1.out.below hb7 HG1.out.lt); replace HG2 := Lib.hid (HG2.out.below hb7 HG2.out.lt); replace HLR := Lib.hid (HLR.out.stay (fun b _ hlt => hb7.block b hlt)); obtain ⟨c_0, c_1, c_2, c_3, c_4⟩ := HVS.out.c5; obtain ⟨f_0, f_1, f_2, f_3, f_4⟩ := HVS.out.f5; clear hown7 hg7 hat7 hb7 k0 k1 k2 k3 k4; have HV1 := Lib.hid (show Whole _ _ _ #[.slice A7 u c7, .int .i64 (K : Int), .int .i64 t, .int .i64 vo, .slice A2 sn c2] from HVS.out.set 0 (.slice A7 u c7)); have HV2 := Lib.hid (show Whole _ _ _ #[.slice A7 u c7, .int .i64 (u : Int), .int .i64 t, .int .i64 vo, .slice A2 sn c2] from HV1.out.set 1 (.int .i64 (u : Int))); have HV5 := Lib.hid (show Whole _ _ _ #[.slice A7 u c7, .int .i64 (u : Int), .int .i64 t', .int .i64 vo', .slice A5 sn' c5] from ((HV2.out.set 2 (.int .i64 t')).set 3 (.int .i64 vo')).set 4 (.slice A5 sn' c5)); replace HG1 := Lib.hid ((HG1.out.far (p := ⟨g, 0, none⟩) (fun e => hga.1 e.symm) (.slice A7 u c7)).far (p := ⟨g, 1, none⟩) (fun e => hga.1 e.symm) (.int .i64 (u : Int))); replace HG2 := Lib.hid ((HG2.out.far (p := ⟨g, 0, none⟩) (fun e => hga.2 e.symm) (.slice A7 u c7)).far (p := ⟨g, 1, none⟩) (fun e => hga.2 e.symm) (.int .i64 (u : Int))); obtain ⟨d_0, d_1, d_2, d_3, d_4⟩ := HV1.out.c5; obtain ⟨e_0, e_1, e_2, e_3, e_4⟩ := HV1.out.f5; obtain ⟨m_0, m_1, m_2, m_3, m_4⟩ := HV2.out.c5; obtain ⟨n_0, n_1, n_2, n_3, n_4⟩ := HV2.out.f5; obtain ⟨x_0, x_1⟩ := HG1.out.c2; obtain ⟨y_0, y_1, y_2⟩ := HG2.out.c3; have HKK := Lib.hid ((((((Below.kept (D := fun b => b = g) (HBz.out.trans (HB7.out.mono HBz.out.size))).set (p := ⟨g, 0, none⟩) (.inl rfl) (.slice A7 u c7)).set (p := ⟨g, 1, none⟩) (.inl rfl) (.int .i64 (u : Int))).set (p := ⟨g, 2, none⟩) (.inl rfl) (.int .i64 t')).set (p := ⟨g, 3, none⟩) (.inl rfl) (.int .i64 vo')).set (p := ⟨g, 4, none⟩) (.inl rfl) (.slice A5 sn' c5)))
        have HOF := Lib.hid (((((HO7.out.set (p := ⟨g, 0, none⟩) (by simp; omega) (.slice A7 u c7)).set (p := ⟨g, 1, none⟩) (by simp; omega) (.int .i64 (u : Int))).set (p := ⟨g, 2, none⟩) (by simp; omega) (.int .i64 t')).set (p := ⟨g, 3, none⟩) (by simp; omega) (.int .i64 vo')).set (p := ⟨g, 4, none⟩) (by simp; omega) (.slice A5 sn' c5))
        have HLF := Lib.hid (sls_far (sls_far (sls_far (sls_far (sls_far HLR.out (p := ⟨g, 0, none⟩) (by simp only; omega) (.slice A7 u c7)) (p := ⟨g, 1, none⟩) (by simp only; omega) (.int .i64 (u : Int))) (p := ⟨g, 2, none⟩) (by simp only; omega) (.int .i64 t')) (p := ⟨g, 3, none⟩) (by simp only; omega) (.int .i64 vo')) (p := ⟨g, 4, none⟩) (by simp only; omega) (.slice A5 sn' c5))
        clear HV1 HV2 HG1 HG2 HVS
        go_end0
        rw [HCR.out]
        have hzb := HBz.out.size
        refine ⟨rfl, A7, c7, A5, c5, ⟨?_, ?_, ?_, ?_⟩, HKK.out⟩
        · dsimp only
          rw [HLT.out, HSN'.out]
          exact HV5.out
        · dsimp only
          rw [HLT.out]
          exact HOF.out.slS.wide (fun b hb _ => .inr (by omega))
        · dsimp only
          rw [HSN'.out]
          exact HLF.out.wide (fun b hb _ => .inr (by omega))
        · rintro (h | h)
          · exact hSg h
          · omega
end Go.Proofs.YtcacebkbfnnjbaaDoor
