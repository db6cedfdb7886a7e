/-
  Parts that the statement rests on, joined: Pcrash.
-/
import Derived.Test.YtcacebkbfnnjbaaDoorV24
import Derived.Test.YtcacebkbfnnjbaaDoorV30
import Derived.BigQuiet
/-
  What Crash leaves.
-/



namespace Go.Proofs.YtcacebkbfnnjbaaDoor
open Go.RowKit

theorem VMem.setState {g : Nat} {w : World} {v : Vl.V} {A A2 : Option Addr} {c c2 : Nat} (h : VMem g w v A c A2 c2) (s : Vl.S) {A3 : Option Addr} {c3 : Nat} (hl : Own w 0 57 (.slice A3 s.2.length c3) s.2) (ho : lbk A3 ≠ some g) (ha : ∀ b, lbk A = some b → lbk A3 ≠ some b) :
    VMem g (((w.setCell ⟨g, 2, none⟩ (.int .i64 s.1.1)).setCell ⟨g, 3, none⟩ (.int .i64 s.1.2)).setCell ⟨g, 4, none⟩ (.slice A3 s.2.length c3)) ⟨v.disk, v.synced, s⟩ A c A3 c3 :=
  ⟨((h.st.set 2 (.int .i64 s.1.1)).set 3 (.int .i64 s.1.2)).setTo 4 _ rfl, own_far (own_far (own_far h.d (by rw [own_lbk]; exact h.offd) _) (by rw [own_lbk]; exact h.offd) _) (by rw [own_lbk]; exact h.offd) _,
    own_far (own_far (own_far hl (by rw [own_lbk]; exact ho) _) (by rw [own_lbk]; exact ho) _) (by rw [own_lbk]; exact ho) _, h.offd, ho, ha⟩
theorem VMem.cutDisk {g : Nat} {w : World} {v : Vl.V} {A A2 : Option Addr} {c c2 : Nat} (h : VMem g w v A c A2 c2) (u : Nat) (hu : u ≤ v.disk.length) :
    VMem g (w.setCell ⟨g, 0, none⟩ (.slice A u c)) ⟨v.disk.take u, v.synced, v.s⟩ A c A2 c2 := by
  have hl : (v.disk.take u).length = u := by rw [List.length_take]; omega
  refine ⟨h.st.setTo 0 _ (by rw [hl]; rfl), ?_, own_far h.l (by rw [own_lbk]; exact h.offl) _, h.offd, h.offl, h.apart⟩
  have := h.d.upto u hu
  rw [hl]
  exact own_far this (by rw [own_lbk]; exact h.offd) _

set_option maxRecDepth 100000 in
set_option maxHeartbeats 2000000 in
theorem crash_any (g : Nat) (v : Vl.V) (hok : Vl.Ok v) (A : Option Addr) (c : Nat) (A2 : Option Addr) (c2 : Nat) (keep : Int) (hkr : -9223372036854775808 ≤ keep ∧ keep ≤ 9223372036854775807) (w : World) (h : VMem g w v A c A2 c2) (hT : Tab w) (hg0 : ¬ Vof g A A2 0) :
    Calls Tryd.prog 16 #[.pointer (some ⟨g, 0, none⟩), .int .i64 keep] w fun e w' => e = .returned (.tuple #[]) ∧ VTo g A A2 w (Vl.crash v keep) w' := by
  have hg := h.glt
  have hd := hok.len
  have hsy := hok.syn
  have hkl := Vl.kept_le hok keep
  have hHK : Hid (Vl.kept v keep = v.synced + if 0 < keep then keep.toNat % (v.disk.length - v.synced + 1) else 0) := rfl
  have HCR : Hid (Vl.crash v keep = ⟨v.disk.take (Vl.read (v.disk.take (Vl.kept v keep))).2, (Vl.read (v.disk.take (Vl.kept v keep))).2, (Vl.read (v.disk.take (Vl.kept v keep))).1⟩) := rfl
  have hul := Vl.read_len (v.disk.take (Vl.kept v keep))
  rw [List.length_take] at hul
  have hcap := h.d.sl.room.2
  unfold maxLen at hcap
  have hz1 := add_zero1 h.d
  have hrun := fun (k : Nat) (hk : k ≤ c) W => run_uptoB A v.disk.length c k (k : Int) rfl hk W
  rw [hz1] at hrun
  have HRUN := Lib.hid hrun
  have hrun2 := fun (k : Nat) (i : Int) (hi : i = (k : Int)) (hk : k ≤ c) W => run_uptoB A v.disk.length c k i hi hk W
  rw [hz1] at hrun2
  have HRUN2 := Lib.hid hrun2
  clear hrun2
  have HRD := Lib.hid (fun W (hW : Below w.heap.size w W) => read_any (.slice A (Vl.kept v keep) c) (v.disk.take (Vl.kept v keep)) (by rw [List.length_take]; omega) W W.heap.size (Nat.le_refl _) ((h.stay hW).d.sl.take _ c hkl.2 (by omega) (by unfold maxLen; omega)) (hT.below hW hT.pos))
  have HV := Lib.hid h
  clear hz1 hrun hok hT h
  generalize hK : Vl.kept v keep = K at *
  generalize Vl.crash v keep = R at *
  generalize Vl.read (v.disk.take K) = r at *
  obtain ⟨⟨⟨t', vo'⟩, sl'⟩, u⟩ := r
  obtain ⟨d, sy, ⟨⟨t, vo⟩, sl⟩⟩ := v
  simp only at *
  clear hK
  have hst := HV.out.st
  dsimp only at hst
  have huk : u ≤ d.length := by omega
  generalize hdn : d.length = dn at *
  have HDN := Lib.hid hdn
  generalize hsn : sl.length = sn at *
  generalize hsn' : sl'.length = sn' at *
  have HSN' := Lib.hid hsn'
  obtain ⟨k0, k1, k2, k3, k4⟩ := hst.c5
  clear hst hdn hsn hsn'
  have hr1 := HRUN.out K (by omega)
  have hr2 := HRUN.out u (by omega)
  go_enter Tryd.func16, Tryd.ntmps16
  by_cases hpos : 0 < keep
  · have d0 : decide (0 < keep) = true := by simpa using hpos
    obtain ⟨m, hm⟩ : ∃ m, m = keep.toNat % (dn - sy + 1) := ⟨_, rfl⟩
    have hKm : K = sy + m := by have := hHK.out; rw [if_pos hpos] at this; omega
    have htm : Int.tmod keep ((dn : Int) - (sy : Int) + 1) = (m : Int) := by
      obtain ⟨kn, rfl⟩ := Int.eq_ofNat_of_zero_le (Int.le_of_lt hpos)
      rw [show (dn : Int) - (sy : Int) + 1 = ((dn - sy + 1 : Nat) : Int) by omega, hm]
      rfl
    have hml : m ≤ dn - sy := by omega
    have hr3 := HRUN2.out K ((sy : Int) + (m : Int)) (by omega) (by omega)
    have hw1 : IntKind.i64.wrap ((dn : Int) - (sy : Int)) = (dn : Int) - (sy : Int) := by rw [IntKind.wrap_i64]; omega
    have hw2 : IntKind.i64.wrap ((dn : Int) - (sy : Int) + 1) = (dn : Int) - (sy : Int) + 1 := by rw [IntKind.wrap_i64]; omega
    have hw3 : IntKind.i64.wrap (m : Int) = (m : Int) := by rw [IntKind.wrap_i64]; omega
    have hw4 : IntKind.i64.wrap ((sy : Int) + (m : Int)) = (sy : Int) + (m : Int) := by rw [IntKind.wrap_i64]; omega
    have hne : (((dn : Int) - (sy : Int) + 1) == 0) = false := by simp; omega
    have hne2 : ¬ ((dn : Int) - (sy : Int) + 1) = 0 := by omega
    have HKM := Lib.hid hKm
    clear hKm hm
    go_wp2_with fail
    go_quiet (fail)
    go_wp2_with fail
    have HBW := Lib.hid (show Below w.heap.size w (w.drewN nq) from below_drewN (Below.refl _ _) nq)
    with_reducible refine (HRD.out _ HBW.out).mono ?_
    rintro e w5 ⟨A5, c5, rfl, ho, hb⟩
    have hz5 := HBW.out.size
    have hz6 := hb.size
    have hgw : ¬ g = w5.heap.size := fun e => by have := hg g (.inl rfl); omega
    have hA5 : ∀ b, lbk A5 = some b → w.heap.size ≤ b := fun b hb2 => by
      have := (ho.lt b (by rw [own_lbk]; exact hb2)).1
      omega
    have hbb := (HBW.out.trans (hb.mono hz5)).alloc (HBW.out.trans (hb.mono hz5)).size (.cells #[.int .i64 t', .int .i64 vo', .slice A5 sn' c5] 61)
    have HV6 := Lib.hid (HV.out.stay hbb)
    have HO6 := Lib.hid (Own.down ((ho.alloc (.cells #[.int .i64 t', .int .i64 vo', .slice A5 sn' c5] 61))) (Nat.zero_le _))
    have hvf := (HV6.out.setState ((t', vo'), sl') (A3 := A5) (c3 := c5) HO6.out (fun e => by have := hA5 g e; have := hg g (.inl rfl); omega) (fun b h e => by have := hA5 b e; have := hg b (.inr (.inl h)); omega)).cutDisk u (by rw [HDN.out]; exact huk)
    simp only [HSN'.out] at hvf ho ⊢
    have HVF := Lib.hid hvf
    have HBB := Lib.hid hbb
    have hst := HV6.out.st
    dsimp only at hst
    simp only [HDN.out] at hst
    obtain ⟨q0, q1, q2, q3, q4⟩ := hst.c5
    obtain ⟨f0, f1, f2, f3, f4⟩ := hst.f5
    have HA5 := Lib.hid hA5
    clear hvf ho hb hbb hst hA5 hz6 k0 k1 k2 k3 k4
    go_wp2_with fail
    refine (sync_any g _ A c A5 c5 _ HVF.out).mono ?_
    rintro e w9 ⟨rfl, hv9, hk9⟩
    have HV9 := Lib.hid hv9
    have HK9 := Lib.hid ((((((Below.kept (D := Vof g A A2) HBB.out).set (p := ⟨g, 2, none⟩) (.inl (.inl rfl)) (.int .i64 t')).set (p := ⟨g, 3, none⟩) (.inl (.inl rfl)) (.int .i64 vo')).set (p := ⟨g, 4, none⟩) (.inl (.inl rfl)) (.slice A5 sn' c5)).set (p := ⟨g, 0, none⟩) (.inl (.inl rfl)) (.slice A u c)).trans (hk9.mono (fun b _ e => .inl e)))
    clear hv9 hk9 HVF HBB q0 q1 q2 q3 q4 f0 f1 f2 f3 f4
    go_wp2_with fail
    go_end0
    rw [HCR.out]
    refine ⟨rfl, A, c, A5, c5, ?_, ?_, HK9.out⟩
    · have h := HV9.out
      unfold Vl.sync at h
      simp only at h
      rw [List.length_take, HDN.out, Nat.min_eq_left huk] at h
      exact h
    · rintro b (rfl | hb | hb)
      · exact .inl (.inl rfl)
      · exact .inl (.inr (.inl hb))
      · exact .inr (HA5.out b hb)
  · have d0 : decide (0 < keep) = false := by simpa using hpos
    have hks : K = sy := by have := hHK.out; rw [if_neg hpos] at this; omega
    subst hks
    go_wp2_with fail
    have HBW := Lib.hid (show Below w.heap.size w w from Below.refl _ _)
    with_reducible refine (HRD.out _ HBW.out).mono ?_
    rintro e w5 ⟨A5, c5, rfl, ho, hb⟩
    have hz5 := HBW.out.size
    have hz6 := hb.size
    have hgw : ¬ g = w5.heap.size := fun e => by have := hg g (.inl rfl); omega
    have hA5 : ∀ b, lbk A5 = some b → w.heap.size ≤ b := fun b hb2 => by
      have := (ho.lt b (by rw [own_lbk]; exact hb2)).1
      omega
    have hbb := (HBW.out.trans (hb.mono hz5)).alloc (HBW.out.trans (hb.mono hz5)).size (.cells #[.int .i64 t', .int .i64 vo', .slice A5 sn' c5] 61)
    have HV6 := Lib.hid (HV.out.stay hbb)
    have HO6 := Lib.hid (Own.down ((ho.alloc (.cells #[.int .i64 t', .int .i64 vo', .slice A5 sn' c5] 61))) (Nat.zero_le _))
    have hvf := (HV6.out.setState ((t', vo'), sl') (A3 := A5) (c3 := c5) HO6.out (fun e => by have := hA5 g e; have := hg g (.inl rfl); omega) (fun b h e => by have := hA5 b e; have := hg b (.inr (.inl h)); omega)).cutDisk u (by rw [HDN.out]; exact huk)
    simp only [HSN'.out] at hvf ho ⊢
    have HVF := Lib.hid hvf
    have HBB := Lib.hid hbb
    have hst := HV6.out.st
    dsimp only at hst
    simp only [HDN.out] at hst
    obtain ⟨q0, q1, q2, q3, q4⟩ := hst.c5
    obtain ⟨f0, f1, f2, f3, f4⟩ := hst.f5
    have HA5 := Lib.hid hA5
    clear hvf ho hb hbb hst hA5 hz6 k0 k1 k2 k3 k4
    go_wp2_with fail
    refine (sync_any g _ A c A5 c5 _ HVF.out).mono ?_
    rintro e w9 ⟨rfl, hv9, hk9⟩
    have HV9 := Lib.hid hv9
    have HK9 := Lib.hid ((((((Below.kept (D := Vof g A A2) HBB.out).set (p := ⟨g, 2, none⟩) (.inl (.inl rfl)) (.int .i64 t')).set (p := ⟨g, 3, none⟩) (.inl (.inl rfl)) (.int .i64 vo')).set (p := ⟨g, 4, none⟩) (.inl (.inl rfl)) (.slice A5 sn' c5)).set (p := ⟨g, 0, none⟩) (.inl (.inl rfl)) (.slice A u c)).trans (hk9.mono (fun b _ e => .inl e)))
    clear hv9 hk9 HVF HBB q0 q1 q2 q3 q4 f0 f1 f2 f3 f4
    go_wp2_with fail
    go_end0
    rw [HCR.out]
    refine ⟨rfl, A, c, A5, c5, ?_, ?_, HK9.out⟩
    · have h := HV9.out
      unfold Vl.sync at h
      simp only at h
      rw [List.length_take, HDN.out, Nat.min_eq_left huk] at h
      exact h
    · rintro b (rfl | hb | hb)
      · exact .inl (.inl rfl)
      · exact .inl (.inr (.inl hb))
      · exact .inr (HA5.out b hb)
end Go.Proofs.YtcacebkbfnnjbaaDoor
