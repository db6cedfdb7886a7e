/-
  The law of saving again: it adds nothing.
-/
import Derived.Test.YtcacebkbfnnjbaaDoorV8
import Derived.Test.YtcacebkbfnnjbaaDoorV32
import Derived.Test.YtcacebkbfnnjbaaDoorV34
namespace Go.Proofs.YtcacebkbfnnjbaaDoor
open Go.RowKit

set_option maxRecDepth 100000 in
set_option maxHeartbeats 8000000 in
theorem again_law (w : World) (hT : Tab w) (b1 b2 l1 l2 : Int) (vl : Value) (l : List E) (hL : Sl w w.heap.size vl l) (keep : Int) (hkr : -9223372036854775808 ≤ keep ∧ keep ≤ 9223372036854775807) :
    Calls Tryd.prog 8 #[bv b1 b2, lv l1 l2 vl, .int .i64 keep] w fun e w' => e = .returned (.bool true) ∧ Below w.heap.size w w' := by
  obtain ⟨Al, cl, rfl, _, hml⟩ := hL.form
  unfold maxLen at hml
  have hpos := hT.pos
  have HT := Lib.hid (fun W (h : Below w.heap.size w W) => hT.below h hpos)
  have HL := Lib.hid (fun W (h : Below w.heap.size w W) => hL.below h)
  generalize hn : l.length = n at *
  have HN := Lib.hid hn
  clear hn hT hL hpos
  have h1 : Below w.heap.size w (w.alloc (.cells #[.int .i64 b1, .int .i64 b2] 30)) := (Below.refl _ _).alloc (Nat.le_refl _) _
  have h2 := h1.alloc h1.size (.cells #[.int .i64 l1, .int .i64 l2, .slice Al n cl] 38)
  have x1 := bx_new w b1 b2 l1 l2 (.slice Al n cl)
  have hsz : w.heap.size + 2 ≤ ((w.alloc (.cells #[.int .i64 b1, .int .i64 b2] 30)).alloc (.cells #[.int .i64 l1, .int .i64 l2, .slice Al n cl] 38)).heap.size := by simp
  have X1 := Lib.hid x1
  have HB := Lib.hid h2
  clear h1 h2 x1
  have HK := Lib.hid (awake_any _ (HT.out _ HB.out))
  go_enter Tryd.func8, Tryd.ntmps8
  go_wp2_with fail
  refine HK.out.mono ?_
  rintro e w1 ⟨rfl, hb⟩
  have hz0 := HB.out.size
  have hg := Nat.le_trans hsz hb.size
  replace X1 := Lib.hid (X1.out.below hb (by omega) (by omega))
  replace HB := Lib.hid (HB.out.trans (hb.mono hz0))
  clear hb HK hz0 hsz
  go_wp2_with fail
  refine (new_any _).mono ?_
  rintro e w2 ⟨rfl, hn2, hb⟩
  have HV := Lib.hid (vin_new w1 hn2 hb)
  generalize w1.heap.size = g at *
  replace X1 := Lib.hid (X1.out.below hb (by omega) (by omega))
  replace HB := Lib.hid (HB.out.trans (hb.mono (by omega)))
  clear hn2 hb
  have hg0 : 0 < g := by omega
  obtain ⟨p0, p1⟩ := X1.out.b.c2
  obtain ⟨r0, r1, r2⟩ := X1.out.l.c3
  by_cases ho70 : 70 < n
  · go_wp2_with fail
    go_ret
    exact ⟨rfl, HB.out⟩
  go_wp2_with fail
  have hLg := (HL.out _ HB.out).mono (B' := g) (by omega)
  have HS1 := Lib.hid (save_in HV.out Vl.ok_new hg0 b1 b2 l1 l2 _ l hLg (HT.out _ HB.out))
  have HOK := Lib.hid (Vl.save_ok Vl.ok_new (b1, b2) (l1, l2, l))
  clear hLg
  by_cases hz : (Vl.save Vl.new (b1, b2) (l1, l2, l)).2 = 0
  rotate_left
  · have hne : ((Vl.save Vl.new (b1, b2) (l1, l2, l)).2 != 0) = true := by simpa using hz
    have hv0 := Vl.save_err hz
    rw [hv0] at HS1 HOK
    generalize (Vl.save Vl.new (b1, b2) (l1, l2, l)).2 = er at *
    clear hz hv0
    refine (HS1.out).mono ?_
    rintro e w3 ⟨rfl, hv, hb⟩
    replace X1 := Lib.hid (X1.out.below hb (by omega) (by omega))
    replace HB := Lib.hid (HB.out.trans (hb.mono (by omega)))
    replace HV := Lib.hid hv
    clear hv hb
    clear p0 p1 r0 r1 r2
    obtain ⟨p0, p1⟩ := X1.out.b.c2
    obtain ⟨r0, r1, r2⟩ := X1.out.l.c3
    clear HS1
    go_wp2_with fail
    have hby := bytes_in HV.out HOK.out
    simp only [Vl.new] at hby
    refine (hby).mono ?_
    rintro e w4 ⟨A4, c4, rfl, ho, hb⟩
    have hgs := HV.out.le
    have hbg := hb.mono hgs
    replace X1 := Lib.hid (X1.out.below hbg (by omega) (by omega))
    replace HB := Lib.hid (HB.out.trans (hbg.mono (by omega)))
    replace HV := Lib.hid (HV.out.stay hb)
    clear hb hbg hgs
    clear p0 p1 r0 r1 r2
    obtain ⟨p0, p1⟩ := X1.out.b.c2
    obtain ⟨r0, r1, r2⟩ := X1.out.l.c3
    clear hby ho
    simp only [List.length_nil]
    go_wp2_with fail
    go_ret
    exact ⟨rfl, HB.out⟩
  obtain ⟨rfl, rfl, -⟩ := saved_zero hz
  have hst := saved_state hz
  have hm1 := (Vl.save_zero hz).1
  have hsm := Vl.save_same HOK.out (l := (0, 0, l)) (by rw [hst]; exact hm1) (by rw [hst])
  rw [hst] at hsm
  have HSM := Lib.hid hsm
  rw [hz] at HS1
  clear hz hm1 hsm
  generalize (Vl.save Vl.new (b1, b2) (0, 0, l)).1 = v1 at *
  have hdl := HOK.out.len
  generalize hdn : v1.disk.length = dn at *
  have HDN := Lib.hid hdn
  clear hdn
  refine (HS1.out).mono ?_
  rintro e w3 ⟨rfl, hv, hb⟩
  replace X1 := Lib.hid (X1.out.below hb (by omega) (by omega))
  replace HB := Lib.hid (HB.out.trans (hb.mono (by omega)))
  replace HV := Lib.hid hv
  clear hv hb
  clear p0 p1 r0 r1 r2
  obtain ⟨p0, p1⟩ := X1.out.b.c2
  obtain ⟨r0, r1, r2⟩ := X1.out.l.c3
  clear HS1
  go_wp2_with fail
  have hby := bytes_in HV.out HOK.out
  refine hby.mono ?_
  rintro e w4 ⟨A4, c4, rfl, ho, hb⟩
  simp only [HDN.out] at ho ⊢
  have HVK := Lib.hid (vk_of HV.out hb ho)
  have hgs := HV.out.le
  have hbg := hb.mono hgs
  replace X1 := Lib.hid (X1.out.below hbg (by omega) (by omega))
  replace HB := Lib.hid (HB.out.trans (hbg.mono (by omega)))
  clear HV hbg hb hby hgs ho
  clear p0 p1 r0 r1 r2
  obtain ⟨p0, p1⟩ := X1.out.b.c2
  obtain ⟨r0, r1, r2⟩ := X1.out.l.c3
  go_wp2_with fail
  have hLg := (HL.out _ HB.out).mono (B' := g) (by omega)
  have hs2 := save_vk HVK.out HOK.out hg0 b1 b2 0 0 _ l hLg (HT.out _ HB.out)
  rw [HSM.out] at hs2
  clear hLg
  refine (hs2).mono ?_
  rintro e w5 ⟨rfl, hv, hb⟩
  replace X1 := Lib.hid (X1.out.below hb (by omega) (by omega))
  replace HB := Lib.hid (HB.out.trans (hb.mono (by omega)))
  replace HVK := Lib.hid hv
  clear hv hb
  clear p0 p1 r0 r1 r2
  obtain ⟨p0, p1⟩ := X1.out.b.c2
  obtain ⟨r0, r1, r2⟩ := X1.out.l.c3
  clear hs2
  go_wp2_with fail
  have HSY := Lib.hid (sync_vk HVK.out)
  replace HOK := Lib.hid (Vl.sync_ok HOK.out)
  have HCR := Lib.hid (Vl.crash_synced HOK.out (show (Vl.sync v1).synced = (Vl.sync v1).disk.length from rfl) keep)
  have HSS := Lib.hid (show (Vl.sync v1).s = ((b1, b2), l) from hst)
  have HDD := Lib.hid (show (Vl.sync v1).disk = v1.disk from rfl)
  clear hst HSM
  generalize Vl.sync v1 = v3 at *
  refine (HSY.out).mono ?_
  rintro e w6 ⟨rfl, hv, hb⟩
  replace X1 := Lib.hid (X1.out.below hb (by omega) (by omega))
  replace HB := Lib.hid (HB.out.trans (hb.mono (by omega)))
  replace HVK := Lib.hid hv
  clear hv hb
  clear p0 p1 r0 r1 r2
  obtain ⟨p0, p1⟩ := X1.out.b.c2
  obtain ⟨r0, r1, r2⟩ := X1.out.l.c3
  clear HSY
  go_wp2_with fail
  have hcr := crash_vk HVK.out HOK.out hg0 keep hkr (HT.out _ HB.out)
  rw [HCR.out] at hcr
  refine (hcr).mono ?_
  rintro e w7 ⟨rfl, hv, hb⟩
  replace X1 := Lib.hid (X1.out.below hb (by omega) (by omega))
  replace HB := Lib.hid (HB.out.trans (hb.mono (by omega)))
  replace HVK := Lib.hid hv
  clear hv hb
  clear p0 p1 r0 r1 r2
  obtain ⟨p0, p1⟩ := X1.out.b.c2
  obtain ⟨r0, r1, r2⟩ := X1.out.l.c3
  clear hcr
  go_wp2_with fail
  have hlo := fun e w' h => load_of (e := e) (w' := w') (w := w7) h HSS.out
  refine (load_in HVK.out.vin HOK.out).mono ?_
  intro e w8 hx
  obtain ⟨A5, c5, rfl, ho, hb⟩ := hlo _ _ hx
  clear hlo hx
  simp only [HN.out] at ho ⊢
  have hb5 := hb.alloc hb.size (.cells #[.int .i64 b1, .int .i64 b2] 30)
  replace hb5 := hb5.alloc hb5.size (.cells #[.int .i64 0, .int .i64 0, .slice A5 n c5] 38)
  have hal := ((Below.refl w8.heap.size w8).alloc (Nat.le_refl _) (.cells #[.int .i64 b1, .int .i64 b2] 30)).alloc (by simp) (.cells #[.int .i64 0, .int .i64 0, .slice A5 n c5] 38)
  have HX3 := Lib.hid ((Whole.new w8 30 #[.int .i64 b1, .int .i64 b2]).alloc (.cells #[.int .i64 0, .int .i64 0, .slice A5 n c5] 38))
  have HX4 := Lib.hid (Whole.new1 w8 (.cells #[.int .i64 b1, .int .i64 b2] 30) 38 #[.int .i64 0, .int .i64 0, .slice A5 n c5])
  have HO5 := Lib.hid ((ho.alloc (.cells #[.int .i64 b1, .int .i64 b2] 30)).alloc (.cells #[.int .i64 0, .int .i64 0, .slice A5 n c5] 38))
  replace HVK := Lib.hid (HVK.out.stay hb5)
  replace X1 := Lib.hid (X1.out.below hb5 X1.out.b.lt X1.out.l.lt)
  replace HB := Lib.hid (HB.out.trans (hb5.mono HB.out.size))
  clear ho hb hb5 hal
  clear p0 p1 r0 r1 r2
  obtain ⟨p0, p1⟩ := X1.out.b.c2
  obtain ⟨r0, r1, r2⟩ := X1.out.l.c3
  obtain ⟨q0, q1⟩ := HX3.out.c2
  obtain ⟨u0, u1, u2⟩ := HX4.out.c3
  go_wp2_with fail
  have hLg := HL.out _ HB.out
  have hlogs := logs_any 0 0 _ _ l _ _ (Nat.le_refl _) HO5.out.sl.here (hLg.mono HB.out.size)
  refine hlogs.mono ?_
  rintro e w10 ⟨rfl, hb⟩
  replace HVK := Lib.hid (HVK.out.stay hb)
  replace X1 := Lib.hid (X1.out.below hb X1.out.b.lt X1.out.l.lt)
  replace HX3 := Lib.hid (HX3.out.below hb HX3.out.lt)
  replace HB := Lib.hid (HB.out.trans (hb.mono HB.out.size))
  clear hb hLg hlogs q0 q1 u0 u1 u2 HX4 HO5
  clear p0 p1 r0 r1 r2
  go_wp2_with fail
  refine s_start (fun W => Kept (fun _ => False) (w10).drew W) [] (by kernel_rfl) ?_
  have HC := Lib.hid (Kept.refl (fun _ => False) (w10).drew)
  have HXX := Lib.hid (fun W (hW : Kept (fun _ => False) w10.drew W) => (⟨(hW.whole (show Whole w10.drew _ _ _ from X1.out.b) (fun h => h)).c2.1, (hW.whole (show Whole w10.drew _ _ _ from X1.out.b) (fun h => h)).c2.2, (hW.whole (show Whole w10.drew _ _ _ from HX3.out) (fun h => h)).c2⟩ : _ ∧ _ ∧ _))
  have hbyd := fun W (hW : Kept (fun _ => False) w10.drew W) => bytes_in (HVK.out.vin.drew.stay (hW.below (B := w10.drew.heap.size) (fun _ h => h.elim) (Nat.le_refl _))) HOK.out
  simp only [HDD.out] at hbyd
  have HBY := Lib.hid hbyd
  clear hbyd
  have hsx : Sl w10.drew w10.heap.size (.slice A4 dn c4) v1.disk := HVK.out.here
  have HSX := Lib.hid hsx
  clear hsx
  have HCV := Lib.hid (fun W (hW : Kept (fun _ => False) w10.drew W) => conv_sl (Kept.sl hW HSX.out (fun _ _ h => h)))
  have HD := Lib.hid HB.out.drew
  have hz1 : w.heap.size ≤ w10.drew.heap.size := HB.out.size
  generalize (w10).drew = z1 at *
  refine s_take (i := 0) (v := ?_) rfl (by kernel_rfl) (by kernel_rfl) (by kernel_rfl) (k0 := 0) (by kernel_rfl) (by kernel_rfl) (.inl rfl) (fun _ _ _ h => h) (by rfl) HC.out ?_ ?_
  rotate_left
  · intro W hW
    go_simp
    first | done | rfl
  simp only [Act.put, List.setIfInBounds_toArray, List.set_cons_zero, List.set_cons_succ, List.getElem_toArray, List.getElem_cons_zero]
  refine s_take (i := 1) (v := ?_) rfl (by kernel_rfl) (by kernel_rfl) (by kernel_rfl) (k0 := 1) (by kernel_rfl) (by kernel_rfl) (.inl rfl) (fun _ _ _ h => h) (by rfl) HC.out ?_ ?_
  rotate_left
  · intro W hW
    go_simp
    first | done | rfl
  simp only [Act.put, List.setIfInBounds_toArray, List.set_cons_zero, List.set_cons_succ, List.getElem_toArray, List.getElem_cons_zero, List.getElem_cons_succ]
  refine s_take (i := 2) (v := ?_) rfl (by kernel_rfl) (by kernel_rfl) (by kernel_rfl) (k0 := 2) (by kernel_rfl) (by kernel_rfl) (.inl rfl) (fun _ _ _ h => h) (by rfl) HC.out ?_ ?_
  rotate_left
  · intro W hW
    go_simp
    first | done | rfl
  simp only [Act.put, List.setIfInBounds_toArray, List.set_cons_zero, List.set_cons_succ, List.getElem_toArray, List.getElem_cons_zero, List.getElem_cons_succ]
  refine s_take (i := 3) (v := ?_) rfl (by kernel_rfl) (by kernel_rfl) (by kernel_rfl) (k0 := 3) (by kernel_rfl) (by kernel_rfl) (.inl rfl) (fun _ _ _ h => h) (by rfl) HC.out ?_ ?_
  rotate_left
  · intro W hW
    go_simp
    first | done | rfl
  simp only [Act.put, List.setIfInBounds_toArray, List.set_cons_zero, List.set_cons_succ, List.getElem_toArray, List.getElem_cons_zero, List.getElem_cons_succ]
  refine s_take (i := 6) (v := ?_) rfl (by kernel_rfl) (by kernel_rfl) (by kernel_rfl) (k0 := 6) (by kernel_rfl) (by kernel_rfl) (.inl rfl) (fun _ _ _ h => h) (by rfl) HC.out ?_ ?_
  rotate_left
  · intro W hW
    go_simp
    first | done | rfl
  simp only [Act.put, List.setIfInBounds_toArray, List.set_cons_zero, List.set_cons_succ, List.getElem_toArray, List.getElem_cons_zero, List.getElem_cons_succ]
  refine s_take (i := 7) (v := ?_) rfl (by kernel_rfl) (by kernel_rfl) (by kernel_rfl) (k0 := 7) (by kernel_rfl) (by kernel_rfl) (.inl rfl) (fun _ _ _ h => h) (by rfl) HC.out ?_ ?_
  rotate_left
  · intro W hW
    have hcv7 := HCV.out _ hW
    go_simp
    first | done | rfl
  simp only [Act.put, List.setIfInBounds_toArray, List.set_cons_zero, List.set_cons_succ, List.getElem_toArray, List.getElem_cons_zero, List.getElem_cons_succ]
  refine s_one (i := 4) (by kernel_rfl) ?_
  refine ones_call (i := 4) (f := 20) (args := ?_) rfl (by rfl) ?_ ?_
  rotate_left
  · go_simp
    first | done | rfl
  with_reducible refine (HBY.out _ HC.out).mono ?_
  rintro e z2 ⟨A9, c9, rfl, ho, hb⟩
  refine ⟨_, rfl, fun _ => HC.out.trans (Below.kept hb), ?_⟩
  replace HC := Lib.hid (HC.out.trans (Below.kept hb))
  simp only [HDN.out] at ho ⊢
  have hcv9 := conv_sl ho.sl.here
  clear ho
  clear hb
  simp only [Act.put, List.setIfInBounds_toArray, List.set_cons_zero, List.set_cons_succ, List.getElem_toArray, List.getElem_cons_zero, List.getElem_cons_succ]
  refine s_one (i := 5) (by kernel_rfl) ?_
  refine ones_same (i := 5) (v := ?_) rfl (by rfl) ?_ ?_
  rotate_left 1
  · go_simp
    first | done | rfl
  simp only [Act.put, List.setIfInBounds_toArray, List.set_cons_zero, List.set_cons_succ, List.getElem_toArray, List.getElem_cons_zero, List.getElem_cons_succ]
  refine s_take (i := 8) (v := ?_) rfl (by kernel_rfl) (by kernel_rfl) (by kernel_rfl) (k0 := 8) (by kernel_rfl) (by kernel_rfl) (.inl rfl) (fun _ _ _ h => h) (by rfl) HC.out ?_ ?_
  rotate_left
  · intro W hW
    go_simp
    first | done | rfl
  simp only [Act.put, List.setIfInBounds_toArray, List.set_cons_zero, List.set_cons_succ, List.getElem_toArray, List.getElem_cons_zero, List.getElem_cons_succ]
  refine s_take (i := 9) (v := ?_) rfl (by kernel_rfl) (by kernel_rfl) (by kernel_rfl) (k0 := 9) (by kernel_rfl) (by kernel_rfl) (.inl rfl) (fun _ _ _ h => h) (by rfl) HC.out ?_ ?_
  rotate_left
  · intro W hW
    go_simp
    first | done | rfl
  simp only [Act.put, List.setIfInBounds_toArray, List.set_cons_zero, List.set_cons_succ, List.getElem_toArray, List.getElem_cons_zero, List.getElem_cons_succ]
  refine s_take (i := 10) (v := ?_) rfl (by kernel_rfl) (by kernel_rfl) (by kernel_rfl) (k0 := 10) (by kernel_rfl) (by kernel_rfl) (.inl rfl) (fun _ _ _ h => h) (by rfl) HC.out ?_ ?_
  rotate_left
  · intro W hW
    go_simp
    first | done | rfl
  simp only [Act.put, List.setIfInBounds_toArray, List.set_cons_zero, List.set_cons_succ, List.getElem_toArray, List.getElem_cons_zero, List.getElem_cons_succ]
  refine s_take (i := 11) (v := ?_) rfl (by kernel_rfl) (by kernel_rfl) (by kernel_rfl) (k0 := 11) (by kernel_rfl) (by kernel_rfl) (.inl rfl) (fun _ _ _ h => h) (by rfl) HC.out ?_ ?_
  rotate_left
  · intro W hW
    obtain ⟨p0, p1, q0, q1⟩ := HXX.out _ hW
    go_simp
    first | done | rfl
  simp only [Act.put, List.setIfInBounds_toArray, List.set_cons_zero, List.set_cons_succ, List.getElem_toArray, List.getElem_cons_zero, List.getElem_cons_succ]
  refine s_take (i := 12) (v := ?_) rfl (by kernel_rfl) (by kernel_rfl) (by kernel_rfl) (k0 := 12) (by kernel_rfl) (by kernel_rfl) (.inl rfl) (fun _ _ _ h => h) (by rfl) HC.out ?_ ?_
  rotate_left
  · intro W hW
    obtain ⟨p0, p1, q0, q1⟩ := HXX.out _ hW
    go_simp
    first | done | rfl
  simp only [Act.put, List.setIfInBounds_toArray, List.set_cons_zero, List.set_cons_succ, List.getElem_toArray, List.getElem_cons_zero, List.getElem_cons_succ]
  refine s_take (i := 13) (v := ?_) rfl (by kernel_rfl) (by kernel_rfl) (by kernel_rfl) (k0 := 13) (by kernel_rfl) (by kernel_rfl) (.inl rfl) (fun _ _ _ h => h) (by rfl) HC.out ?_ ?_
  rotate_left
  · intro W hW
    go_simp
    first | done | rfl
  simp only [Act.put, List.setIfInBounds_toArray, List.set_cons_zero, List.set_cons_succ, List.getElem_toArray, List.getElem_cons_zero, List.getElem_cons_succ]
  refine s_take (i := 14) (v := ?_) rfl (by kernel_rfl) (by kernel_rfl) (by kernel_rfl) (k0 := 14) (by kernel_rfl) (by kernel_rfl) (.inl rfl) (fun _ _ _ h => h) (by rfl) HC.out ?_ ?_
  rotate_left
  · intro W hW
    go_simp
    first | done | rfl
  simp only [Act.put, List.setIfInBounds_toArray, List.set_cons_zero, List.set_cons_succ, List.getElem_toArray, List.getElem_cons_zero, List.getElem_cons_succ]
  refine s_take (i := 15) (v := ?_) rfl (by kernel_rfl) (by kernel_rfl) (by kernel_rfl) (k0 := 15) (by kernel_rfl) (by kernel_rfl) (.inl rfl) (fun _ _ _ h => h) (by rfl) HC.out ?_ ?_
  rotate_left
  · intro W hW
    go_simp
    first | done | rfl
  simp only [Act.put, List.setIfInBounds_toArray, List.set_cons_zero, List.set_cons_succ, List.getElem_toArray, List.getElem_cons_zero, List.getElem_cons_succ]
  refine s_take (i := 16) (v := ?_) rfl (by kernel_rfl) (by kernel_rfl) (by kernel_rfl) (k0 := 16) (by kernel_rfl) (by kernel_rfl) (.inl rfl) (fun _ _ _ h => h) (by rfl) HC.out ?_ ?_
  rotate_left
  · intro W hW
    go_simp
    first | done | rfl
  simp only [Act.put, List.setIfInBounds_toArray, List.set_cons_zero, List.set_cons_succ, List.getElem_toArray, List.getElem_cons_zero, List.getElem_cons_succ]
  refine s_take (i := 17) (v := ?_) rfl (by kernel_rfl) (by kernel_rfl) (by kernel_rfl) (k0 := 17) (by kernel_rfl) (by kernel_rfl) (.inl rfl) (fun _ _ _ h => h) (by rfl) HC.out ?_ ?_
  rotate_left
  · intro W hW
    go_simp
    first | done | rfl
  simp only [Act.put, List.setIfInBounds_toArray, List.set_cons_zero, List.set_cons_succ, List.getElem_toArray, List.getElem_cons_zero, List.getElem_cons_succ]
  refine s_take (i := 18) (v := ?_) rfl (by kernel_rfl) (by kernel_rfl) (by kernel_rfl) (k0 := 18) (by kernel_rfl) (by kernel_rfl) (.inl rfl) (fun _ _ _ h => h) (by rfl) HC.out ?_ ?_
  rotate_left
  · intro W hW
    go_simp
    first | done | rfl
  simp only [Act.put, List.setIfInBounds_toArray, List.set_cons_zero, List.set_cons_succ, List.getElem_toArray, List.getElem_cons_zero, List.getElem_cons_succ]
  refine s_done (by kernel_rfl) ?_
  have HBF := Lib.hid (HD.out.trans (HC.out.below (B := w.heap.size) (fun _ h => h.elim) hz1))
  go_simp
  go_wp2_with fail
  go_ret
  exact ⟨rfl, HBF.out⟩
end Go.Proofs.YtcacebkbfnnjbaaDoor
