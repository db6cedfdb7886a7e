/-
  The law of what lasts: what was saved and synced is there behind any crashes.
-/
import Derived.Test.YtcacebkbfnnjbaaDoorV32
import Derived.Test.YtcacebkbfnnjbaaDoorV34
import Derived.LoopTactic
namespace Go.Proofs.YtcacebkbfnnjbaaDoor
open Go.RowKit

set_option maxRecDepth 100000 in
set_option maxHeartbeats 8000000 in
theorem lasts_law (w : World) (hT : Tab w) (b1 b2 l1 l2 : Int) (vl : Value) (l : List E) (hL : Sl w w.heap.size vl l) (c1 c2 m1 m2 : Int) (vm : Value) (m : List E) (hM : Sl w w.heap.size vm m) (v : Value) (ks : List Int) (hK : Sl w w.heap.size v ks) :
    Calls Tryd.prog 5 #[bv b1 b2, lv l1 l2 vl, bv c1 c2, lv m1 m2 vm, v] w fun e w' => e = .returned (.bool true) ∧ Below w.heap.size w w' := by
  obtain ⟨Al, cl, rfl, _, hml⟩ := hL.form
  obtain ⟨Am, cm, rfl, _, hmm⟩ := hM.form
  obtain ⟨Ak, ck, rfl, _, hmk⟩ := hK.form
  unfold maxLen at hml hmm hmk
  have hpos := hT.pos
  have HT := Lib.hid (fun W (h : Below w.heap.size w W) => hT.below h hpos)
  have HL := Lib.hid (fun W (h : Below w.heap.size w W) => hL.below h)
  have HM := Lib.hid (fun W (h : Below w.heap.size w W) => hM.below h)
  have HKS := Lib.hid (fun W (h : Below w.heap.size w W) => hK.below h)
  generalize hn : l.length = n at *
  have HN := Lib.hid hn
  generalize hk : m.length = k at *
  have HN2 := Lib.hid hk
  clear hk
  generalize hnk : ks.length = nk at *
  have HN3 := Lib.hid hnk
  clear hnk
  clear hn hT hL hpos hM hK
  have h1 : Below w.heap.size w (w.alloc (.cells #[.int .i64 b1, .int .i64 b2] 30)) := (Below.refl _ _).alloc (Nat.le_refl _) _
  have h2 := h1.alloc h1.size (.cells #[.int .i64 l1, .int .i64 l2, .slice Al n cl] 38)
  have x1 := bx_new w b1 b2 l1 l2 (.slice Al n cl)
  have h3 := h2.alloc h2.size (.cells #[.int .i64 c1, .int .i64 c2] 30)
  have h4 := h3.alloc h3.size (.cells #[.int .i64 m1, .int .i64 m2, .slice Am k cm] 38)
  have x2 := bx_new ((w.alloc (.cells #[.int .i64 b1, .int .i64 b2] 30)).alloc (.cells #[.int .i64 l1, .int .i64 l2, .slice Al n cl] 38)) c1 c2 m1 m2 (.slice Am k cm)
  have hal := ((Below.refl ((w.alloc (.cells #[.int .i64 b1, .int .i64 b2] 30)).alloc (.cells #[.int .i64 l1, .int .i64 l2, .slice Al n cl] 38)).heap.size ((w.alloc (.cells #[.int .i64 b1, .int .i64 b2] 30)).alloc (.cells #[.int .i64 l1, .int .i64 l2, .slice Al n cl] 38))).alloc (Nat.le_refl _) (.cells #[.int .i64 c1, .int .i64 c2] 30)).alloc (by simp) (.cells #[.int .i64 m1, .int .i64 m2, .slice Am k cm] 38)
  have x1b := x1.below hal (by simp; omega) (by simp)
  simp only [World.size_alloc, Nat.add_assoc, Nat.reduceAdd] at x2
  have hsz : w.heap.size + 4 ≤ ((((w.alloc (.cells #[.int .i64 b1, .int .i64 b2] 30)).alloc (.cells #[.int .i64 l1, .int .i64 l2, .slice Al n cl] 38)).alloc (.cells #[.int .i64 c1, .int .i64 c2] 30)).alloc (.cells #[.int .i64 m1, .int .i64 m2, .slice Am k cm] 38)).heap.size := by simp
  have X1 := Lib.hid x1b
  have X2 := Lib.hid x2
  have HB := Lib.hid h4
  clear h1 h2 h3 h4 x1 x1b x2 hal
  have HK := Lib.hid (awake_any _ (HT.out _ HB.out))
  go_enter Tryd.func5, Tryd.ntmps5
  go_wp2_with fail
  refine HK.out.mono ?_
  rintro e w1 ⟨rfl, hb⟩
  have hz0 := HB.out.size
  have hg := Nat.le_trans hsz hb.size
  replace X1 := Lib.hid (X1.out.below hb (by omega) (by omega))
  replace X2 := Lib.hid (X2.out.below hb (by omega) (by omega))
  replace HB := Lib.hid (HB.out.trans (hb.mono hz0))
  clear hb HK hz0 hsz
  go_wp2_with fail
  refine (new_any _).mono ?_
  rintro e w2 ⟨rfl, hn2, hb⟩
  have HV := Lib.hid (vin_new w1 hn2 hb)
  generalize w1.heap.size = g at *
  replace X1 := Lib.hid (X1.out.below hb (by omega) (by omega))
  replace X2 := Lib.hid (X2.out.below hb (by omega) (by omega))
  replace HB := Lib.hid (HB.out.trans (hb.mono (by omega)))
  clear hn2 hb
  have hg0 : 0 < g := by omega
  obtain ⟨p0, p1⟩ := X1.out.b.c2
  obtain ⟨r0, r1, r2⟩ := X1.out.l.c3
  obtain ⟨p2, p3⟩ := X2.out.b.c2
  obtain ⟨r3, r4, r5⟩ := X2.out.l.c3
  by_cases hon : 70 < n
  · go_wp2_with fail
    go_ret
    exact ⟨rfl, HB.out⟩
  by_cases hok : 70 < k
  · go_wp2_with fail
    go_ret
    exact ⟨rfl, HB.out⟩
  by_cases honk : 20 < nk
  · go_wp2_with fail
    go_ret
    exact ⟨rfl, HB.out⟩
  go_wp2_with fail
  have hMg := (HM.out _ HB.out).mono (B' := g) (by omega)
  have HS1 := Lib.hid (save_in HV.out Vl.ok_new hg0 c1 c2 m1 m2 _ m hMg (HT.out _ HB.out))
  have HOK := Lib.hid (Vl.save_ok Vl.ok_new (c1, c2) (m1, m2, m))
  clear hMg
  generalize (Vl.save Vl.new (c1, c2) (m1, m2, m)).2 = er1 at *
  generalize (Vl.save Vl.new (c1, c2) (m1, m2, m)).1 = v1 at *
  refine (HS1.out).mono ?_
  rintro e w3 ⟨rfl, hv, hb⟩
  replace X1 := Lib.hid (X1.out.below hb (by omega) (by omega))
  replace X2 := Lib.hid (X2.out.below hb (by omega) (by omega))
  replace HB := Lib.hid (HB.out.trans (hb.mono (by omega)))
  replace HV := Lib.hid hv
  clear hv hb
  clear p0 p1 r0 r1 r2 p2 p3 r3 r4 r5
  obtain ⟨p0, p1⟩ := X1.out.b.c2
  obtain ⟨r0, r1, r2⟩ := X1.out.l.c3
  obtain ⟨p2, p3⟩ := X2.out.b.c2
  obtain ⟨r3, r4, r5⟩ := X2.out.l.c3
  clear HS1
  go_wp2_with fail
  have hLg := (HL.out _ HB.out).mono (B' := g) (by omega)
  have HS1 := Lib.hid (save_in HV.out HOK.out hg0 b1 b2 l1 l2 _ l hLg (HT.out _ HB.out))
  replace HOK := Lib.hid (Vl.save_ok HOK.out (b1, b2) (l1, l2, l))
  clear hLg
  by_cases hz : (Vl.save v1 (b1, b2) (l1, l2, l)).2 = 0
  rotate_left
  · have hne : ((Vl.save v1 (b1, b2) (l1, l2, l)).2 != 0) = true := by simpa using hz
    generalize (Vl.save v1 (b1, b2) (l1, l2, l)).2 = er at *
    generalize (Vl.save v1 (b1, b2) (l1, l2, l)).1 = v2 at *
    clear hz HOK
    refine (HS1.out).mono ?_
    rintro e w4 ⟨rfl, hv, hb⟩
    replace X1 := Lib.hid (X1.out.below hb (by omega) (by omega))
    replace X2 := Lib.hid (X2.out.below hb (by omega) (by omega))
    replace HB := Lib.hid (HB.out.trans (hb.mono (by omega)))
    replace HV := Lib.hid hv
    clear hv hb
    clear p0 p1 r0 r1 r2 p2 p3 r3 r4 r5
    obtain ⟨p0, p1⟩ := X1.out.b.c2
    obtain ⟨r0, r1, r2⟩ := X1.out.l.c3
    obtain ⟨p2, p3⟩ := X2.out.b.c2
    obtain ⟨r3, r4, r5⟩ := X2.out.l.c3
    go_wp2_with fail
    go_ret
    exact ⟨rfl, HB.out⟩
  obtain ⟨rfl, rfl, -⟩ := saved_zero hz
  have hst := saved_state hz
  rw [hz] at HS1
  clear hz
  generalize (Vl.save v1 (b1, b2) (0, 0, l)).1 = v2 at *
  refine (HS1.out).mono ?_
  rintro e w4 ⟨rfl, hv, hb⟩
  replace X1 := Lib.hid (X1.out.below hb (by omega) (by omega))
  replace X2 := Lib.hid (X2.out.below hb (by omega) (by omega))
  replace HB := Lib.hid (HB.out.trans (hb.mono (by omega)))
  replace HV := Lib.hid hv
  clear hv hb
  clear p0 p1 r0 r1 r2 p2 p3 r3 r4 r5
  obtain ⟨p0, p1⟩ := X1.out.b.c2
  obtain ⟨r0, r1, r2⟩ := X1.out.l.c3
  obtain ⟨p2, p3⟩ := X2.out.b.c2
  obtain ⟨r3, r4, r5⟩ := X2.out.l.c3
  clear HS1
  go_wp2_with fail
  have HSY := Lib.hid (sync_in HV.out)
  replace HOK := Lib.hid (Vl.sync_ok HOK.out)
  have HCR := Lib.hid (fun k => Vl.crash_synced HOK.out (show (Vl.sync v2).synced = (Vl.sync v2).disk.length from rfl) k)
  have HSS := Lib.hid (show (Vl.sync v2).s = ((b1, b2), l) from hst)
  clear hst
  generalize Vl.sync v2 = v3 at *
  refine (HSY.out).mono ?_
  rintro e w5 ⟨rfl, hv, hb⟩
  replace X1 := Lib.hid (X1.out.below hb (by omega) (by omega))
  replace X2 := Lib.hid (X2.out.below hb (by omega) (by omega))
  replace HB := Lib.hid (HB.out.trans (hb.mono (by omega)))
  replace HV := Lib.hid hv
  clear hv hb
  clear p0 p1 r0 r1 r2 p2 p3 r3 r4 r5
  obtain ⟨p0, p1⟩ := X1.out.b.c2
  obtain ⟨r0, r1, r2⟩ := X1.out.l.c3
  obtain ⟨p2, p3⟩ := X2.out.b.c2
  obtain ⟨r3, r4, r5⟩ := X2.out.l.c3
  clear HSY
  go_wp2_with fail
  clear p0 p1 r0 r1 r2 p2 p3 r3 r4 r5
  clear HM
  have hbz := HB.out
  have hkk := HKS.out
  go_loopw [13] (fun i wr => ∃ j : Nat, j ≤ nk ∧ i = .int .i64 (j : Int) ∧ VIn g g wr v3 ∧ Bx w.heap.size (w.heap.size + 1) b1 b2 0 0 (.slice Al n cl) wr ∧ Below w.heap.size w wr) (fun i _ => nk - (intOf i).toNat)
  case atStart => exact ⟨0, Nat.zero_le _, rfl, HV.out, X1.out, HB.out⟩
  case round =>
    obtain ⟨j, hj, rfl, hv, hx, hb⟩ := hrel
    have HV3 := Lib.hid hv
    have X3 := Lib.hid hx
    have HB3 := Lib.hid hb
    clear hv hx hb hbz hkk
    by_cases hlt : j < nk
    · have i1 : (0 : Int) ≤ (j : Int) := by omega
      have i2 : (j : Int) < (nk : Int) := by omega
      have hkl : j < ks.length := by rw [HN3.out]; exact hlt
      obtain ⟨bk, ok, rfl, hkb, e0, hkx⟩ := (HKS.out _ HB3.out).int j hkl
      generalize ks[j] = kv at *
      clear hkl
      go_wp2_with fail
      have hcr := crash_in HV3.out HOK.out hg0 kv hkx (HT.out _ HB3.out)
      rw [HCR.out] at hcr
      refine hcr.mono ?_
      rintro e w9 ⟨rfl, hv, hb⟩
      go_wp2_with fail
      exact ⟨⟨j + 1, by omega, by go_num, hv, X3.out.below hb (by omega) (by omega), HB3.out.trans (hb.mono (by omega))⟩, by simp [intOf]; omega⟩
    · have hle : ¬ ((j : Int) < (nk : Int)) := by omega
      replace HV := HV3
      replace X1 := X3
      replace HB := HB3
      clear HV3 X3 HB3 X2
      obtain ⟨p0, p1⟩ := X1.out.b.c2
      obtain ⟨r0, r1, r2⟩ := X1.out.l.c3
      go_wp2_with fail
      have hlo := fun e w' h => load_of (e := e) (w' := w') (w := wr) h HSS.out
      refine (load_in HV.out HOK.out).mono ?_
      intro e w6 hx
      obtain ⟨A5, c5, rfl, ho, hb⟩ := hlo _ _ hx
      clear hlo hx
      simp only [HN.out] at ho ⊢
      have hb5 := hb.alloc hb.size (.cells #[.int .i64 b1, .int .i64 b2] 30)
      replace hb5 := hb5.alloc hb5.size (.cells #[.int .i64 0, .int .i64 0, .slice A5 n c5] 38)
      have HO := Lib.hid ((ho.alloc (.cells #[.int .i64 b1, .int .i64 b2] 30)).alloc (.cells #[.int .i64 0, .int .i64 0, .slice A5 n c5] 38))
      have HX3 := Lib.hid ((Whole.new w6 30 #[.int .i64 b1, .int .i64 b2]).alloc (.cells #[.int .i64 0, .int .i64 0, .slice A5 n c5] 38))
      have HX4 := Lib.hid (Whole.new1 w6 (.cells #[.int .i64 b1, .int .i64 b2] 30) 38 #[.int .i64 0, .int .i64 0, .slice A5 n c5])
      have hgs := HV.out.le
      have hbg := hb5.mono hgs
      replace X1 := Lib.hid (X1.out.below hbg (by omega) (by omega))
      replace HB := Lib.hid (HB.out.trans (hbg.mono (by omega)))
      clear hbg hgs ho hb HV
      clear p0 p1 r0 r1 r2
      obtain ⟨p0, p1⟩ := X1.out.b.c2
      obtain ⟨r0, r1, r2⟩ := X1.out.l.c3
      clear hb5
      obtain ⟨q0, q1⟩ := HX3.out.c2
      obtain ⟨u0, u1, u2⟩ := HX4.out.c3
      go_wp2_with fail
      have hLg := HL.out _ HB.out
      have hlogs := logs_any 0 0 _ _ l _ _ (Nat.le_refl _) HO.out.sl.here (hLg.mono HB.out.size)
      skip
      refine hlogs.mono ?_
      rintro e w10 ⟨rfl, hb⟩
      replace X1 := Lib.hid (X1.out.below hb X1.out.b.lt X1.out.l.lt)
      replace HX3 := Lib.hid (HX3.out.below hb HX3.out.lt)
      replace HB := Lib.hid (HB.out.trans (hb.mono HB.out.size))
      clear hb hLg hlogs p0 p1 r0 r1 r2 q0 q1 u0 u1 u2
      obtain ⟨p0, p1⟩ := X1.out.b.c2
      obtain ⟨q0, q1⟩ := HX3.out.c2
      go_wp2_with fail
      go_ret
      exact ⟨rfl, HB.out⟩
end Go.Proofs.YtcacebkbfnnjbaaDoor
