/-
  The law of what is between: a crash leaves what was, what came, or a beginning of it.
-/
import Derived.Test.YtcacebkbfnnjbaaDoorV14
import Derived.Test.YtcacebkbfnnjbaaDoorV18
import Derived.Test.YtcacebkbfnnjbaaDoorV32
import Derived.Test.YtcacebkbfnnjbaaDoorV35
import Derived.LoopTactic
namespace Go.Proofs.YtcacebkbfnnjbaaDoor
open Go.RowKit

set_option maxRecDepth 100000 in
set_option maxHeartbeats 8000000 in
theorem between_law (w : World) (hT : Tab w) (b1 b2 l1 l2 : Int) (vl : Value) (l : List E) (hL : Sl w w.heap.size vl l) (c1 c2 m1 m2 : Int) (vm : Value) (m : List E) (hM : Sl w w.heap.size vm m) (keep : Int) (hkr : -9223372036854775808 ≤ keep ∧ keep ≤ 9223372036854775807) :
    Calls Tryd.prog 6 #[bv b1 b2, lv l1 l2 vl, bv c1 c2, lv m1 m2 vm, .int .i64 keep] w fun e w' => e = .returned (.bool true) ∧ Below w.heap.size w w' := by
  obtain ⟨Al, cl, rfl, _, hml⟩ := hL.form
  obtain ⟨Am, cm, rfl, _, hmm⟩ := hM.form
  unfold maxLen at hml hmm
  have hpos := hT.pos
  have HT := Lib.hid (fun W (h : Below w.heap.size w W) => hT.below h hpos)
  have HL := Lib.hid (fun W (h : Below w.heap.size w W) => hL.below h)
  have HM := Lib.hid (fun W (h : Below w.heap.size w W) => hM.below h)
  generalize hn : l.length = n at *
  have HN := Lib.hid hn
  generalize hk : m.length = k at *
  have HN2 := Lib.hid hk
  clear hk
  clear hn hT hL hpos hM
  have h1 : Below w.heap.size w (w.alloc (.cells #[.int .i64 b1, .int .i64 b2] 30)) := (Below.refl _ _).alloc (Nat.le_refl _) _
  have h2 := h1.alloc h1.size (.cells #[.int .i64 l1, .int .i64 l2, .slice Al n cl] 38)
  have x1 := bx_new w b1 b2 l1 l2 (.slice Al n cl)
  have h3 := h2.alloc h2.size (.cells #[.int .i64 c1, .int .i64 c2] 30)
  have h4 := h3.alloc h3.size (.cells #[.int .i64 m1, .int .i64 m2, .slice Am k cm] 38)
  have x2 := bx_new ((w.alloc (.cells #[.int .i64 b1, .int .i64 b2] 30)).alloc (.cells #[.int .i64 l1, .int .i64 l2, .slice Al n cl] 38)) c1 c2 m1 m2 (.slice Am k cm)
  have hal := ((Below.refl ((w.alloc (.cells #[.int .i64 b1, .int .i64 b2] 30)).alloc (.cells #[.int .i64 l1, .int .i64 l2, .slice Al n cl] 38)).heap.size ((w.alloc (.cells #[.int .i64 b1, .int .i64 b2] 30)).alloc (.cells #[.int .i64 l1, .int .i64 l2, .slice Al n cl] 38))).alloc (Nat.le_refl _) (.cells #[.int .i64 c1, .int .i64 c2] 30)).alloc (by simp) (.cells #[.int .i64 m1, .int .i64 m2, .slice Am k cm] 38)
  have x1b := x1.below hal (by simp; omega) (by simp)
  simp only [World.size_alloc, Nat.add_assoc, Nat.reduceAdd] at x2
  have hsz : w.heap.size + 4 ≤ ((((w.alloc (.cells #[.int .i64 b1, .int .i64 b2] 30)).alloc (.cells #[.int .i64 l1, .int .i64 l2, .slice Al n cl] 38)).alloc (.cells #[.int .i64 c1, .int .i64 c2] 30)).alloc (.cells #[.int .i64 m1, .int .i64 m2, .slice Am k cm] 38)).heap.size := by simp
  have X1 := Lib.hid x1b
  have X2 := Lib.hid x2
  have HB := Lib.hid h4
  clear h1 h2 h3 h4 x1 x1b x2 hal
  have HK := Lib.hid (awake_any _ (HT.out _ HB.out))
  go_enter Tryd.func6, Tryd.ntmps6
  go_wp2_with fail
  refine HK.out.mono ?_
  rintro e w1 ⟨rfl, hb⟩
  have hz0 := HB.out.size
  have hg := Nat.le_trans hsz hb.size
  replace X1 := Lib.hid (X1.out.below hb (by omega) (by omega))
  replace X2 := Lib.hid (X2.out.below hb (by omega) (by omega))
  replace HB := Lib.hid (HB.out.trans (hb.mono hz0))
  clear hb HK hz0 hsz
  go_wp2_with fail
  refine (new_any _).mono ?_
  rintro e w2 ⟨rfl, hn2, hb⟩
  have HV := Lib.hid (vin_new w1 hn2 hb)
  generalize w1.heap.size = g at *
  replace X1 := Lib.hid (X1.out.below hb (by omega) (by omega))
  replace X2 := Lib.hid (X2.out.below hb (by omega) (by omega))
  replace HB := Lib.hid (HB.out.trans (hb.mono (by omega)))
  clear hn2 hb
  have hg0 : 0 < g := by omega
  obtain ⟨p0, p1⟩ := X1.out.b.c2
  obtain ⟨r0, r1, r2⟩ := X1.out.l.c3
  obtain ⟨p2, p3⟩ := X2.out.b.c2
  obtain ⟨r3, r4, r5⟩ := X2.out.l.c3
  by_cases hon : 70 < n
  · go_wp2_with fail
    go_ret
    exact ⟨rfl, HB.out⟩
  by_cases hok : 70 < k
  · go_wp2_with fail
    go_ret
    exact ⟨rfl, HB.out⟩
  go_wp2_with fail
  have hLg := (HL.out _ HB.out).mono (B' := g) (by omega)
  have HS1 := Lib.hid (save_in HV.out Vl.ok_new hg0 b1 b2 l1 l2 _ l hLg (HT.out _ HB.out))
  have HOK := Lib.hid (Vl.save_ok Vl.ok_new (b1, b2) (l1, l2, l))
  clear hLg
  by_cases hz : (Vl.save Vl.new (b1, b2) (l1, l2, l)).2 = 0
  rotate_left
  · have hne : ((Vl.save Vl.new (b1, b2) (l1, l2, l)).2 != 0) = true := by simpa using hz
    generalize (Vl.save Vl.new (b1, b2) (l1, l2, l)).2 = er at *
    generalize (Vl.save Vl.new (b1, b2) (l1, l2, l)).1 = v1 at *
    clear hz HOK
    refine (HS1.out).mono ?_
    rintro e w3 ⟨rfl, hv, hb⟩
    replace X1 := Lib.hid (X1.out.below hb (by omega) (by omega))
    replace X2 := Lib.hid (X2.out.below hb (by omega) (by omega))
    replace HB := Lib.hid (HB.out.trans (hb.mono (by omega)))
    replace HV := Lib.hid hv
    clear hv hb
    clear p0 p1 r0 r1 r2 p2 p3 r3 r4 r5
    obtain ⟨p0, p1⟩ := X1.out.b.c2
    obtain ⟨r0, r1, r2⟩ := X1.out.l.c3
    obtain ⟨p2, p3⟩ := X2.out.b.c2
    obtain ⟨r3, r4, r5⟩ := X2.out.l.c3
    go_wp2_with fail
    go_ret
    exact ⟨rfl, HB.out⟩
  obtain ⟨rfl, rfl, -⟩ := saved_zero hz
  have hst := saved_state hz
  rw [hz] at HS1
  clear hz
  generalize (Vl.save Vl.new (b1, b2) (0, 0, l)).1 = v1 at *
  refine (HS1.out).mono ?_
  rintro e w3 ⟨rfl, hv, hb⟩
  replace X1 := Lib.hid (X1.out.below hb (by omega) (by omega))
  replace X2 := Lib.hid (X2.out.below hb (by omega) (by omega))
  replace HB := Lib.hid (HB.out.trans (hb.mono (by omega)))
  replace HV := Lib.hid hv
  clear hv hb
  clear p0 p1 r0 r1 r2 p2 p3 r3 r4 r5
  obtain ⟨p0, p1⟩ := X1.out.b.c2
  obtain ⟨r0, r1, r2⟩ := X1.out.l.c3
  obtain ⟨p2, p3⟩ := X2.out.b.c2
  obtain ⟨r3, r4, r5⟩ := X2.out.l.c3
  clear HS1
  go_wp2_with fail
  have HSY := Lib.hid (sync_in HV.out)
  replace HOK := Lib.hid (Vl.sync_ok HOK.out)
  have HSD := Lib.hid (show (Vl.sync v1).synced = (Vl.sync v1).disk.length from rfl)
  have HSS := Lib.hid (show (Vl.sync v1).s = ((b1, b2), l) from hst)
  clear hst
  generalize Vl.sync v1 = v2 at *
  refine (HSY.out).mono ?_
  rintro e w4 ⟨rfl, hv, hb⟩
  replace X1 := Lib.hid (X1.out.below hb (by omega) (by omega))
  replace X2 := Lib.hid (X2.out.below hb (by omega) (by omega))
  replace HB := Lib.hid (HB.out.trans (hb.mono (by omega)))
  replace HV := Lib.hid hv
  clear hv hb
  clear p0 p1 r0 r1 r2 p2 p3 r3 r4 r5
  obtain ⟨p0, p1⟩ := X1.out.b.c2
  obtain ⟨r0, r1, r2⟩ := X1.out.l.c3
  obtain ⟨p2, p3⟩ := X2.out.b.c2
  obtain ⟨r3, r4, r5⟩ := X2.out.l.c3
  clear HSY
  go_wp2_with fail
  have hMg := (HM.out _ HB.out).mono (B' := g) (by omega)
  have HS1 := Lib.hid (save_in HV.out HOK.out hg0 c1 c2 m1 m2 _ m hMg (HT.out _ HB.out))
  have HMID := Lib.hid (fun hz => Vl.crash_mid HOK.out HSD.out (b := (c1, c2)) (l := (m1, m2, m)) hz keep)
  replace HOK := Lib.hid (Vl.save_ok HOK.out (c1, c2) (m1, m2, m))
  clear hMg
  by_cases hz : (Vl.save v2 (c1, c2) (m1, m2, m)).2 = 0
  rotate_left
  · have hne : ((Vl.save v2 (c1, c2) (m1, m2, m)).2 != 0) = true := by simpa using hz
    clear HMID
    generalize (Vl.save v2 (c1, c2) (m1, m2, m)).2 = er at *
    generalize (Vl.save v2 (c1, c2) (m1, m2, m)).1 = v3 at *
    clear hz HOK
    refine (HS1.out).mono ?_
    rintro e w5 ⟨rfl, hv, hb⟩
    replace X1 := Lib.hid (X1.out.below hb (by omega) (by omega))
    replace X2 := Lib.hid (X2.out.below hb (by omega) (by omega))
    replace HB := Lib.hid (HB.out.trans (hb.mono (by omega)))
    replace HV := Lib.hid hv
    clear hv hb
    clear p0 p1 r0 r1 r2 p2 p3 r3 r4 r5
    obtain ⟨p0, p1⟩ := X1.out.b.c2
    obtain ⟨r0, r1, r2⟩ := X1.out.l.c3
    obtain ⟨p2, p3⟩ := X2.out.b.c2
    obtain ⟨r3, r4, r5⟩ := X2.out.l.c3
    go_wp2_with fail
    go_ret
    exact ⟨rfl, HB.out⟩
  obtain ⟨rfl, rfl, -⟩ := saved_zero hz
  have hmid := HMID.out hz
  rw [HSS.out] at hmid
  have HMD := Lib.hid hmid
  rw [hz] at HS1
  clear hz hmid HMID HSS HSD
  generalize (Vl.save v2 (c1, c2) (0, 0, m)).1 = v3 at *
  refine (HS1.out).mono ?_
  rintro e w5 ⟨rfl, hv, hb⟩
  replace X1 := Lib.hid (X1.out.below hb (by omega) (by omega))
  replace X2 := Lib.hid (X2.out.below hb (by omega) (by omega))
  replace HB := Lib.hid (HB.out.trans (hb.mono (by omega)))
  replace HV := Lib.hid hv
  clear hv hb
  clear p0 p1 r0 r1 r2 p2 p3 r3 r4 r5
  obtain ⟨p0, p1⟩ := X1.out.b.c2
  obtain ⟨r0, r1, r2⟩ := X1.out.l.c3
  obtain ⟨p2, p3⟩ := X2.out.b.c2
  obtain ⟨r3, r4, r5⟩ := X2.out.l.c3
  clear HS1
  go_wp2_with fail
  have hcr := Lib.hid (crash_in HV.out HOK.out hg0 keep hkr (HT.out _ HB.out))
  replace HOK := Lib.hid (Vl.crash_ok HOK.out keep)
  generalize Vl.crash v3 keep = v4 at *
  refine (hcr.out).mono ?_
  rintro e w6 ⟨rfl, hv, hb⟩
  replace X1 := Lib.hid (X1.out.below hb (by omega) (by omega))
  replace X2 := Lib.hid (X2.out.below hb (by omega) (by omega))
  replace HB := Lib.hid (HB.out.trans (hb.mono (by omega)))
  replace HV := Lib.hid hv
  clear hv hb
  clear p0 p1 r0 r1 r2 p2 p3 r3 r4 r5
  obtain ⟨p0, p1⟩ := X1.out.b.c2
  obtain ⟨r0, r1, r2⟩ := X1.out.l.c3
  obtain ⟨p2, p3⟩ := X2.out.b.c2
  obtain ⟨r3, r4, r5⟩ := X2.out.l.c3
  clear hcr
  go_wp2_with fail
  have hlo := load_in HV.out HOK.out
  generalize v4.s = r at *
  obtain ⟨⟨t, vo⟩, s⟩ := r
  have hbl := mid_bal HMD.out
  have HIN := Lib.hid (fun j (hj : j < s.length) => mid_in HMD.out j hj)
  have hag := mid_ag HMD.out
  obtain ⟨sn, hsn⟩ : ∃ sn, s.length = sn := ⟨_, rfl⟩
  have HSN := Lib.hid hsn
  rw [hsn] at hag
  generalize hR : Vl.agreed l m = ag at *
  have HR := Lib.hid hR
  clear hsn hR HMD HOK
  refine hlo.mono ?_
  rintro e w7 ⟨A8, c8, rfl, ho, hb⟩
  simp only [HSN.out] at ho ⊢
  clear hlo
  have hb5 := hb.alloc hb.size (.cells #[.int .i64 t, .int .i64 vo] 30)
  replace hb5 := hb5.alloc hb5.size (.cells #[.int .i64 0, .int .i64 0, .slice A8 sn c8] 38)
  have hal := ((Below.refl w7.heap.size w7).alloc (Nat.le_refl _) (.cells #[.int .i64 t, .int .i64 vo] 30)).alloc (by simp) (.cells #[.int .i64 0, .int .i64 0, .slice A8 sn c8] 38)
  have HX3 := Lib.hid ((Whole.new w7 30 #[.int .i64 t, .int .i64 vo]).alloc (.cells #[.int .i64 0, .int .i64 0, .slice A8 sn c8] 38))
  have HX4 := Lib.hid (Whole.new1 w7 (.cells #[.int .i64 t, .int .i64 vo] 30) 38 #[.int .i64 0, .int .i64 0, .slice A8 sn c8])
  have HO8 := Lib.hid ((ho.alloc (.cells #[.int .i64 t, .int .i64 vo] 30)).alloc (.cells #[.int .i64 0, .int .i64 0, .slice A8 sn c8] 38))
  have hgs := HV.out.le
  have hbg := hb5.mono hgs
  replace X1 := Lib.hid (X1.out.below hbg (by omega) (by omega))
  replace X2 := Lib.hid (X2.out.below hbg (by omega) (by omega))
  replace HB := Lib.hid (HB.out.trans (hbg.mono (by omega)))
  clear HV ho hb hb5 hal hbg hgs
  clear p0 p1 r0 r1 r2 p2 p3 r3 r4 r5
  obtain ⟨p0, p1⟩ := X1.out.b.c2
  obtain ⟨p2, p3⟩ := X2.out.b.c2
  obtain ⟨q0, q1⟩ := HX3.out.c2
  go_upto_region 12 with fail
  go_cut [71] from 64 to 71 (fun x wx => x = .bool false ∧ wx = ((w7.alloc (.cells #[.int .i64 t, .int .i64 vo] 30)).alloc (.cells #[.int .i64 0, .int .i64 0, .slice A8 sn c8] 38)))
  case first =>
    rcases hbl with ⟨rfl, rfl⟩ | ⟨rfl, rfl, h | ⟨rfl, h⟩⟩
    all_goals (go_wp2_with fail; go_meet; exact ⟨rfl, rfl⟩)
  case rest =>
    obtain ⟨rfl, rfl⟩ := hcut
    clear hbl
    go_wp2_with fail
    clear p0 p1 p2 p3 q0 q1
    generalize ((w7.alloc (.cells #[.int .i64 t, .int .i64 vo] 30)).alloc (.cells #[.int .i64 0, .int .i64 0, .slice A8 sn c8] 38)) = wl at *
    have HSl := Lib.hid HO8.out.sl
    have hLw := HL.out _ HB.out
    have hMw := HM.out _ HB.out
    have HLw := Lib.hid (hLw.mono HB.out.size)
    have HMw := Lib.hid (hMw.mono HB.out.size)
    have HCR := Lib.hid (fun W (h : Below wl.heap.size wl W) => (⟨(X1.out.below h X1.out.b.lt X1.out.l.lt).l.c3, (X2.out.below h X2.out.b.lt X2.out.l.lt).l.c3, (HX4.out.below h HX4.out.lt).c3⟩ : _ ∧ _ ∧ _))
    clear hLw hMw HL HM HT HO8
    have hBl : Below wl.heap.size wl wl := Below.refl _ _
    go_loopw [15] (fun i wr => ∃ j : Nat, j ≤ sn ∧ i = .int .i64 (j : Int) ∧ Below wl.heap.size wl wr) (fun i _ => sn - (intOf i).toNat)
    case atStart => exact ⟨0, Nat.zero_le _, rfl, hBl⟩
    case round =>
      obtain ⟨j, hj, rfl, hb⟩ := hrel
      have HBW := Lib.hid hb
      obtain ⟨⟨r0, r1, r2⟩, ⟨r3, r4, r5⟩, ⟨u0, u1, u2⟩⟩ := HCR.out _ hb
      clear hb
      have i1 : (0 : Int) ≤ (j : Int) := by omega
      by_cases hlt : j < sn
      · have d0 : (j : Int) < (sn : Int) := by omega
        have hjs : j < s.length := by rw [HSN.out]; exact hlt
        by_cases hA : j < n
        · by_cases hB : j < k
          · have d1 : decide (j < n) = true := by simpa using hA
            have d2 : decide (j < k) = true := by simpa using hB
            have i2 : (j : Int) < (n : Int) := by omega
            have i3 : (j : Int) < (k : Int) := by omega
            have hin := HIN.out j hjs
            have hjl : j < l.length := by rw [HN.out]; exact hA
            obtain ⟨qa, hqa⟩ : ∃ q, q = decide (l[j] = s[j]) := ⟨_, rfl⟩
            have HQls := Lib.hid hqa
            have hjm : j < m.length := by rw [HN2.out]; exact hB
            obtain ⟨qb, hqb⟩ : ∃ q, q = decide (m[j] = s[j]) := ⟨_, rfl⟩
            have HQms := Lib.hid hqb
            have HNO := Lib.hid (show qa = false → qb = false → False from fun e1 e2 => by
              rcases hin with ⟨h1, h2⟩ | ⟨h1, h2⟩
              · rw [hqa] at e1; simp [h2] at e1
              · rw [hqb] at e2; simp [h2] at e2)
            clear hin hqa hqb
            obtain ⟨b_s, o_s, rfl, hb_s, gs0, gs1, gs2, gs3, gs4, gs5, gs6, -⟩ := HSl.out.entry j hjs
            obtain ⟨b_l, o_l, rfl, hb_l, gl0, gl1, gl2, gl3, gl4, gl5, gl6, -⟩ := HLw.out.entry j hjl
            obtain ⟨b_m, o_m, rfl, hb_m, gm0, gm1, gm2, gm3, gm4, gm5, gm6, -⟩ := HMw.out.entry j hjm
            generalize s[j] = xs at *
            generalize l[j] = xl at *
            generalize m[j] = xm at *
            obtain ⟨x0, x1, x2, x3, x4, x5, x6⟩ := xs
            obtain ⟨y0, y1, y2, y3, y4, y5, y6⟩ := xl
            obtain ⟨z0_, z1_, z2_, z3_, z4_, z5_, z6_⟩ := xm
            dsimp only [ec] at *
            clear hjs hjl hjm
            go_wp2_with fail
            clear r0 r1 r2 r3 r4 r5 u0 u1 u2
            refine s_start (fun W => Kept (fun _ => False) (wr).drew W) [] (by kernel_rfl) ?_
            have HC := Lib.hid (Kept.refl (fun _ => False) (wr).drew)
            have HD := Lib.hid (HBW.out.drew)
            have hzw : wl.heap.size ≤ wr.drew.heap.size := HD.out.size
            have HXX := Lib.hid (fun W (hW : Kept (fun _ => False) wr.drew W) => (⟨(HCR.out W (HD.out.trans (hW.below (B := wl.heap.size) (fun _ h => h.elim) hzw))).1.1, (HCR.out W (HD.out.trans (hW.below (B := wl.heap.size) (fun _ h => h.elim) hzw))).1.2.1, (HCR.out W (HD.out.trans (hW.below (B := wl.heap.size) (fun _ h => h.elim) hzw))).1.2.2, (HCR.out W (HD.out.trans (hW.below (B := wl.heap.size) (fun _ h => h.elim) hzw))).2.1.1, (HCR.out W (HD.out.trans (hW.below (B := wl.heap.size) (fun _ h => h.elim) hzw))).2.1.2.1, (HCR.out W (HD.out.trans (hW.below (B := wl.heap.size) (fun _ h => h.elim) hzw))).2.1.2.2, (HCR.out W (HD.out.trans (hW.below (B := wl.heap.size) (fun _ h => h.elim) hzw))).2.2.1, (HCR.out W (HD.out.trans (hW.below (B := wl.heap.size) (fun _ h => h.elim) hzw))).2.2.2.1, (HCR.out W (HD.out.trans (hW.below (B := wl.heap.size) (fun _ h => h.elim) hzw))).2.2.2.2, (HD.out.trans (hW.below (B := wl.heap.size) (fun _ h => h.elim) hzw)).cell (p := ⟨b_l, o_l + j * 7, none⟩) hb_l |>.trans gl0, (HD.out.trans (hW.below (B := wl.heap.size) (fun _ h => h.elim) hzw)).cell (p := ⟨b_l, o_l + j * 7 + 1, none⟩) hb_l |>.trans gl1, (HD.out.trans (hW.below (B := wl.heap.size) (fun _ h => h.elim) hzw)).cell (p := ⟨b_l, o_l + j * 7 + 2, none⟩) hb_l |>.trans gl2, (HD.out.trans (hW.below (B := wl.heap.size) (fun _ h => h.elim) hzw)).cell (p := ⟨b_l, o_l + j * 7 + 3, none⟩) hb_l |>.trans gl3, (HD.out.trans (hW.below (B := wl.heap.size) (fun _ h => h.elim) hzw)).cell (p := ⟨b_l, o_l + j * 7 + 4, none⟩) hb_l |>.trans gl4, (HD.out.trans (hW.below (B := wl.heap.size) (fun _ h => h.elim) hzw)).cell (p := ⟨b_l, o_l + j * 7 + 5, none⟩) hb_l |>.trans gl5, (HD.out.trans (hW.below (B := wl.heap.size) (fun _ h => h.elim) hzw)).cell (p := ⟨b_l, o_l + j * 7 + 6, none⟩) hb_l |>.trans gl6, (HD.out.trans (hW.below (B := wl.heap.size) (fun _ h => h.elim) hzw)).cell (p := ⟨b_s, o_s + j * 7, none⟩) hb_s |>.trans gs0, (HD.out.trans (hW.below (B := wl.heap.size) (fun _ h => h.elim) hzw)).cell (p := ⟨b_s, o_s + j * 7 + 1, none⟩) hb_s |>.trans gs1, (HD.out.trans (hW.below (B := wl.heap.size) (fun _ h => h.elim) hzw)).cell (p := ⟨b_s, o_s + j * 7 + 2, none⟩) hb_s |>.trans gs2, (HD.out.trans (hW.below (B := wl.heap.size) (fun _ h => h.elim) hzw)).cell (p := ⟨b_s, o_s + j * 7 + 3, none⟩) hb_s |>.trans gs3, (HD.out.trans (hW.below (B := wl.heap.size) (fun _ h => h.elim) hzw)).cell (p := ⟨b_s, o_s + j * 7 + 4, none⟩) hb_s |>.trans gs4, (HD.out.trans (hW.below (B := wl.heap.size) (fun _ h => h.elim) hzw)).cell (p := ⟨b_s, o_s + j * 7 + 5, none⟩) hb_s |>.trans gs5, (HD.out.trans (hW.below (B := wl.heap.size) (fun _ h => h.elim) hzw)).cell (p := ⟨b_s, o_s + j * 7 + 6, none⟩) hb_s |>.trans gs6⟩ : _ ∧ _ ∧ _ ∧ _ ∧ _ ∧ _ ∧ _ ∧ _ ∧ _ ∧ _ ∧ _ ∧ _ ∧ _ ∧ _ ∧ _ ∧ _ ∧ _ ∧ _ ∧ _ ∧ _ ∧ _ ∧ _ ∧ _))
            generalize (wr).drew = z1 at *
            refine s_take (i := 0) (v := ?_) rfl (by kernel_rfl) (by kernel_rfl) (by kernel_rfl) (k0 := 0) (by kernel_rfl) (by kernel_rfl) (.inl rfl) (fun _ _ _ h => h) (by rfl) HC.out ?_ ?_
            rotate_left
            · intro W hW
              go_simp
              first | done | rfl
            simp only [Act.put, List.setIfInBounds_toArray, List.set_cons_zero, List.set_cons_succ, List.getElem_toArray, List.getElem_cons_zero]
            refine s_take (i := 1) (v := ?_) rfl (by kernel_rfl) (by kernel_rfl) (by kernel_rfl) (k0 := 1) (by kernel_rfl) (by kernel_rfl) (.inl rfl) (fun _ _ _ h => h) (by rfl) HC.out ?_ ?_
            rotate_left
            · intro W hW
              go_simp
              first | done | rfl
            simp only [Act.put, List.setIfInBounds_toArray, List.set_cons_zero, List.set_cons_succ, List.getElem_toArray, List.getElem_cons_zero, List.getElem_cons_succ]
            refine s_take (i := 2) (v := ?_) rfl (by kernel_rfl) (by kernel_rfl) (by kernel_rfl) (k0 := 2) (by kernel_rfl) (by kernel_rfl) (.inl rfl) (fun _ _ _ h => h) (by rfl) HC.out ?_ ?_
            rotate_left
            · intro W hW
              obtain ⟨r0, r1, r2, r3, r4, r5, u0, u1, u2, g0, g1, g2, g3, g4, g5, g6, f0, f1, f2, f3, f4, f5, f6⟩ := HXX.out _ hW
              go_simp
              first | done | rfl
            simp only [Act.put, List.setIfInBounds_toArray, List.set_cons_zero, List.set_cons_succ, List.getElem_toArray, List.getElem_cons_zero, List.getElem_cons_succ]
            refine s_take (i := 3) (v := ?_) rfl (by kernel_rfl) (by kernel_rfl) (by kernel_rfl) (k0 := 3) (by kernel_rfl) (by kernel_rfl) (.inl rfl) (fun _ _ _ h => h) (by rfl) HC.out ?_ ?_
            rotate_left
            · intro W hW
              go_simp
              first | done | rfl
            simp only [Act.put, List.setIfInBounds_toArray, List.set_cons_zero, List.set_cons_succ, List.getElem_toArray, List.getElem_cons_zero, List.getElem_cons_succ]
            refine s_take (i := 4) (v := ?_) rfl (by kernel_rfl) (by kernel_rfl) (by kernel_rfl) (k0 := 4) (by kernel_rfl) (by kernel_rfl) (.inl rfl) (fun _ _ _ h => h) (by rfl) HC.out ?_ ?_
            rotate_left
            · intro W hW
              go_simp
              first | done | rfl
            simp only [Act.put, List.setIfInBounds_toArray, List.set_cons_zero, List.set_cons_succ, List.getElem_toArray, List.getElem_cons_zero, List.getElem_cons_succ]
            refine s_take (i := 5) (v := ?_) rfl (by kernel_rfl) (by kernel_rfl) (by kernel_rfl) (k0 := 5) (by kernel_rfl) (by kernel_rfl) (.inl rfl) (fun _ _ _ h => h) (by rfl) HC.out ?_ ?_
            rotate_left
            · intro W hW
              go_simp
              first | done | rfl
            simp only [Act.put, List.setIfInBounds_toArray, List.set_cons_zero, List.set_cons_succ, List.getElem_toArray, List.getElem_cons_zero, List.getElem_cons_succ]
            refine s_take (i := 6) (v := ?_) rfl (by kernel_rfl) (by kernel_rfl) (by kernel_rfl) (k0 := 6) (by kernel_rfl) (by kernel_rfl) (.inl rfl) (fun _ _ _ h => h) (by rfl) HC.out ?_ ?_
            rotate_left
            · intro W hW
              go_simp
              first | done | rfl
            simp only [Act.put, List.setIfInBounds_toArray, List.set_cons_zero, List.set_cons_succ, List.getElem_toArray, List.getElem_cons_zero, List.getElem_cons_succ]
            refine s_take (i := 7) (v := ?_) rfl (by kernel_rfl) (by kernel_rfl) (by kernel_rfl) (k0 := 7) (by kernel_rfl) (by kernel_rfl) (.inl rfl) (fun _ _ _ h => h) (by rfl) HC.out ?_ ?_
            rotate_left
            · intro W hW
              obtain ⟨r0, r1, r2, r3, r4, r5, u0, u1, u2, g0, g1, g2, g3, g4, g5, g6, f0, f1, f2, f3, f4, f5, f6⟩ := HXX.out _ hW
              go_simp
              first | done | rfl
            simp only [Act.put, List.setIfInBounds_toArray, List.set_cons_zero, List.set_cons_succ, List.getElem_toArray, List.getElem_cons_zero, List.getElem_cons_succ]
            refine s_take (i := 8) (v := ?_) rfl (by kernel_rfl) (by kernel_rfl) (by kernel_rfl) (k0 := 8) (by kernel_rfl) (by kernel_rfl) (.inl rfl) (fun _ _ _ h => h) (by rfl) HC.out ?_ ?_
            rotate_left
            · intro W hW
              go_simp
              first | done | rfl
            simp only [Act.put, List.setIfInBounds_toArray, List.set_cons_zero, List.set_cons_succ, List.getElem_toArray, List.getElem_cons_zero, List.getElem_cons_succ]
            refine s_take (i := 9) (v := ?_) rfl (by kernel_rfl) (by kernel_rfl) (by kernel_rfl) (k0 := 9) (by kernel_rfl) (by kernel_rfl) (.inl rfl) (fun _ _ _ h => h) (by rfl) HC.out ?_ ?_
            rotate_left
            · intro W hW
              go_simp
              first | done | rfl
            simp only [Act.put, List.setIfInBounds_toArray, List.set_cons_zero, List.set_cons_succ, List.getElem_toArray, List.getElem_cons_zero, List.getElem_cons_succ]
            refine s_take (i := 10) (v := ?_) rfl (by kernel_rfl) (by kernel_rfl) (by kernel_rfl) (k0 := 10) (by kernel_rfl) (by kernel_rfl) (.inl rfl) (fun _ _ _ h => h) (by rfl) HC.out ?_ ?_
            rotate_left
            · intro W hW
              obtain ⟨r0, r1, r2, r3, r4, r5, u0, u1, u2, g0, g1, g2, g3, g4, g5, g6, f0, f1, f2, f3, f4, f5, f6⟩ := HXX.out _ hW
              go_simp
              first | done | rfl
            simp only [Act.put, List.setIfInBounds_toArray, List.set_cons_zero, List.set_cons_succ, List.getElem_toArray, List.getElem_cons_zero, List.getElem_cons_succ]
            refine s_take (i := 11) (v := ?_) rfl (by kernel_rfl) (by kernel_rfl) (by kernel_rfl) (k0 := 11) (by kernel_rfl) (by kernel_rfl) (.inl rfl) (fun _ _ _ h => h) (by rfl) HC.out ?_ ?_
            rotate_left
            · intro W hW
              go_simp
              first | done | rfl
            simp only [Act.put, List.setIfInBounds_toArray, List.set_cons_zero, List.set_cons_succ, List.getElem_toArray, List.getElem_cons_zero, List.getElem_cons_succ]
            refine s_take (i := 12) (v := ?_) rfl (by kernel_rfl) (by kernel_rfl) (by kernel_rfl) (k0 := 12) (by kernel_rfl) (by kernel_rfl) (.inl rfl) (fun _ _ _ h => h) (by rfl) HC.out ?_ ?_
            rotate_left
            · intro W hW
              obtain ⟨r0, r1, r2, r3, r4, r5, u0, u1, u2, g0, g1, g2, g3, g4, g5, g6, f0, f1, f2, f3, f4, f5, f6⟩ := HXX.out _ hW
              go_simp
              first | done | rfl
            simp only [Act.put, List.setIfInBounds_toArray, List.set_cons_zero, List.set_cons_succ, List.getElem_toArray, List.getElem_cons_zero, List.getElem_cons_succ]
            refine s_take (i := 13) (v := ?_) rfl (by kernel_rfl) (by kernel_rfl) (by kernel_rfl) (k0 := 13) (by kernel_rfl) (by kernel_rfl) (.inl rfl) (fun _ _ _ h => h) (by rfl) HC.out ?_ ?_
            rotate_left
            · intro W hW
              go_simp
              first | done | rfl
            simp only [Act.put, List.setIfInBounds_toArray, List.set_cons_zero, List.set_cons_succ, List.getElem_toArray, List.getElem_cons_zero, List.getElem_cons_succ]
            refine s_take (i := 14) (v := ?_) rfl (by kernel_rfl) (by kernel_rfl) (by kernel_rfl) (k0 := 14) (by kernel_rfl) (by kernel_rfl) (.inl rfl) (fun _ _ _ h => h) (by rfl) HC.out ?_ ?_
            rotate_left
            · intro W hW
              go_simp
              first | done | rfl
            simp only [Act.put, List.setIfInBounds_toArray, List.set_cons_zero, List.set_cons_succ, List.getElem_toArray, List.getElem_cons_zero, List.getElem_cons_succ]
            refine s_take (i := 15) (v := ?_) rfl (by kernel_rfl) (by kernel_rfl) (by kernel_rfl) (k0 := 15) (by kernel_rfl) (by kernel_rfl) (.inl rfl) (fun _ _ _ h => h) (by rfl) HC.out ?_ ?_
            rotate_left
            · intro W hW
              obtain ⟨r0, r1, r2, r3, r4, r5, u0, u1, u2, g0, g1, g2, g3, g4, g5, g6, f0, f1, f2, f3, f4, f5, f6⟩ := HXX.out _ hW
              go_simp
              first | done | rfl
            simp only [Act.put, List.setIfInBounds_toArray, List.set_cons_zero, List.set_cons_succ, List.getElem_toArray, List.getElem_cons_zero, List.getElem_cons_succ]
            refine s_take (i := 16) (v := ?_) rfl (by kernel_rfl) (by kernel_rfl) (by kernel_rfl) (k0 := 16) (by kernel_rfl) (by kernel_rfl) (.inl rfl) (fun _ _ _ h => h) (by rfl) HC.out ?_ ?_
            rotate_left
            · intro W hW
              skip -- eq7
              go_simp
              exact eq7 HQls.out W
            simp only [Act.put, List.setIfInBounds_toArray, List.set_cons_zero, List.set_cons_succ, List.getElem_toArray, List.getElem_cons_zero, List.getElem_cons_succ]
            refine s_take (i := 17) (v := ?_) rfl (by kernel_rfl) (by kernel_rfl) (by kernel_rfl) (k0 := 17) (by kernel_rfl) (by kernel_rfl) (.inl rfl) (fun _ _ _ h => h) (by rfl) HC.out ?_ ?_
            rotate_left
            · intro W hW
              go_simp
              first | done | rfl
            simp only [Act.put, List.setIfInBounds_toArray, List.set_cons_zero, List.set_cons_succ, List.getElem_toArray, List.getElem_cons_zero, List.getElem_cons_succ]
            refine s_take (i := 18) (v := ?_) rfl (by kernel_rfl) (by kernel_rfl) (by kernel_rfl) (k0 := 18) (by kernel_rfl) (by kernel_rfl) (.inl rfl) (fun _ _ _ h => h) (by rfl) HC.out ?_ ?_
            rotate_left
            · intro W hW
              go_simp
              first | done | rfl
            simp only [Act.put, List.setIfInBounds_toArray, List.set_cons_zero, List.set_cons_succ, List.getElem_toArray, List.getElem_cons_zero, List.getElem_cons_succ]
            refine s_done (by kernel_rfl) ?_
            have HBN := Lib.hid (HD.out.trans (HC.out.below (B := wl.heap.size) (fun _ h => h.elim) hzw))
            clear HC HD HXX hzw HBW
            have HBW := HBN
            clear HBN
            generalize hw7 : z1 = w7 at *
            clear hw7
            obtain ⟨⟨r0, r1, r2⟩, ⟨r3, r4, r5⟩, ⟨u0, u1, u2⟩⟩ := HCR.out _ HBW.out
            go_simp
            go_wp2_with fail
            clear r0 r1 r2 r3 r4 r5 u0 u1 u2
            refine s_start (fun W => Kept (fun _ => False) (w7).drew W) [] (by kernel_rfl) ?_
            have HC := Lib.hid (Kept.refl (fun _ => False) (w7).drew)
            have HD := Lib.hid (HBW.out.drew)
            have hzw : wl.heap.size ≤ w7.drew.heap.size := HD.out.size
            have HXX := Lib.hid (fun W (hW : Kept (fun _ => False) w7.drew W) => (⟨(HCR.out W (HD.out.trans (hW.below (B := wl.heap.size) (fun _ h => h.elim) hzw))).1.1, (HCR.out W (HD.out.trans (hW.below (B := wl.heap.size) (fun _ h => h.elim) hzw))).1.2.1, (HCR.out W (HD.out.trans (hW.below (B := wl.heap.size) (fun _ h => h.elim) hzw))).1.2.2, (HCR.out W (HD.out.trans (hW.below (B := wl.heap.size) (fun _ h => h.elim) hzw))).2.1.1, (HCR.out W (HD.out.trans (hW.below (B := wl.heap.size) (fun _ h => h.elim) hzw))).2.1.2.1, (HCR.out W (HD.out.trans (hW.below (B := wl.heap.size) (fun _ h => h.elim) hzw))).2.1.2.2, (HCR.out W (HD.out.trans (hW.below (B := wl.heap.size) (fun _ h => h.elim) hzw))).2.2.1, (HCR.out W (HD.out.trans (hW.below (B := wl.heap.size) (fun _ h => h.elim) hzw))).2.2.2.1, (HCR.out W (HD.out.trans (hW.below (B := wl.heap.size) (fun _ h => h.elim) hzw))).2.2.2.2, (HD.out.trans (hW.below (B := wl.heap.size) (fun _ h => h.elim) hzw)).cell (p := ⟨b_m, o_m + j * 7, none⟩) hb_m |>.trans gm0, (HD.out.trans (hW.below (B := wl.heap.size) (fun _ h => h.elim) hzw)).cell (p := ⟨b_m, o_m + j * 7 + 1, none⟩) hb_m |>.trans gm1, (HD.out.trans (hW.below (B := wl.heap.size) (fun _ h => h.elim) hzw)).cell (p := ⟨b_m, o_m + j * 7 + 2, none⟩) hb_m |>.trans gm2, (HD.out.trans (hW.below (B := wl.heap.size) (fun _ h => h.elim) hzw)).cell (p := ⟨b_m, o_m + j * 7 + 3, none⟩) hb_m |>.trans gm3, (HD.out.trans (hW.below (B := wl.heap.size) (fun _ h => h.elim) hzw)).cell (p := ⟨b_m, o_m + j * 7 + 4, none⟩) hb_m |>.trans gm4, (HD.out.trans (hW.below (B := wl.heap.size) (fun _ h => h.elim) hzw)).cell (p := ⟨b_m, o_m + j * 7 + 5, none⟩) hb_m |>.trans gm5, (HD.out.trans (hW.below (B := wl.heap.size) (fun _ h => h.elim) hzw)).cell (p := ⟨b_m, o_m + j * 7 + 6, none⟩) hb_m |>.trans gm6, (HD.out.trans (hW.below (B := wl.heap.size) (fun _ h => h.elim) hzw)).cell (p := ⟨b_s, o_s + j * 7, none⟩) hb_s |>.trans gs0, (HD.out.trans (hW.below (B := wl.heap.size) (fun _ h => h.elim) hzw)).cell (p := ⟨b_s, o_s + j * 7 + 1, none⟩) hb_s |>.trans gs1, (HD.out.trans (hW.below (B := wl.heap.size) (fun _ h => h.elim) hzw)).cell (p := ⟨b_s, o_s + j * 7 + 2, none⟩) hb_s |>.trans gs2, (HD.out.trans (hW.below (B := wl.heap.size) (fun _ h => h.elim) hzw)).cell (p := ⟨b_s, o_s + j * 7 + 3, none⟩) hb_s |>.trans gs3, (HD.out.trans (hW.below (B := wl.heap.size) (fun _ h => h.elim) hzw)).cell (p := ⟨b_s, o_s + j * 7 + 4, none⟩) hb_s |>.trans gs4, (HD.out.trans (hW.below (B := wl.heap.size) (fun _ h => h.elim) hzw)).cell (p := ⟨b_s, o_s + j * 7 + 5, none⟩) hb_s |>.trans gs5, (HD.out.trans (hW.below (B := wl.heap.size) (fun _ h => h.elim) hzw)).cell (p := ⟨b_s, o_s + j * 7 + 6, none⟩) hb_s |>.trans gs6⟩ : _ ∧ _ ∧ _ ∧ _ ∧ _ ∧ _ ∧ _ ∧ _ ∧ _ ∧ _ ∧ _ ∧ _ ∧ _ ∧ _ ∧ _ ∧ _ ∧ _ ∧ _ ∧ _ ∧ _ ∧ _ ∧ _ ∧ _))
            generalize (w7).drew = y1 at *
            refine s_take (i := 0) (v := ?_) rfl (by kernel_rfl) (by kernel_rfl) (by kernel_rfl) (k0 := 0) (by kernel_rfl) (by kernel_rfl) (.inl rfl) (fun _ _ _ h => h) (by rfl) HC.out ?_ ?_
            rotate_left
            · intro W hW
              go_simp
              first | done | rfl
            simp only [Act.put, List.setIfInBounds_toArray, List.set_cons_zero, List.set_cons_succ, List.getElem_toArray, List.getElem_cons_zero]
            refine s_take (i := 1) (v := ?_) rfl (by kernel_rfl) (by kernel_rfl) (by kernel_rfl) (k0 := 1) (by kernel_rfl) (by kernel_rfl) (.inl rfl) (fun _ _ _ h => h) (by rfl) HC.out ?_ ?_
            rotate_left
            · intro W hW
              go_simp
              first | done | rfl
            simp only [Act.put, List.setIfInBounds_toArray, List.set_cons_zero, List.set_cons_succ, List.getElem_toArray, List.getElem_cons_zero, List.getElem_cons_succ]
            refine s_take (i := 2) (v := ?_) rfl (by kernel_rfl) (by kernel_rfl) (by kernel_rfl) (k0 := 2) (by kernel_rfl) (by kernel_rfl) (.inl rfl) (fun _ _ _ h => h) (by rfl) HC.out ?_ ?_
            rotate_left
            · intro W hW
              obtain ⟨r0, r1, r2, r3, r4, r5, u0, u1, u2, g0, g1, g2, g3, g4, g5, g6, f0, f1, f2, f3, f4, f5, f6⟩ := HXX.out _ hW
              go_simp
              first | done | rfl
            simp only [Act.put, List.setIfInBounds_toArray, List.set_cons_zero, List.set_cons_succ, List.getElem_toArray, List.getElem_cons_zero, List.getElem_cons_succ]
            refine s_take (i := 3) (v := ?_) rfl (by kernel_rfl) (by kernel_rfl) (by kernel_rfl) (k0 := 3) (by kernel_rfl) (by kernel_rfl) (.inl rfl) (fun _ _ _ h => h) (by rfl) HC.out ?_ ?_
            rotate_left
            · intro W hW
              go_simp
              first | done | rfl
            simp only [Act.put, List.setIfInBounds_toArray, List.set_cons_zero, List.set_cons_succ, List.getElem_toArray, List.getElem_cons_zero, List.getElem_cons_succ]
            refine s_take (i := 4) (v := ?_) rfl (by kernel_rfl) (by kernel_rfl) (by kernel_rfl) (k0 := 4) (by kernel_rfl) (by kernel_rfl) (.inl rfl) (fun _ _ _ h => h) (by rfl) HC.out ?_ ?_
            rotate_left
            · intro W hW
              go_simp
              first | done | rfl
            simp only [Act.put, List.setIfInBounds_toArray, List.set_cons_zero, List.set_cons_succ, List.getElem_toArray, List.getElem_cons_zero, List.getElem_cons_succ]
            refine s_take (i := 5) (v := ?_) rfl (by kernel_rfl) (by kernel_rfl) (by kernel_rfl) (k0 := 5) (by kernel_rfl) (by kernel_rfl) (.inl rfl) (fun _ _ _ h => h) (by rfl) HC.out ?_ ?_
            rotate_left
            · intro W hW
              go_simp
              first | done | rfl
            simp only [Act.put, List.setIfInBounds_toArray, List.set_cons_zero, List.set_cons_succ, List.getElem_toArray, List.getElem_cons_zero, List.getElem_cons_succ]
            refine s_take (i := 6) (v := ?_) rfl (by kernel_rfl) (by kernel_rfl) (by kernel_rfl) (k0 := 6) (by kernel_rfl) (by kernel_rfl) (.inl rfl) (fun _ _ _ h => h) (by rfl) HC.out ?_ ?_
            rotate_left
            · intro W hW
              go_simp
              first | done | rfl
            simp only [Act.put, List.setIfInBounds_toArray, List.set_cons_zero, List.set_cons_succ, List.getElem_toArray, List.getElem_cons_zero, List.getElem_cons_succ]
            refine s_take (i := 7) (v := ?_) rfl (by kernel_rfl) (by kernel_rfl) (by kernel_rfl) (k0 := 7) (by kernel_rfl) (by kernel_rfl) (.inl rfl) (fun _ _ _ h => h) (by rfl) HC.out ?_ ?_
            rotate_left
            · intro W hW
              obtain ⟨r0, r1, r2, r3, r4, r5, u0, u1, u2, g0, g1, g2, g3, g4, g5, g6, f0, f1, f2, f3, f4, f5, f6⟩ := HXX.out _ hW
              go_simp
              first | done | rfl
            simp only [Act.put, List.setIfInBounds_toArray, List.set_cons_zero, List.set_cons_succ, List.getElem_toArray, List.getElem_cons_zero, List.getElem_cons_succ]
            refine s_take (i := 8) (v := ?_) rfl (by kernel_rfl) (by kernel_rfl) (by kernel_rfl) (k0 := 8) (by kernel_rfl) (by kernel_rfl) (.inl rfl) (fun _ _ _ h => h) (by rfl) HC.out ?_ ?_
            rotate_left
            · intro W hW
              go_simp
              first | done | rfl
            simp only [Act.put, List.setIfInBounds_toArray, List.set_cons_zero, List.set_cons_succ, List.getElem_toArray, List.getElem_cons_zero, List.getElem_cons_succ]
            refine s_take (i := 9) (v := ?_) rfl (by kernel_rfl) (by kernel_rfl) (by kernel_rfl) (k0 := 9) (by kernel_rfl) (by kernel_rfl) (.inl rfl) (fun _ _ _ h => h) (by rfl) HC.out ?_ ?_
            rotate_left
            · intro W hW
              go_simp
              first | done | rfl
            simp only [Act.put, List.setIfInBounds_toArray, List.set_cons_zero, List.set_cons_succ, List.getElem_toArray, List.getElem_cons_zero, List.getElem_cons_succ]
            refine s_take (i := 10) (v := ?_) rfl (by kernel_rfl) (by kernel_rfl) (by kernel_rfl) (k0 := 10) (by kernel_rfl) (by kernel_rfl) (.inl rfl) (fun _ _ _ h => h) (by rfl) HC.out ?_ ?_
            rotate_left
            · intro W hW
              obtain ⟨r0, r1, r2, r3, r4, r5, u0, u1, u2, g0, g1, g2, g3, g4, g5, g6, f0, f1, f2, f3, f4, f5, f6⟩ := HXX.out _ hW
              go_simp
              first | done | rfl
            simp only [Act.put, List.setIfInBounds_toArray, List.set_cons_zero, List.set_cons_succ, List.getElem_toArray, List.getElem_cons_zero, List.getElem_cons_succ]
            refine s_take (i := 11) (v := ?_) rfl (by kernel_rfl) (by kernel_rfl) (by kernel_rfl) (k0 := 11) (by kernel_rfl) (by kernel_rfl) (.inl rfl) (fun _ _ _ h => h) (by rfl) HC.out ?_ ?_
            rotate_left
            · intro W hW
              go_simp
              first | done | rfl
            simp only [Act.put, List.setIfInBounds_toArray, List.set_cons_zero, List.set_cons_succ, List.getElem_toArray, List.getElem_cons_zero, List.getElem_cons_succ]
            refine s_take (i := 12) (v := ?_) rfl (by kernel_rfl) (by kernel_rfl) (by kernel_rfl) (k0 := 12) (by kernel_rfl) (by kernel_rfl) (.inl rfl) (fun _ _ _ h => h) (by rfl) HC.out ?_ ?_
            rotate_left
            · intro W hW
              obtain ⟨r0, r1, r2, r3, r4, r5, u0, u1, u2, g0, g1, g2, g3, g4, g5, g6, f0, f1, f2, f3, f4, f5, f6⟩ := HXX.out _ hW
              go_simp
              first | done | rfl
            simp only [Act.put, List.setIfInBounds_toArray, List.set_cons_zero, List.set_cons_succ, List.getElem_toArray, List.getElem_cons_zero, List.getElem_cons_succ]
            refine s_take (i := 13) (v := ?_) rfl (by kernel_rfl) (by kernel_rfl) (by kernel_rfl) (k0 := 13) (by kernel_rfl) (by kernel_rfl) (.inl rfl) (fun _ _ _ h => h) (by rfl) HC.out ?_ ?_
            rotate_left
            · intro W hW
              go_simp
              first | done | rfl
            simp only [Act.put, List.setIfInBounds_toArray, List.set_cons_zero, List.set_cons_succ, List.getElem_toArray, List.getElem_cons_zero, List.getElem_cons_succ]
            refine s_take (i := 14) (v := ?_) rfl (by kernel_rfl) (by kernel_rfl) (by kernel_rfl) (k0 := 14) (by kernel_rfl) (by kernel_rfl) (.inl rfl) (fun _ _ _ h => h) (by rfl) HC.out ?_ ?_
            rotate_left
            · intro W hW
              go_simp
              first | done | rfl
            simp only [Act.put, List.setIfInBounds_toArray, List.set_cons_zero, List.set_cons_succ, List.getElem_toArray, List.getElem_cons_zero, List.getElem_cons_succ]
            refine s_take (i := 15) (v := ?_) rfl (by kernel_rfl) (by kernel_rfl) (by kernel_rfl) (k0 := 15) (by kernel_rfl) (by kernel_rfl) (.inl rfl) (fun _ _ _ h => h) (by rfl) HC.out ?_ ?_
            rotate_left
            · intro W hW
              obtain ⟨r0, r1, r2, r3, r4, r5, u0, u1, u2, g0, g1, g2, g3, g4, g5, g6, f0, f1, f2, f3, f4, f5, f6⟩ := HXX.out _ hW
              go_simp
              first | done | rfl
            simp only [Act.put, List.setIfInBounds_toArray, List.set_cons_zero, List.set_cons_succ, List.getElem_toArray, List.getElem_cons_zero, List.getElem_cons_succ]
            refine s_take (i := 16) (v := ?_) rfl (by kernel_rfl) (by kernel_rfl) (by kernel_rfl) (k0 := 16) (by kernel_rfl) (by kernel_rfl) (.inl rfl) (fun _ _ _ h => h) (by rfl) HC.out ?_ ?_
            rotate_left
            · intro W hW
              skip -- eq7
              go_simp
              exact eq7 HQms.out W
            simp only [Act.put, List.setIfInBounds_toArray, List.set_cons_zero, List.set_cons_succ, List.getElem_toArray, List.getElem_cons_zero, List.getElem_cons_succ]
            refine s_take (i := 17) (v := ?_) rfl (by kernel_rfl) (by kernel_rfl) (by kernel_rfl) (k0 := 17) (by kernel_rfl) (by kernel_rfl) (.inl rfl) (fun _ _ _ h => h) (by rfl) HC.out ?_ ?_
            rotate_left
            · intro W hW
              go_simp
              first | done | rfl
            simp only [Act.put, List.setIfInBounds_toArray, List.set_cons_zero, List.set_cons_succ, List.getElem_toArray, List.getElem_cons_zero, List.getElem_cons_succ]
            refine s_take (i := 18) (v := ?_) rfl (by kernel_rfl) (by kernel_rfl) (by kernel_rfl) (k0 := 18) (by kernel_rfl) (by kernel_rfl) (.inl rfl) (fun _ _ _ h => h) (by rfl) HC.out ?_ ?_
            rotate_left
            · intro W hW
              go_simp
              first | done | rfl
            simp only [Act.put, List.setIfInBounds_toArray, List.set_cons_zero, List.set_cons_succ, List.getElem_toArray, List.getElem_cons_zero, List.getElem_cons_succ]
            refine s_done (by kernel_rfl) ?_
            have HBN := Lib.hid (HD.out.trans (HC.out.below (B := wl.heap.size) (fun _ h => h.elim) hzw))
            clear HC HD HXX hzw HBW
            have HBW := HBN
            clear HBN
            go_simp
            rcases qa with _ | _
            · rcases qb with _ | _
              · exact (HNO.out rfl rfl).elim
              · go_wp2_with fail
                exact ⟨⟨j + 1, by omega, by go_num, HBW.out⟩, by simp [intOf]; omega⟩
            · rcases qb with _ | _
              · go_wp2_with fail
                exact ⟨⟨j + 1, by omega, by go_num, HBW.out⟩, by simp [intOf]; omega⟩
              · go_wp2_with fail
                exact ⟨⟨j + 1, by omega, by go_num, HBW.out⟩, by simp [intOf]; omega⟩
          · have d1 : decide (j < n) = true := by simpa using hA
            have d2 : decide (j < k) = false := by simpa using hB
            have i2 : (j : Int) < (n : Int) := by omega
            have i3 : ¬ ((j : Int) < (k : Int)) := by omega
            have hin := HIN.out j hjs
            have hjl : j < l.length := by rw [HN.out]; exact hA
            obtain ⟨qa, hqa⟩ : ∃ q, q = decide (l[j] = s[j]) := ⟨_, rfl⟩
            have HQls := Lib.hid hqa
            have HNO := Lib.hid (show qa = false → False from fun e1 => by
              rcases hin with ⟨h1, h2⟩ | ⟨h1, h2⟩
              · rw [hqa] at e1; simp [h2] at e1
              · rw [HN2.out] at h1; omega)
            clear hin hqa
            obtain ⟨b_s, o_s, rfl, hb_s, gs0, gs1, gs2, gs3, gs4, gs5, gs6, -⟩ := HSl.out.entry j hjs
            obtain ⟨b_l, o_l, rfl, hb_l, gl0, gl1, gl2, gl3, gl4, gl5, gl6, -⟩ := HLw.out.entry j hjl
            generalize s[j] = xs at *
            generalize l[j] = xl at *
            obtain ⟨x0, x1, x2, x3, x4, x5, x6⟩ := xs
            obtain ⟨y0, y1, y2, y3, y4, y5, y6⟩ := xl
            dsimp only [ec] at *
            clear hjs hjl
            go_wp2_with fail
            clear r0 r1 r2 r3 r4 r5 u0 u1 u2
            refine s_start (fun W => Kept (fun _ => False) (wr).drew W) [] (by kernel_rfl) ?_
            have HC := Lib.hid (Kept.refl (fun _ => False) (wr).drew)
            have HD := Lib.hid (HBW.out.drew)
            have hzw : wl.heap.size ≤ wr.drew.heap.size := HD.out.size
            have HXX := Lib.hid (fun W (hW : Kept (fun _ => False) wr.drew W) => (⟨(HCR.out W (HD.out.trans (hW.below (B := wl.heap.size) (fun _ h => h.elim) hzw))).1.1, (HCR.out W (HD.out.trans (hW.below (B := wl.heap.size) (fun _ h => h.elim) hzw))).1.2.1, (HCR.out W (HD.out.trans (hW.below (B := wl.heap.size) (fun _ h => h.elim) hzw))).1.2.2, (HCR.out W (HD.out.trans (hW.below (B := wl.heap.size) (fun _ h => h.elim) hzw))).2.1.1, (HCR.out W (HD.out.trans (hW.below (B := wl.heap.size) (fun _ h => h.elim) hzw))).2.1.2.1, (HCR.out W (HD.out.trans (hW.below (B := wl.heap.size) (fun _ h => h.elim) hzw))).2.1.2.2, (HCR.out W (HD.out.trans (hW.below (B := wl.heap.size) (fun _ h => h.elim) hzw))).2.2.1, (HCR.out W (HD.out.trans (hW.below (B := wl.heap.size) (fun _ h => h.elim) hzw))).2.2.2.1, (HCR.out W (HD.out.trans (hW.below (B := wl.heap.size) (fun _ h => h.elim) hzw))).2.2.2.2, (HD.out.trans (hW.below (B := wl.heap.size) (fun _ h => h.elim) hzw)).cell (p := ⟨b_l, o_l + j * 7, none⟩) hb_l |>.trans gl0, (HD.out.trans (hW.below (B := wl.heap.size) (fun _ h => h.elim) hzw)).cell (p := ⟨b_l, o_l + j * 7 + 1, none⟩) hb_l |>.trans gl1, (HD.out.trans (hW.below (B := wl.heap.size) (fun _ h => h.elim) hzw)).cell (p := ⟨b_l, o_l + j * 7 + 2, none⟩) hb_l |>.trans gl2, (HD.out.trans (hW.below (B := wl.heap.size) (fun _ h => h.elim) hzw)).cell (p := ⟨b_l, o_l + j * 7 + 3, none⟩) hb_l |>.trans gl3, (HD.out.trans (hW.below (B := wl.heap.size) (fun _ h => h.elim) hzw)).cell (p := ⟨b_l, o_l + j * 7 + 4, none⟩) hb_l |>.trans gl4, (HD.out.trans (hW.below (B := wl.heap.size) (fun _ h => h.elim) hzw)).cell (p := ⟨b_l, o_l + j * 7 + 5, none⟩) hb_l |>.trans gl5, (HD.out.trans (hW.below (B := wl.heap.size) (fun _ h => h.elim) hzw)).cell (p := ⟨b_l, o_l + j * 7 + 6, none⟩) hb_l |>.trans gl6, (HD.out.trans (hW.below (B := wl.heap.size) (fun _ h => h.elim) hzw)).cell (p := ⟨b_s, o_s + j * 7, none⟩) hb_s |>.trans gs0, (HD.out.trans (hW.below (B := wl.heap.size) (fun _ h => h.elim) hzw)).cell (p := ⟨b_s, o_s + j * 7 + 1, none⟩) hb_s |>.trans gs1, (HD.out.trans (hW.below (B := wl.heap.size) (fun _ h => h.elim) hzw)).cell (p := ⟨b_s, o_s + j * 7 + 2, none⟩) hb_s |>.trans gs2, (HD.out.trans (hW.below (B := wl.heap.size) (fun _ h => h.elim) hzw)).cell (p := ⟨b_s, o_s + j * 7 + 3, none⟩) hb_s |>.trans gs3, (HD.out.trans (hW.below (B := wl.heap.size) (fun _ h => h.elim) hzw)).cell (p := ⟨b_s, o_s + j * 7 + 4, none⟩) hb_s |>.trans gs4, (HD.out.trans (hW.below (B := wl.heap.size) (fun _ h => h.elim) hzw)).cell (p := ⟨b_s, o_s + j * 7 + 5, none⟩) hb_s |>.trans gs5, (HD.out.trans (hW.below (B := wl.heap.size) (fun _ h => h.elim) hzw)).cell (p := ⟨b_s, o_s + j * 7 + 6, none⟩) hb_s |>.trans gs6⟩ : _ ∧ _ ∧ _ ∧ _ ∧ _ ∧ _ ∧ _ ∧ _ ∧ _ ∧ _ ∧ _ ∧ _ ∧ _ ∧ _ ∧ _ ∧ _ ∧ _ ∧ _ ∧ _ ∧ _ ∧ _ ∧ _ ∧ _))
            generalize (wr).drew = z1 at *
            refine s_take (i := 0) (v := ?_) rfl (by kernel_rfl) (by kernel_rfl) (by kernel_rfl) (k0 := 0) (by kernel_rfl) (by kernel_rfl) (.inl rfl) (fun _ _ _ h => h) (by rfl) HC.out ?_ ?_
            rotate_left
            · intro W hW
              go_simp
              first | done | rfl
            simp only [Act.put, List.setIfInBounds_toArray, List.set_cons_zero, List.set_cons_succ, List.getElem_toArray, List.getElem_cons_zero]
            refine s_take (i := 1) (v := ?_) rfl (by kernel_rfl) (by kernel_rfl) (by kernel_rfl) (k0 := 1) (by kernel_rfl) (by kernel_rfl) (.inl rfl) (fun _ _ _ h => h) (by rfl) HC.out ?_ ?_
            rotate_left
            · intro W hW
              go_simp
              first | done | rfl
            simp only [Act.put, List.setIfInBounds_toArray, List.set_cons_zero, List.set_cons_succ, List.getElem_toArray, List.getElem_cons_zero, List.getElem_cons_succ]
            refine s_take (i := 2) (v := ?_) rfl (by kernel_rfl) (by kernel_rfl) (by kernel_rfl) (k0 := 2) (by kernel_rfl) (by kernel_rfl) (.inl rfl) (fun _ _ _ h => h) (by rfl) HC.out ?_ ?_
            rotate_left
            · intro W hW
              obtain ⟨r0, r1, r2, r3, r4, r5, u0, u1, u2, g0, g1, g2, g3, g4, g5, g6, f0, f1, f2, f3, f4, f5, f6⟩ := HXX.out _ hW
              go_simp
              first | done | rfl
            simp only [Act.put, List.setIfInBounds_toArray, List.set_cons_zero, List.set_cons_succ, List.getElem_toArray, List.getElem_cons_zero, List.getElem_cons_succ]
            refine s_take (i := 3) (v := ?_) rfl (by kernel_rfl) (by kernel_rfl) (by kernel_rfl) (k0 := 3) (by kernel_rfl) (by kernel_rfl) (.inl rfl) (fun _ _ _ h => h) (by rfl) HC.out ?_ ?_
            rotate_left
            · intro W hW
              go_simp
              first | done | rfl
            simp only [Act.put, List.setIfInBounds_toArray, List.set_cons_zero, List.set_cons_succ, List.getElem_toArray, List.getElem_cons_zero, List.getElem_cons_succ]
            refine s_take (i := 4) (v := ?_) rfl (by kernel_rfl) (by kernel_rfl) (by kernel_rfl) (k0 := 4) (by kernel_rfl) (by kernel_rfl) (.inl rfl) (fun _ _ _ h => h) (by rfl) HC.out ?_ ?_
            rotate_left
            · intro W hW
              go_simp
              first | done | rfl
            simp only [Act.put, List.setIfInBounds_toArray, List.set_cons_zero, List.set_cons_succ, List.getElem_toArray, List.getElem_cons_zero, List.getElem_cons_succ]
            refine s_take (i := 5) (v := ?_) rfl (by kernel_rfl) (by kernel_rfl) (by kernel_rfl) (k0 := 5) (by kernel_rfl) (by kernel_rfl) (.inl rfl) (fun _ _ _ h => h) (by rfl) HC.out ?_ ?_
            rotate_left
            · intro W hW
              go_simp
              first | done | rfl
            simp only [Act.put, List.setIfInBounds_toArray, List.set_cons_zero, List.set_cons_succ, List.getElem_toArray, List.getElem_cons_zero, List.getElem_cons_succ]
            refine s_take (i := 6) (v := ?_) rfl (by kernel_rfl) (by kernel_rfl) (by kernel_rfl) (k0 := 6) (by kernel_rfl) (by kernel_rfl) (.inl rfl) (fun _ _ _ h => h) (by rfl) HC.out ?_ ?_
            rotate_left
            · intro W hW
              go_simp
              first | done | rfl
            simp only [Act.put, List.setIfInBounds_toArray, List.set_cons_zero, List.set_cons_succ, List.getElem_toArray, List.getElem_cons_zero, List.getElem_cons_succ]
            refine s_take (i := 7) (v := ?_) rfl (by kernel_rfl) (by kernel_rfl) (by kernel_rfl) (k0 := 7) (by kernel_rfl) (by kernel_rfl) (.inl rfl) (fun _ _ _ h => h) (by rfl) HC.out ?_ ?_
            rotate_left
            · intro W hW
              obtain ⟨r0, r1, r2, r3, r4, r5, u0, u1, u2, g0, g1, g2, g3, g4, g5, g6, f0, f1, f2, f3, f4, f5, f6⟩ := HXX.out _ hW
              go_simp
              first | done | rfl
            simp only [Act.put, List.setIfInBounds_toArray, List.set_cons_zero, List.set_cons_succ, List.getElem_toArray, List.getElem_cons_zero, List.getElem_cons_succ]
            refine s_take (i := 8) (v := ?_) rfl (by kernel_rfl) (by kernel_rfl) (by kernel_rfl) (k0 := 8) (by kernel_rfl) (by kernel_rfl) (.inl rfl) (fun _ _ _ h => h) (by rfl) HC.out ?_ ?_
            rotate_left
            · intro W hW
              go_simp
              first | done | rfl
            simp only [Act.put, List.setIfInBounds_toArray, List.set_cons_zero, List.set_cons_succ, List.getElem_toArray, List.getElem_cons_zero, List.getElem_cons_succ]
            refine s_take (i := 9) (v := ?_) rfl (by kernel_rfl) (by kernel_rfl) (by kernel_rfl) (k0 := 9) (by kernel_rfl) (by kernel_rfl) (.inl rfl) (fun _ _ _ h => h) (by rfl) HC.out ?_ ?_
            rotate_left
            · intro W hW
              go_simp
              first | done | rfl
            simp only [Act.put, List.setIfInBounds_toArray, List.set_cons_zero, List.set_cons_succ, List.getElem_toArray, List.getElem_cons_zero, List.getElem_cons_succ]
            refine s_take (i := 10) (v := ?_) rfl (by kernel_rfl) (by kernel_rfl) (by kernel_rfl) (k0 := 10) (by kernel_rfl) (by kernel_rfl) (.inl rfl) (fun _ _ _ h => h) (by rfl) HC.out ?_ ?_
            rotate_left
            · intro W hW
              obtain ⟨r0, r1, r2, r3, r4, r5, u0, u1, u2, g0, g1, g2, g3, g4, g5, g6, f0, f1, f2, f3, f4, f5, f6⟩ := HXX.out _ hW
              go_simp
              first | done | rfl
            simp only [Act.put, List.setIfInBounds_toArray, List.set_cons_zero, List.set_cons_succ, List.getElem_toArray, List.getElem_cons_zero, List.getElem_cons_succ]
            refine s_take (i := 11) (v := ?_) rfl (by kernel_rfl) (by kernel_rfl) (by kernel_rfl) (k0 := 11) (by kernel_rfl) (by kernel_rfl) (.inl rfl) (fun _ _ _ h => h) (by rfl) HC.out ?_ ?_
            rotate_left
            · intro W hW
              go_simp
              first | done | rfl
            simp only [Act.put, List.setIfInBounds_toArray, List.set_cons_zero, List.set_cons_succ, List.getElem_toArray, List.getElem_cons_zero, List.getElem_cons_succ]
            refine s_take (i := 12) (v := ?_) rfl (by kernel_rfl) (by kernel_rfl) (by kernel_rfl) (k0 := 12) (by kernel_rfl) (by kernel_rfl) (.inl rfl) (fun _ _ _ h => h) (by rfl) HC.out ?_ ?_
            rotate_left
            · intro W hW
              obtain ⟨r0, r1, r2, r3, r4, r5, u0, u1, u2, g0, g1, g2, g3, g4, g5, g6, f0, f1, f2, f3, f4, f5, f6⟩ := HXX.out _ hW
              go_simp
              first | done | rfl
            simp only [Act.put, List.setIfInBounds_toArray, List.set_cons_zero, List.set_cons_succ, List.getElem_toArray, List.getElem_cons_zero, List.getElem_cons_succ]
            refine s_take (i := 13) (v := ?_) rfl (by kernel_rfl) (by kernel_rfl) (by kernel_rfl) (k0 := 13) (by kernel_rfl) (by kernel_rfl) (.inl rfl) (fun _ _ _ h => h) (by rfl) HC.out ?_ ?_
            rotate_left
            · intro W hW
              go_simp
              first | done | rfl
            simp only [Act.put, List.setIfInBounds_toArray, List.set_cons_zero, List.set_cons_succ, List.getElem_toArray, List.getElem_cons_zero, List.getElem_cons_succ]
            refine s_take (i := 14) (v := ?_) rfl (by kernel_rfl) (by kernel_rfl) (by kernel_rfl) (k0 := 14) (by kernel_rfl) (by kernel_rfl) (.inl rfl) (fun _ _ _ h => h) (by rfl) HC.out ?_ ?_
            rotate_left
            · intro W hW
              go_simp
              first | done | rfl
            simp only [Act.put, List.setIfInBounds_toArray, List.set_cons_zero, List.set_cons_succ, List.getElem_toArray, List.getElem_cons_zero, List.getElem_cons_succ]
            refine s_take (i := 15) (v := ?_) rfl (by kernel_rfl) (by kernel_rfl) (by kernel_rfl) (k0 := 15) (by kernel_rfl) (by kernel_rfl) (.inl rfl) (fun _ _ _ h => h) (by rfl) HC.out ?_ ?_
            rotate_left
            · intro W hW
              obtain ⟨r0, r1, r2, r3, r4, r5, u0, u1, u2, g0, g1, g2, g3, g4, g5, g6, f0, f1, f2, f3, f4, f5, f6⟩ := HXX.out _ hW
              go_simp
              first | done | rfl
            simp only [Act.put, List.setIfInBounds_toArray, List.set_cons_zero, List.set_cons_succ, List.getElem_toArray, List.getElem_cons_zero, List.getElem_cons_succ]
            refine s_take (i := 16) (v := ?_) rfl (by kernel_rfl) (by kernel_rfl) (by kernel_rfl) (k0 := 16) (by kernel_rfl) (by kernel_rfl) (.inl rfl) (fun _ _ _ h => h) (by rfl) HC.out ?_ ?_
            rotate_left
            · intro W hW
              skip -- eq7
              go_simp
              exact eq7 HQls.out W
            simp only [Act.put, List.setIfInBounds_toArray, List.set_cons_zero, List.set_cons_succ, List.getElem_toArray, List.getElem_cons_zero, List.getElem_cons_succ]
            refine s_take (i := 17) (v := ?_) rfl (by kernel_rfl) (by kernel_rfl) (by kernel_rfl) (k0 := 17) (by kernel_rfl) (by kernel_rfl) (.inl rfl) (fun _ _ _ h => h) (by rfl) HC.out ?_ ?_
            rotate_left
            · intro W hW
              go_simp
              first | done | rfl
            simp only [Act.put, List.setIfInBounds_toArray, List.set_cons_zero, List.set_cons_succ, List.getElem_toArray, List.getElem_cons_zero, List.getElem_cons_succ]
            refine s_take (i := 18) (v := ?_) rfl (by kernel_rfl) (by kernel_rfl) (by kernel_rfl) (k0 := 18) (by kernel_rfl) (by kernel_rfl) (.inl rfl) (fun _ _ _ h => h) (by rfl) HC.out ?_ ?_
            rotate_left
            · intro W hW
              go_simp
              first | done | rfl
            simp only [Act.put, List.setIfInBounds_toArray, List.set_cons_zero, List.set_cons_succ, List.getElem_toArray, List.getElem_cons_zero, List.getElem_cons_succ]
            refine s_done (by kernel_rfl) ?_
            have HBN := Lib.hid (HD.out.trans (HC.out.below (B := wl.heap.size) (fun _ h => h.elim) hzw))
            clear HC HD HXX hzw HBW
            have HBW := HBN
            clear HBN
            generalize hw7 : z1 = w7 at *
            clear hw7
            obtain ⟨⟨r0, r1, r2⟩, ⟨r3, r4, r5⟩, ⟨u0, u1, u2⟩⟩ := HCR.out _ HBW.out
            go_simp
            go_wp2_with fail
            clear r0 r1 r2 r3 r4 r5 u0 u1 u2
            refine s_start (fun W => Kept (fun _ => False) (w7).drew W) [] (by kernel_rfl) ?_
            have HC := Lib.hid (Kept.refl (fun _ => False) (w7).drew)
            have HD := Lib.hid (HBW.out.drew)
            have hzw : wl.heap.size ≤ w7.drew.heap.size := HD.out.size
            have HXX := Lib.hid (fun W (hW : Kept (fun _ => False) w7.drew W) => (⟨(HCR.out W (HD.out.trans (hW.below (B := wl.heap.size) (fun _ h => h.elim) hzw))).1.1, (HCR.out W (HD.out.trans (hW.below (B := wl.heap.size) (fun _ h => h.elim) hzw))).1.2.1, (HCR.out W (HD.out.trans (hW.below (B := wl.heap.size) (fun _ h => h.elim) hzw))).1.2.2, (HCR.out W (HD.out.trans (hW.below (B := wl.heap.size) (fun _ h => h.elim) hzw))).2.1.1, (HCR.out W (HD.out.trans (hW.below (B := wl.heap.size) (fun _ h => h.elim) hzw))).2.1.2.1, (HCR.out W (HD.out.trans (hW.below (B := wl.heap.size) (fun _ h => h.elim) hzw))).2.1.2.2, (HCR.out W (HD.out.trans (hW.below (B := wl.heap.size) (fun _ h => h.elim) hzw))).2.2⟩ : _ ∧ _ ∧ _ ∧ _ ∧ _ ∧ _ ∧ _ ∧ _ ∧ _))
            generalize (w7).drew = y1 at *
            refine s_take (i := 0) (v := ?_) rfl (by kernel_rfl) (by kernel_rfl) (by kernel_rfl) (k0 := 0) (by kernel_rfl) (by kernel_rfl) (.inl rfl) (fun _ _ _ h => h) (by rfl) HC.out ?_ ?_
            rotate_left
            · intro W hW
              go_simp
              first | done | rfl
            simp only [Act.put, List.setIfInBounds_toArray, List.set_cons_zero, List.set_cons_succ, List.getElem_toArray, List.getElem_cons_zero]
            refine s_take (i := 1) (v := ?_) rfl (by kernel_rfl) (by kernel_rfl) (by kernel_rfl) (k0 := 1) (by kernel_rfl) (by kernel_rfl) (.inl rfl) (fun _ _ _ h => h) (by rfl) HC.out ?_ ?_
            rotate_left
            · intro W hW
              go_simp
              first | done | rfl
            simp only [Act.put, List.setIfInBounds_toArray, List.set_cons_zero, List.set_cons_succ, List.getElem_toArray, List.getElem_cons_zero, List.getElem_cons_succ]
            refine s_take (i := 2) (v := ?_) rfl (by kernel_rfl) (by kernel_rfl) (by kernel_rfl) (k0 := 2) (by kernel_rfl) (by kernel_rfl) (.inl rfl) (fun _ _ _ h => h) (by rfl) HC.out ?_ ?_
            rotate_left
            · intro W hW
              obtain ⟨r0, r1, r2, r3, r4, r5, u0, u1, u2⟩ := HXX.out _ hW
              go_simp
              first | done | rfl
            simp only [Act.put, List.setIfInBounds_toArray, List.set_cons_zero, List.set_cons_succ, List.getElem_toArray, List.getElem_cons_zero, List.getElem_cons_succ]
            refine s_take (i := 3) (v := ?_) rfl (by kernel_rfl) (by kernel_rfl) (by kernel_rfl) (k0 := 3) (by kernel_rfl) (by kernel_rfl) (.inl rfl) (fun _ _ _ h => h) (by rfl) HC.out ?_ ?_
            rotate_left
            · intro W hW
              go_simp
              first | done | rfl
            simp only [Act.put, List.setIfInBounds_toArray, List.set_cons_zero, List.set_cons_succ, List.getElem_toArray, List.getElem_cons_zero, List.getElem_cons_succ]
            refine s_take (i := 4) (v := ?_) rfl (by kernel_rfl) (by kernel_rfl) (by kernel_rfl) (k0 := 4) (by kernel_rfl) (by kernel_rfl) (.inl rfl) (fun _ _ _ h => h) (by rfl) HC.out ?_ ?_
            rotate_left
            · intro W hW
              go_simp
              first | done | rfl
            simp only [Act.put, List.setIfInBounds_toArray, List.set_cons_zero, List.set_cons_succ, List.getElem_toArray, List.getElem_cons_zero, List.getElem_cons_succ]
            refine s_take (i := 5) (v := ?_) rfl (by kernel_rfl) (by kernel_rfl) (by kernel_rfl) (k0 := 5) (by kernel_rfl) (by kernel_rfl) (.inl rfl) (fun _ _ _ h => h) (by rfl) HC.out ?_ ?_
            rotate_left
            · intro W hW
              go_simp
              first | done | rfl
            simp only [Act.put, List.setIfInBounds_toArray, List.set_cons_zero, List.set_cons_succ, List.getElem_toArray, List.getElem_cons_zero, List.getElem_cons_succ]
            refine s_skip (i := 6) rfl (by kernel_rfl) (by kernel_rfl) (by kernel_rfl) (k0 := 6) (by kernel_rfl) (by kernel_rfl) (.inl rfl) (fun _ _ _ h => h) (by rfl) HC.out ?_
            simp only [Act.put, List.setIfInBounds_toArray, List.set_cons_zero, List.set_cons_succ, List.getElem_toArray, List.getElem_cons_zero, List.getElem_cons_succ]
            refine s_skip (i := 7) rfl (by kernel_rfl) (by kernel_rfl) (by kernel_rfl) (k0 := 7) (by kernel_rfl) (by kernel_rfl) (.inl rfl) (fun _ _ _ h => h) (by rfl) HC.out ?_
            simp only [Act.put, List.setIfInBounds_toArray, List.set_cons_zero, List.set_cons_succ, List.getElem_toArray, List.getElem_cons_zero, List.getElem_cons_succ]
            refine s_skip (i := 8) rfl (by kernel_rfl) (by kernel_rfl) (by kernel_rfl) (k0 := 8) (by kernel_rfl) (by kernel_rfl) (.inl rfl) (fun _ _ _ h => h) (by rfl) HC.out ?_
            simp only [Act.put, List.setIfInBounds_toArray, List.set_cons_zero, List.set_cons_succ, List.getElem_toArray, List.getElem_cons_zero, List.getElem_cons_succ]
            refine s_skip (i := 9) rfl (by kernel_rfl) (by kernel_rfl) (by kernel_rfl) (k0 := 9) (by kernel_rfl) (by kernel_rfl) (.inl rfl) (fun _ _ _ h => h) (by rfl) HC.out ?_
            simp only [Act.put, List.setIfInBounds_toArray, List.set_cons_zero, List.set_cons_succ, List.getElem_toArray, List.getElem_cons_zero, List.getElem_cons_succ]
            refine s_skip (i := 10) rfl (by kernel_rfl) (by kernel_rfl) (by kernel_rfl) (k0 := 10) (by kernel_rfl) (by kernel_rfl) (.inl rfl) (fun _ _ _ h => h) (by rfl) HC.out ?_
            simp only [Act.put, List.setIfInBounds_toArray, List.set_cons_zero, List.set_cons_succ, List.getElem_toArray, List.getElem_cons_zero, List.getElem_cons_succ]
            refine s_skip (i := 11) rfl (by kernel_rfl) (by kernel_rfl) (by kernel_rfl) (k0 := 11) (by kernel_rfl) (by kernel_rfl) (.inl rfl) (fun _ _ _ h => h) (by rfl) HC.out ?_
            simp only [Act.put, List.setIfInBounds_toArray, List.set_cons_zero, List.set_cons_succ, List.getElem_toArray, List.getElem_cons_zero, List.getElem_cons_succ]
            refine s_skip (i := 12) rfl (by kernel_rfl) (by kernel_rfl) (by kernel_rfl) (k0 := 12) (by kernel_rfl) (by kernel_rfl) (.inl rfl) (fun _ _ _ h => h) (by rfl) HC.out ?_
            simp only [Act.put, List.setIfInBounds_toArray, List.set_cons_zero, List.set_cons_succ, List.getElem_toArray, List.getElem_cons_zero, List.getElem_cons_succ]
            refine s_skip (i := 13) rfl (by kernel_rfl) (by kernel_rfl) (by kernel_rfl) (k0 := 13) (by kernel_rfl) (by kernel_rfl) (.inl rfl) (fun _ _ _ h => h) (by rfl) HC.out ?_
            simp only [Act.put, List.setIfInBounds_toArray, List.set_cons_zero, List.set_cons_succ, List.getElem_toArray, List.getElem_cons_zero, List.getElem_cons_succ]
            refine s_skip (i := 14) rfl (by kernel_rfl) (by kernel_rfl) (by kernel_rfl) (k0 := 14) (by kernel_rfl) (by kernel_rfl) (.inl rfl) (fun _ _ _ h => h) (by rfl) HC.out ?_
            simp only [Act.put, List.setIfInBounds_toArray, List.set_cons_zero, List.set_cons_succ, List.getElem_toArray, List.getElem_cons_zero, List.getElem_cons_succ]
            refine s_skip (i := 15) rfl (by kernel_rfl) (by kernel_rfl) (by kernel_rfl) (k0 := 15) (by kernel_rfl) (by kernel_rfl) (.inl rfl) (fun _ _ _ h => h) (by rfl) HC.out ?_
            simp only [Act.put, List.setIfInBounds_toArray, List.set_cons_zero, List.set_cons_succ, List.getElem_toArray, List.getElem_cons_zero, List.getElem_cons_succ]
            refine s_skip (i := 16) rfl (by kernel_rfl) (by kernel_rfl) (by kernel_rfl) (k0 := 16) (by kernel_rfl) (by kernel_rfl) (.inl rfl) (fun _ _ _ h => h) (by rfl) HC.out ?_
            simp only [Act.put, List.setIfInBounds_toArray, List.set_cons_zero, List.set_cons_succ, List.getElem_toArray, List.getElem_cons_zero, List.getElem_cons_succ]
            refine s_take (i := 17) (v := ?_) rfl (by kernel_rfl) (by kernel_rfl) (by kernel_rfl) (k0 := 17) (by kernel_rfl) (by kernel_rfl) (.inl rfl) (fun _ _ _ h => h) (by rfl) HC.out ?_ ?_
            rotate_left
            · intro W hW
              go_simp
              first | done | rfl
            simp only [Act.put, List.setIfInBounds_toArray, List.set_cons_zero, List.set_cons_succ, List.getElem_toArray, List.getElem_cons_zero, List.getElem_cons_succ]
            refine s_take (i := 18) (v := ?_) rfl (by kernel_rfl) (by kernel_rfl) (by kernel_rfl) (k0 := 18) (by kernel_rfl) (by kernel_rfl) (.inl rfl) (fun _ _ _ h => h) (by rfl) HC.out ?_ ?_
            rotate_left
            · intro W hW
              go_simp
              first | done | rfl
            simp only [Act.put, List.setIfInBounds_toArray, List.set_cons_zero, List.set_cons_succ, List.getElem_toArray, List.getElem_cons_zero, List.getElem_cons_succ]
            refine s_done (by kernel_rfl) ?_
            have HBN := Lib.hid (HD.out.trans (HC.out.below (B := wl.heap.size) (fun _ h => h.elim) hzw))
            clear HC HD HXX hzw HBW
            have HBW := HBN
            clear HBN
            go_simp
            rcases qa with _ | _
            · exact (HNO.out rfl).elim
            · go_wp2_with fail
              exact ⟨⟨j + 1, by omega, by go_num, HBW.out⟩, by simp [intOf]; omega⟩
        · by_cases hB : j < k
          · have d1 : decide (j < n) = false := by simpa using hA
            have d2 : decide (j < k) = true := by simpa using hB
            have i2 : ¬ ((j : Int) < (n : Int)) := by omega
            have i3 : (j : Int) < (k : Int) := by omega
            have hin := HIN.out j hjs
            have hjm : j < m.length := by rw [HN2.out]; exact hB
            obtain ⟨qb, hqb⟩ : ∃ q, q = decide (m[j] = s[j]) := ⟨_, rfl⟩
            have HQms := Lib.hid hqb
            have HNO := Lib.hid (show qb = false → False from fun e2 => by
              rcases hin with ⟨h1, h2⟩ | ⟨h1, h2⟩
              · rw [HN.out] at h1; omega
              · rw [hqb] at e2; simp [h2] at e2)
            clear hin hqb
            obtain ⟨b_s, o_s, rfl, hb_s, gs0, gs1, gs2, gs3, gs4, gs5, gs6, -⟩ := HSl.out.entry j hjs
            obtain ⟨b_m, o_m, rfl, hb_m, gm0, gm1, gm2, gm3, gm4, gm5, gm6, -⟩ := HMw.out.entry j hjm
            generalize s[j] = xs at *
            generalize m[j] = xm at *
            obtain ⟨x0, x1, x2, x3, x4, x5, x6⟩ := xs
            obtain ⟨z0_, z1_, z2_, z3_, z4_, z5_, z6_⟩ := xm
            dsimp only [ec] at *
            clear hjs hjm
            go_wp2_with fail
            clear r0 r1 r2 r3 r4 r5 u0 u1 u2
            refine s_start (fun W => Kept (fun _ => False) (wr).drew W) [] (by kernel_rfl) ?_
            have HC := Lib.hid (Kept.refl (fun _ => False) (wr).drew)
            have HD := Lib.hid (HBW.out.drew)
            have hzw : wl.heap.size ≤ wr.drew.heap.size := HD.out.size
            have HXX := Lib.hid (fun W (hW : Kept (fun _ => False) wr.drew W) => (⟨(HCR.out W (HD.out.trans (hW.below (B := wl.heap.size) (fun _ h => h.elim) hzw))).1.1, (HCR.out W (HD.out.trans (hW.below (B := wl.heap.size) (fun _ h => h.elim) hzw))).1.2.1, (HCR.out W (HD.out.trans (hW.below (B := wl.heap.size) (fun _ h => h.elim) hzw))).1.2.2, (HCR.out W (HD.out.trans (hW.below (B := wl.heap.size) (fun _ h => h.elim) hzw))).2.1.1, (HCR.out W (HD.out.trans (hW.below (B := wl.heap.size) (fun _ h => h.elim) hzw))).2.1.2.1, (HCR.out W (HD.out.trans (hW.below (B := wl.heap.size) (fun _ h => h.elim) hzw))).2.1.2.2, (HCR.out W (HD.out.trans (hW.below (B := wl.heap.size) (fun _ h => h.elim) hzw))).2.2⟩ : _ ∧ _ ∧ _ ∧ _ ∧ _ ∧ _ ∧ _ ∧ _ ∧ _))
            generalize (wr).drew = z1 at *
            refine s_take (i := 0) (v := ?_) rfl (by kernel_rfl) (by kernel_rfl) (by kernel_rfl) (k0 := 0) (by kernel_rfl) (by kernel_rfl) (.inl rfl) (fun _ _ _ h => h) (by rfl) HC.out ?_ ?_
            rotate_left
            · intro W hW
              go_simp
              first | done | rfl
            simp only [Act.put, List.setIfInBounds_toArray, List.set_cons_zero, List.set_cons_succ, List.getElem_toArray, List.getElem_cons_zero]
            refine s_take (i := 1) (v := ?_) rfl (by kernel_rfl) (by kernel_rfl) (by kernel_rfl) (k0 := 1) (by kernel_rfl) (by kernel_rfl) (.inl rfl) (fun _ _ _ h => h) (by rfl) HC.out ?_ ?_
            rotate_left
            · intro W hW
              go_simp
              first | done | rfl
            simp only [Act.put, List.setIfInBounds_toArray, List.set_cons_zero, List.set_cons_succ, List.getElem_toArray, List.getElem_cons_zero, List.getElem_cons_succ]
            refine s_take (i := 2) (v := ?_) rfl (by kernel_rfl) (by kernel_rfl) (by kernel_rfl) (k0 := 2) (by kernel_rfl) (by kernel_rfl) (.inl rfl) (fun _ _ _ h => h) (by rfl) HC.out ?_ ?_
            rotate_left
            · intro W hW
              obtain ⟨r0, r1, r2, r3, r4, r5, u0, u1, u2⟩ := HXX.out _ hW
              go_simp
              first | done | rfl
            simp only [Act.put, List.setIfInBounds_toArray, List.set_cons_zero, List.set_cons_succ, List.getElem_toArray, List.getElem_cons_zero, List.getElem_cons_succ]
            refine s_take (i := 3) (v := ?_) rfl (by kernel_rfl) (by kernel_rfl) (by kernel_rfl) (k0 := 3) (by kernel_rfl) (by kernel_rfl) (.inl rfl) (fun _ _ _ h => h) (by rfl) HC.out ?_ ?_
            rotate_left
            · intro W hW
              go_simp
              first | done | rfl
            simp only [Act.put, List.setIfInBounds_toArray, List.set_cons_zero, List.set_cons_succ, List.getElem_toArray, List.getElem_cons_zero, List.getElem_cons_succ]
            refine s_take (i := 4) (v := ?_) rfl (by kernel_rfl) (by kernel_rfl) (by kernel_rfl) (k0 := 4) (by kernel_rfl) (by kernel_rfl) (.inl rfl) (fun _ _ _ h => h) (by rfl) HC.out ?_ ?_
            rotate_left
            · intro W hW
              go_simp
              first | done | rfl
            simp only [Act.put, List.setIfInBounds_toArray, List.set_cons_zero, List.set_cons_succ, List.getElem_toArray, List.getElem_cons_zero, List.getElem_cons_succ]
            refine s_take (i := 5) (v := ?_) rfl (by kernel_rfl) (by kernel_rfl) (by kernel_rfl) (k0 := 5) (by kernel_rfl) (by kernel_rfl) (.inl rfl) (fun _ _ _ h => h) (by rfl) HC.out ?_ ?_
            rotate_left
            · intro W hW
              go_simp
              first | done | rfl
            simp only [Act.put, List.setIfInBounds_toArray, List.set_cons_zero, List.set_cons_succ, List.getElem_toArray, List.getElem_cons_zero, List.getElem_cons_succ]
            refine s_skip (i := 6) rfl (by kernel_rfl) (by kernel_rfl) (by kernel_rfl) (k0 := 6) (by kernel_rfl) (by kernel_rfl) (.inl rfl) (fun _ _ _ h => h) (by rfl) HC.out ?_
            simp only [Act.put, List.setIfInBounds_toArray, List.set_cons_zero, List.set_cons_succ, List.getElem_toArray, List.getElem_cons_zero, List.getElem_cons_succ]
            refine s_skip (i := 7) rfl (by kernel_rfl) (by kernel_rfl) (by kernel_rfl) (k0 := 7) (by kernel_rfl) (by kernel_rfl) (.inl rfl) (fun _ _ _ h => h) (by rfl) HC.out ?_
            simp only [Act.put, List.setIfInBounds_toArray, List.set_cons_zero, List.set_cons_succ, List.getElem_toArray, List.getElem_cons_zero, List.getElem_cons_succ]
            refine s_skip (i := 8) rfl (by kernel_rfl) (by kernel_rfl) (by kernel_rfl) (k0 := 8) (by kernel_rfl) (by kernel_rfl) (.inl rfl) (fun _ _ _ h => h) (by rfl) HC.out ?_
            simp only [Act.put, List.setIfInBounds_toArray, List.set_cons_zero, List.set_cons_succ, List.getElem_toArray, List.getElem_cons_zero, List.getElem_cons_succ]
            refine s_skip (i := 9) rfl (by kernel_rfl) (by kernel_rfl) (by kernel_rfl) (k0 := 9) (by kernel_rfl) (by kernel_rfl) (.inl rfl) (fun _ _ _ h => h) (by rfl) HC.out ?_
            simp only [Act.put, List.setIfInBounds_toArray, List.set_cons_zero, List.set_cons_succ, List.getElem_toArray, List.getElem_cons_zero, List.getElem_cons_succ]
            refine s_skip (i := 10) rfl (by kernel_rfl) (by kernel_rfl) (by kernel_rfl) (k0 := 10) (by kernel_rfl) (by kernel_rfl) (.inl rfl) (fun _ _ _ h => h) (by rfl) HC.out ?_
            simp only [Act.put, List.setIfInBounds_toArray, List.set_cons_zero, List.set_cons_succ, List.getElem_toArray, List.getElem_cons_zero, List.getElem_cons_succ]
            refine s_skip (i := 11) rfl (by kernel_rfl) (by kernel_rfl) (by kernel_rfl) (k0 := 11) (by kernel_rfl) (by kernel_rfl) (.inl rfl) (fun _ _ _ h => h) (by rfl) HC.out ?_
            simp only [Act.put, List.setIfInBounds_toArray, List.set_cons_zero, List.set_cons_succ, List.getElem_toArray, List.getElem_cons_zero, List.getElem_cons_succ]
            refine s_skip (i := 12) rfl (by kernel_rfl) (by kernel_rfl) (by kernel_rfl) (k0 := 12) (by kernel_rfl) (by kernel_rfl) (.inl rfl) (fun _ _ _ h => h) (by rfl) HC.out ?_
            simp only [Act.put, List.setIfInBounds_toArray, List.set_cons_zero, List.set_cons_succ, List.getElem_toArray, List.getElem_cons_zero, List.getElem_cons_succ]
            refine s_skip (i := 13) rfl (by kernel_rfl) (by kernel_rfl) (by kernel_rfl) (k0 := 13) (by kernel_rfl) (by kernel_rfl) (.inl rfl) (fun _ _ _ h => h) (by rfl) HC.out ?_
            simp only [Act.put, List.setIfInBounds_toArray, List.set_cons_zero, List.set_cons_succ, List.getElem_toArray, List.getElem_cons_zero, List.getElem_cons_succ]
            refine s_skip (i := 14) rfl (by kernel_rfl) (by kernel_rfl) (by kernel_rfl) (k0 := 14) (by kernel_rfl) (by kernel_rfl) (.inl rfl) (fun _ _ _ h => h) (by rfl) HC.out ?_
            simp only [Act.put, List.setIfInBounds_toArray, List.set_cons_zero, List.set_cons_succ, List.getElem_toArray, List.getElem_cons_zero, List.getElem_cons_succ]
            refine s_skip (i := 15) rfl (by kernel_rfl) (by kernel_rfl) (by kernel_rfl) (k0 := 15) (by kernel_rfl) (by kernel_rfl) (.inl rfl) (fun _ _ _ h => h) (by rfl) HC.out ?_
            simp only [Act.put, List.setIfInBounds_toArray, List.set_cons_zero, List.set_cons_succ, List.getElem_toArray, List.getElem_cons_zero, List.getElem_cons_succ]
            refine s_skip (i := 16) rfl (by kernel_rfl) (by kernel_rfl) (by kernel_rfl) (k0 := 16) (by kernel_rfl) (by kernel_rfl) (.inl rfl) (fun _ _ _ h => h) (by rfl) HC.out ?_
            simp only [Act.put, List.setIfInBounds_toArray, List.set_cons_zero, List.set_cons_succ, List.getElem_toArray, List.getElem_cons_zero, List.getElem_cons_succ]
            refine s_take (i := 17) (v := ?_) rfl (by kernel_rfl) (by kernel_rfl) (by kernel_rfl) (k0 := 17) (by kernel_rfl) (by kernel_rfl) (.inl rfl) (fun _ _ _ h => h) (by rfl) HC.out ?_ ?_
            rotate_left
            · intro W hW
              go_simp
              first | done | rfl
            simp only [Act.put, List.setIfInBounds_toArray, List.set_cons_zero, List.set_cons_succ, List.getElem_toArray, List.getElem_cons_zero, List.getElem_cons_succ]
            refine s_take (i := 18) (v := ?_) rfl (by kernel_rfl) (by kernel_rfl) (by kernel_rfl) (k0 := 18) (by kernel_rfl) (by kernel_rfl) (.inl rfl) (fun _ _ _ h => h) (by rfl) HC.out ?_ ?_
            rotate_left
            · intro W hW
              go_simp
              first | done | rfl
            simp only [Act.put, List.setIfInBounds_toArray, List.set_cons_zero, List.set_cons_succ, List.getElem_toArray, List.getElem_cons_zero, List.getElem_cons_succ]
            refine s_done (by kernel_rfl) ?_
            have HBN := Lib.hid (HD.out.trans (HC.out.below (B := wl.heap.size) (fun _ h => h.elim) hzw))
            clear HC HD HXX hzw HBW
            have HBW := HBN
            clear HBN
            generalize hw7 : z1 = w7 at *
            clear hw7
            obtain ⟨⟨r0, r1, r2⟩, ⟨r3, r4, r5⟩, ⟨u0, u1, u2⟩⟩ := HCR.out _ HBW.out
            go_simp
            go_wp2_with fail
            clear r0 r1 r2 r3 r4 r5 u0 u1 u2
            refine s_start (fun W => Kept (fun _ => False) (w7).drew W) [] (by kernel_rfl) ?_
            have HC := Lib.hid (Kept.refl (fun _ => False) (w7).drew)
            have HD := Lib.hid (HBW.out.drew)
            have hzw : wl.heap.size ≤ w7.drew.heap.size := HD.out.size
            have HXX := Lib.hid (fun W (hW : Kept (fun _ => False) w7.drew W) => (⟨(HCR.out W (HD.out.trans (hW.below (B := wl.heap.size) (fun _ h => h.elim) hzw))).1.1, (HCR.out W (HD.out.trans (hW.below (B := wl.heap.size) (fun _ h => h.elim) hzw))).1.2.1, (HCR.out W (HD.out.trans (hW.below (B := wl.heap.size) (fun _ h => h.elim) hzw))).1.2.2, (HCR.out W (HD.out.trans (hW.below (B := wl.heap.size) (fun _ h => h.elim) hzw))).2.1.1, (HCR.out W (HD.out.trans (hW.below (B := wl.heap.size) (fun _ h => h.elim) hzw))).2.1.2.1, (HCR.out W (HD.out.trans (hW.below (B := wl.heap.size) (fun _ h => h.elim) hzw))).2.1.2.2, (HCR.out W (HD.out.trans (hW.below (B := wl.heap.size) (fun _ h => h.elim) hzw))).2.2.1, (HCR.out W (HD.out.trans (hW.below (B := wl.heap.size) (fun _ h => h.elim) hzw))).2.2.2.1, (HCR.out W (HD.out.trans (hW.below (B := wl.heap.size) (fun _ h => h.elim) hzw))).2.2.2.2, (HD.out.trans (hW.below (B := wl.heap.size) (fun _ h => h.elim) hzw)).cell (p := ⟨b_m, o_m + j * 7, none⟩) hb_m |>.trans gm0, (HD.out.trans (hW.below (B := wl.heap.size) (fun _ h => h.elim) hzw)).cell (p := ⟨b_m, o_m + j * 7 + 1, none⟩) hb_m |>.trans gm1, (HD.out.trans (hW.below (B := wl.heap.size) (fun _ h => h.elim) hzw)).cell (p := ⟨b_m, o_m + j * 7 + 2, none⟩) hb_m |>.trans gm2, (HD.out.trans (hW.below (B := wl.heap.size) (fun _ h => h.elim) hzw)).cell (p := ⟨b_m, o_m + j * 7 + 3, none⟩) hb_m |>.trans gm3, (HD.out.trans (hW.below (B := wl.heap.size) (fun _ h => h.elim) hzw)).cell (p := ⟨b_m, o_m + j * 7 + 4, none⟩) hb_m |>.trans gm4, (HD.out.trans (hW.below (B := wl.heap.size) (fun _ h => h.elim) hzw)).cell (p := ⟨b_m, o_m + j * 7 + 5, none⟩) hb_m |>.trans gm5, (HD.out.trans (hW.below (B := wl.heap.size) (fun _ h => h.elim) hzw)).cell (p := ⟨b_m, o_m + j * 7 + 6, none⟩) hb_m |>.trans gm6, (HD.out.trans (hW.below (B := wl.heap.size) (fun _ h => h.elim) hzw)).cell (p := ⟨b_s, o_s + j * 7, none⟩) hb_s |>.trans gs0, (HD.out.trans (hW.below (B := wl.heap.size) (fun _ h => h.elim) hzw)).cell (p := ⟨b_s, o_s + j * 7 + 1, none⟩) hb_s |>.trans gs1, (HD.out.trans (hW.below (B := wl.heap.size) (fun _ h => h.elim) hzw)).cell (p := ⟨b_s, o_s + j * 7 + 2, none⟩) hb_s |>.trans gs2, (HD.out.trans (hW.below (B := wl.heap.size) (fun _ h => h.elim) hzw)).cell (p := ⟨b_s, o_s + j * 7 + 3, none⟩) hb_s |>.trans gs3, (HD.out.trans (hW.below (B := wl.heap.size) (fun _ h => h.elim) hzw)).cell (p := ⟨b_s, o_s + j * 7 + 4, none⟩) hb_s |>.trans gs4, (HD.out.trans (hW.below (B := wl.heap.size) (fun _ h => h.elim) hzw)).cell (p := ⟨b_s, o_s + j * 7 + 5, none⟩) hb_s |>.trans gs5, (HD.out.trans (hW.below (B := wl.heap.size) (fun _ h => h.elim) hzw)).cell (p := ⟨b_s, o_s + j * 7 + 6, none⟩) hb_s |>.trans gs6⟩ : _ ∧ _ ∧ _ ∧ _ ∧ _ ∧ _ ∧ _ ∧ _ ∧ _ ∧ _ ∧ _ ∧ _ ∧ _ ∧ _ ∧ _ ∧ _ ∧ _ ∧ _ ∧ _ ∧ _ ∧ _ ∧ _ ∧ _))
            generalize (w7).drew = y1 at *
            refine s_take (i := 0) (v := ?_) rfl (by kernel_rfl) (by kernel_rfl) (by kernel_rfl) (k0 := 0) (by kernel_rfl) (by kernel_rfl) (.inl rfl) (fun _ _ _ h => h) (by rfl) HC.out ?_ ?_
            rotate_left
            · intro W hW
              go_simp
              first | done | rfl
            simp only [Act.put, List.setIfInBounds_toArray, List.set_cons_zero, List.set_cons_succ, List.getElem_toArray, List.getElem_cons_zero]
            refine s_take (i := 1) (v := ?_) rfl (by kernel_rfl) (by kernel_rfl) (by kernel_rfl) (k0 := 1) (by kernel_rfl) (by kernel_rfl) (.inl rfl) (fun _ _ _ h => h) (by rfl) HC.out ?_ ?_
            rotate_left
            · intro W hW
              go_simp
              first | done | rfl
            simp only [Act.put, List.setIfInBounds_toArray, List.set_cons_zero, List.set_cons_succ, List.getElem_toArray, List.getElem_cons_zero, List.getElem_cons_succ]
            refine s_take (i := 2) (v := ?_) rfl (by kernel_rfl) (by kernel_rfl) (by kernel_rfl) (k0 := 2) (by kernel_rfl) (by kernel_rfl) (.inl rfl) (fun _ _ _ h => h) (by rfl) HC.out ?_ ?_
            rotate_left
            · intro W hW
              obtain ⟨r0, r1, r2, r3, r4, r5, u0, u1, u2, g0, g1, g2, g3, g4, g5, g6, f0, f1, f2, f3, f4, f5, f6⟩ := HXX.out _ hW
              go_simp
              first | done | rfl
            simp only [Act.put, List.setIfInBounds_toArray, List.set_cons_zero, List.set_cons_succ, List.getElem_toArray, List.getElem_cons_zero, List.getElem_cons_succ]
            refine s_take (i := 3) (v := ?_) rfl (by kernel_rfl) (by kernel_rfl) (by kernel_rfl) (k0 := 3) (by kernel_rfl) (by kernel_rfl) (.inl rfl) (fun _ _ _ h => h) (by rfl) HC.out ?_ ?_
            rotate_left
            · intro W hW
              go_simp
              first | done | rfl
            simp only [Act.put, List.setIfInBounds_toArray, List.set_cons_zero, List.set_cons_succ, List.getElem_toArray, List.getElem_cons_zero, List.getElem_cons_succ]
            refine s_take (i := 4) (v := ?_) rfl (by kernel_rfl) (by kernel_rfl) (by kernel_rfl) (k0 := 4) (by kernel_rfl) (by kernel_rfl) (.inl rfl) (fun _ _ _ h => h) (by rfl) HC.out ?_ ?_
            rotate_left
            · intro W hW
              go_simp
              first | done | rfl
            simp only [Act.put, List.setIfInBounds_toArray, List.set_cons_zero, List.set_cons_succ, List.getElem_toArray, List.getElem_cons_zero, List.getElem_cons_succ]
            refine s_take (i := 5) (v := ?_) rfl (by kernel_rfl) (by kernel_rfl) (by kernel_rfl) (k0 := 5) (by kernel_rfl) (by kernel_rfl) (.inl rfl) (fun _ _ _ h => h) (by rfl) HC.out ?_ ?_
            rotate_left
            · intro W hW
              go_simp
              first | done | rfl
            simp only [Act.put, List.setIfInBounds_toArray, List.set_cons_zero, List.set_cons_succ, List.getElem_toArray, List.getElem_cons_zero, List.getElem_cons_succ]
            refine s_take (i := 6) (v := ?_) rfl (by kernel_rfl) (by kernel_rfl) (by kernel_rfl) (k0 := 6) (by kernel_rfl) (by kernel_rfl) (.inl rfl) (fun _ _ _ h => h) (by rfl) HC.out ?_ ?_
            rotate_left
            · intro W hW
              go_simp
              first | done | rfl
            simp only [Act.put, List.setIfInBounds_toArray, List.set_cons_zero, List.set_cons_succ, List.getElem_toArray, List.getElem_cons_zero, List.getElem_cons_succ]
            refine s_take (i := 7) (v := ?_) rfl (by kernel_rfl) (by kernel_rfl) (by kernel_rfl) (k0 := 7) (by kernel_rfl) (by kernel_rfl) (.inl rfl) (fun _ _ _ h => h) (by rfl) HC.out ?_ ?_
            rotate_left
            · intro W hW
              obtain ⟨r0, r1, r2, r3, r4, r5, u0, u1, u2, g0, g1, g2, g3, g4, g5, g6, f0, f1, f2, f3, f4, f5, f6⟩ := HXX.out _ hW
              go_simp
              first | done | rfl
            simp only [Act.put, List.setIfInBounds_toArray, List.set_cons_zero, List.set_cons_succ, List.getElem_toArray, List.getElem_cons_zero, List.getElem_cons_succ]
            refine s_take (i := 8) (v := ?_) rfl (by kernel_rfl) (by kernel_rfl) (by kernel_rfl) (k0 := 8) (by kernel_rfl) (by kernel_rfl) (.inl rfl) (fun _ _ _ h => h) (by rfl) HC.out ?_ ?_
            rotate_left
            · intro W hW
              go_simp
              first | done | rfl
            simp only [Act.put, List.setIfInBounds_toArray, List.set_cons_zero, List.set_cons_succ, List.getElem_toArray, List.getElem_cons_zero, List.getElem_cons_succ]
            refine s_take (i := 9) (v := ?_) rfl (by kernel_rfl) (by kernel_rfl) (by kernel_rfl) (k0 := 9) (by kernel_rfl) (by kernel_rfl) (.inl rfl) (fun _ _ _ h => h) (by rfl) HC.out ?_ ?_
            rotate_left
            · intro W hW
              go_simp
              first | done | rfl
            simp only [Act.put, List.setIfInBounds_toArray, List.set_cons_zero, List.set_cons_succ, List.getElem_toArray, List.getElem_cons_zero, List.getElem_cons_succ]
            refine s_take (i := 10) (v := ?_) rfl (by kernel_rfl) (by kernel_rfl) (by kernel_rfl) (k0 := 10) (by kernel_rfl) (by kernel_rfl) (.inl rfl) (fun _ _ _ h => h) (by rfl) HC.out ?_ ?_
            rotate_left
            · intro W hW
              obtain ⟨r0, r1, r2, r3, r4, r5, u0, u1, u2, g0, g1, g2, g3, g4, g5, g6, f0, f1, f2, f3, f4, f5, f6⟩ := HXX.out _ hW
              go_simp
              first | done | rfl
            simp only [Act.put, List.setIfInBounds_toArray, List.set_cons_zero, List.set_cons_succ, List.getElem_toArray, List.getElem_cons_zero, List.getElem_cons_succ]
            refine s_take (i := 11) (v := ?_) rfl (by kernel_rfl) (by kernel_rfl) (by kernel_rfl) (k0 := 11) (by kernel_rfl) (by kernel_rfl) (.inl rfl) (fun _ _ _ h => h) (by rfl) HC.out ?_ ?_
            rotate_left
            · intro W hW
              go_simp
              first | done | rfl
            simp only [Act.put, List.setIfInBounds_toArray, List.set_cons_zero, List.set_cons_succ, List.getElem_toArray, List.getElem_cons_zero, List.getElem_cons_succ]
            refine s_take (i := 12) (v := ?_) rfl (by kernel_rfl) (by kernel_rfl) (by kernel_rfl) (k0 := 12) (by kernel_rfl) (by kernel_rfl) (.inl rfl) (fun _ _ _ h => h) (by rfl) HC.out ?_ ?_
            rotate_left
            · intro W hW
              obtain ⟨r0, r1, r2, r3, r4, r5, u0, u1, u2, g0, g1, g2, g3, g4, g5, g6, f0, f1, f2, f3, f4, f5, f6⟩ := HXX.out _ hW
              go_simp
              first | done | rfl
            simp only [Act.put, List.setIfInBounds_toArray, List.set_cons_zero, List.set_cons_succ, List.getElem_toArray, List.getElem_cons_zero, List.getElem_cons_succ]
            refine s_take (i := 13) (v := ?_) rfl (by kernel_rfl) (by kernel_rfl) (by kernel_rfl) (k0 := 13) (by kernel_rfl) (by kernel_rfl) (.inl rfl) (fun _ _ _ h => h) (by rfl) HC.out ?_ ?_
            rotate_left
            · intro W hW
              go_simp
              first | done | rfl
            simp only [Act.put, List.setIfInBounds_toArray, List.set_cons_zero, List.set_cons_succ, List.getElem_toArray, List.getElem_cons_zero, List.getElem_cons_succ]
            refine s_take (i := 14) (v := ?_) rfl (by kernel_rfl) (by kernel_rfl) (by kernel_rfl) (k0 := 14) (by kernel_rfl) (by kernel_rfl) (.inl rfl) (fun _ _ _ h => h) (by rfl) HC.out ?_ ?_
            rotate_left
            · intro W hW
              go_simp
              first | done | rfl
            simp only [Act.put, List.setIfInBounds_toArray, List.set_cons_zero, List.set_cons_succ, List.getElem_toArray, List.getElem_cons_zero, List.getElem_cons_succ]
            refine s_take (i := 15) (v := ?_) rfl (by kernel_rfl) (by kernel_rfl) (by kernel_rfl) (k0 := 15) (by kernel_rfl) (by kernel_rfl) (.inl rfl) (fun _ _ _ h => h) (by rfl) HC.out ?_ ?_
            rotate_left
            · intro W hW
              obtain ⟨r0, r1, r2, r3, r4, r5, u0, u1, u2, g0, g1, g2, g3, g4, g5, g6, f0, f1, f2, f3, f4, f5, f6⟩ := HXX.out _ hW
              go_simp
              first | done | rfl
            simp only [Act.put, List.setIfInBounds_toArray, List.set_cons_zero, List.set_cons_succ, List.getElem_toArray, List.getElem_cons_zero, List.getElem_cons_succ]
            refine s_take (i := 16) (v := ?_) rfl (by kernel_rfl) (by kernel_rfl) (by kernel_rfl) (k0 := 16) (by kernel_rfl) (by kernel_rfl) (.inl rfl) (fun _ _ _ h => h) (by rfl) HC.out ?_ ?_
            rotate_left
            · intro W hW
              skip -- eq7
              go_simp
              exact eq7 HQms.out W
            simp only [Act.put, List.setIfInBounds_toArray, List.set_cons_zero, List.set_cons_succ, List.getElem_toArray, List.getElem_cons_zero, List.getElem_cons_succ]
            refine s_take (i := 17) (v := ?_) rfl (by kernel_rfl) (by kernel_rfl) (by kernel_rfl) (k0 := 17) (by kernel_rfl) (by kernel_rfl) (.inl rfl) (fun _ _ _ h => h) (by rfl) HC.out ?_ ?_
            rotate_left
            · intro W hW
              go_simp
              first | done | rfl
            simp only [Act.put, List.setIfInBounds_toArray, List.set_cons_zero, List.set_cons_succ, List.getElem_toArray, List.getElem_cons_zero, List.getElem_cons_succ]
            refine s_take (i := 18) (v := ?_) rfl (by kernel_rfl) (by kernel_rfl) (by kernel_rfl) (k0 := 18) (by kernel_rfl) (by kernel_rfl) (.inl rfl) (fun _ _ _ h => h) (by rfl) HC.out ?_ ?_
            rotate_left
            · intro W hW
              go_simp
              first | done | rfl
            simp only [Act.put, List.setIfInBounds_toArray, List.set_cons_zero, List.set_cons_succ, List.getElem_toArray, List.getElem_cons_zero, List.getElem_cons_succ]
            refine s_done (by kernel_rfl) ?_
            have HBN := Lib.hid (HD.out.trans (HC.out.below (B := wl.heap.size) (fun _ h => h.elim) hzw))
            clear HC HD HXX hzw HBW
            have HBW := HBN
            clear HBN
            go_simp
            rcases qb with _ | _
            · exact (HNO.out rfl).elim
            · go_wp2_with fail
              exact ⟨⟨j + 1, by omega, by go_num, HBW.out⟩, by simp [intOf]; omega⟩
          · have d1 : decide (j < n) = false := by simpa using hA
            have d2 : decide (j < k) = false := by simpa using hB
            have i2 : ¬ ((j : Int) < (n : Int)) := by omega
            have i3 : ¬ ((j : Int) < (k : Int)) := by omega
            have hin := HIN.out j hjs
            have HNO := Lib.hid (show False from  by
              rcases hin with ⟨h1, h2⟩ | ⟨h1, h2⟩
              · rw [HN.out] at h1; omega
              · rw [HN2.out] at h1; omega)
            clear hin
            exact HNO.out.elim
      · have d0 : ¬ ((j : Int) < (sn : Int)) := by omega
        go_wp2_with fail
        clear r0 r1 r2 r3 r4 r5 u0 u1 u2
        go_loopw [18] (fun i wr => ∃ j : Nat, Vl.agTo l m j ∧ i = .int .i64 (j : Int) ∧ Below wl.heap.size wl wr) (fun i _ => n - (intOf i).toNat)
        case atStart => exact ⟨0, Vl.agTo_zero l m, rfl, HBW.out⟩
        case round =>
          clear HBW hlt hj i1
          obtain ⟨e, hat, rfl, hb⟩ := hrel
          have HAT := Lib.hid hat
          have HBW := Lib.hid hb
          have hk1 : e ≤ n := by have := hat.1; rw [HN.out] at this; exact this
          have hk2 : e ≤ k := by have := hat.2.1; rw [HN2.out] at this; exact this
          clear hb hat
          have i1 : (0 : Int) ≤ (e : Int) := by omega
          by_cases hA : e < n
          · by_cases hB : e < k
            · have d1 : decide (e < n) = true := by simpa using hA
              have d2 : decide (e < k) = true := by simpa using hB
              have i2 : (e : Int) < (n : Int) := by omega
              have i3 : (e : Int) < (k : Int) := by omega
              have hjl : e < l.length := by rw [HN.out]; exact hA
              have hjm : e < m.length := by rw [HN2.out]; exact hB
              obtain ⟨qz, hqz⟩ : ∃ q, q = decide (l[e] = m[e]) := ⟨_, rfl⟩
              have HQlm := Lib.hid hqz
              have HEQ := Lib.hid (fun h : qz = true => Vl.agTo_step HAT.out hjl hjm (by rw [hqz] at h; exact of_decide_eq_true h))
              have HNE := Lib.hid (fun h : qz = false => (Vl.agTo_stop HAT.out (.inr (.inr ⟨hjl, hjm, by rw [hqz] at h; exact of_decide_eq_false h⟩))).symm.trans HR.out)
              clear hqz
              obtain ⟨b_l, o_l, rfl, hb_l, gl0, gl1, gl2, gl3, gl4, gl5, gl6, -⟩ := HLw.out.entry e hjl
              obtain ⟨b_m, o_m, rfl, hb_m, gm0, gm1, gm2, gm3, gm4, gm5, gm6, -⟩ := HMw.out.entry e hjm
              generalize l[e] = xl at *
              generalize m[e] = xm at *
              obtain ⟨y0, y1, y2, y3, y4, y5, y6⟩ := xl
              obtain ⟨x0, x1, x2, x3, x4, x5, x6⟩ := xm
              dsimp only [ec] at *
              clear hjl hjm
              go_wp2_with fail
              refine s_start (fun W => Kept (fun _ => False) (wr).drew W) [] (by kernel_rfl) ?_
              have HC := Lib.hid (Kept.refl (fun _ => False) (wr).drew)
              have HD := Lib.hid (HBW.out.drew)
              have hzw : wl.heap.size ≤ wr.drew.heap.size := HD.out.size
              have HXX := Lib.hid (fun W (hW : Kept (fun _ => False) wr.drew W) => (⟨(HCR.out W (HD.out.trans (hW.below (B := wl.heap.size) (fun _ h => h.elim) hzw))).1.1, (HCR.out W (HD.out.trans (hW.below (B := wl.heap.size) (fun _ h => h.elim) hzw))).1.2.1, (HCR.out W (HD.out.trans (hW.below (B := wl.heap.size) (fun _ h => h.elim) hzw))).1.2.2, (HCR.out W (HD.out.trans (hW.below (B := wl.heap.size) (fun _ h => h.elim) hzw))).2.1.1, (HCR.out W (HD.out.trans (hW.below (B := wl.heap.size) (fun _ h => h.elim) hzw))).2.1.2.1, (HCR.out W (HD.out.trans (hW.below (B := wl.heap.size) (fun _ h => h.elim) hzw))).2.1.2.2, (HCR.out W (HD.out.trans (hW.below (B := wl.heap.size) (fun _ h => h.elim) hzw))).2.2.1, (HCR.out W (HD.out.trans (hW.below (B := wl.heap.size) (fun _ h => h.elim) hzw))).2.2.2.1, (HCR.out W (HD.out.trans (hW.below (B := wl.heap.size) (fun _ h => h.elim) hzw))).2.2.2.2, (HD.out.trans (hW.below (B := wl.heap.size) (fun _ h => h.elim) hzw)).cell (p := ⟨b_l, o_l + e * 7, none⟩) hb_l |>.trans gl0, (HD.out.trans (hW.below (B := wl.heap.size) (fun _ h => h.elim) hzw)).cell (p := ⟨b_l, o_l + e * 7 + 1, none⟩) hb_l |>.trans gl1, (HD.out.trans (hW.below (B := wl.heap.size) (fun _ h => h.elim) hzw)).cell (p := ⟨b_l, o_l + e * 7 + 2, none⟩) hb_l |>.trans gl2, (HD.out.trans (hW.below (B := wl.heap.size) (fun _ h => h.elim) hzw)).cell (p := ⟨b_l, o_l + e * 7 + 3, none⟩) hb_l |>.trans gl3, (HD.out.trans (hW.below (B := wl.heap.size) (fun _ h => h.elim) hzw)).cell (p := ⟨b_l, o_l + e * 7 + 4, none⟩) hb_l |>.trans gl4, (HD.out.trans (hW.below (B := wl.heap.size) (fun _ h => h.elim) hzw)).cell (p := ⟨b_l, o_l + e * 7 + 5, none⟩) hb_l |>.trans gl5, (HD.out.trans (hW.below (B := wl.heap.size) (fun _ h => h.elim) hzw)).cell (p := ⟨b_l, o_l + e * 7 + 6, none⟩) hb_l |>.trans gl6, (HD.out.trans (hW.below (B := wl.heap.size) (fun _ h => h.elim) hzw)).cell (p := ⟨b_m, o_m + e * 7, none⟩) hb_m |>.trans gm0, (HD.out.trans (hW.below (B := wl.heap.size) (fun _ h => h.elim) hzw)).cell (p := ⟨b_m, o_m + e * 7 + 1, none⟩) hb_m |>.trans gm1, (HD.out.trans (hW.below (B := wl.heap.size) (fun _ h => h.elim) hzw)).cell (p := ⟨b_m, o_m + e * 7 + 2, none⟩) hb_m |>.trans gm2, (HD.out.trans (hW.below (B := wl.heap.size) (fun _ h => h.elim) hzw)).cell (p := ⟨b_m, o_m + e * 7 + 3, none⟩) hb_m |>.trans gm3, (HD.out.trans (hW.below (B := wl.heap.size) (fun _ h => h.elim) hzw)).cell (p := ⟨b_m, o_m + e * 7 + 4, none⟩) hb_m |>.trans gm4, (HD.out.trans (hW.below (B := wl.heap.size) (fun _ h => h.elim) hzw)).cell (p := ⟨b_m, o_m + e * 7 + 5, none⟩) hb_m |>.trans gm5, (HD.out.trans (hW.below (B := wl.heap.size) (fun _ h => h.elim) hzw)).cell (p := ⟨b_m, o_m + e * 7 + 6, none⟩) hb_m |>.trans gm6⟩ : _ ∧ _ ∧ _ ∧ _ ∧ _ ∧ _ ∧ _ ∧ _ ∧ _ ∧ _ ∧ _ ∧ _ ∧ _ ∧ _ ∧ _ ∧ _ ∧ _ ∧ _ ∧ _ ∧ _ ∧ _ ∧ _ ∧ _))
              generalize (wr).drew = z1 at *
              refine s_take (i := 0) (v := ?_) rfl (by kernel_rfl) (by kernel_rfl) (by kernel_rfl) (k0 := 0) (by kernel_rfl) (by kernel_rfl) (.inl rfl) (fun _ _ _ h => h) (by rfl) HC.out ?_ ?_
              rotate_left
              · intro W hW
                go_simp
                first | done | rfl
              simp only [Act.put, List.setIfInBounds_toArray, List.set_cons_zero, List.set_cons_succ, List.getElem_toArray, List.getElem_cons_zero]
              refine s_take (i := 1) (v := ?_) rfl (by kernel_rfl) (by kernel_rfl) (by kernel_rfl) (k0 := 1) (by kernel_rfl) (by kernel_rfl) (.inl rfl) (fun _ _ _ h => h) (by rfl) HC.out ?_ ?_
              rotate_left
              · intro W hW
                go_simp
                first | done | rfl
              simp only [Act.put, List.setIfInBounds_toArray, List.set_cons_zero, List.set_cons_succ, List.getElem_toArray, List.getElem_cons_zero, List.getElem_cons_succ]
              refine s_take (i := 2) (v := ?_) rfl (by kernel_rfl) (by kernel_rfl) (by kernel_rfl) (k0 := 2) (by kernel_rfl) (by kernel_rfl) (.inl rfl) (fun _ _ _ h => h) (by rfl) HC.out ?_ ?_
              rotate_left
              · intro W hW
                obtain ⟨r0, r1, r2, r3, r4, r5, u0, u1, u2, g0, g1, g2, g3, g4, g5, g6, f0, f1, f2, f3, f4, f5, f6⟩ := HXX.out _ hW
                go_simp
                first | done | rfl
              simp only [Act.put, List.setIfInBounds_toArray, List.set_cons_zero, List.set_cons_succ, List.getElem_toArray, List.getElem_cons_zero, List.getElem_cons_succ]
              refine s_take (i := 3) (v := ?_) rfl (by kernel_rfl) (by kernel_rfl) (by kernel_rfl) (k0 := 3) (by kernel_rfl) (by kernel_rfl) (.inl rfl) (fun _ _ _ h => h) (by rfl) HC.out ?_ ?_
              rotate_left
              · intro W hW
                go_simp
                first | done | rfl
              simp only [Act.put, List.setIfInBounds_toArray, List.set_cons_zero, List.set_cons_succ, List.getElem_toArray, List.getElem_cons_zero, List.getElem_cons_succ]
              refine s_take (i := 4) (v := ?_) rfl (by kernel_rfl) (by kernel_rfl) (by kernel_rfl) (k0 := 4) (by kernel_rfl) (by kernel_rfl) (.inl rfl) (fun _ _ _ h => h) (by rfl) HC.out ?_ ?_
              rotate_left
              · intro W hW
                go_simp
                first | done | rfl
              simp only [Act.put, List.setIfInBounds_toArray, List.set_cons_zero, List.set_cons_succ, List.getElem_toArray, List.getElem_cons_zero, List.getElem_cons_succ]
              refine s_take (i := 5) (v := ?_) rfl (by kernel_rfl) (by kernel_rfl) (by kernel_rfl) (k0 := 5) (by kernel_rfl) (by kernel_rfl) (.inl rfl) (fun _ _ _ h => h) (by rfl) HC.out ?_ ?_
              rotate_left
              · intro W hW
                go_simp
                first | done | rfl
              simp only [Act.put, List.setIfInBounds_toArray, List.set_cons_zero, List.set_cons_succ, List.getElem_toArray, List.getElem_cons_zero, List.getElem_cons_succ]
              refine s_take (i := 6) (v := ?_) rfl (by kernel_rfl) (by kernel_rfl) (by kernel_rfl) (k0 := 6) (by kernel_rfl) (by kernel_rfl) (.inl rfl) (fun _ _ _ h => h) (by rfl) HC.out ?_ ?_
              rotate_left
              · intro W hW
                go_simp
                first | done | rfl
              simp only [Act.put, List.setIfInBounds_toArray, List.set_cons_zero, List.set_cons_succ, List.getElem_toArray, List.getElem_cons_zero, List.getElem_cons_succ]
              refine s_take (i := 7) (v := ?_) rfl (by kernel_rfl) (by kernel_rfl) (by kernel_rfl) (k0 := 7) (by kernel_rfl) (by kernel_rfl) (.inl rfl) (fun _ _ _ h => h) (by rfl) HC.out ?_ ?_
              rotate_left
              · intro W hW
                go_simp
                first | done | rfl
              simp only [Act.put, List.setIfInBounds_toArray, List.set_cons_zero, List.set_cons_succ, List.getElem_toArray, List.getElem_cons_zero, List.getElem_cons_succ]
              refine s_take (i := 8) (v := ?_) rfl (by kernel_rfl) (by kernel_rfl) (by kernel_rfl) (k0 := 8) (by kernel_rfl) (by kernel_rfl) (.inl rfl) (fun _ _ _ h => h) (by rfl) HC.out ?_ ?_
              rotate_left
              · intro W hW
                obtain ⟨r0, r1, r2, r3, r4, r5, u0, u1, u2, g0, g1, g2, g3, g4, g5, g6, f0, f1, f2, f3, f4, f5, f6⟩ := HXX.out _ hW
                go_simp
                first | done | rfl
              simp only [Act.put, List.setIfInBounds_toArray, List.set_cons_zero, List.set_cons_succ, List.getElem_toArray, List.getElem_cons_zero, List.getElem_cons_succ]
              refine s_take (i := 9) (v := ?_) rfl (by kernel_rfl) (by kernel_rfl) (by kernel_rfl) (k0 := 9) (by kernel_rfl) (by kernel_rfl) (.inl rfl) (fun _ _ _ h => h) (by rfl) HC.out ?_ ?_
              rotate_left
              · intro W hW
                go_simp
                first | done | rfl
              simp only [Act.put, List.setIfInBounds_toArray, List.set_cons_zero, List.set_cons_succ, List.getElem_toArray, List.getElem_cons_zero, List.getElem_cons_succ]
              refine s_take (i := 10) (v := ?_) rfl (by kernel_rfl) (by kernel_rfl) (by kernel_rfl) (k0 := 10) (by kernel_rfl) (by kernel_rfl) (.inl rfl) (fun _ _ _ h => h) (by rfl) HC.out ?_ ?_
              rotate_left
              · intro W hW
                go_simp
                first | done | rfl
              simp only [Act.put, List.setIfInBounds_toArray, List.set_cons_zero, List.set_cons_succ, List.getElem_toArray, List.getElem_cons_zero, List.getElem_cons_succ]
              refine s_take (i := 11) (v := ?_) rfl (by kernel_rfl) (by kernel_rfl) (by kernel_rfl) (k0 := 11) (by kernel_rfl) (by kernel_rfl) (.inl rfl) (fun _ _ _ h => h) (by rfl) HC.out ?_ ?_
              rotate_left
              · intro W hW
                go_simp
                first | done | rfl
              simp only [Act.put, List.setIfInBounds_toArray, List.set_cons_zero, List.set_cons_succ, List.getElem_toArray, List.getElem_cons_zero, List.getElem_cons_succ]
              refine s_take (i := 12) (v := ?_) rfl (by kernel_rfl) (by kernel_rfl) (by kernel_rfl) (k0 := 12) (by kernel_rfl) (by kernel_rfl) (.inl rfl) (fun _ _ _ h => h) (by rfl) HC.out ?_ ?_
              rotate_left
              · intro W hW
                go_simp
                first | done | rfl
              simp only [Act.put, List.setIfInBounds_toArray, List.set_cons_zero, List.set_cons_succ, List.getElem_toArray, List.getElem_cons_zero, List.getElem_cons_succ]
              refine s_take (i := 13) (v := ?_) rfl (by kernel_rfl) (by kernel_rfl) (by kernel_rfl) (k0 := 13) (by kernel_rfl) (by kernel_rfl) (.inl rfl) (fun _ _ _ h => h) (by rfl) HC.out ?_ ?_
              rotate_left
              · intro W hW
                go_simp
                first | done | rfl
              simp only [Act.put, List.setIfInBounds_toArray, List.set_cons_zero, List.set_cons_succ, List.getElem_toArray, List.getElem_cons_zero, List.getElem_cons_succ]
              refine s_take (i := 14) (v := ?_) rfl (by kernel_rfl) (by kernel_rfl) (by kernel_rfl) (k0 := 14) (by kernel_rfl) (by kernel_rfl) (.inl rfl) (fun _ _ _ h => h) (by rfl) HC.out ?_ ?_
              rotate_left
              · intro W hW
                obtain ⟨r0, r1, r2, r3, r4, r5, u0, u1, u2, g0, g1, g2, g3, g4, g5, g6, f0, f1, f2, f3, f4, f5, f6⟩ := HXX.out _ hW
                go_simp
                first | done | rfl
              simp only [Act.put, List.setIfInBounds_toArray, List.set_cons_zero, List.set_cons_succ, List.getElem_toArray, List.getElem_cons_zero, List.getElem_cons_succ]
              refine s_take (i := 15) (v := ?_) rfl (by kernel_rfl) (by kernel_rfl) (by kernel_rfl) (k0 := 15) (by kernel_rfl) (by kernel_rfl) (.inl rfl) (fun _ _ _ h => h) (by rfl) HC.out ?_ ?_
              rotate_left
              · intro W hW
                go_simp
                first | done | rfl
              simp only [Act.put, List.setIfInBounds_toArray, List.set_cons_zero, List.set_cons_succ, List.getElem_toArray, List.getElem_cons_zero, List.getElem_cons_succ]
              refine s_take (i := 16) (v := ?_) rfl (by kernel_rfl) (by kernel_rfl) (by kernel_rfl) (k0 := 16) (by kernel_rfl) (by kernel_rfl) (.inl rfl) (fun _ _ _ h => h) (by rfl) HC.out ?_ ?_
              rotate_left
              · intro W hW
                go_simp
                first | done | rfl
              simp only [Act.put, List.setIfInBounds_toArray, List.set_cons_zero, List.set_cons_succ, List.getElem_toArray, List.getElem_cons_zero, List.getElem_cons_succ]
              refine s_take (i := 17) (v := ?_) rfl (by kernel_rfl) (by kernel_rfl) (by kernel_rfl) (k0 := 17) (by kernel_rfl) (by kernel_rfl) (.inl rfl) (fun _ _ _ h => h) (by rfl) HC.out ?_ ?_
              rotate_left
              · intro W hW
                obtain ⟨r0, r1, r2, r3, r4, r5, u0, u1, u2, g0, g1, g2, g3, g4, g5, g6, f0, f1, f2, f3, f4, f5, f6⟩ := HXX.out _ hW
                go_simp
                first | done | rfl
              simp only [Act.put, List.setIfInBounds_toArray, List.set_cons_zero, List.set_cons_succ, List.getElem_toArray, List.getElem_cons_zero, List.getElem_cons_succ]
              refine s_take (i := 18) (v := ?_) rfl (by kernel_rfl) (by kernel_rfl) (by kernel_rfl) (k0 := 18) (by kernel_rfl) (by kernel_rfl) (.inl rfl) (fun _ _ _ h => h) (by rfl) HC.out ?_ ?_
              rotate_left
              · intro W hW
                go_simp
                first | done | rfl
              simp only [Act.put, List.setIfInBounds_toArray, List.set_cons_zero, List.set_cons_succ, List.getElem_toArray, List.getElem_cons_zero, List.getElem_cons_succ]
              refine s_take (i := 19) (v := ?_) rfl (by kernel_rfl) (by kernel_rfl) (by kernel_rfl) (k0 := 19) (by kernel_rfl) (by kernel_rfl) (.inl rfl) (fun _ _ _ h => h) (by rfl) HC.out ?_ ?_
              rotate_left
              · intro W hW
                obtain ⟨r0, r1, r2, r3, r4, r5, u0, u1, u2, g0, g1, g2, g3, g4, g5, g6, f0, f1, f2, f3, f4, f5, f6⟩ := HXX.out _ hW
                go_simp
                first | done | rfl
              simp only [Act.put, List.setIfInBounds_toArray, List.set_cons_zero, List.set_cons_succ, List.getElem_toArray, List.getElem_cons_zero, List.getElem_cons_succ]
              refine s_take (i := 20) (v := ?_) rfl (by kernel_rfl) (by kernel_rfl) (by kernel_rfl) (k0 := 20) (by kernel_rfl) (by kernel_rfl) (.inl rfl) (fun _ _ _ h => h) (by rfl) HC.out ?_ ?_
              rotate_left
              · intro W hW
                go_simp
                first | done | rfl
              simp only [Act.put, List.setIfInBounds_toArray, List.set_cons_zero, List.set_cons_succ, List.getElem_toArray, List.getElem_cons_zero, List.getElem_cons_succ]
              refine s_take (i := 21) (v := ?_) rfl (by kernel_rfl) (by kernel_rfl) (by kernel_rfl) (k0 := 21) (by kernel_rfl) (by kernel_rfl) (.inl rfl) (fun _ _ _ h => h) (by rfl) HC.out ?_ ?_
              rotate_left
              · intro W hW
                go_simp
                first | done | rfl
              simp only [Act.put, List.setIfInBounds_toArray, List.set_cons_zero, List.set_cons_succ, List.getElem_toArray, List.getElem_cons_zero, List.getElem_cons_succ]
              refine s_take (i := 22) (v := ?_) rfl (by kernel_rfl) (by kernel_rfl) (by kernel_rfl) (k0 := 22) (by kernel_rfl) (by kernel_rfl) (.inl rfl) (fun _ _ _ h => h) (by rfl) HC.out ?_ ?_
              rotate_left
              · intro W hW
                obtain ⟨r0, r1, r2, r3, r4, r5, u0, u1, u2, g0, g1, g2, g3, g4, g5, g6, f0, f1, f2, f3, f4, f5, f6⟩ := HXX.out _ hW
                go_simp
                first | done | rfl
              simp only [Act.put, List.setIfInBounds_toArray, List.set_cons_zero, List.set_cons_succ, List.getElem_toArray, List.getElem_cons_zero, List.getElem_cons_succ]
              refine s_take (i := 23) (v := ?_) rfl (by kernel_rfl) (by kernel_rfl) (by kernel_rfl) (k0 := 23) (by kernel_rfl) (by kernel_rfl) (.inl rfl) (fun _ _ _ h => h) (by rfl) HC.out ?_ ?_
              rotate_left
              · intro W hW
                skip -- eq7
                go_simp
                exact eq7 HQlm.out W
              simp only [Act.put, List.setIfInBounds_toArray, List.set_cons_zero, List.set_cons_succ, List.getElem_toArray, List.getElem_cons_zero, List.getElem_cons_succ]
              refine s_take (i := 24) (v := ?_) rfl (by kernel_rfl) (by kernel_rfl) (by kernel_rfl) (k0 := 24) (by kernel_rfl) (by kernel_rfl) (.inl rfl) (fun _ _ _ h => h) (by rfl) HC.out ?_ ?_
              rotate_left
              · intro W hW
                go_simp
                first | done | rfl
              simp only [Act.put, List.setIfInBounds_toArray, List.set_cons_zero, List.set_cons_succ, List.getElem_toArray, List.getElem_cons_zero, List.getElem_cons_succ]
              refine s_done (by kernel_rfl) ?_
              have HBN := Lib.hid (HD.out.trans (HC.out.below (B := wl.heap.size) (fun _ h => h.elim) hzw))
              clear HC HD HXX hzw HBW
              have HBW := HBN
              clear HBN
              go_simp
              rcases qz with _ | _
              · have hae := HNE.out rfl
                have hge : (e : Int) ≤ (sn : Int) := by omega
                obtain ⟨-, -, ⟨u0, u1, u2⟩⟩ := HCR.out _ HBW.out
                go_wp2_with fail
                go_ret
                exact ⟨rfl, HB.out.trans (HBW.out.mono HB.out.size)⟩
              · go_wp2_with fail
                exact ⟨⟨e + 1, HEQ.out rfl, by go_num, HBW.out⟩, by simp [intOf]; omega⟩
            · have d1 : decide (e < n) = true := by simpa using hA
              have d2 : decide (e < k) = false := by simpa using hB
              have i2 : (e : Int) < (n : Int) := by omega
              have i3 : ¬ ((e : Int) < (k : Int)) := by omega
              have hae := (Vl.agTo_stop HAT.out (.inr (.inl (by rw [HN2.out]; omega)))).symm.trans HR.out
              have HAE := Lib.hid hae
              clear hae
              go_wp2_with fail
              refine s_start (fun W => Kept (fun _ => False) (wr).drew W) [] (by kernel_rfl) ?_
              have HC := Lib.hid (Kept.refl (fun _ => False) (wr).drew)
              have HD := Lib.hid (HBW.out.drew)
              have hzw : wl.heap.size ≤ wr.drew.heap.size := HD.out.size
              have HXX := Lib.hid (fun W (hW : Kept (fun _ => False) wr.drew W) => (⟨(HCR.out W (HD.out.trans (hW.below (B := wl.heap.size) (fun _ h => h.elim) hzw))).1.1, (HCR.out W (HD.out.trans (hW.below (B := wl.heap.size) (fun _ h => h.elim) hzw))).1.2.1, (HCR.out W (HD.out.trans (hW.below (B := wl.heap.size) (fun _ h => h.elim) hzw))).1.2.2, (HCR.out W (HD.out.trans (hW.below (B := wl.heap.size) (fun _ h => h.elim) hzw))).2.1.1, (HCR.out W (HD.out.trans (hW.below (B := wl.heap.size) (fun _ h => h.elim) hzw))).2.1.2.1, (HCR.out W (HD.out.trans (hW.below (B := wl.heap.size) (fun _ h => h.elim) hzw))).2.1.2.2, (HCR.out W (HD.out.trans (hW.below (B := wl.heap.size) (fun _ h => h.elim) hzw))).2.2⟩ : _ ∧ _ ∧ _ ∧ _ ∧ _ ∧ _ ∧ _ ∧ _ ∧ _))
              generalize (wr).drew = z1 at *
              refine s_take (i := 0) (v := ?_) rfl (by kernel_rfl) (by kernel_rfl) (by kernel_rfl) (k0 := 0) (by kernel_rfl) (by kernel_rfl) (.inl rfl) (fun _ _ _ h => h) (by rfl) HC.out ?_ ?_
              rotate_left
              · intro W hW
                go_simp
                first | done | rfl
              simp only [Act.put, List.setIfInBounds_toArray, List.set_cons_zero, List.set_cons_succ, List.getElem_toArray, List.getElem_cons_zero]
              refine s_take (i := 1) (v := ?_) rfl (by kernel_rfl) (by kernel_rfl) (by kernel_rfl) (k0 := 1) (by kernel_rfl) (by kernel_rfl) (.inl rfl) (fun _ _ _ h => h) (by rfl) HC.out ?_ ?_
              rotate_left
              · intro W hW
                go_simp
                first | done | rfl
              simp only [Act.put, List.setIfInBounds_toArray, List.set_cons_zero, List.set_cons_succ, List.getElem_toArray, List.getElem_cons_zero, List.getElem_cons_succ]
              refine s_take (i := 2) (v := ?_) rfl (by kernel_rfl) (by kernel_rfl) (by kernel_rfl) (k0 := 2) (by kernel_rfl) (by kernel_rfl) (.inl rfl) (fun _ _ _ h => h) (by rfl) HC.out ?_ ?_
              rotate_left
              · intro W hW
                obtain ⟨r0, r1, r2, r3, r4, r5, u0, u1, u2⟩ := HXX.out _ hW
                go_simp
                first | done | rfl
              simp only [Act.put, List.setIfInBounds_toArray, List.set_cons_zero, List.set_cons_succ, List.getElem_toArray, List.getElem_cons_zero, List.getElem_cons_succ]
              refine s_take (i := 3) (v := ?_) rfl (by kernel_rfl) (by kernel_rfl) (by kernel_rfl) (k0 := 3) (by kernel_rfl) (by kernel_rfl) (.inl rfl) (fun _ _ _ h => h) (by rfl) HC.out ?_ ?_
              rotate_left
              · intro W hW
                go_simp
                first | done | rfl
              simp only [Act.put, List.setIfInBounds_toArray, List.set_cons_zero, List.set_cons_succ, List.getElem_toArray, List.getElem_cons_zero, List.getElem_cons_succ]
              refine s_take (i := 4) (v := ?_) rfl (by kernel_rfl) (by kernel_rfl) (by kernel_rfl) (k0 := 4) (by kernel_rfl) (by kernel_rfl) (.inl rfl) (fun _ _ _ h => h) (by rfl) HC.out ?_ ?_
              rotate_left
              · intro W hW
                go_simp
                first | done | rfl
              simp only [Act.put, List.setIfInBounds_toArray, List.set_cons_zero, List.set_cons_succ, List.getElem_toArray, List.getElem_cons_zero, List.getElem_cons_succ]
              refine s_take (i := 5) (v := ?_) rfl (by kernel_rfl) (by kernel_rfl) (by kernel_rfl) (k0 := 5) (by kernel_rfl) (by kernel_rfl) (.inl rfl) (fun _ _ _ h => h) (by rfl) HC.out ?_ ?_
              rotate_left
              · intro W hW
                go_simp
                first | done | rfl
              simp only [Act.put, List.setIfInBounds_toArray, List.set_cons_zero, List.set_cons_succ, List.getElem_toArray, List.getElem_cons_zero, List.getElem_cons_succ]
              refine s_take (i := 6) (v := ?_) rfl (by kernel_rfl) (by kernel_rfl) (by kernel_rfl) (k0 := 6) (by kernel_rfl) (by kernel_rfl) (.inl rfl) (fun _ _ _ h => h) (by rfl) HC.out ?_ ?_
              rotate_left
              · intro W hW
                go_simp
                first | done | rfl
              simp only [Act.put, List.setIfInBounds_toArray, List.set_cons_zero, List.set_cons_succ, List.getElem_toArray, List.getElem_cons_zero, List.getElem_cons_succ]
              refine s_take (i := 7) (v := ?_) rfl (by kernel_rfl) (by kernel_rfl) (by kernel_rfl) (k0 := 7) (by kernel_rfl) (by kernel_rfl) (.inl rfl) (fun _ _ _ h => h) (by rfl) HC.out ?_ ?_
              rotate_left
              · intro W hW
                go_simp
                first | done | rfl
              simp only [Act.put, List.setIfInBounds_toArray, List.set_cons_zero, List.set_cons_succ, List.getElem_toArray, List.getElem_cons_zero, List.getElem_cons_succ]
              refine s_take (i := 8) (v := ?_) rfl (by kernel_rfl) (by kernel_rfl) (by kernel_rfl) (k0 := 8) (by kernel_rfl) (by kernel_rfl) (.inl rfl) (fun _ _ _ h => h) (by rfl) HC.out ?_ ?_
              rotate_left
              · intro W hW
                obtain ⟨r0, r1, r2, r3, r4, r5, u0, u1, u2⟩ := HXX.out _ hW
                go_simp
                first | done | rfl
              simp only [Act.put, List.setIfInBounds_toArray, List.set_cons_zero, List.set_cons_succ, List.getElem_toArray, List.getElem_cons_zero, List.getElem_cons_succ]
              refine s_take (i := 9) (v := ?_) rfl (by kernel_rfl) (by kernel_rfl) (by kernel_rfl) (k0 := 9) (by kernel_rfl) (by kernel_rfl) (.inl rfl) (fun _ _ _ h => h) (by rfl) HC.out ?_ ?_
              rotate_left
              · intro W hW
                go_simp
                first | done | rfl
              simp only [Act.put, List.setIfInBounds_toArray, List.set_cons_zero, List.set_cons_succ, List.getElem_toArray, List.getElem_cons_zero, List.getElem_cons_succ]
              refine s_take (i := 10) (v := ?_) rfl (by kernel_rfl) (by kernel_rfl) (by kernel_rfl) (k0 := 10) (by kernel_rfl) (by kernel_rfl) (.inl rfl) (fun _ _ _ h => h) (by rfl) HC.out ?_ ?_
              rotate_left
              · intro W hW
                go_simp
                first | done | rfl
              simp only [Act.put, List.setIfInBounds_toArray, List.set_cons_zero, List.set_cons_succ, List.getElem_toArray, List.getElem_cons_zero, List.getElem_cons_succ]
              refine s_take (i := 11) (v := ?_) rfl (by kernel_rfl) (by kernel_rfl) (by kernel_rfl) (k0 := 11) (by kernel_rfl) (by kernel_rfl) (.inl rfl) (fun _ _ _ h => h) (by rfl) HC.out ?_ ?_
              rotate_left
              · intro W hW
                go_simp
                first | done | rfl
              simp only [Act.put, List.setIfInBounds_toArray, List.set_cons_zero, List.set_cons_succ, List.getElem_toArray, List.getElem_cons_zero, List.getElem_cons_succ]
              refine s_take (i := 12) (v := ?_) rfl (by kernel_rfl) (by kernel_rfl) (by kernel_rfl) (k0 := 12) (by kernel_rfl) (by kernel_rfl) (.inl rfl) (fun _ _ _ h => h) (by rfl) HC.out ?_ ?_
              rotate_left
              · intro W hW
                go_simp
                first | done | rfl
              simp only [Act.put, List.setIfInBounds_toArray, List.set_cons_zero, List.set_cons_succ, List.getElem_toArray, List.getElem_cons_zero, List.getElem_cons_succ]
              refine s_skip (i := 13) rfl (by kernel_rfl) (by kernel_rfl) (by kernel_rfl) (k0 := 13) (by kernel_rfl) (by kernel_rfl) (.inl rfl) (fun _ _ _ h => h) (by rfl) HC.out ?_
              simp only [Act.put, List.setIfInBounds_toArray, List.set_cons_zero, List.set_cons_succ, List.getElem_toArray, List.getElem_cons_zero, List.getElem_cons_succ]
              refine s_skip (i := 14) rfl (by kernel_rfl) (by kernel_rfl) (by kernel_rfl) (k0 := 14) (by kernel_rfl) (by kernel_rfl) (.inl rfl) (fun _ _ _ h => h) (by rfl) HC.out ?_
              simp only [Act.put, List.setIfInBounds_toArray, List.set_cons_zero, List.set_cons_succ, List.getElem_toArray, List.getElem_cons_zero, List.getElem_cons_succ]
              refine s_skip (i := 15) rfl (by kernel_rfl) (by kernel_rfl) (by kernel_rfl) (k0 := 15) (by kernel_rfl) (by kernel_rfl) (.inl rfl) (fun _ _ _ h => h) (by rfl) HC.out ?_
              simp only [Act.put, List.setIfInBounds_toArray, List.set_cons_zero, List.set_cons_succ, List.getElem_toArray, List.getElem_cons_zero, List.getElem_cons_succ]
              refine s_skip (i := 16) rfl (by kernel_rfl) (by kernel_rfl) (by kernel_rfl) (k0 := 16) (by kernel_rfl) (by kernel_rfl) (.inl rfl) (fun _ _ _ h => h) (by rfl) HC.out ?_
              simp only [Act.put, List.setIfInBounds_toArray, List.set_cons_zero, List.set_cons_succ, List.getElem_toArray, List.getElem_cons_zero, List.getElem_cons_succ]
              refine s_skip (i := 17) rfl (by kernel_rfl) (by kernel_rfl) (by kernel_rfl) (k0 := 17) (by kernel_rfl) (by kernel_rfl) (.inl rfl) (fun _ _ _ h => h) (by rfl) HC.out ?_
              simp only [Act.put, List.setIfInBounds_toArray, List.set_cons_zero, List.set_cons_succ, List.getElem_toArray, List.getElem_cons_zero, List.getElem_cons_succ]
              refine s_skip (i := 18) rfl (by kernel_rfl) (by kernel_rfl) (by kernel_rfl) (k0 := 18) (by kernel_rfl) (by kernel_rfl) (.inl rfl) (fun _ _ _ h => h) (by rfl) HC.out ?_
              simp only [Act.put, List.setIfInBounds_toArray, List.set_cons_zero, List.set_cons_succ, List.getElem_toArray, List.getElem_cons_zero, List.getElem_cons_succ]
              refine s_skip (i := 19) rfl (by kernel_rfl) (by kernel_rfl) (by kernel_rfl) (k0 := 19) (by kernel_rfl) (by kernel_rfl) (.inl rfl) (fun _ _ _ h => h) (by rfl) HC.out ?_
              simp only [Act.put, List.setIfInBounds_toArray, List.set_cons_zero, List.set_cons_succ, List.getElem_toArray, List.getElem_cons_zero, List.getElem_cons_succ]
              refine s_skip (i := 20) rfl (by kernel_rfl) (by kernel_rfl) (by kernel_rfl) (k0 := 20) (by kernel_rfl) (by kernel_rfl) (.inl rfl) (fun _ _ _ h => h) (by rfl) HC.out ?_
              simp only [Act.put, List.setIfInBounds_toArray, List.set_cons_zero, List.set_cons_succ, List.getElem_toArray, List.getElem_cons_zero, List.getElem_cons_succ]
              refine s_skip (i := 21) rfl (by kernel_rfl) (by kernel_rfl) (by kernel_rfl) (k0 := 21) (by kernel_rfl) (by kernel_rfl) (.inl rfl) (fun _ _ _ h => h) (by rfl) HC.out ?_
              simp only [Act.put, List.setIfInBounds_toArray, List.set_cons_zero, List.set_cons_succ, List.getElem_toArray, List.getElem_cons_zero, List.getElem_cons_succ]
              refine s_skip (i := 22) rfl (by kernel_rfl) (by kernel_rfl) (by kernel_rfl) (k0 := 22) (by kernel_rfl) (by kernel_rfl) (.inl rfl) (fun _ _ _ h => h) (by rfl) HC.out ?_
              simp only [Act.put, List.setIfInBounds_toArray, List.set_cons_zero, List.set_cons_succ, List.getElem_toArray, List.getElem_cons_zero, List.getElem_cons_succ]
              refine s_skip (i := 23) rfl (by kernel_rfl) (by kernel_rfl) (by kernel_rfl) (k0 := 23) (by kernel_rfl) (by kernel_rfl) (.inl rfl) (fun _ _ _ h => h) (by rfl) HC.out ?_
              simp only [Act.put, List.setIfInBounds_toArray, List.set_cons_zero, List.set_cons_succ, List.getElem_toArray, List.getElem_cons_zero, List.getElem_cons_succ]
              refine s_take (i := 24) (v := ?_) rfl (by kernel_rfl) (by kernel_rfl) (by kernel_rfl) (k0 := 24) (by kernel_rfl) (by kernel_rfl) (.inl rfl) (fun _ _ _ h => h) (by rfl) HC.out ?_ ?_
              rotate_left
              · intro W hW
                go_simp
                first | done | rfl
              simp only [Act.put, List.setIfInBounds_toArray, List.set_cons_zero, List.set_cons_succ, List.getElem_toArray, List.getElem_cons_zero, List.getElem_cons_succ]
              refine s_done (by kernel_rfl) ?_
              have HBN := Lib.hid (HD.out.trans (HC.out.below (B := wl.heap.size) (fun _ h => h.elim) hzw))
              clear HC HD HXX hzw HBW
              have HBW := HBN
              clear HBN
              go_simp
              have hae := HAE.out
              have hge : (e : Int) ≤ (sn : Int) := by omega
              obtain ⟨-, -, ⟨u0, u1, u2⟩⟩ := HCR.out _ HBW.out
              go_wp2_with fail
              go_ret
              exact ⟨rfl, HB.out.trans (HBW.out.mono HB.out.size)⟩
          · have d1 : decide (e < n) = false := by simpa using hA
            have i2 : ¬ ((e : Int) < (n : Int)) := by omega
            have hae := (Vl.agTo_stop HAT.out (.inl (by rw [HN.out]; omega))).symm.trans HR.out
            have HAE := Lib.hid hae
            clear hae
            go_wp2_with fail
            refine s_start (fun W => Kept (fun _ => False) (wr).drew W) [] (by kernel_rfl) ?_
            have HC := Lib.hid (Kept.refl (fun _ => False) (wr).drew)
            have HD := Lib.hid (HBW.out.drew)
            have hzw : wl.heap.size ≤ wr.drew.heap.size := HD.out.size
            have HXX := Lib.hid (fun W (hW : Kept (fun _ => False) wr.drew W) => (⟨(HCR.out W (HD.out.trans (hW.below (B := wl.heap.size) (fun _ h => h.elim) hzw))).1.1, (HCR.out W (HD.out.trans (hW.below (B := wl.heap.size) (fun _ h => h.elim) hzw))).1.2.1, (HCR.out W (HD.out.trans (hW.below (B := wl.heap.size) (fun _ h => h.elim) hzw))).1.2.2, (HCR.out W (HD.out.trans (hW.below (B := wl.heap.size) (fun _ h => h.elim) hzw))).2.1.1, (HCR.out W (HD.out.trans (hW.below (B := wl.heap.size) (fun _ h => h.elim) hzw))).2.1.2.1, (HCR.out W (HD.out.trans (hW.below (B := wl.heap.size) (fun _ h => h.elim) hzw))).2.1.2.2, (HCR.out W (HD.out.trans (hW.below (B := wl.heap.size) (fun _ h => h.elim) hzw))).2.2⟩ : _ ∧ _ ∧ _ ∧ _ ∧ _ ∧ _ ∧ _ ∧ _ ∧ _))
            generalize (wr).drew = z1 at *
            refine s_take (i := 0) (v := ?_) rfl (by kernel_rfl) (by kernel_rfl) (by kernel_rfl) (k0 := 0) (by kernel_rfl) (by kernel_rfl) (.inl rfl) (fun _ _ _ h => h) (by rfl) HC.out ?_ ?_
            rotate_left
            · intro W hW
              go_simp
              first | done | rfl
            simp only [Act.put, List.setIfInBounds_toArray, List.set_cons_zero, List.set_cons_succ, List.getElem_toArray, List.getElem_cons_zero]
            refine s_take (i := 1) (v := ?_) rfl (by kernel_rfl) (by kernel_rfl) (by kernel_rfl) (k0 := 1) (by kernel_rfl) (by kernel_rfl) (.inl rfl) (fun _ _ _ h => h) (by rfl) HC.out ?_ ?_
            rotate_left
            · intro W hW
              go_simp
              first | done | rfl
            simp only [Act.put, List.setIfInBounds_toArray, List.set_cons_zero, List.set_cons_succ, List.getElem_toArray, List.getElem_cons_zero, List.getElem_cons_succ]
            refine s_take (i := 2) (v := ?_) rfl (by kernel_rfl) (by kernel_rfl) (by kernel_rfl) (k0 := 2) (by kernel_rfl) (by kernel_rfl) (.inl rfl) (fun _ _ _ h => h) (by rfl) HC.out ?_ ?_
            rotate_left
            · intro W hW
              obtain ⟨r0, r1, r2, r3, r4, r5, u0, u1, u2⟩ := HXX.out _ hW
              go_simp
              first | done | rfl
            simp only [Act.put, List.setIfInBounds_toArray, List.set_cons_zero, List.set_cons_succ, List.getElem_toArray, List.getElem_cons_zero, List.getElem_cons_succ]
            refine s_take (i := 3) (v := ?_) rfl (by kernel_rfl) (by kernel_rfl) (by kernel_rfl) (k0 := 3) (by kernel_rfl) (by kernel_rfl) (.inl rfl) (fun _ _ _ h => h) (by rfl) HC.out ?_ ?_
            rotate_left
            · intro W hW
              go_simp
              first | done | rfl
            simp only [Act.put, List.setIfInBounds_toArray, List.set_cons_zero, List.set_cons_succ, List.getElem_toArray, List.getElem_cons_zero, List.getElem_cons_succ]
            refine s_take (i := 4) (v := ?_) rfl (by kernel_rfl) (by kernel_rfl) (by kernel_rfl) (k0 := 4) (by kernel_rfl) (by kernel_rfl) (.inl rfl) (fun _ _ _ h => h) (by rfl) HC.out ?_ ?_
            rotate_left
            · intro W hW
              go_simp
              first | done | rfl
            simp only [Act.put, List.setIfInBounds_toArray, List.set_cons_zero, List.set_cons_succ, List.getElem_toArray, List.getElem_cons_zero, List.getElem_cons_succ]
            refine s_take (i := 5) (v := ?_) rfl (by kernel_rfl) (by kernel_rfl) (by kernel_rfl) (k0 := 5) (by kernel_rfl) (by kernel_rfl) (.inl rfl) (fun _ _ _ h => h) (by rfl) HC.out ?_ ?_
            rotate_left
            · intro W hW
              go_simp
              first | done | rfl
            simp only [Act.put, List.setIfInBounds_toArray, List.set_cons_zero, List.set_cons_succ, List.getElem_toArray, List.getElem_cons_zero, List.getElem_cons_succ]
            refine s_skip (i := 6) rfl (by kernel_rfl) (by kernel_rfl) (by kernel_rfl) (k0 := 6) (by kernel_rfl) (by kernel_rfl) (.inl rfl) (fun _ _ _ h => h) (by rfl) HC.out ?_
            simp only [Act.put, List.setIfInBounds_toArray, List.set_cons_zero, List.set_cons_succ, List.getElem_toArray, List.getElem_cons_zero, List.getElem_cons_succ]
            refine s_skip (i := 7) rfl (by kernel_rfl) (by kernel_rfl) (by kernel_rfl) (k0 := 7) (by kernel_rfl) (by kernel_rfl) (.inl rfl) (fun _ _ _ h => h) (by rfl) HC.out ?_
            simp only [Act.put, List.setIfInBounds_toArray, List.set_cons_zero, List.set_cons_succ, List.getElem_toArray, List.getElem_cons_zero, List.getElem_cons_succ]
            refine s_skip (i := 8) rfl (by kernel_rfl) (by kernel_rfl) (by kernel_rfl) (k0 := 8) (by kernel_rfl) (by kernel_rfl) (.inl rfl) (fun _ _ _ h => h) (by rfl) HC.out ?_
            simp only [Act.put, List.setIfInBounds_toArray, List.set_cons_zero, List.set_cons_succ, List.getElem_toArray, List.getElem_cons_zero, List.getElem_cons_succ]
            refine s_skip (i := 9) rfl (by kernel_rfl) (by kernel_rfl) (by kernel_rfl) (k0 := 9) (by kernel_rfl) (by kernel_rfl) (.inl rfl) (fun _ _ _ h => h) (by rfl) HC.out ?_
            simp only [Act.put, List.setIfInBounds_toArray, List.set_cons_zero, List.set_cons_succ, List.getElem_toArray, List.getElem_cons_zero, List.getElem_cons_succ]
            refine s_skip (i := 10) rfl (by kernel_rfl) (by kernel_rfl) (by kernel_rfl) (k0 := 10) (by kernel_rfl) (by kernel_rfl) (.inl rfl) (fun _ _ _ h => h) (by rfl) HC.out ?_
            simp only [Act.put, List.setIfInBounds_toArray, List.set_cons_zero, List.set_cons_succ, List.getElem_toArray, List.getElem_cons_zero, List.getElem_cons_succ]
            refine s_take (i := 11) (v := ?_) rfl (by kernel_rfl) (by kernel_rfl) (by kernel_rfl) (k0 := 11) (by kernel_rfl) (by kernel_rfl) (.inl rfl) (fun _ _ _ h => h) (by rfl) HC.out ?_ ?_
            rotate_left
            · intro W hW
              go_simp
              first | done | rfl
            simp only [Act.put, List.setIfInBounds_toArray, List.set_cons_zero, List.set_cons_succ, List.getElem_toArray, List.getElem_cons_zero, List.getElem_cons_succ]
            refine s_take (i := 12) (v := ?_) rfl (by kernel_rfl) (by kernel_rfl) (by kernel_rfl) (k0 := 12) (by kernel_rfl) (by kernel_rfl) (.inl rfl) (fun _ _ _ h => h) (by rfl) HC.out ?_ ?_
            rotate_left
            · intro W hW
              go_simp
              first | done | rfl
            simp only [Act.put, List.setIfInBounds_toArray, List.set_cons_zero, List.set_cons_succ, List.getElem_toArray, List.getElem_cons_zero, List.getElem_cons_succ]
            refine s_skip (i := 13) rfl (by kernel_rfl) (by kernel_rfl) (by kernel_rfl) (k0 := 13) (by kernel_rfl) (by kernel_rfl) (.inl rfl) (fun _ _ _ h => h) (by rfl) HC.out ?_
            simp only [Act.put, List.setIfInBounds_toArray, List.set_cons_zero, List.set_cons_succ, List.getElem_toArray, List.getElem_cons_zero, List.getElem_cons_succ]
            refine s_skip (i := 14) rfl (by kernel_rfl) (by kernel_rfl) (by kernel_rfl) (k0 := 14) (by kernel_rfl) (by kernel_rfl) (.inl rfl) (fun _ _ _ h => h) (by rfl) HC.out ?_
            simp only [Act.put, List.setIfInBounds_toArray, List.set_cons_zero, List.set_cons_succ, List.getElem_toArray, List.getElem_cons_zero, List.getElem_cons_succ]
            refine s_skip (i := 15) rfl (by kernel_rfl) (by kernel_rfl) (by kernel_rfl) (k0 := 15) (by kernel_rfl) (by kernel_rfl) (.inl rfl) (fun _ _ _ h => h) (by rfl) HC.out ?_
            simp only [Act.put, List.setIfInBounds_toArray, List.set_cons_zero, List.set_cons_succ, List.getElem_toArray, List.getElem_cons_zero, List.getElem_cons_succ]
            refine s_skip (i := 16) rfl (by kernel_rfl) (by kernel_rfl) (by kernel_rfl) (k0 := 16) (by kernel_rfl) (by kernel_rfl) (.inl rfl) (fun _ _ _ h => h) (by rfl) HC.out ?_
            simp only [Act.put, List.setIfInBounds_toArray, List.set_cons_zero, List.set_cons_succ, List.getElem_toArray, List.getElem_cons_zero, List.getElem_cons_succ]
            refine s_skip (i := 17) rfl (by kernel_rfl) (by kernel_rfl) (by kernel_rfl) (k0 := 17) (by kernel_rfl) (by kernel_rfl) (.inl rfl) (fun _ _ _ h => h) (by rfl) HC.out ?_
            simp only [Act.put, List.setIfInBounds_toArray, List.set_cons_zero, List.set_cons_succ, List.getElem_toArray, List.getElem_cons_zero, List.getElem_cons_succ]
            refine s_skip (i := 18) rfl (by kernel_rfl) (by kernel_rfl) (by kernel_rfl) (k0 := 18) (by kernel_rfl) (by kernel_rfl) (.inl rfl) (fun _ _ _ h => h) (by rfl) HC.out ?_
            simp only [Act.put, List.setIfInBounds_toArray, List.set_cons_zero, List.set_cons_succ, List.getElem_toArray, List.getElem_cons_zero, List.getElem_cons_succ]
            refine s_skip (i := 19) rfl (by kernel_rfl) (by kernel_rfl) (by kernel_rfl) (k0 := 19) (by kernel_rfl) (by kernel_rfl) (.inl rfl) (fun _ _ _ h => h) (by rfl) HC.out ?_
            simp only [Act.put, List.setIfInBounds_toArray, List.set_cons_zero, List.set_cons_succ, List.getElem_toArray, List.getElem_cons_zero, List.getElem_cons_succ]
            refine s_skip (i := 20) rfl (by kernel_rfl) (by kernel_rfl) (by kernel_rfl) (k0 := 20) (by kernel_rfl) (by kernel_rfl) (.inl rfl) (fun _ _ _ h => h) (by rfl) HC.out ?_
            simp only [Act.put, List.setIfInBounds_toArray, List.set_cons_zero, List.set_cons_succ, List.getElem_toArray, List.getElem_cons_zero, List.getElem_cons_succ]
            refine s_skip (i := 21) rfl (by kernel_rfl) (by kernel_rfl) (by kernel_rfl) (k0 := 21) (by kernel_rfl) (by kernel_rfl) (.inl rfl) (fun _ _ _ h => h) (by rfl) HC.out ?_
            simp only [Act.put, List.setIfInBounds_toArray, List.set_cons_zero, List.set_cons_succ, List.getElem_toArray, List.getElem_cons_zero, List.getElem_cons_succ]
            refine s_skip (i := 22) rfl (by kernel_rfl) (by kernel_rfl) (by kernel_rfl) (k0 := 22) (by kernel_rfl) (by kernel_rfl) (.inl rfl) (fun _ _ _ h => h) (by rfl) HC.out ?_
            simp only [Act.put, List.setIfInBounds_toArray, List.set_cons_zero, List.set_cons_succ, List.getElem_toArray, List.getElem_cons_zero, List.getElem_cons_succ]
            refine s_skip (i := 23) rfl (by kernel_rfl) (by kernel_rfl) (by kernel_rfl) (k0 := 23) (by kernel_rfl) (by kernel_rfl) (.inl rfl) (fun _ _ _ h => h) (by rfl) HC.out ?_
            simp only [Act.put, List.setIfInBounds_toArray, List.set_cons_zero, List.set_cons_succ, List.getElem_toArray, List.getElem_cons_zero, List.getElem_cons_succ]
            refine s_take (i := 24) (v := ?_) rfl (by kernel_rfl) (by kernel_rfl) (by kernel_rfl) (k0 := 24) (by kernel_rfl) (by kernel_rfl) (.inl rfl) (fun _ _ _ h => h) (by rfl) HC.out ?_ ?_
            rotate_left
            · intro W hW
              go_simp
              first | done | rfl
            simp only [Act.put, List.setIfInBounds_toArray, List.set_cons_zero, List.set_cons_succ, List.getElem_toArray, List.getElem_cons_zero, List.getElem_cons_succ]
            refine s_done (by kernel_rfl) ?_
            have HBN := Lib.hid (HD.out.trans (HC.out.below (B := wl.heap.size) (fun _ h => h.elim) hzw))
            clear HC HD HXX hzw HBW
            have HBW := HBN
            clear HBN
            go_simp
            have hae := HAE.out
            have hge : (e : Int) ≤ (sn : Int) := by omega
            obtain ⟨-, -, ⟨u0, u1, u2⟩⟩ := HCR.out _ HBW.out
            go_wp2_with fail
            go_ret
            exact ⟨rfl, HB.out.trans (HBW.out.mono HB.out.size)⟩
end Go.Proofs.YtcacebkbfnnjbaaDoor
