/-
  What any bytes keep, and how many of them, is what the reference says: what the law's text comes to.
-/
import Derived.Test.YtcacebkbfnnjbaaDoorV30
import Derived.Test.YtcacebkbfnnjbaaDoorV32
import Derived.Test.YtcacebkbfnnjbaaDoorV34
import Derived.Test.YtcacebkbfnnjbaaDoorV39
namespace Go.Proofs.YtcacebkbfnnjbaaDoor
open Go.RowKit

set_option maxRecDepth 100000 in
set_option maxHeartbeats 4000000 in
theorem reads_law (w : World) (hT : Tab w) (v : Value) (l : List UInt8) (hv : Sl w w.heap.size v l) :
    Calls Tryd.prog 4 #[v] w fun e w' => e = .returned (.bool true) ∧ Below w.heap.size w w' := by
  obtain ⟨A, c, rfl, _, hm⟩ := hv.form
  unfold maxLen at hm
  have HK := Lib.hid (awake_any w hT)
  by_cases hout : 8000 < l.length
  · clear hv hT
    generalize l.length = n at *
    go_enter Tryd.func4, Tryd.ntmps4
    go_wp2_with fail
    refine HK.out.mono ?_
    rintro e w1 ⟨rfl, hb1⟩
    go_wp2_with fail
    go_ret
    exact ⟨rfl, hb1⟩
  · have HR := Lib.hid (fun W (h : Below w.heap.size w W) => rd_any _ l (by omega) W w.heap.size h.size (hv.below h) (hT.below h hT.pos))
    have HRR := Lib.hid (fun W (h : Below w.heap.size w W) => rrd_any _ l (by omega) W w.heap.size h.size (hv.below h))
    have hgd := (Vl.read_good l).2
    clear hv hT
    generalize Vl.read l = r at *
    obtain ⟨⟨⟨t, vo⟩, s⟩, u⟩ := r
    simp only at hgd
    have HS := Lib.hid (fun W v1 v2 (h1 : Sl W W.heap.size v1 s) (h2 : Sl W W.heap.size v2 s) => logs_any 0 0 v1 v2 s W W.heap.size (Nat.le_refl _) h1 h2)
    have HM := Lib.hid (fun W v1 (h1 : Sl W W.heap.size v1 s) => may_any 0 0 v1 s W W.heap.size (Nat.le_refl _) h1)
    rw [hgd] at HM
    clear hgd
    have e1 : ((u : Int) == (u : Int)) = true := by simp
    generalize l.length = n at *
    go_enter Tryd.func4, Tryd.ntmps4
    go_wp2_with fail
    refine HK.out.mono ?_
    rintro e w1 ⟨rfl, hb1⟩
    have HB1 := Lib.hid hb1
    clear hb1 HK
    go_wp2_with fail
    refine (HR.out _ HB1.out).mono ?_
    rintro e w2 ⟨A2, c2, rfl, ho2, hb2⟩
    simp only at ho2 ⊢
    generalize hsn : s.length = sn at *
    have HSN := Lib.hid hsn
    clear hsn
    have hb3 := hb2.alloc hb2.size (.cells #[.int .i64 t, .int .i64 vo] 30)
    replace hb3 := hb3.alloc hb3.size (.cells #[.int .i64 0, .int .i64 0, .slice A2 sn c2] 38)
    have HO2 := Lib.hid ((ho2.alloc (.cells #[.int .i64 t, .int .i64 vo] 30)).alloc (.cells #[.int .i64 0, .int .i64 0, .slice A2 sn c2] 38))
    have HX1 := Lib.hid ((Whole.new w2 30 #[.int .i64 t, .int .i64 vo]).alloc (.cells #[.int .i64 0, .int .i64 0, .slice A2 sn c2] 38))
    have HX2 := Lib.hid (Whole.new1 w2 (.cells #[.int .i64 t, .int .i64 vo] 30) 38 #[.int .i64 0, .int .i64 0, .slice A2 sn c2])
    have HB3 := Lib.hid (HB1.out.trans (hb3.mono HB1.out.size))
    clear ho2 hb2 hb3 HR HB1
    go_wp2_with fail
    refine (HRR.out _ HB3.out).mono ?_
    rintro e w4 ⟨A4, c4, rfl, ho4, hb4⟩
    simp only [HSN.out] at ho4 ⊢
    have hb5 := hb4.alloc hb4.size (.cells #[.int .i64 t, .int .i64 vo] 30)
    replace hb5 := hb5.alloc hb5.size (.cells #[.int .i64 0, .int .i64 0, .slice A4 sn c4] 38)
    have hal := ((Below.refl w4.heap.size w4).alloc (Nat.le_refl _) (.cells #[.int .i64 t, .int .i64 vo] 30)).alloc (by simp) (.cells #[.int .i64 0, .int .i64 0, .slice A4 sn c4] 38)
    have HO4 := Lib.hid (SlS.here (ho4.stay (fun b _ hlt => hal.block b hlt)))
    replace HO2 := Lib.hid (HO2.out.below hb5)
    replace HX1 := Lib.hid (HX1.out.below hb5 HX1.out.lt)
    replace HX2 := Lib.hid (HX2.out.below hb5 HX2.out.lt)
    have HX3 := Lib.hid ((Whole.new w4 30 #[.int .i64 t, .int .i64 vo]).alloc (.cells #[.int .i64 0, .int .i64 0, .slice A4 sn c4] 38))
    have HX4 := Lib.hid (Whole.new1 w4 (.cells #[.int .i64 t, .int .i64 vo] 30) 38 #[.int .i64 0, .int .i64 0, .slice A4 sn c4])
    have HB5 := Lib.hid (HB3.out.trans (hb5.mono HB3.out.size))
    clear ho4 hb4 hb5 hal HRR HB3
    obtain ⟨p0, p1⟩ := HX1.out.c2
    obtain ⟨r0, r1, r2⟩ := HX2.out.c3
    go_wp2_with fail
    refine (HS.out _ _ _ HO2.out.sl HO4.out).mono ?_
    rintro e w6 ⟨rfl, hb6⟩
    replace HO2 := Lib.hid (HO2.out.below hb6)
    replace HX1 := Lib.hid (HX1.out.below hb6 HX1.out.lt)
    replace HX2 := Lib.hid (HX2.out.below hb6 HX2.out.lt)
    replace HX3 := Lib.hid (HX3.out.below hb6 HX3.out.lt)
    have HB6 := Lib.hid (HB5.out.trans (hb6.mono HB5.out.size))
    clear hb6 HB5 HO4 HX4 HS p0 p1 r0 r1 r2
    obtain ⟨p0, p1⟩ := HX1.out.c2
    obtain ⟨r0, r1, r2⟩ := HX2.out.c3
    obtain ⟨q0, q1⟩ := HX3.out.c2
    go_wp2_with fail
    refine (HM.out _ _ HO2.out.sl).mono ?_
    rintro e w7 ⟨rfl, hb7⟩
    have HB7 := Lib.hid (HB6.out.trans (hb7.mono HB6.out.size))
    clear hb7
    go_wp2_with fail
    go_ret
    exact ⟨rfl, HB7.out⟩
end Go.Proofs.YtcacebkbfnnjbaaDoor
