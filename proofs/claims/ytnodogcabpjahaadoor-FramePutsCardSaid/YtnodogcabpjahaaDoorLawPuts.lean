/-
  Any frame is put as by the reference: what the law's text comes to.
-/
import Derived.Test.YtnodogcabpjahaaDoorAwk
import Derived.Test.YtnodogcabpjahaaDoorRput
namespace Go.Proofs.YtnodogcabpjahaaDoor
open Go.RowKit

set_option maxRecDepth 100000 in
theorem puts_law (w : World) (hT : Tab w) (k : Int) (sB : Value) (b : List UInt8) (hb : Sl w w.heap.size sB b) :
    Calls Tryd.prog 3 #[.agg #[.int .i64 k, sB]] w fun e w' => e = .returned (.bool true) ∧ Below w.heap.size w w' := by
  obtain ⟨A, c, rfl, _, hm⟩ := hb.form
  unfold maxLen at hm
  have hpos := hT.pos
  have hb0 : Below w.heap.size w (w.alloc (.cells #[.int .i64 k, .slice A b.length c] 24)) := (Below.refl _ _).alloc (Nat.le_refl _) _
  have HK := Lib.hid (awake_any (w.alloc (.cells #[.int .i64 k, .slice A b.length c] 24)) (hT.below hb0 hpos))
  have HW := Lib.hid (Whole.new w 24 #[.int .i64 k, .slice A b.length c])
  have HP := Lib.hid (fun W (h : Below w.heap.size w W) => put_any k _ b W w.heap.size h.size (hb.below h) (hT.below h hpos))
  have HR := Lib.hid (fun W (h : Below w.heap.size w W) => refPut_any k _ b W w.heap.size h.size (hb.below h))
  clear hb hT
  generalize b.length = n at *
  generalize Frm.put (k, b) = p at *
  by_cases hout : 5000 < n
  · go_enter Tryd.func3, Tryd.ntmps3
    go_wp2_with fail
    refine HK.out.mono ?_
    rintro e w1 ⟨rfl, hb1⟩
    have hW1 := HW.out.below hb1 (by simp)
    have k1 : w1.cell? ⟨w.heap.size, 1, none⟩ = some (.slice A n c) := hW1.cell 1
    have hb := hb0.trans (hb1.mono (by simp))
    clear hW1
    go_wp2_with fail
    go_ret
    exact ⟨rfl, hb⟩
  · go_enter Tryd.func3, Tryd.ntmps3
    go_wp2_with fail
    refine HK.out.mono ?_
    rintro e w1 ⟨rfl, hb1⟩
    have hW1 := HW.out.below hb1 (by simp)
    have k0 : w1.cell? ⟨w.heap.size, 0, none⟩ = some (.int .i64 k) := hW1.cell 0
    have k1 : w1.cell? ⟨w.heap.size, 1, none⟩ = some (.slice A n c) := hW1.cell 1
    have hb := hb0.trans (hb1.mono (by simp))
    have HP1 := Lib.hid (HP.out w1 hb)
    have HWI := Lib.hid hW1
    clear hW1
    go_wp2_with fail
    with_reducible refine HP1.out.mono ?_
    rintro e w2 ⟨A3, c3, rfl, ho3, hb2⟩
    have hW2 := HWI.out.below hb2 HWI.out.lt
    have l0 : w2.cell? ⟨w.heap.size, 0, none⟩ = some (.int .i64 k) := hW2.cell 0
    have l1 : w2.cell? ⟨w.heap.size, 1, none⟩ = some (.slice A n c) := hW2.cell 1
    have hbb := hb.trans (hb2.mono hb.size)
    have HR2 := Lib.hid (HR.out w2 hbb)
    have HO3 := Lib.hid ho3
    clear hW2 ho3
    go_wp2_with fail
    with_reducible refine HR2.out.mono ?_
    rintro e w3 ⟨A4, c4, rfl, ho4, hb3⟩
    have q1 := conv_sl (HO3.out.below hb3).sl
    have q2 := conv_sl ho4.sl
    have hs : ((strOf p.1).toList == (strOf p.1).toList) = true := by simp
    have he : ((p.2 : Int) == p.2) = true := by simp
    have hb4 := hbb.trans (hb3.mono hbb.size)
    clear ho4
    generalize strOf p.1 = S at *
    generalize p.1.length = pl at *
    generalize p.2 = pe at *
    go_wp2_with fail
    go_ret
    exact ⟨rfl, hb4⟩
end Go.Proofs.YtnodogcabpjahaaDoor
