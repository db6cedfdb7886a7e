/-
  Any bytes begin with the fields, or are refused, as by the reference: what the law's text comes to.
-/
import Derived.Test.YtniibcjlmlmboaaAwk
import Derived.Test.YtniibcjlmlmboaaOuts
import Derived.Test.YtniibcjlmlmboaaRunpack
namespace Go.Proofs.Ytniibcjlmlmboaa
open Go.RowKit

set_option maxRecDepth 100000 in
theorem cuts_law (w : World) (v : Value) (l : List UInt8) (hv : Sl w w.heap.size v l) :
    Calls Try.prog 4 #[v] w fun e w' => e = .returned (.bool true) ∧ Below w.heap.size w w' := by
  obtain ⟨A, c, rfl, _, hm⟩ := hv.form
  unfold maxLen at hm
  have HK := Lib.hid (awake_any w)
  by_cases hout : 6000 < l.length
  · clear hv
    generalize l.length = n at *
    go_enter Try.func4, Try.ntmps4
    go_wp2_with fail
    refine HK.out.mono ?_
    rintro e w1 ⟨rfl, hb1⟩
    go_wp2_with fail
    go_ret
    exact ⟨rfl, hb1⟩
  · have HC := Lib.hid (fun W (hb : Below w.heap.size w W) => (cut_any _ l (by omega) W w.heap.size hb.size (hv.below hb)).mono fun _ _ => cutOut_res)
    have HRC := Lib.hid (fun W (hb : Below w.heap.size w W) => (refCut_any _ l (by omega) W w.heap.size hb.size (hv.below hb)).mono fun _ _ => cutOut_res)
    have HU := Lib.hid (fun W (hb : Below w.heap.size w W) => (unpack_any _ l (by omega) W w.heap.size hb.size (hv.below hb)).mono fun _ _ => unpackOut_res)
    have HRU := Lib.hid (fun W (hb : Below w.heap.size w W) => (refUnpack_any _ l (by omega) W w.heap.size hb.size (hv.below hb)).mono fun _ _ => unpackOut_res)
    clear hv
    generalize (Fm.cut l).N ([], []) = f at *
    generalize usedI l (Fm.cut l) = us at *
    generalize (Fm.cut l).e = er at *
    generalize (Fm.unpack l).N ([], []) = g at *
    generalize (Fm.unpack l).e = er2 at *
    generalize l.length = n at *
    have t1 : (us == us) = true := by simp
    have t2 : (er == er) = true := by simp
    have t3 : (er2 == er2) = true := by simp
    obtain ⟨N, D⟩ := f
    obtain ⟨M, E⟩ := g
    simp only at HC HRC HU HRU
    go_enter Try.func4, Try.ntmps4
    go_wp2_with fail
    refine HK.out.mono ?_
    rintro e w1 ⟨rfl, hb1⟩
    have HC1 := Lib.hid (HC.out w1 hb1)
    go_wp2_with fail
    with_reducible refine HC1.out.mono ?_
    rintro e w2 ⟨A1, c1, A2, c2, rfl, hN1, hD1, hb2⟩
    have hN1' := Lib.hid hN1
    have hD1' := Lib.hid hD1
    have hbw2 := hb1.trans (hb2.mono hb1.size)
    clear hN1 hD1 HC HC1 HK hb1 hb2
    generalize hnl : N.length = nl at *
    generalize hdl : D.length = dl at *
    generalize hml : M.length = ml at *
    generalize hel : E.length = el at *
    have HNL := Lib.hid hnl
    have HDL := Lib.hid hdl
    have HML := Lib.hid hml
    have HEL := Lib.hid hel
    clear hnl hdl hml hel
    have HRC2 := Lib.hid (HRC.out (w2.alloc (.cells #[.slice A1 nl c1, .slice A2 dl c2] 25)) (hbw2.alloc hbw2.size _))
    go_wp2_with fail
    with_reducible refine HRC2.out.mono ?_
    rintro e w3 ⟨A3, c3, A4, c4, rfl, hN3, hD3, hb3⟩
    rw [HNL.out] at hN3 ⊢
    rw [HDL.out] at hD3 ⊢
    have hW1 := (Whole.new w2 25 #[.slice A1 nl c1, .slice A2 dl c2]).below hb3 (by simp)
    have hbw3 := (hbw2.alloc hbw2.size (.cells #[.slice A1 nl c1, .slice A2 dl c2] 25)).trans (hb3.mono (by have := hbw2.size; simp; omega))
    have hb23 : Below w2.heap.size w2 w3 := ((Below.refl _ _).alloc (Nat.le_refl _) _).trans (hb3.mono (by simp))
    have HF1 := Lib.hid (hN1'.out.below hb23)
    have HG1 := Lib.hid (hD1'.out.below hb23)
    have HF2 := Lib.hid hN3
    have HG2 := Lib.hid hD3
    have HWH1 := Lib.hid hW1
    have hz23 := hb23.size
    clear hb23 hb3 hN3 hD3 hW1 hN1' hD1' HRC2 HRC hbw2
    generalize w2.heap.size = g1 at *
    have HU3 := Lib.hid (HU.out (w3.alloc (.cells #[.slice A3 nl c3, .slice A4 dl c4] 25)) (hbw3.alloc hbw3.size _))
    go_wp2_with fail
    with_reducible refine HU3.out.mono ?_
    rintro e w4 ⟨A5, c5, A6, c6, rfl, hN4, hD4, hb4⟩
    rw [HML.out] at hN4 ⊢
    rw [HEL.out] at hD4 ⊢
    have hW2 := (Whole.new w3 25 #[.slice A3 nl c3, .slice A4 dl c4]).below hb4 (by simp)
    have hbw4 := (hbw3.alloc hbw3.size (.cells #[.slice A3 nl c3, .slice A4 dl c4] 25)).trans (hb4.mono (by have := hbw3.size; simp; omega))
    have hb34 : Below w3.heap.size w3 w4 := ((Below.refl _ _).alloc (Nat.le_refl _) _).trans (hb4.mono (by simp))
    have hz34 := hb34.size
    have HF1' := Lib.hid (HF1.out.below (hb34.mono hz23))
    have HG1' := Lib.hid (HG1.out.below (hb34.mono hz23))
    have HF2' := Lib.hid (HF2.out.below hb34)
    have HG2' := Lib.hid (HG2.out.below hb34)
    have HWH1' := Lib.hid (HWH1.out.below hb34 HWH1.out.lt)
    have HWH2 := Lib.hid hW2
    have HF3 := Lib.hid hN4
    have HG3 := Lib.hid hD4
    clear hb34 hb4 hN4 hD4 hW2 HF1 HG1 HF2 HG2 HWH1 HU3 HU hbw3
    generalize w3.heap.size = g2 at *
    have HRU4 := Lib.hid (HRU.out (w4.alloc (.cells #[.slice A5 ml c5, .slice A6 el c6] 25)) (hbw4.alloc hbw4.size _))
    go_wp2_with fail
    with_reducible refine HRU4.out.mono ?_
    rintro e w5 ⟨A7, c7, A8, c8, rfl, hN5, hD5, hb5⟩
    rw [HML.out] at hN5 ⊢
    rw [HEL.out] at hD5 ⊢
    have hW3 := (Whole.new w4 25 #[.slice A5 ml c5, .slice A6 el c6]).below hb5 (by simp)
    have hbw5 := (hbw4.alloc hbw4.size (.cells #[.slice A5 ml c5, .slice A6 el c6] 25)).trans (hb5.mono (by have := hbw4.size; simp; omega))
    have hb45 : Below w4.heap.size w4 w5 := ((Below.refl _ _).alloc (Nat.le_refl _) _).trans (hb5.mono (by simp))
    have hz45 := hb45.size
    have HF1 := Lib.hid ((HF1'.out.below (hb45.mono (by omega))).mono (B' := w5.heap.size) (by omega))
    have HG1 := Lib.hid ((HG1'.out.below (hb45.mono (by omega))).mono (B' := w5.heap.size) (by omega))
    have HF2 := Lib.hid ((HF2'.out.below (hb45.mono (by omega))).mono (B' := w5.heap.size) (by omega))
    have HG2 := Lib.hid ((HG2'.out.below (hb45.mono (by omega))).mono (B' := w5.heap.size) (by omega))
    have HF3' := Lib.hid ((HF3.out.below hb45).mono (B' := w5.heap.size) (by omega))
    have HG3' := Lib.hid ((HG3.out.below hb45).mono (B' := w5.heap.size) (by omega))
    have HWH1 := Lib.hid (HWH1'.out.below hb45 HWH1'.out.lt)
    have HWH2' := Lib.hid (HWH2.out.below hb45 HWH2.out.lt)
    have HWH3 := Lib.hid hW3
    have HF4 := Lib.hid hN5
    have HG4 := Lib.hid hD5
    clear hb45 hb5 hN5 hD5 hW3 HF1' HG1' HF2' HG2' HF3 HG3 HWH1' HWH2 HRU4 HRU hbw4
    generalize w4.heap.size = g3 at *
    have hb55 : Below w5.heap.size w5 (w5.alloc (.cells #[.slice A7 ml c7, .slice A8 el c8] 25)) := (Below.refl _ _).alloc (Nat.le_refl _) _
    have S1 := Lib.hid (same_any _ _ _ _ N D (w5.alloc (.cells #[.slice A7 ml c7, .slice A8 el c8] 25)) w5.heap.size (by simp) (HF1.out.below hb55) (HG1.out.below hb55) (HF2.out.below hb55) (HG2.out.below hb55))
    have HWA := HWH1.out.below hb55 HWH1.out.lt
    have HWB := HWH2'.out.below hb55 HWH2'.out.lt
    have HWC := Lib.hid (HWH3.out.below hb55 HWH3.out.lt)
    have HWD := Lib.hid (Whole.new w5 25 #[.slice A7 ml c7, .slice A8 el c8])
    have a0 : (w5.alloc (.cells #[.slice A7 ml c7, .slice A8 el c8] 25)).cell? ⟨g1, 0, none⟩ = some (.slice A1 nl c1) := HWA.cell 0
    have a1 : (w5.alloc (.cells #[.slice A7 ml c7, .slice A8 el c8] 25)).cell? ⟨g1, 1, none⟩ = some (.slice A2 dl c2) := HWA.cell 1
    have b0 : (w5.alloc (.cells #[.slice A7 ml c7, .slice A8 el c8] 25)).cell? ⟨g2, 0, none⟩ = some (.slice A3 nl c3) := HWB.cell 0
    have b1 : (w5.alloc (.cells #[.slice A7 ml c7, .slice A8 el c8] 25)).cell? ⟨g2, 1, none⟩ = some (.slice A4 dl c4) := HWB.cell 1
    clear HWA HWB
    go_wp2_with fail
    with_reducible refine S1.out.mono ?_
    rintro e w6 ⟨rfl, hb6⟩
    have hb56 := hb55.trans (hb6.mono (by simp))
    have S2 := Lib.hid (same_any _ _ _ _ M E w6 w5.heap.size hb56.size (HF3'.out.below hb56) (HG3'.out.below hb56) (HF4.out.below hb56) (HG4.out.below hb56))
    have HWC' := HWC.out.below hb6 HWC.out.lt
    have HWD' := HWD.out.below hb6 HWD.out.lt
    have d0 : w6.cell? ⟨g3, 0, none⟩ = some (.slice A5 ml c5) := HWC'.cell 0
    have d1 : w6.cell? ⟨g3, 1, none⟩ = some (.slice A6 el c6) := HWC'.cell 1
    have e0 : w6.cell? ⟨w5.heap.size, 0, none⟩ = some (.slice A7 ml c7) := HWD'.cell 0
    have e1 : w6.cell? ⟨w5.heap.size, 1, none⟩ = some (.slice A8 el c8) := HWD'.cell 1
    have hbw6 := hbw5.trans (hb56.mono hbw5.size)
    clear HWC' HWD' a0 a1 b0 b1
    go_wp2_with fail
    with_reducible refine S2.out.mono ?_
    rintro e w7 ⟨rfl, hb7⟩
    go_wp2_with fail
    go_ret
    exact ⟨rfl, hbw6.trans (hb7.mono hbw6.size)⟩
end Go.Proofs.Ytniibcjlmlmboaa
