/-
  Any numbers and bytes are packed as by the reference, and any number's size is: what the law's text comes to.
-/
import Derived.Test.YtniibcjlmlmboaaAwk
import Derived.Test.YtniibcjlmlmboaaRpack
namespace Go.Proofs.Ytniibcjlmlmboaa
open Go.RowKit

set_option maxRecDepth 100000 in
theorem packs_law (w : World) (sN sD : Value) (N : List Int) (D : List UInt8) (hN : Sl w w.heap.size sN N) (hD : Sl w w.heap.size sD D) (n : Int) (hn : -9223372036854775808 ≤ n ∧ n ≤ 9223372036854775807) :
    Calls Try.prog 3 #[.agg #[sN, sD], .int .i64 n] w fun e w' => e = .returned (.bool true) ∧ Below w.heap.size w w' := by
  obtain ⟨A, c, rfl, _, hm⟩ := hN.form
  obtain ⟨A2, c2, rfl, _, hm2⟩ := hD.form
  unfold maxLen at hm hm2
  have hb0 : Below w.heap.size w (w.alloc (.cells #[.slice A N.length c, .slice A2 D.length c2] 25)) := (Below.refl _ _).alloc (Nat.le_refl _) _
  have hW := Whole.new w 25 #[.slice A N.length c, .slice A2 D.length c2]
  have HK := Lib.hid (awake_any (w.alloc (.cells #[.slice A N.length c, .slice A2 D.length c2] 25)))
  have HW := Lib.hid hW
  have HP := Lib.hid (fun W (hb : Below w.heap.size w W) => pack_any _ _ N D W w.heap.size hb.size (hN.below hb) (hD.below hb))
  have HR := Lib.hid (fun W (hb : Below w.heap.size w W) => refPack_any _ _ N D W w.heap.size hb.size (hN.below hb) (hD.below hb))
  have HS := Lib.hid (fun W => size_any n hn.1 hn.2 W)
  have HRS := Lib.hid (fun W => refSize_any n hn.1 hn.2 W)
  clear hN hD hW hn
  generalize Fm.size n = sn at *
  generalize N.length = nl at *
  generalize D.length = dl at *
  generalize Fm.pack N D = p at *
  by_cases hout : 300 < nl ∨ 5000 < dl
  · have hgo : ∀ w1, Below (w.alloc (.cells #[.slice A nl c, .slice A2 dl c2] 25)).heap.size (w.alloc (.cells #[.slice A nl c, .slice A2 dl c2] 25)) w1 → Whole w1 w.heap.size 25 #[.slice A nl c, .slice A2 dl c2] := fun w1 h => HW.out.below h (by simp)
    have HG := Lib.hid hgo
    clear hgo
    rcases (show 300 < nl ∨ (nl ≤ 300 ∧ 5000 < dl) by omega) with h1 | ⟨h1, h2⟩
    all_goals
      clear hout
      go_enter Try.func3, Try.ntmps3
      go_wp2_with fail
      refine HK.out.mono ?_
      rintro e w1 ⟨rfl, hb1⟩
      have hW1 := HG.out w1 hb1
      have k0 : w1.cell? ⟨w.heap.size, 0, none⟩ = some (.slice A nl c) := hW1.cell 0
      have k1 : w1.cell? ⟨w.heap.size, 1, none⟩ = some (.slice A2 dl c2) := hW1.cell 1
      have hb := hb0.trans (hb1.mono (by simp))
      clear hW1
      go_wp2_with fail
      go_ret
      exact ⟨rfl, hb⟩
  · have h1 : nl ≤ 300 := by omega
    have h2 : dl ≤ 5000 := by omega
    clear hout
    go_enter Try.func3, Try.ntmps3
    go_wp2_with fail
    refine HK.out.mono ?_
    rintro e w1 ⟨rfl, hb1⟩
    have hW1 := HW.out.below hb1 (by simp)
    have k0 : w1.cell? ⟨w.heap.size, 0, none⟩ = some (.slice A nl c) := hW1.cell 0
    have k1 : w1.cell? ⟨w.heap.size, 1, none⟩ = some (.slice A2 dl c2) := hW1.cell 1
    have hb := hb0.trans (hb1.mono (by simp))
    have HP1 := Lib.hid (HP.out w1 hb)
    have HWI := Lib.hid hW1
    clear hW1
    go_wp2_with fail
    with_reducible refine HP1.out.mono ?_
    rintro e w2 ⟨A3, c3, rfl, ho3, hb2⟩
    have hW2 := HWI.out.below hb2 HWI.out.lt
    have l0 : w2.cell? ⟨w.heap.size, 0, none⟩ = some (.slice A nl c) := hW2.cell 0
    have l1 : w2.cell? ⟨w.heap.size, 1, none⟩ = some (.slice A2 dl c2) := hW2.cell 1
    have hbb := hb.trans (hb2.mono hb.size)
    have HR2 := Lib.hid (HR.out w2 hbb)
    have HO3 := Lib.hid ho3
    clear hW2 ho3
    go_wp2_with fail
    with_reducible refine HR2.out.mono ?_
    rintro e w3 ⟨A4, c4, rfl, ho4, hb3⟩
    have q1 := conv_sl (HO3.out.below hb3).sl
    have q2 := conv_sl ho4.sl
    have hs : ((strOf p.1).toList == (strOf p.1).toList) = true := by simp
    have he : ((p.2 : Int) == p.2) = true := by simp
    have hsn : (sn == sn) = true := by simp
    have hb4 := hbb.trans (hb3.mono hbb.size)
    clear ho4
    generalize strOf p.1 = S at *
    generalize p.1.length = pl at *
    generalize p.2 = pe at *
    go_wp2_with fail
    refine (HS.out _).mono ?_
    rintro e w4 ⟨rfl, hw⟩
    subst hw
    go_wp2_with fail
    refine (HRS.out _).mono ?_
    rintro e w4 ⟨rfl, hw⟩
    subst hw
    go_wp2_with fail
    go_ret
    exact ⟨rfl, hb4⟩
end Go.Proofs.Ytniibcjlmlmboaa
