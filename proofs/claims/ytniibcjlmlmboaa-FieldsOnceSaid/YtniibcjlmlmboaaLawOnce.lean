/-
  What is unpacked is packed as just these bytes: what the law's text comes to.
-/
import Derived.Test.YtniibcjlmlmboaaAwk
import Derived.Test.YtniibcjlmlmboaaOuts
namespace Go.Proofs.Ytniibcjlmlmboaa
open Go.RowKit

set_option maxRecDepth 100000 in
theorem once_law (w : World) (v : Value) (l : List UInt8) (hv : Sl w w.heap.size v l) :
    Calls Try.prog 6 #[v] w fun e w' => e = .returned (.bool true) ∧ Below w.heap.size w w' := by
  obtain ⟨A, c, rfl, _, hm⟩ := hv.form
  unfold maxLen at hm
  have HK := Lib.hid (awake_any w)
  by_cases hout : 6000 < l.length
  · clear hv
    generalize l.length = n at *
    go_enter Try.func6, Try.ntmps6
    go_wp2_with fail
    refine HK.out.mono ?_
    rintro e w1 ⟨rfl, hb1⟩
    go_wp2_with fail
    go_ret
    exact ⟨rfl, hb1⟩
  · have HU := Lib.hid (fun W (hb : Below w.heap.size w W) => (unpack_any _ l (by omega) W w.heap.size hb.size (hv.below hb)).mono fun _ _ => unpackOut_res)
    have HV := Lib.hid (fun W (hb : Below w.heap.size w W) => conv_sl (hv.below hb))
    clear hv
    have hpk : ∀ N D r, Fm.unpack l = .ok (N, D) r → Fm.pack N D = (l, 0) := fun N D r h => Fm.pack_unpack h
    cases hc : Fm.unpack l with
    | err er =>
      have her : er = 2 ∨ er = 3 ∨ er = 7 := by
        unfold Fm.unpack at hc
        split at hc
        · rename_i h1
          injection hc with h
          subst h
          exact Fm.cut_err h1
        · split at hc
          · cases hc
          · injection hc with h
            exact .inl h.symm
      rw [hc] at HU
      simp only [Fm.Got.N, Fm.Got.e] at HU
      clear hpk hc HV
      generalize l.length = n at *
      rcases her with rfl | rfl | rfl
      all_goals
        go_enter Try.func6, Try.ntmps6
        go_wp2_with fail
        refine HK.out.mono ?_
        rintro e w1 ⟨rfl, hb1⟩
        have HU1 := Lib.hid (HU.out w1 hb1)
        go_wp2_with fail
        with_reducible refine HU1.out.mono ?_
        rintro e w2 ⟨A1, c1, A2, c2, rfl, hN, hD, hb2⟩
        go_wp2_with fail
        go_ret
        exact ⟨rfl, (hb1.trans (hb2.mono hb1.size)).alloc (by have := (hb1.trans (hb2.mono hb1.size)).size; omega) _⟩
    | ok f r =>
      obtain ⟨N, D⟩ := f
      have hp := hpk N D r hc
      rw [hc] at HU
      simp only [Fm.Got.N, Fm.Got.e] at HU
      have HPK := Lib.hid (fun W sN sD (h1 : Sl W W.heap.size sN N) (h2 : Sl W W.heap.size sD D) => pack_any sN sD N D W W.heap.size (Nat.le_refl _) h1 h2)
      rw [hp] at HPK
      clear hpk hp hc
      have hs : ((strOf l).toList == (strOf l).toList) = true := by simp
      have HST := Lib.hid (fun W A c (h : Sl W W.heap.size (.slice A l.length c) l) => conv_sl h)
      generalize strOf l = S at *
      generalize hnl : N.length = nl at *
      generalize hdl : D.length = dl at *
      have HNL := Lib.hid hnl
      have HDL := Lib.hid hdl
      clear hnl hdl
      generalize hl0 : l.length = n at *
      have HL := Lib.hid hl0
      clear hl0
      go_enter Try.func6, Try.ntmps6
      go_wp2_with fail
      refine HK.out.mono ?_
      rintro e w1 ⟨rfl, hb1⟩
      have HU1 := Lib.hid (HU.out w1 hb1)
      go_wp2_with fail
      with_reducible refine HU1.out.mono ?_
      rintro e w2 ⟨A1, c1, A2, c2, rfl, hN, hD, hb2⟩
      rw [HNL.out] at hN ⊢
      rw [HDL.out] at hD ⊢
      have hb22 : Below w2.heap.size w2 (w2.alloc (.cells #[.slice A1 nl c1, .slice A2 dl c2] 25)) := (Below.refl _ _).alloc (Nat.le_refl _) _
      have HP2 := Lib.hid (HPK.out (w2.alloc (.cells #[.slice A1 nl c1, .slice A2 dl c2] 25)) _ _ ((hN.below hb22).mono (by simp)) ((hD.below hb22).mono (by simp)))
      have hb12 := hb1.trans ((hb2.trans (hb22.mono hb2.size)).mono hb1.size)
      clear hN hD hb2 hb22
      go_wp2_with fail
      with_reducible refine HP2.out.mono ?_
      rintro e w3 ⟨A3, c3, rfl, ho, hb3⟩
      simp only [HL.out] at ho ⊢
      have hb13 := hb12.trans (hb3.mono hb12.size)
      have q1 := HST.out w3 _ _ ho.sl
      have q2 := HV.out w3 hb13
      clear ho HST HV
      go_wp2_with fail
      go_ret
      exact ⟨rfl, hb13⟩
end Go.Proofs.Ytniibcjlmlmboaa
