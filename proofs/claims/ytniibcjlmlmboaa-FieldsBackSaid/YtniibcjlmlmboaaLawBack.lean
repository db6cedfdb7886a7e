/-
  What was packed is unpacked as it was, and cut off from whatever is behind it: what the law's text comes to.
-/
import Derived.Test.YtniibcjlmlmboaaAwk
import Derived.Test.YtniibcjlmlmboaaOuts
namespace Go.Proofs.Ytniibcjlmlmboaa
open Go.RowKit

set_option maxRecDepth 100000 in
theorem back_out (w : World) (A : Option Addr) (nl c : Nat) (A2 : Option Addr) (dl c2 : Nat) (A3 : Option Addr) (ml c3 : Nat) (_hm : c ≤ 9223372036854775807) (_h1 : nl ≤ c) (_hm2 : c2 ≤ 9223372036854775807) (_h2 : dl ≤ c2) (_hm3 : c3 ≤ 9223372036854775807) (_h3 : ml ≤ c3)
    (hout : 300 < nl ∨ 5000 < dl ∨ 1000 < ml) :
    Calls Try.prog 5 #[.agg #[.slice A nl c, .slice A2 dl c2], .slice A3 ml c3] w fun e w' => e = .returned (.bool true) ∧ Below w.heap.size w w' := by
  have hb0 : Below w.heap.size w (w.alloc (.cells #[.slice A nl c, .slice A2 dl c2] 25)) := (Below.refl _ _).alloc (Nat.le_refl _) _
  have HK := Lib.hid (awake_any (w.alloc (.cells #[.slice A nl c, .slice A2 dl c2] 25)))
  have HW := Lib.hid (Whole.new w 25 #[.slice A nl c, .slice A2 dl c2])
  rcases (show 300 < nl ∨ (nl ≤ 300 ∧ 5000 < dl) ∨ (nl ≤ 300 ∧ dl ≤ 5000 ∧ 1000 < ml) by omega) with h1 | ⟨h1, h2⟩ | ⟨h1, h2, h3⟩
  all_goals
    clear hout
    go_enter Try.func5, Try.ntmps5
    go_wp2_with fail
    refine HK.out.mono ?_
    rintro e w1 ⟨rfl, hb1⟩
    have hW1 := HW.out.below hb1 (by simp)
    have k0 : w1.cell? ⟨w.heap.size, 0, none⟩ = some (.slice A nl c) := hW1.cell 0
    have k1 : w1.cell? ⟨w.heap.size, 1, none⟩ = some (.slice A2 dl c2) := hW1.cell 1
    have hb := hb0.trans (hb1.mono (by simp))
    clear hW1
    go_wp2_with fail
    go_ret
    exact ⟨rfl, hb⟩

set_option maxRecDepth 100000 in
theorem back_law (w : World) (sN sD sM : Value) (N : List Int) (D M : List UInt8) (hN : Sl w w.heap.size sN N) (hD : Sl w w.heap.size sD D) (hM : Sl w w.heap.size sM M) :
    Calls Try.prog 5 #[.agg #[sN, sD], sM] w fun e w' => e = .returned (.bool true) ∧ Below w.heap.size w w' := by
  obtain ⟨A, c, rfl, hc1, hm⟩ := hN.form
  obtain ⟨A2, c2, rfl, hc2, hm2⟩ := hD.form
  obtain ⟨A3, c3, rfl, hc3, hm3⟩ := hM.form
  unfold maxLen at hm hm2 hm3
  by_cases hout : 300 < N.length ∨ 5000 < D.length ∨ 1000 < M.length
  · exact back_out w A _ c A2 _ c2 A3 _ c3 (by omega) hc1 (by omega) hc2 (by omega) hc3 hout
  · have h1 : N.length ≤ 300 := by omega
    have h2 : D.length ≤ 5000 := by omega
    have h3 : M.length ≤ 1000 := by omega
    have hb0 : Below w.heap.size w (w.alloc (.cells #[.slice A N.length c, .slice A2 D.length c2] 25)) := (Below.refl _ _).alloc (Nat.le_refl _) _
    have HK := Lib.hid (awake_any (w.alloc (.cells #[.slice A N.length c, .slice A2 D.length c2] 25)))
    have HW := Lib.hid (Whole.new w 25 #[.slice A N.length c, .slice A2 D.length c2])
    have HP := Lib.hid (fun W (hb : Below w.heap.size w W) => pack_any _ _ N D W w.heap.size hb.size (hN.below hb) (hD.below hb))
    have HN := Lib.hid (fun W (hb : Below w.heap.size w W) => (hN.below hb))
    have HD := Lib.hid (fun W (hb : Below w.heap.size w W) => (hD.below hb))
    have HM := Lib.hid (fun W (hb : Below w.heap.size w W) => (hM.below hb))
    have hpl := Fm.pack_le N D
    have hgood : (Fm.pack N D).2 = 0 → Fm.unpack (Fm.pack N D).1 = .ok (N, D) [] ∧ ∀ r, Fm.cut ((Fm.pack N D).1 ++ r) = .ok (N, D) r := by
      intro h
      obtain ⟨e, g1, g2, g3⟩ := Fm.pack_ok (b := (Fm.pack N D).1) (by rw [← h])
      rw [e]
      exact ⟨Fm.unpack_bytes g1 g2 g3, Fm.cut_bytes g1 g2 g3⟩
    have hbad := @Fm.pack_err N D
    clear hN hD hM hout
    generalize Fm.pack N D = p at *
    obtain ⟨b, er⟩ := p
    simp only at hgood hbad hpl HP
    by_cases her : er = 0
    · subst her
      obtain ⟨hu, hct⟩ := hgood rfl
      clear hbad hgood
      have HU := Lib.hid (fun W v (h : Sl W W.heap.size v b) => (unpack_any v b (by omega) W W.heap.size (Nat.le_refl _) h).mono fun _ _ => unpackOut_res)
      have HC := Lib.hid (fun W v (h : Sl W W.heap.size v (b ++ M)) => (cut_any v (b ++ M) (by rw [List.length_append]; omega) W W.heap.size (Nat.le_refl _) h).mono fun _ _ => cutOut_res)
      have hus : usedI (b ++ M) (.ok (N, D) M) = (b.length : Int) := by show ((b ++ M).length : Int) - (M.length : Int) = _; rw [List.length_append]; omega
      rw [hu] at HU
      rw [hct M, hus] at HC
      simp only [Fm.Got.N, Fm.Got.e] at HU HC
      clear hu hct hus
      generalize hnl : N.length = nl at *
      generalize hdl : D.length = dl at *
      generalize hml : M.length = ml at *
      generalize hbl : b.length = bl at *
      have HNL := Lib.hid hnl
      have HDL := Lib.hid hdl
      have HML := Lib.hid hml
      have HBL := Lib.hid hbl
      clear hnl hdl hml hbl
      have t1 : ((bl : Int) == (bl : Int)) = true := by simp
      go_enter Try.func5, Try.ntmps5
      go_wp2_with fail
      refine HK.out.mono ?_
      rintro e w1 ⟨rfl, hb1⟩
      have hW1 := HW.out.below hb1 (by simp)
      have k0 : w1.cell? ⟨w.heap.size, 0, none⟩ = some (.slice A nl c) := hW1.cell 0
      have k1 : w1.cell? ⟨w.heap.size, 1, none⟩ = some (.slice A2 dl c2) := hW1.cell 1
      have hb := hb0.trans (hb1.mono (by simp))
      have HP1 := Lib.hid (HP.out w1 hb)
      have HW1 := Lib.hid hW1
      clear hW1 hb1
      go_wp2_with fail
      with_reducible refine HP1.out.mono ?_
      rintro e w2 ⟨A4, c4, rfl, ho4, hb2⟩
      simp only [HBL.out] at ho4 ⊢
      have HS4 := Lib.hid ho4.sl
      have hbw2 := hb.trans (hb2.mono hb.size)
      have HW2 := Lib.hid (HW1.out.below hb2 HW1.out.lt)
      have HU2 := Lib.hid (HU.out w2 _ ho4.sl)
      clear ho4 HP1 HP HU hb hb2 HW1 k0 k1
      go_wp2_with fail
      with_reducible refine HU2.out.mono ?_
      rintro e w3 ⟨A5, c5, A6, c6, rfl, hN3, hD3, hb3⟩
      rw [HNL.out] at hN3 ⊢
      rw [HDL.out] at hD3 ⊢
      have hb33 : Below w3.heap.size w3 (w3.alloc (.cells #[.slice A5 nl c5, .slice A6 dl c6] 25)) := (Below.refl _ _).alloc (Nat.le_refl _) _
      have hb23 := hb3.trans (hb33.mono hb3.size)
      have hbw3 := hbw2.trans (hb23.mono hbw2.size)
      have HX := Lib.hid (hN3.below hb33)
      have HY := Lib.hid (hD3.below hb33)
      have HS5 := Lib.hid (HS4.out.below hb23)
      have HM5 := Lib.hid (HM.out _ hbw3)
      have HW3 := Lib.hid (HW2.out.below hb23 HW2.out.lt)
      have HWX := Lib.hid (Whole.new w3 25 #[.slice A5 nl c5, .slice A6 dl c6])
      have hz3 : w3.heap.size < (w3.alloc (.cells #[.slice A5 nl c5, .slice A6 dl c6] 25)).heap.size := by simp
      have hzw := hbw3.size
      clear hN3 hD3 hb3 hb33 HS4 HU2 HW2 hbw2
      have tok : True := trivial
      go_wp2_with (first | (at_builtin; have _t := tok; refine wpList_append_sl rfl _ (.tmp 52) rfl rowB (w3.heap.size + 1) _ [] rfl (Own.nil _ _ _) _ _ b rfl HS5.out (by rw [HBL.out]; unfold maxLen; simp; omega) (by rw [HBL.out]; simp; omega) (by simp) ?_; intro v4 w4 hown4 hg4 hat4; rw [List.nil_append] at hown4; have hb4 := (Below.refl (w3.heap.size + 1) _).grown hg4 (by simp) (by intro k h; cases h); have HO4 := Lib.hid hown4; have HM6 := Lib.hid (HM5.out.below (hb4.mono (by simp at hzw; omega))); clear hown4 hg4 hat4 tok) | (at_builtin; refine wpList_append_sl rfl _ (.tmp 54) rfl rowB (w3.heap.size + 1) _ b rfl HO4.out w.heap.size _ M rfl HM6.out (by rw [HBL.out, HML.out]; unfold maxLen; omega) (by rw [HBL.out, HML.out]; omega) (by have := hb4.size; simp at this; omega) ?_; intro v5 w5 hown5 hg5 hat5; have hb5 := below_of_own hb4 HO4.out hg5 (by have := hb4.size; simp at this; omega); have HC5 := Lib.hid (HC.out w5 _ hown5.sl); clear hown5 hg5 hat5))
      with_reducible refine HC5.out.mono ?_
      rintro e w6 ⟨A7, c7, A8, c8, rfl, hN6, hD6, hb6⟩
      rw [HNL.out] at hN6 ⊢
      rw [HDL.out] at hD6 ⊢
      have hz5 := hb5.size
      rw [World.size_alloc] at hz5
      have hb66 : Below w6.heap.size w6 (w6.alloc (.cells #[.slice A7 nl c7, .slice A8 dl c8] 25)) := (Below.refl _ _).alloc (Nat.le_refl _) _
      have hb56 := hb5.trans ((hb6.trans (hb66.mono hb6.size)).mono hz5)
      have hbw6 := hbw3.trans (hb56.mono (by simp at hzw; omega))
      have HX6 := Lib.hid ((HX.out.mono (B' := w3.heap.size + 1) (by omega)).below hb56)
      have HY6 := Lib.hid ((HY.out.mono (B' := w3.heap.size + 1) (by omega)).below hb56)
      have hW6 := HW3.out.below hb56 (by have := HW3.out.lt; simp at this; omega)
      have hX6 := HWX.out.below hb56 (by omega)
      have HWY := Lib.hid (Whole.new w6 25 #[.slice A7 nl c7, .slice A8 dl c8])
      have HWW := Lib.hid hW6
      have HN6 := Lib.hid (hN6.below hb66)
      have HD6 := Lib.hid (hD6.below hb66)
      have a0 : (w6.alloc (.cells #[.slice A7 nl c7, .slice A8 dl c8] 25)).cell? ⟨w.heap.size, 0, none⟩ = some (.slice A nl c) := hW6.cell 0
      have a1 : (w6.alloc (.cells #[.slice A7 nl c7, .slice A8 dl c8] 25)).cell? ⟨w.heap.size, 1, none⟩ = some (.slice A2 dl c2) := hW6.cell 1
      have b0 : (w6.alloc (.cells #[.slice A7 nl c7, .slice A8 dl c8] 25)).cell? ⟨w3.heap.size, 0, none⟩ = some (.slice A5 nl c5) := hX6.cell 0
      have b1 : (w6.alloc (.cells #[.slice A7 nl c7, .slice A8 dl c8] 25)).cell? ⟨w3.heap.size, 1, none⟩ = some (.slice A6 dl c6) := hX6.cell 1
      have hsz6 := hb56.size
      rw [World.size_alloc] at hsz6
      have S1 := Lib.hid (same_any _ _ _ _ N D _ (w6.alloc (.cells #[.slice A7 nl c7, .slice A8 dl c8] 25)).heap.size (Nat.le_refl _) (HX6.out.mono hsz6) (HY6.out.mono hsz6) ((HN.out _ hbw6).mono hbw6.size) ((HD.out _ hbw6).mono hbw6.size))
      clear hN6 hD6 hb6 hb66 hW6 hX6 HX HY HM5 HC5 HC
      go_wp2_with fail
      with_reducible refine S1.out.mono ?_
      rintro e w7 ⟨rfl, hb7⟩
      have hbw7 := hbw6.trans (hb7.mono hbw6.size)
      have S2 := Lib.hid (same_any _ _ _ _ N D w7 w7.heap.size (Nat.le_refl _) ((HN6.out.mono (B' := (w6.alloc (.cells #[.slice A7 nl c7, .slice A8 dl c8] 25)).heap.size) (by simp)).below hb7 |>.mono hb7.size) ((HD6.out.mono (B' := (w6.alloc (.cells #[.slice A7 nl c7, .slice A8 dl c8] 25)).heap.size) (by simp)).below hb7 |>.mono hb7.size) ((HN.out _ hbw7).mono hbw7.size) ((HD.out _ hbw7).mono hbw7.size))
      have hW7 := HWW.out.below hb7 HWW.out.lt
      have hY7 := HWY.out.below hb7 HWY.out.lt
      have c0 : w7.cell? ⟨w.heap.size, 0, none⟩ = some (.slice A nl c) := hW7.cell 0
      have c1 : w7.cell? ⟨w.heap.size, 1, none⟩ = some (.slice A2 dl c2) := hW7.cell 1
      have d0 : w7.cell? ⟨w6.heap.size, 0, none⟩ = some (.slice A7 nl c7) := hY7.cell 0
      have d1 : w7.cell? ⟨w6.heap.size, 1, none⟩ = some (.slice A8 dl c8) := hY7.cell 1
      clear hW7 hY7 a0 a1 b0 b1
      go_wp2_with fail
      with_reducible refine S2.out.mono ?_
      rintro e w8 ⟨rfl, hb8⟩
      go_wp2_with fail
      go_ret
      exact ⟨rfl, hbw7.trans (hb8.mono hbw7.size)⟩
    · have hb0l := hbad her
      subst hb0l
      have hne : (er != 0) = true := by simpa using her
      clear hbad hgood her
      generalize N.length = nl at *
      generalize D.length = dl at *
      generalize M.length = ml at *
      go_enter Try.func5, Try.ntmps5
      go_wp2_with fail
      refine HK.out.mono ?_
      rintro e w1 ⟨rfl, hb1⟩
      have hW1 := HW.out.below hb1 (by simp)
      have k0 : w1.cell? ⟨w.heap.size, 0, none⟩ = some (.slice A nl c) := hW1.cell 0
      have k1 : w1.cell? ⟨w.heap.size, 1, none⟩ = some (.slice A2 dl c2) := hW1.cell 1
      have hb := hb0.trans (hb1.mono (by simp))
      have HP1 := Lib.hid (HP.out w1 hb)
      clear hW1
      go_wp2_with fail
      with_reducible refine HP1.out.mono ?_
      rintro e w2 ⟨A4, c4, rfl, ho4, hb2⟩
      go_wp2_with fail
      go_ret
      exact ⟨rfl, hb.trans (hb2.mono hb.size)⟩
end Go.Proofs.Ytniibcjlmlmboaa
