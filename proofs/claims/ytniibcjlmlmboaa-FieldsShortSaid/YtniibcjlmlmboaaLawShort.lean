/-
  Bytes of fields without their last ones are told to lack some: what the law's text comes to.
-/
import Derived.Test.YtniibcjlmlmboaaAwk
import Derived.Test.YtniibcjlmlmboaaOuts
namespace Go.Proofs.Ytniibcjlmlmboaa
open Go.RowKit

set_option maxRecDepth 100000 in
theorem short_out (w : World) (A : Option Addr) (nl c : Nat) (A2 : Option Addr) (dl c2 : Nat) (k : Int) (_hm : c ≤ 9223372036854775807) (_h1 : nl ≤ c) (_hm2 : c2 ≤ 9223372036854775807) (_h2 : dl ≤ c2)
    (hout : 300 < nl ∨ 5000 < dl ∨ k < 0) :
    Calls Try.prog 7 #[.agg #[.slice A nl c, .slice A2 dl c2], .int .i64 k] w fun e w' => e = .returned (.bool true) ∧ Below w.heap.size w w' := by
  have hb0 : Below w.heap.size w (w.alloc (.cells #[.slice A nl c, .slice A2 dl c2] 25)) := (Below.refl _ _).alloc (Nat.le_refl _) _
  have HK := Lib.hid (awake_any (w.alloc (.cells #[.slice A nl c, .slice A2 dl c2] 25)))
  have HW := Lib.hid (Whole.new w 25 #[.slice A nl c, .slice A2 dl c2])
  rcases (show 300 < nl ∨ (nl ≤ 300 ∧ 5000 < dl) ∨ (nl ≤ 300 ∧ dl ≤ 5000 ∧ k < 0) by omega) with h1 | ⟨h1, h2⟩ | ⟨h1, h2, h3⟩
  all_goals
    clear hout
    go_enter Try.func7, Try.ntmps7
    go_wp2_with fail
    refine HK.out.mono ?_
    rintro e w1 ⟨rfl, hb1⟩
    have hW1 := HW.out.below hb1 (by simp)
    have k0 : w1.cell? ⟨w.heap.size, 0, none⟩ = some (.slice A nl c) := hW1.cell 0
    have k1 : w1.cell? ⟨w.heap.size, 1, none⟩ = some (.slice A2 dl c2) := hW1.cell 1
    have hb := hb0.trans (hb1.mono (by simp))
    clear hW1
    go_wp2_with fail
    go_ret
    exact ⟨rfl, hb⟩

set_option maxRecDepth 100000 in
theorem short_law (w : World) (sN sD : Value) (N : List Int) (D : List UInt8) (hN : Sl w w.heap.size sN N) (hD : Sl w w.heap.size sD D) (k : Int) :
    Calls Try.prog 7 #[.agg #[sN, sD], .int .i64 k] w fun e w' => e = .returned (.bool true) ∧ Below w.heap.size w w' := by
  obtain ⟨A, c, rfl, hc1, hm⟩ := hN.form
  obtain ⟨A2, c2, rfl, hc2, hm2⟩ := hD.form
  unfold maxLen at hm hm2
  by_cases hout : 300 < N.length ∨ 5000 < D.length ∨ k < 0
  · exact short_out w A _ c A2 _ c2 k (by omega) hc1 (by omega) hc2 hout
  · have h1 : N.length ≤ 300 := by omega
    have h2 : D.length ≤ 5000 := by omega
    have h3 : 0 ≤ k := by omega
    obtain ⟨j, rfl⟩ : ∃ j : Nat, k = (j : Int) := ⟨k.toNat, by omega⟩
    have hb0 : Below w.heap.size w (w.alloc (.cells #[.slice A N.length c, .slice A2 D.length c2] 25)) := (Below.refl _ _).alloc (Nat.le_refl _) _
    have HK := Lib.hid (awake_any (w.alloc (.cells #[.slice A N.length c, .slice A2 D.length c2] 25)))
    have HW := Lib.hid (Whole.new w 25 #[.slice A N.length c, .slice A2 D.length c2])
    have HP := Lib.hid (fun W (hb : Below w.heap.size w W) => pack_any _ _ N D W w.heap.size hb.size (hN.below hb) (hD.below hb))
    have hpl := Fm.pack_le N D
    have hgood : (Fm.pack N D).2 = 0 → ∀ i, i < (Fm.pack N D).1.length → Fm.cut ((Fm.pack N D).1.take i) = .err 3 := by
      intro h
      obtain ⟨e, g1, g2, g3⟩ := Fm.pack_ok (b := (Fm.pack N D).1) (by rw [← h])
      rw [e]
      exact fun i hi => Fm.cut_short g1 g2 g3 hi
    clear hN hD hout
    generalize Fm.pack N D = p at *
    obtain ⟨b, er⟩ := p
    simp only at hgood hpl HP
    generalize N.length = nl at *
    generalize D.length = dl at *
    by_cases her : er = 0
    · subst her
      have hg := hgood rfl
      clear hgood
      by_cases hj : b.length ≤ j
      · clear hg
        generalize hbl : b.length = bl at *
        have HBL := Lib.hid hbl
        clear hbl
        go_enter Try.func7, Try.ntmps7
        go_wp2_with fail
        refine HK.out.mono ?_
        rintro e w1 ⟨rfl, hb1⟩
        have hW1 := HW.out.below hb1 (by simp)
        have k0 : w1.cell? ⟨w.heap.size, 0, none⟩ = some (.slice A nl c) := hW1.cell 0
        have k1 : w1.cell? ⟨w.heap.size, 1, none⟩ = some (.slice A2 dl c2) := hW1.cell 1
        have hb := hb0.trans (hb1.mono (by simp))
        have HP1 := Lib.hid (HP.out w1 hb)
        clear hW1
        go_wp2_with fail
        with_reducible refine HP1.out.mono ?_
        rintro e w2 ⟨A4, c4, rfl, ho4, hb2⟩
        simp only [HBL.out] at ho4 ⊢
        clear ho4
        go_wp2_with fail
        go_ret
        exact ⟨rfl, hb.trans (hb2.mono hb.size)⟩
      · have hct := hg j (by omega)
        have hu := Fm.unpack_short hct
        have hjl : (b.take j).length = j := by rw [List.length_take]; omega
        have HC := Lib.hid (fun W v (h : Sl W W.heap.size v (b.take j)) => (cut_any v (b.take j) (by omega) W W.heap.size (Nat.le_refl _) h).mono fun _ _ => cutOut_res)
        have HU := Lib.hid (fun W v (h : Sl W W.heap.size v (b.take j)) => (unpack_any v (b.take j) (by omega) W W.heap.size (Nat.le_refl _) h).mono fun _ _ => unpackOut_res)
        rw [hct] at HC
        rw [hu] at HU
        simp only [Fm.Got.N, Fm.Got.e, usedI] at HC HU
        clear hg hct hu hjl
        generalize hbl : b.length = bl at *
        have HBL := Lib.hid hbl
        clear hbl
        have i1 : (0 : Int) ≤ (j : Int) := by omega
        have i2 : (j : Int) < (bl : Int) := by omega
        go_enter Try.func7, Try.ntmps7
        go_wp2_with fail
        refine HK.out.mono ?_
        rintro e w1 ⟨rfl, hb1⟩
        have hW1 := HW.out.below hb1 (by simp)
        have k0 : w1.cell? ⟨w.heap.size, 0, none⟩ = some (.slice A nl c) := hW1.cell 0
        have k1 : w1.cell? ⟨w.heap.size, 1, none⟩ = some (.slice A2 dl c2) := hW1.cell 1
        have hb := hb0.trans (hb1.mono (by simp))
        have HP1 := Lib.hid (HP.out w1 hb)
        clear hW1
        go_wp2_with fail
        with_reducible refine HP1.out.mono ?_
        rintro e w2 ⟨A4, c4, rfl, ho4, hb2⟩
        simp only [HBL.out] at ho4 ⊢
        have hsl := ho4.sl
        have hroom := hsl.room.2
        have htk := hsl.take j c4 (by omega) (by omega) hroom.2
        unfold maxLen at hroom
        have hjc : (j : Int) ≤ (c4 : Int) := by omega
        have HT := Lib.hid htk
        have HC2 := Lib.hid (HC.out w2 _ htk)
        have hbw2 := hb.trans (hb2.mono hb.size)
        clear ho4 hsl htk HC HP HP1 hb hb2
        go_wp2_with fail
        with_reducible refine HC2.out.mono ?_
        rintro e w3 ⟨A5, c5, A6, c6, rfl, _, _, hb3⟩
        have hb33 : Below w3.heap.size w3 (w3.alloc (.cells #[.slice A5 0 c5, .slice A6 0 c6] 25)) := (Below.refl _ _).alloc (Nat.le_refl _) _
        have hb23 := hb3.trans (hb33.mono hb3.size)
        have HU3 := Lib.hid (HU.out (w3.alloc (.cells #[.slice A5 0 c5, .slice A6 0 c6] 25)) _ ((HT.out.below hb23).mono hb23.size))
        have hbw3 := hbw2.trans (hb23.mono hbw2.size)
        clear hb3 hb33 HC2
        go_wp2_with fail
        with_reducible refine HU3.out.mono ?_
        rintro e w4 ⟨A7, c7, A8, c8, rfl, _, _, hb4⟩
        go_wp2_with fail
        go_ret
        exact ⟨rfl, (hbw3.trans (hb4.mono hbw3.size)).alloc (hbw3.trans (hb4.mono hbw3.size)).size _⟩
    · have hne : (er != 0) = true := by simpa using her
      clear hgood her
      generalize b.length = bl at *
      go_enter Try.func7, Try.ntmps7
      go_wp2_with fail
      refine HK.out.mono ?_
      rintro e w1 ⟨rfl, hb1⟩
      have hW1 := HW.out.below hb1 (by simp)
      have k0 : w1.cell? ⟨w.heap.size, 0, none⟩ = some (.slice A nl c) := hW1.cell 0
      have k1 : w1.cell? ⟨w.heap.size, 1, none⟩ = some (.slice A2 dl c2) := hW1.cell 1
      have hb := hb0.trans (hb1.mono (by simp))
      have HP1 := Lib.hid (HP.out w1 hb)
      clear hW1
      go_wp2_with fail
      with_reducible refine HP1.out.mono ?_
      rintro e w2 ⟨A4, c4, rfl, ho4, hb2⟩
      clear ho4
      go_wp2_with fail
      go_ret
      exact ⟨rfl, hb.trans (hb2.mono hb.size)⟩
end Go.Proofs.Ytniibcjlmlmboaa
