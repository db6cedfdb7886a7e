/-
  What the reference's Term answers.
-/
import Derived.Test.YtckcfmkpchoaeaaTerm
namespace Go.Proofs.Ytckcfmkpchoaeaa
open Go.RowKit

set_option maxRecDepth 100000 in
theorem rterm_any (b t i : Int) (hi : -9223372036854775808 ≤ i ∧ i ≤ 9223372036854775807) (v : Value) (l : List E) (w : World) (B : Nat) (hB : B ≤ w.heap.size) (hv : Sl w B v l) :
    Calls Try.prog 14 #[lv b t v, .int .i64 i] w fun e w' => e = .returned (.tuple #[.int .i64 (Lg.term (b, t, l) i).1, .bool (Lg.term (b, t, l) i).2]) ∧ Below w.heap.size w w' := by
  obtain ⟨A, c, rfl, hc, hm⟩ := hv.form
  unfold maxLen at hm
  have hb0 : Below w.heap.size w (w.alloc (.cells #[.int .i64 b, .int .i64 t, .slice A l.length c] 24)) := (Below.refl _ _).alloc (Nat.le_refl _) _
  have HF := Lib.hid (rfair_any b t _ l _ B (Nat.le_trans hB hb0.size) (hv.below (hb0.mono hB)))
  have HB := Lib.hid hb0
  have hfm := Lg.fair_may (b, t, l)
  unfold Lg.term
  clear hv hb0
  generalize Lg.fair (b, t, l) = x at *
  generalize l.length = n at *
  obtain ⟨y, z, m⟩ := x
  rw [Lg.may_iff] at hfm
  simp only at hfm
  obtain ⟨q1, q2, q3, q4, -, q6, -⟩ := hfm
  obtain ⟨k, rfl⟩ := Int.eq_ofNat_of_zero_le q1
  have H0 := Lib.hid (@term0_base ((k : Int), z, m))
  have H1 := Lib.hid (@term0_off ((k : Int), z, m) i)
  have H2 := Lib.hid (fun j => @term0_at ((k : Int), z, m) j k rfl)
  go_enter Try.func14, Try.ntmps14
  by_cases h0 : i = (k : Int)
  · subst h0
    have e0 := H0.out
    generalize Lg.term0 ((k : Int), z, m) (k : Int) = r at *
    obtain ⟨r1, r2⟩ := r
    obtain ⟨rfl, rfl⟩ := Prod.mk.inj e0
    go_wp2_with fail
    with_reducible refine HF.out.mono ?_
    rintro e w2 ⟨v2, rfl, hs, hb2⟩
    simp only at hs ⊢
    obtain ⟨A2, c2, rfl, hc2, hm2⟩ := hs.form
    unfold maxLen at hm2
    have hbb := HB.out.trans (hb2.mono HB.out.size)
    have hz := hbb.size
    have HB2 := Lib.hid (hbb.alloc hbb.size (.cells #[.int .i64 (k : Int), .int .i64 r1, .slice A2 m.length c2] 24))
    clear hbb hb2 HF HB H0 H1 H2 hs e0
    generalize m.length = p at *
    go_wp2_with fail
    go_ret2
    exact ⟨rfl, HB2.out⟩
  · by_cases h1 : i < (k : Int) ∨ (k : Int) + m.length < i
    · have e0 := H1.out h0 h1
      generalize Lg.term0 ((k : Int), z, m) i = r at *
      obtain ⟨r1, r2⟩ := r
      obtain ⟨rfl, rfl⟩ := Prod.mk.inj e0
      have hne : (i == (k : Int)) = false := by simpa using h0
      go_wp2_with fail
      with_reducible refine HF.out.mono ?_
      rintro e w2 ⟨v2, rfl, hs, hb2⟩
      simp only at hs ⊢
      obtain ⟨A2, c2, rfl, hc2, hm2⟩ := hs.form
      unfold maxLen at hm2
      have hbb := HB.out.trans (hb2.mono HB.out.size)
      have hz := hbb.size
      have HB2 := Lib.hid (hbb.alloc hbb.size (.cells #[.int .i64 (k : Int), .int .i64 z, .slice A2 m.length c2] 24))
      clear hbb hb2 HF HB H0 H1 H2 hs e0
      generalize m.length = p at *
      rcases h1 with h1 | h1
      · go_wp2_with fail
        go_ret2
        exact ⟨rfl, HB2.out⟩
      · have d1 : decide (i < (k : Int)) = false := by simp; omega
        have i3 : (p : Int) < i - (k : Int) := by omega
        go_wp2_with fail
        go_ret2
        exact ⟨rfl, HB2.out⟩
    · obtain ⟨j, rfl⟩ := Int.eq_ofNat_of_zero_le (show 0 ≤ i by omega)
      have e0 := H2.out j (by omega) (show j ≤ k + m.length by omega)
      simp only at e0
      generalize Lg.term0 ((k : Int), z, m) (j : Int) = r at *
      obtain ⟨r1, r2⟩ := r
      have hne : ((j : Int) == (k : Int)) = false := by simpa using h0
      have i3 : (j : Int) - (k : Int) ≤ (m.length : Int) := by omega
      have d1 : decide ((j : Int) < (k : Int)) = false := by simp; omega
      have d2 : decide (j < k) = false := by simp; omega
      go_wp2_with fail
      with_reducible refine HF.out.mono ?_
      rintro e w2 ⟨v2, rfl, hs, hb2⟩
      simp only at hs ⊢
      obtain ⟨A2, c2, rfl, hc2, hm2⟩ := hs.form
      unfold maxLen at hm2
      obtain ⟨b1, o1, hA2, hlt, g0, -⟩ := hs.entry (j - k - 1) (by omega)
      subst hA2
      have hbb := HB.out.trans (hb2.mono HB.out.size)
      have hz := hbb.size
      have HB2 := Lib.hid (hbb.alloc hbb.size (.cells #[.int .i64 (k : Int), .int .i64 z, .slice (some ⟨b1, o1, none⟩) m.length c2] 24))
      clear hbb hb2 HF HB H0 H1 H2 hs
      have gA := (Below.cell ((Below.refl w2.heap.size w2).alloc (Nat.le_refl _) (.cells #[.int .i64 (k : Int), .int .i64 z, .slice (some ⟨b1, o1, none⟩) m.length c2] 24)) (p := ⟨b1, o1 + (j - k - 1) * 7, none⟩) (Nat.lt_of_lt_of_le hlt (Nat.le_trans hB hz))).trans g0
      generalize (m[j - k - 1]'(by omega)).1 = tt at *
      generalize m.length = p at *
      obtain ⟨rfl, rfl⟩ := Prod.mk.inj e0
      clear e0
      have i1 : (0 : Int) ≤ (j : Int) - (k : Int) - 1 := by omega
      have i2 : (j : Int) - (k : Int) - 1 < (p : Int) := by omega
      go_wp2_with fail
      go_ret2
      exact ⟨rfl, HB2.out⟩
end Go.Proofs.Ytckcfmkpchoaeaa
