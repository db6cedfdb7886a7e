/-
  What Term answers: the program's and the reference's.
-/
import Derived.Test.YtdgfopiagfibkaaFair
namespace Go.Proofs.Ytdgfopiagfibkaa
open Go.RowKit

theorem term0_base {x : Lg.L} : Lg.term0 x x.1 = (x.2.1, true) := by unfold Lg.term0; rw [if_pos rfl]
theorem term0_off {x : Lg.L} {i : Int} (h : i ≠ x.1) (h2 : i < x.1 ∨ x.1 + x.2.2.length < i) : Lg.term0 x i = (0, false) := by unfold Lg.term0; rw [if_neg h, if_pos h2]
theorem term0_at {x : Lg.L} {j k : Nat} (h : x.1 = (k : Int)) (h1 : k < j) (h2 : j ≤ k + x.2.2.length) : Lg.term0 x (j : Int) = ((x.2.2[j - k - 1]'(by omega)).1, true) := by
  unfold Lg.term0
  rw [if_neg (by omega), if_neg (by omega), h, show ((j : Int) - (k : Int) - 1).toNat = j - k - 1 by omega, Lg.tm_eq]

set_option maxRecDepth 100000 in
theorem term_any (b t i : Int) (hi : -9223372036854775808 ≤ i ∧ i ≤ 9223372036854775807) (v : Value) (l : List E) (w : World) (B : Nat) (hB : B ≤ w.heap.size) (hv : Sl w B v l) :
    Calls Try.prog 18 #[lv b t v, .int .i64 i] w fun e w' => e = .returned (.tuple #[.int .i64 (Lg.term (b, t, l) i).1, .bool (Lg.term (b, t, l) i).2]) ∧ Below w.heap.size w w' := by
  obtain ⟨A, c, rfl, hc, hm⟩ := hv.form
  unfold maxLen at hm
  have hb0 : Below w.heap.size w (w.alloc (.cells #[.int .i64 b, .int .i64 t, .slice A l.length c] 38)) := (Below.refl _ _).alloc (Nat.le_refl _) _
  have HF := Lib.hid (fair_any b t _ l _ B (Nat.le_trans hB hb0.size) (hv.below (hb0.mono hB)))
  have HW := Lib.hid (Whole.new w 38 #[.int .i64 b, .int .i64 t, .slice A l.length c])
  have HB := Lib.hid hb0
  have hfm := Lg.fair_may (b, t, l)
  unfold Lg.term
  clear hv hb0
  generalize Lg.fair (b, t, l) = x at *
  generalize l.length = n at *
  obtain ⟨y, z, m⟩ := x
  rw [Lg.may_iff] at hfm
  simp only at hfm
  obtain ⟨q1, q2, q3, q4, -, q6, -⟩ := hfm
  obtain ⟨k, rfl⟩ := Int.eq_ofNat_of_zero_le q1
  have H0 := Lib.hid (@term0_base ((k : Int), z, m))
  have H1 := Lib.hid (@term0_off ((k : Int), z, m) i)
  have H2 := Lib.hid (fun j => @term0_at ((k : Int), z, m) j k rfl)
  go_enter Try.func18, Try.ntmps18
  by_cases h0 : i = (k : Int)
  · subst h0
    have e0 := H0.out
    generalize Lg.term0 ((k : Int), z, m) (k : Int) = r at *
    obtain ⟨r1, r2⟩ := r
    obtain ⟨rfl, rfl⟩ := Prod.mk.inj e0
    go_wp2_with fail
    with_reducible refine HF.out.mono ?_
    rintro e w2 ⟨v2, rfl, hs, hb2⟩
    simp only at hs ⊢
    obtain ⟨A2, c2, rfl, hc2, hm2⟩ := hs.form
    unfold maxLen at hm2
    have hbb := HB.out.trans (hb2.mono HB.out.size)
    have hw2 := HW.out.below hb2 HW.out.lt
    obtain ⟨k0, k1, k2⟩ := hw2.c3
    obtain ⟨f0, f1, f2⟩ := hw2.f3
    have HB2 := Lib.hid (below_set3 hbb (Nat.le_refl w.heap.size) (.int .i64 (k : Int)) (.int .i64 r1) (.slice A2 m.length c2))
    clear hw2 hbb hb2 HF HW HB H0 H1 H2 hs e0
    generalize m.length = p at *
    go_wp2_with fail
    go_ret2
    exact ⟨rfl, HB2.out⟩
  · by_cases h1 : i < (k : Int) ∨ (k : Int) + m.length < i
    · have e0 := H1.out h0 h1
      generalize Lg.term0 ((k : Int), z, m) i = r at *
      obtain ⟨r1, r2⟩ := r
      obtain ⟨rfl, rfl⟩ := Prod.mk.inj e0
      have hne : (i == (k : Int)) = false := by simpa using h0
      go_wp2_with fail
      with_reducible refine HF.out.mono ?_
      rintro e w2 ⟨v2, rfl, hs, hb2⟩
      simp only at hs ⊢
      obtain ⟨A2, c2, rfl, hc2, hm2⟩ := hs.form
      unfold maxLen at hm2
      have hbb := HB.out.trans (hb2.mono HB.out.size)
      have hw2 := HW.out.below hb2 HW.out.lt
      obtain ⟨k0, k1, k2⟩ := hw2.c3
      obtain ⟨f0, f1, f2⟩ := hw2.f3
      have HB2 := Lib.hid (below_set3 hbb (Nat.le_refl w.heap.size) (.int .i64 (k : Int)) (.int .i64 z) (.slice A2 m.length c2))
      clear hw2 hbb hb2 HF HW HB H0 H1 H2 hs e0
      generalize m.length = p at *
      rcases h1 with h1 | h1
      · go_wp2_with fail
        go_ret2
        exact ⟨rfl, HB2.out⟩
      · have d1 : decide (i < (k : Int)) = false := by simp; omega
        go_wp2_with fail
        go_ret2
        exact ⟨rfl, HB2.out⟩
    · obtain ⟨j, rfl⟩ := Int.eq_ofNat_of_zero_le (show 0 ≤ i by omega)
      have e0 := H2.out j (by omega) (show j ≤ k + m.length by omega)
      simp only at e0
      generalize Lg.term0 ((k : Int), z, m) (j : Int) = r at *
      obtain ⟨r1, r2⟩ := r
      have hne : ((j : Int) == (k : Int)) = false := by simpa using h0
      have d1 : decide ((j : Int) < (k : Int)) = false := by simp; omega
      have d2 : decide (j < k) = false := by simp; omega
      go_wp2_with fail
      with_reducible refine HF.out.mono ?_
      rintro e w2 ⟨v2, rfl, hs, hb2⟩
      simp only at hs ⊢
      obtain ⟨A2, c2, rfl, hc2, hm2⟩ := hs.form
      unfold maxLen at hm2
      obtain ⟨b1, o1, hA2, hlt, g0, -⟩ := hs.entry (j - k - 1) (by omega)
      subst hA2
      have hbb := HB.out.trans (hb2.mono HB.out.size)
      have hw2 := HW.out.below hb2 HW.out.lt
      obtain ⟨k0, k1, k2⟩ := hw2.c3
      obtain ⟨f0, f1, f2⟩ := hw2.f3
      have HB2 := Lib.hid (below_set3 hbb (Nat.le_refl w.heap.size) (.int .i64 (k : Int)) (.int .i64 z) (.slice (some ⟨b1, o1, none⟩) m.length c2))
      clear hw2 hbb hb2 HF HW HB H0 H1 H2 hs
      generalize (m[j - k - 1]'(by omega)).1 = tt at *
      generalize m.length = p at *
      obtain ⟨rfl, rfl⟩ := Prod.mk.inj e0
      clear e0
      have i1 : (0 : Int) ≤ (j : Int) - (k : Int) - 1 := by omega
      have i2 : (j : Int) - (k : Int) - 1 < (p : Int) := by omega
      go_wp2_with fail
      go_ret2
      exact ⟨rfl, HB2.out⟩
end Go.Proofs.Ytdgfopiagfibkaa
