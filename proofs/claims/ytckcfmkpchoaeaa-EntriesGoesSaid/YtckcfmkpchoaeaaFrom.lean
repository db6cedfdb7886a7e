/-
  What From answers.
-/
import Derived.Test.YtckcfmkpchoaeaaFair
import Derived.Test.YtckcfmkpchoaeaaClone
namespace Go.Proofs.Ytckcfmkpchoaeaa
open Go.RowKit

theorem from0_no {x : Lg.L} {i m : Int} (h : m ≤ 0 ∨ i ≤ x.1 ∨ x.1 + x.2.2.length < i) : Lg.from0 x i m = [] := by unfold Lg.from0; rw [if_pos h]
theorem from0_yes {x : Lg.L} {j k : Nat} {m : Int} (h : x.1 = (k : Int)) (hm : 0 < m) (h1 : k < j) (h2 : j ≤ k + x.2.2.length) : Lg.from0 x (j : Int) m = (x.2.2.drop (j - k - 1)).take m.toNat := by
  unfold Lg.from0
  rw [if_neg (by omega), h, show ((j : Int) - (k : Int) - 1).toNat = j - k - 1 by omega]

set_option maxRecDepth 100000 in
theorem from_any (b t i m : Int) (hi : -9223372036854775808 ≤ i ∧ i ≤ 9223372036854775807) (v : Value) (l : List E) (w : World) (B : Nat) (hB : B ≤ w.heap.size) (hv : Sl w B v l) :
    Calls Try.prog 16 #[lv b t v, .int .i64 i, .int .i64 m] w (ListOut w (Lg.from_ (b, t, l) i m)) := by
  obtain ⟨A, c, rfl, hc, hmm⟩ := hv.form
  unfold maxLen at hmm
  have hb0 : Below w.heap.size w (w.alloc (.cells #[.int .i64 b, .int .i64 t, .slice A l.length c] 24)) := (Below.refl _ _).alloc (Nat.le_refl _) _
  have HF := Lib.hid (fair_any b t _ l _ B (Nat.le_trans hB hb0.size) (hv.below (hb0.mono hB)))
  have HW := Lib.hid (Whole.new w 24 #[.int .i64 b, .int .i64 t, .slice A l.length c])
  have HB := Lib.hid hb0
  have hfm := Lg.fair_may (b, t, l)
  unfold Lg.from_
  clear hv hb0
  generalize Lg.fair (b, t, l) = x at *
  generalize l.length = n at *
  obtain ⟨y, z, s⟩ := x
  rw [Lg.may_iff] at hfm
  simp only at hfm
  obtain ⟨q1, q2, q3, q4, -, q6, -⟩ := hfm
  obtain ⟨k, rfl⟩ := Int.eq_ofNat_of_zero_le q1
  have H1 := Lib.hid (@from0_no ((k : Int), z, s) i m)
  have H2 := Lib.hid (fun j => @from0_yes ((k : Int), z, s) j k m rfl)
  go_enter Try.func16, Try.ntmps16
  by_cases h1 : m ≤ 0 ∨ i ≤ (k : Int) ∨ (k : Int) + s.length < i
  · have e0 := H1.out h1
    generalize Lg.from0 ((k : Int), z, s) i m = r at *
    subst e0
    go_wp2_with fail
    with_reducible refine HF.out.mono ?_
    rintro e w2 ⟨v2, rfl, hs, hb2⟩
    simp only at hs ⊢
    obtain ⟨A2, c2, rfl, hc2, hm2⟩ := hs.form
    unfold maxLen at hm2
    have hbb := HB.out.trans (hb2.mono HB.out.size)
    have hw2 := HW.out.below hb2 HW.out.lt
    obtain ⟨k0, k1, k2⟩ := hw2.c3
    obtain ⟨f0, f1, f2⟩ := hw2.f3
    have HB2 := Lib.hid (below_set3 hbb (Nat.le_refl w.heap.size) (.int .i64 (k : Int)) (.int .i64 z) (.slice A2 s.length c2))
    clear hw2 hbb hb2 HF HW HB H1 H2 hs
    generalize s.length = p at *
    by_cases h2 : m ≤ 0
    · go_wp2_with fail
      go_ret
      exact ⟨none, 0, rfl, Own.nil _ _ _, HB2.out⟩
    · have d2 : decide (m ≤ 0) = false := by simp; omega
      by_cases h3 : i ≤ (k : Int)
      · go_wp2_with fail
        go_ret
        exact ⟨none, 0, rfl, Own.nil _ _ _, HB2.out⟩
      · have d3 : decide (i ≤ (k : Int)) = false := by simp; omega
        have h4 : (k : Int) + p < i := by omega
        go_wp2_with fail
        go_ret
        exact ⟨none, 0, rfl, Own.nil _ _ _, HB2.out⟩
  · obtain ⟨j, rfl⟩ := Int.eq_ofNat_of_zero_le (show 0 ≤ i by omega)
    obtain ⟨mm, rfl⟩ := Int.eq_ofNat_of_zero_le (show 0 ≤ m by omega)
    have e0 := H2.out j (by omega) (by omega) (show j ≤ k + s.length by omega)
    simp only [Int.toNat_natCast] at e0
    rw [e0]
    have d2 : decide ((mm : Int) ≤ 0) = false := by simp; omega
    have d3 : decide ((j : Int) ≤ (k : Int)) = false := by simp; omega
    have d3' : decide (j ≤ k) = false := by simp; omega
    go_wp2_with fail
    with_reducible refine HF.out.mono ?_
    rintro e w2 ⟨v2, rfl, hs, hb2⟩
    simp only at hs ⊢
    obtain ⟨A2, c2, rfl, hc2, hm2⟩ := hs.form
    unfold maxLen at hm2
    obtain ⟨b1, o1, hA2, -⟩ := hs.term (j - k - 1) (by omega)
    subst hA2
    have hbb := HB.out.trans (hb2.mono HB.out.size)
    have hw2 := HW.out.below hb2 HW.out.lt
    obtain ⟨k0, k1, k2⟩ := hw2.c3
    obtain ⟨f0, f1, f2⟩ := hw2.f3
    have hB2 := below_set3 hbb (Nat.le_refl w.heap.size) (.int .i64 (k : Int)) (.int .i64 z) (.slice (some ⟨b1, o1, none⟩) s.length c2)
    have hdr := hs.drop (j - k - 1) (by omega)
    have hcu : ¬ c2 = j - k - 1 := by omega
    rw [if_neg hcu, show Rep.sz E = 7 from rfl, Option.map_some, add_at] at hdr
    have HB2 := Lib.hid hB2
    have hdw := hdr.below ((((Below.refl w.heap.size w2).setCell (p := ⟨w.heap.size, 0, none⟩) (Nat.le_refl _) (.int .i64 (k : Int))).setCell (p := ⟨w.heap.size, 1, none⟩) (Nat.le_refl _) (.int .i64 z)).setCell (p := ⟨w.heap.size, 2, none⟩) (Nat.le_refl _) (.slice (some ⟨b1, o1, none⟩) s.length c2) |>.mono hB)
    have HD := Lib.hid hdw
    have hdl : (s.drop (j - k - 1)).length = s.length - (j - k - 1) := List.length_drop
    by_cases h6 : mm ≤ s.length - (j - k - 1)
    · have hL : ((s.drop (j - k - 1)).take mm).length = mm := by rw [List.length_take]; omega
      have HC := Lib.hid (clone_any _ ((s.drop (j - k - 1)).take mm) (by omega) _ B (Nat.le_trans hB hB2.size) (HD.out.take mm (c2 - (j - k - 1)) h6 (by omega) (by unfold maxLen; omega)))
      clear hw2 hbb hb2 HF HW HB H1 H2 hs hdr hdw HD hB2 e0 hdl
      generalize (s.drop (j - k - 1)).take mm = L at *
      have HL := Lib.hid hL
      clear hL
      generalize s.length = p at *
      go_wp2_with fail
      with_reducible refine HC.out.mono ?_
      rintro e w5 ⟨A5, c5, rfl, ho5, hb5⟩
      have hb6 := HB2.out.trans (hb5.mono HB2.out.size)
      have ho6 := ho5.down HB2.out.size
      clear ho5 hb5 HC HB2
      go_wp2_with fail
      go_ret
      exact listOut_of ho6 hb6
    · have hL : ((s.drop (j - k - 1)).take mm).length = s.length - (j - k - 1) := by rw [List.length_take]; omega
      have hte : (s.drop (j - k - 1)).take mm = s.drop (j - k - 1) := List.take_of_length_le (by omega)
      have HC := Lib.hid (clone_any _ ((s.drop (j - k - 1)).take mm) (by omega) _ B (Nat.le_trans hB hB2.size) (by rw [hte]; exact HD.out))
      clear hw2 hbb hb2 HF HW HB H1 H2 hs hdr hdw HD hB2 e0 hdl hte
      generalize (s.drop (j - k - 1)).take mm = L at *
      have HL := Lib.hid hL
      clear hL
      generalize s.length = p at *
      go_wp2_with fail
      with_reducible refine HC.out.mono ?_
      rintro e w5 ⟨A5, c5, rfl, ho5, hb5⟩
      have hb6 := HB2.out.trans (hb5.mono HB2.out.size)
      have ho6 := ho5.down HB2.out.size
      clear ho5 hb5 HC HB2
      go_wp2_with fail
      go_ret
      exact listOut_of ho6 hb6
end Go.Proofs.Ytckcfmkpchoaeaa
