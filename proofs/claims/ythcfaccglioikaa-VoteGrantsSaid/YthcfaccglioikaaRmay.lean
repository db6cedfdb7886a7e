/-
  What the reference's May answers.
-/
import Derived.Test.YthcfaccglioikaaMay
import Derived.Test.YthcfaccglioikaaRrise
namespace Go.Proofs.Ythcfaccglioikaa
open Go.RowKit

theorem and_false_or {p q : Bool} (h : p = false) : (p && q) = false := by rw [h]; rfl
set_option maxRecDepth 100000 in
theorem rmay_any (b t : Int) (v : Value) (l : List E) (w : World) (B : Nat) (hB : B ≤ w.heap.size) (hv : Sl w B v l) :
    Calls Try.prog 24 #[lv b t v] w fun e w' => e = .returned (.bool (Lg.may (b, t, l))) ∧ Below w.heap.size w w' := by
  obtain ⟨A, c, rfl, hc, hm⟩ := hv.form
  unfold maxLen at hm
  have hb0 : Below w.heap.size w (w.alloc (.cells #[.int .i64 b, .int .i64 t, .slice A l.length c] 26)) := (Below.refl _ _).alloc (Nat.le_refl _) _
  have HF := Lib.hid (rising_any _ l t _ B (by have := hb0.size; omega) (hv.below (hb0.mono hB)))
  have hfall := Lib.hid (@may_fall b t l _ rfl)
  have hfall2 := Lib.hid (@may_fall2 b t l)
  have hrise := Lib.hid (@may_rise b t l _ rfl)
  have hW := Lib.hid (Whole.new w 26 #[.int .i64 b, .int .i64 t, .slice A l.length c])
  have HB := Lib.hid hb0
  clear hv hb0
  generalize Lg.may (b, t, l) = r at *
  generalize Lg.rise t l = q at *
  generalize l.length = n at *
  go_enter Try.func24, Try.ntmps24
  go_wp2_with fail
  with_reducible refine HF.out.mono ?_
  rintro e w2 ⟨rfl, hb2⟩
  have HB3 := Lib.hid (HB.out.trans (hb2.mono HB.out.size))
  have hw2 := hW.out.below hb2 hW.out.lt
  have k0 := hw2.cell 0
  have k1 := hw2.cell 1
  have k2 := hw2.cell 2
  simp only [List.getElem?_toArray, List.getElem?_cons_zero, List.getElem?_cons_succ] at k0 k1 k2
  clear hb2 hw2 HF
  rcases q with _ | _
  · obtain rfl := hfall2.out rfl
    go_wp2_with fail
    go_ret
    exact ⟨rfl, HB3.out⟩
  by_cases b1 : b < 0
  · obtain rfl := hfall.out (by omega)
    have d1 : decide (0 ≤ b) = false := by simp; omega
    go_wp2_with fail
    go_ret
    exact ⟨rfl, HB3.out⟩
  have d1 : decide (0 ≤ b) = true := by simp; omega
  by_cases b2 : 1099511627776 < b
  · obtain rfl := hfall.out (by omega)
    go_wp2_with fail
    go_ret
    exact ⟨rfl, HB3.out⟩
  by_cases b3 : t < 0
  · obtain rfl := hfall.out (by omega)
    have d1 : decide (0 ≤ t) = false := by simp; omega
    go_wp2_with fail
    go_ret
    exact ⟨rfl, HB3.out⟩
  have d3 : decide (0 ≤ t) = true := by simp; omega
  by_cases b4 : 1073741824 < t
  · obtain rfl := hfall.out (by omega)
    go_wp2_with fail
    go_ret
    exact ⟨rfl, HB3.out⟩
  by_cases b5 : b = 0
  · subst b5
    by_cases b6 : t = 0
    · subst b6
      by_cases b7 : 64 < n
      · obtain rfl := hfall.out (by omega)
        go_wp2_with fail
        go_ret
        exact ⟨ret_bool (by simp; try omega), HB3.out⟩
      · obtain rfl := hrise.out (by omega) (by omega) (by omega) (by omega) (by omega) (by omega)
        go_wp2_with fail
        go_ret
        exact ⟨ret_bool (by simp; try omega), HB3.out⟩
    · obtain rfl := hfall.out (by omega)
      have d6 : (t == 0) = false := by simpa using b6
      go_wp2_with fail
      go_ret
      exact ⟨ret_bool (by simp; try omega), HB3.out⟩
  · have d5 : decide (0 < b) = true := by simp; omega
    by_cases b7 : 64 < n
    · obtain rfl := hfall.out (by omega)
      go_wp2_with fail
      go_ret
      exact ⟨ret_bool (by simp; try omega), HB3.out⟩
    · obtain rfl := hrise.out (by omega) (by omega) (by omega) (by omega) (by omega) (by omega)
      go_wp2_with fail
      go_ret
      exact ⟨ret_bool (by simp; try omega), HB3.out⟩
end Go.Proofs.Ythcfaccglioikaa
