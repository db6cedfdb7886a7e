/-
  What May answers.
-/
import Derived.Test.YtdgfopiagfibkaaRise
namespace Go.Proofs.Ytdgfopiagfibkaa
open Go.RowKit

theorem may_fall {b t : Int} {l : List E} {n : Nat} (hn : l.length = n) (h : b < 0 ∨ 1099511627776 < b ∨ t < 0 ∨ 1073741824 < t ∨ (b ≤ 0 ∧ t ≠ 0) ∨ 64 < n) : Lg.may (b, t, l) = false := by
  rw [Bool.eq_false_iff, ne_eq, Lg.may_iff]
  rintro ⟨h1, h2, h3, h4, h5, h6, _⟩
  simp only at h1 h2 h3 h4 h5 h6
  omega
theorem may_rise {b t : Int} {l : List E} {n : Nat} (hn : l.length = n) (h1 : 0 ≤ b) (h2 : b ≤ 1099511627776) (h3 : 0 ≤ t) (h4 : t ≤ 1073741824) (h5 : 0 < b ∨ t = 0) (h6 : n ≤ 64) : Lg.may (b, t, l) = Lg.rise t l := by
  rw [Bool.eq_iff_iff, Lg.may_iff]
  simp only
  constructor
  · rintro ⟨_, _, _, _, _, _, h⟩; exact h
  · intro h; exact ⟨h1, h2, h3, h4, h5, by omega, h⟩
theorem may_fall2 {b t : Int} {l : List E} (h : Lg.rise t l = false) : Lg.may (b, t, l) = false := by
  rw [Bool.eq_false_iff, ne_eq, Lg.may_iff]
  rintro ⟨_, _, _, _, _, _, h7⟩
  simp only at h7
  rw [h] at h7; cases h7

set_option maxRecDepth 100000 in
theorem may_any (b t : Int) (v : Value) (l : List E) (w : World) (B : Nat) (hB : B ≤ w.heap.size) (hv : Sl w B v l) :
    Calls Try.prog 33 #[lv b t v] w fun e w' => e = .returned (.bool (Lg.may (b, t, l))) ∧ Below w.heap.size w w' := by
  obtain ⟨A, c, rfl, hc, hm⟩ := hv.form
  unfold maxLen at hm
  have hb0 : Below w.heap.size w (w.alloc (.cells #[.int .i64 b, .int .i64 t, .slice A l.length c] 38)) := (Below.refl _ _).alloc (Nat.le_refl _) _
  have HF := Lib.hid (fun W (h : Below w.heap.size w W) => follow_any _ l t W B (Nat.le_trans hB h.size) (hv.below (h.mono hB)))
  have hfall := Lib.hid (@may_fall b t l _ rfl)
  have hrise := Lib.hid (@may_rise b t l _ rfl)
  have HB := Lib.hid hb0
  clear hv hb0
  generalize Lg.may (b, t, l) = r at *
  generalize Lg.rise t l = q at *
  generalize l.length = n at *
  by_cases b1 : b < 0
  · obtain rfl := hfall.out (by omega)
    go_enter Try.func33, Try.ntmps33
    go_wp2_with fail
    go_ret
    exact ⟨rfl, HB.out⟩
  have d1 : decide (b < 0) = false := by simp; omega
  by_cases b2 : 1099511627776 < b
  · obtain rfl := hfall.out (by omega)
    go_enter Try.func33, Try.ntmps33
    go_wp2_with fail
    go_ret
    exact ⟨rfl, HB.out⟩
  by_cases b3 : t < 0
  · obtain rfl := hfall.out (by omega)
    go_enter Try.func33, Try.ntmps33
    go_wp2_with fail
    go_ret
    exact ⟨rfl, HB.out⟩
  have d3 : decide (t < 0) = false := by simp; omega
  by_cases b4 : 1073741824 < t
  · obtain rfl := hfall.out (by omega)
    go_enter Try.func33, Try.ntmps33
    go_wp2_with fail
    go_ret
    exact ⟨rfl, HB.out⟩
  by_cases b5 : b = 0
  · subst b5
    by_cases b6 : t = 0
    · subst b6
      by_cases b7 : 64 < n
      · obtain rfl := hfall.out (by omega)
        go_enter Try.func33, Try.ntmps33
        go_wp2_with fail
        go_ret
        exact ⟨rfl, HB.out⟩
      · obtain rfl := hrise.out (by omega) (by omega) (by omega) (by omega) (by omega) (by omega)
        go_enter Try.func33, Try.ntmps33
        go_wp2_with fail
        with_reducible refine (HF.out _ HB.out).mono ?_
        rintro e w2 ⟨rfl, hb2⟩
        have hb3 := HB.out.trans (hb2.mono HB.out.size)
        go_wp2_with fail
        go_ret
        exact ⟨rfl, hb3⟩
    · obtain rfl := hfall.out (by omega)
      have d6 : (t != 0) = true := by simpa using b6
      go_enter Try.func33, Try.ntmps33
      go_wp2_with fail
      go_ret
      exact ⟨rfl, HB.out⟩
  · have d5 : (b == 0) = false := by simpa using b5
    by_cases b7 : 64 < n
    · obtain rfl := hfall.out (by omega)
      go_enter Try.func33, Try.ntmps33
      go_wp2_with fail
      go_ret
      exact ⟨rfl, HB.out⟩
    · obtain rfl := hrise.out (by omega) (by omega) (by omega) (by omega) (by omega) (by omega)
      go_enter Try.func33, Try.ntmps33
      go_wp2_with fail
      with_reducible refine (HF.out _ HB.out).mono ?_
      rintro e w2 ⟨rfl, hb2⟩
      have hb3 := HB.out.trans (hb2.mono HB.out.size)
      go_wp2_with fail
      go_ret
      exact ⟨rfl, hb3⟩
end Go.Proofs.Ytdgfopiagfibkaa
