/-
  Parts that the statement rests on, joined: Rise, May, Rrise, Rmay.
-/
import Derived.Test.YtcacebkbfnnjbaaDoorV1
import Derived.Test.YtcacebkbfnnjbaaDoorV15
import Derived.LoopTactic
/-
  What the program's test on terms answers.
-/



namespace Go.Proofs.YtcacebkbfnnjbaaDoor
open Go.RowKit

set_option maxRecDepth 100000 in
theorem follow_any (v : Value) (l : List E) (m : Int) (w : World) (B : Nat) (hB : B ≤ w.heap.size) (hv : Sl w B v l) :
    Calls Tryd.prog 36 #[.int .i64 m, v] w fun e w' => e = .returned (.bool (Lg.rise m l)) ∧ Below w.heap.size w w' := by
  obtain ⟨A, c, rfl, hc, hm⟩ := hv.form
  unfold maxLen at hm
  have H := Lib.hid hv
  have HU0 := Lg.upTo_max m l
  clear hv
  generalize Lg.rise m l = r at *
  generalize hn : l.length = n at *
  have HN := Lib.hid hn
  clear hn
  by_cases hm1 : m < 1
  all_goals
    first | rw [if_pos hm1] at HU0 | rw [if_neg hm1] at HU0
    have HU := Lib.hid HU0
    clear HU0
    go_enter Tryd.func36, Tryd.ntmps36
    go_wp2_with fail
    go_loopw [5, 12] (fun a i wr => ∃ (k : Nat) (x : Int), k ≤ n ∧ i = .int .i64 (k : Int) ∧ a = .int .i64 x ∧ 1 ≤ x ∧ Hid (Lg.upTo r l k x) ∧ Sl wr B (.slice A n c) l ∧ Below w.heap.size w wr) (fun _ i _ => n - (intOf i).toNat)
    case atStart => exact ⟨0, _, Nat.zero_le _, rfl, rfl, by omega, HU, H.out, Below.refl _ _⟩
    case round =>
      obtain ⟨k, x, hk, rfl, rfl, hx1, hu, h1, hb⟩ := hrel
      by_cases hlt : k < n
      · have hkl : k < l.length := by rw [HN.out]; exact hlt
        obtain ⟨b1, o1, rfl, hbB, g0, g1, g2, g3, g4, g5, g6, -⟩ := h1.entry k hkl
        have hst := Lib.hid (Lg.upTo_stop hu.out hkl)
        have hsp := Lib.hid (Lg.upTo_step hu.out hkl)
        have S1 := Lib.hid (h1.below ((Below.refl B wr).alloc (Nat.le_trans hB hb.size) (.cells (ec l[k]) 57)))
        have HB := Lib.hid (hb.alloc hb.size (.cells (ec l[k]) 57))
        have hz := hb.size
        clear h1 hb hu
        generalize l[k] = y at *
        obtain ⟨t, y1, y2, y3, y4, y5, y6⟩ := y
        dsimp only at *
        clear hkl
        by_cases c3 : t < x
        · obtain rfl := hst.out (by omega)
          go_wp2_with fail
          go_ret
          exact ⟨rfl, HB.out⟩
        · by_cases c2 : 1073741824 < t
          · obtain rfl := hst.out (by omega)
            go_wp2_with fail
            go_ret
            exact ⟨rfl, HB.out⟩
          · have hup := Lib.hid (hsp.out (by omega))
            clear hst hsp
            go_wp2_with fail
            go_roundw
            case rel => exact ⟨k + 1, t, by omega, by go_num, rfl, by omega, hup, S1.out, HB.out⟩
            case measure => simp [intOf]; omega
      · obtain rfl := Lg.upTo_end hu.out (by rw [HN.out]; omega)
        go_wp2_with fail
        go_ret
        exact ⟨rfl, hb⟩
end Go.Proofs.YtcacebkbfnnjbaaDoor

/-
  What May answers.
-/

namespace Go.Proofs.YtcacebkbfnnjbaaDoor
open Go.RowKit

theorem may_fall {b t : Int} {l : List E} {n : Nat} (hn : l.length = n) (h : b < 0 ∨ 1099511627776 < b ∨ t < 0 ∨ 1073741824 < t ∨ (b ≤ 0 ∧ t ≠ 0) ∨ 64 < n) : Lg.may (b, t, l) = false := by
  rw [Bool.eq_false_iff, ne_eq, Lg.may_iff]
  rintro ⟨h1, h2, h3, h4, h5, h6, _⟩
  simp only at h1 h2 h3 h4 h5 h6
  omega
theorem may_rise {b t : Int} {l : List E} {n : Nat} (hn : l.length = n) (h1 : 0 ≤ b) (h2 : b ≤ 1099511627776) (h3 : 0 ≤ t) (h4 : t ≤ 1073741824) (h5 : 0 < b ∨ t = 0) (h6 : n ≤ 64) : Lg.may (b, t, l) = Lg.rise t l := by
  rw [Bool.eq_iff_iff, Lg.may_iff]
  simp only
  constructor
  · rintro ⟨_, _, _, _, _, _, h⟩; exact h
  · intro h; exact ⟨h1, h2, h3, h4, h5, by omega, h⟩
theorem may_fall2 {b t : Int} {l : List E} (h : Lg.rise t l = false) : Lg.may (b, t, l) = false := by
  rw [Bool.eq_false_iff, ne_eq, Lg.may_iff]
  rintro ⟨_, _, _, _, _, _, h7⟩
  simp only at h7
  rw [h] at h7; cases h7

set_option maxRecDepth 100000 in
theorem may_any (b t : Int) (v : Value) (l : List E) (w : World) (B : Nat) (hB : B ≤ w.heap.size) (hv : Sl w B v l) :
    Calls Tryd.prog 24 #[lv b t v] w fun e w' => e = .returned (.bool (Lg.may (b, t, l))) ∧ Below w.heap.size w w' := by
  obtain ⟨A, c, rfl, hc, hm⟩ := hv.form
  unfold maxLen at hm
  have hb0 : Below w.heap.size w (w.alloc (.cells #[.int .i64 b, .int .i64 t, .slice A l.length c] 38)) := (Below.refl _ _).alloc (Nat.le_refl _) _
  have HF := Lib.hid (fun W (h : Below w.heap.size w W) => follow_any _ l t W B (Nat.le_trans hB h.size) (hv.below (h.mono hB)))
  have hfall := Lib.hid (@may_fall b t l _ rfl)
  have hrise := Lib.hid (@may_rise b t l _ rfl)
  have HB := Lib.hid hb0
  clear hv hb0
  generalize Lg.may (b, t, l) = r at *
  generalize Lg.rise t l = q at *
  generalize l.length = n at *
  by_cases b1 : b < 0
  · obtain rfl := hfall.out (by omega)
    go_enter Tryd.func24, Tryd.ntmps24
    go_wp2_with fail
    go_ret
    exact ⟨rfl, HB.out⟩
  have d1 : decide (b < 0) = false := by simp; omega
  by_cases b2 : 1099511627776 < b
  · obtain rfl := hfall.out (by omega)
    go_enter Tryd.func24, Tryd.ntmps24
    go_wp2_with fail
    go_ret
    exact ⟨rfl, HB.out⟩
  by_cases b3 : t < 0
  · obtain rfl := hfall.out (by omega)
    go_enter Tryd.func24, Tryd.ntmps24
    go_wp2_with fail
    go_ret
    exact ⟨rfl, HB.out⟩
  have d3 : decide (t < 0) = false := by simp; omega
  by_cases b4 : 1073741824 < t
  · obtain rfl := hfall.out (by omega)
    go_enter Tryd.func24, Tryd.ntmps24
    go_wp2_with fail
    go_ret
    exact ⟨rfl, HB.out⟩
  by_cases b5 : b = 0
  · subst b5
    by_cases b6 : t = 0
    · subst b6
      by_cases b7 : 64 < n
      · obtain rfl := hfall.out (by omega)
        go_enter Tryd.func24, Tryd.ntmps24
        go_wp2_with fail
        go_ret
        exact ⟨rfl, HB.out⟩
      · obtain rfl := hrise.out (by omega) (by omega) (by omega) (by omega) (by omega) (by omega)
        go_enter Tryd.func24, Tryd.ntmps24
        go_wp2_with fail
        with_reducible refine (HF.out _ HB.out).mono ?_
        rintro e w2 ⟨rfl, hb2⟩
        have hb3 := HB.out.trans (hb2.mono HB.out.size)
        go_wp2_with fail
        go_ret
        exact ⟨rfl, hb3⟩
    · obtain rfl := hfall.out (by omega)
      have d6 : (t != 0) = true := by simpa using b6
      go_enter Tryd.func24, Tryd.ntmps24
      go_wp2_with fail
      go_ret
      exact ⟨rfl, HB.out⟩
  · have d5 : (b == 0) = false := by simpa using b5
    by_cases b7 : 64 < n
    · obtain rfl := hfall.out (by omega)
      go_enter Tryd.func24, Tryd.ntmps24
      go_wp2_with fail
      go_ret
      exact ⟨rfl, HB.out⟩
    · obtain rfl := hrise.out (by omega) (by omega) (by omega) (by omega) (by omega) (by omega)
      go_enter Tryd.func24, Tryd.ntmps24
      go_wp2_with fail
      with_reducible refine (HF.out _ HB.out).mono ?_
      rintro e w2 ⟨rfl, hb2⟩
      have hb3 := HB.out.trans (hb2.mono HB.out.size)
      go_wp2_with fail
      go_ret
      exact ⟨rfl, hb3⟩
end Go.Proofs.YtcacebkbfnnjbaaDoor

/-
  What the reference's test on terms answers.
-/



namespace Go.Proofs.YtcacebkbfnnjbaaDoor
open Go.RowKit

set_option maxRecDepth 100000 in
theorem rising_any (v : Value) (l : List E) (m : Int) (w : World) (B : Nat) (_hB : B ≤ w.heap.size) (hv : Sl w B v l) :
    Calls Tryd.prog 42 #[v, .int .i64 m] w fun e w' => e = .returned (.bool (Lg.rise m l)) ∧ Below w.heap.size w w' := by
  obtain ⟨A, c, rfl, hc, hm⟩ := hv.form
  unfold maxLen at hm
  have H := Lib.hid hv
  have HU := Lib.hid (Lg.upTo_zero m l)
  clear hv
  generalize Lg.rise m l = r at *
  generalize hn : l.length = n at *
  have HN := Lib.hid hn
  clear hn
  go_enter Tryd.func42, Tryd.ntmps42
  go_wp2_with fail
  go_loopw [5, 6] (fun a i wr => ∃ (k : Nat) (x : Int), k ≤ n ∧ i = .int .i64 (k : Int) ∧ a = .int .i64 x ∧ Hid (Lg.upTo r l k x) ∧ Sl wr B (.slice A n c) l ∧ Below w.heap.size w wr) (fun _ i _ => n - (intOf i).toNat)
  case atStart => exact ⟨0, m, Nat.zero_le _, rfl, rfl, HU, H.out, Below.refl _ _⟩
  case round =>
    obtain ⟨k, x, hk, rfl, rfl, hu, h1, hb⟩ := hrel
    by_cases hlt : k < n
    · have hkl : k < l.length := by rw [HN.out]; exact hlt
      obtain ⟨b1, o1, rfl, g0⟩ := h1.term k hkl
      have hst := Lib.hid (Lg.upTo_stop hu.out hkl)
      have hsp := Lib.hid (Lg.upTo_step hu.out hkl)
      have S1 := Lib.hid h1
      have HB := Lib.hid hb
      clear h1 hb hu
      generalize (l[k]).1 = t at *
      clear hkl
      by_cases c1 : t < 1
      · obtain rfl := hst.out (by omega)
        go_wp2_with fail
        go_ret
        exact ⟨rfl, HB.out⟩
      · by_cases c2 : 1073741824 < t
        · obtain rfl := hst.out (by omega)
          go_wp2_with fail
          go_ret
          exact ⟨rfl, HB.out⟩
        · by_cases c3 : t < x
          · obtain rfl := hst.out (by omega)
            go_wp2_with fail
            go_ret
            exact ⟨rfl, HB.out⟩
          · have hup := Lib.hid (hsp.out (by omega))
            clear hst hsp
            go_wp2_with fail
            go_roundw
            case rel => exact ⟨k + 1, t, by omega, by go_num, rfl, hup, S1.out, HB.out⟩
            case measure => simp [intOf]; omega
    · obtain rfl := Lg.upTo_end hu.out (by rw [HN.out]; omega)
      go_wp2_with fail
      go_ret
      exact ⟨rfl, hb⟩
end Go.Proofs.YtcacebkbfnnjbaaDoor

/-
  What the reference's May answers.
-/


namespace Go.Proofs.YtcacebkbfnnjbaaDoor
open Go.RowKit

theorem and_false_or {p q : Bool} (h : p = false) : (p && q) = false := by rw [h]; rfl
set_option maxRecDepth 100000 in
theorem rmay_any (b t : Int) (v : Value) (l : List E) (w : World) (B : Nat) (hB : B ≤ w.heap.size) (hv : Sl w B v l) :
    Calls Tryd.prog 29 #[lv b t v] w fun e w' => e = .returned (.bool (Lg.may (b, t, l))) ∧ Below w.heap.size w w' := by
  obtain ⟨A, c, rfl, hc, hm⟩ := hv.form
  unfold maxLen at hm
  have hb0 : Below w.heap.size w (w.alloc (.cells #[.int .i64 b, .int .i64 t, .slice A l.length c] 38)) := (Below.refl _ _).alloc (Nat.le_refl _) _
  have HF := Lib.hid (rising_any _ l t _ B (by have := hb0.size; omega) (hv.below (hb0.mono hB)))
  have hfall := Lib.hid (@may_fall b t l _ rfl)
  have hfall2 := Lib.hid (@may_fall2 b t l)
  have hrise := Lib.hid (@may_rise b t l _ rfl)
  have hW := Lib.hid (Whole.new w 38 #[.int .i64 b, .int .i64 t, .slice A l.length c])
  have HB := Lib.hid hb0
  clear hv hb0
  generalize Lg.may (b, t, l) = r at *
  generalize Lg.rise t l = q at *
  generalize l.length = n at *
  go_enter Tryd.func29, Tryd.ntmps29
  go_wp2_with fail
  with_reducible refine HF.out.mono ?_
  rintro e w2 ⟨rfl, hb2⟩
  have HB3 := Lib.hid (HB.out.trans (hb2.mono HB.out.size))
  have hw2 := hW.out.below hb2 hW.out.lt
  have k0 := hw2.cell 0
  have k1 := hw2.cell 1
  have k2 := hw2.cell 2
  simp only [List.getElem?_toArray, List.getElem?_cons_zero, List.getElem?_cons_succ] at k0 k1 k2
  clear hb2 hw2 HF
  rcases q with _ | _
  · obtain rfl := hfall2.out rfl
    go_wp2_with fail
    go_ret
    exact ⟨rfl, HB3.out⟩
  by_cases b1 : b < 0
  · obtain rfl := hfall.out (by omega)
    have d1 : decide (0 ≤ b) = false := by simp; omega
    go_wp2_with fail
    go_ret
    exact ⟨rfl, HB3.out⟩
  have d1 : decide (0 ≤ b) = true := by simp; omega
  by_cases b2 : 1099511627776 < b
  · obtain rfl := hfall.out (by omega)
    go_wp2_with fail
    go_ret
    exact ⟨rfl, HB3.out⟩
  by_cases b3 : t < 0
  · obtain rfl := hfall.out (by omega)
    have d1 : decide (0 ≤ t) = false := by simp; omega
    go_wp2_with fail
    go_ret
    exact ⟨rfl, HB3.out⟩
  have d3 : decide (0 ≤ t) = true := by simp; omega
  by_cases b4 : 1073741824 < t
  · obtain rfl := hfall.out (by omega)
    go_wp2_with fail
    go_ret
    exact ⟨rfl, HB3.out⟩
  by_cases b5 : b = 0
  · subst b5
    by_cases b6 : t = 0
    · subst b6
      by_cases b7 : 64 < n
      · obtain rfl := hfall.out (by omega)
        go_wp2_with fail
        go_ret
        exact ⟨ret_bool (by simp; try omega), HB3.out⟩
      · obtain rfl := hrise.out (by omega) (by omega) (by omega) (by omega) (by omega) (by omega)
        go_wp2_with fail
        go_ret
        exact ⟨ret_bool (by simp; try omega), HB3.out⟩
    · obtain rfl := hfall.out (by omega)
      have d6 : (t == 0) = false := by simpa using b6
      go_wp2_with fail
      go_ret
      exact ⟨ret_bool (by simp; try omega), HB3.out⟩
  · have d5 : decide (0 < b) = true := by simp; omega
    by_cases b7 : 64 < n
    · obtain rfl := hfall.out (by omega)
      go_wp2_with fail
      go_ret
      exact ⟨ret_bool (by simp; try omega), HB3.out⟩
    · obtain rfl := hrise.out (by omega) (by omega) (by omega) (by omega) (by omega) (by omega)
      go_wp2_with fail
      go_ret
      exact ⟨ret_bool (by simp; try omega), HB3.out⟩
end Go.Proofs.YtcacebkbfnnjbaaDoor
