/-
  Parts that the statement rests on, joined: Rise, May, Held.
-/
import Derived.Test.YtjcljkbalpgfdaaM2
import Derived.Test.YtjcljkbalpgfdaaM3
import Derived.LoopTactic
/-
  What the program's test on terms answers.
-/



namespace Go.Proofs.Ytjcljkbalpgfdaa
open Go.RowKit

set_option maxRecDepth 100000 in
theorem follow_any (v : Value) (l : List E) (m : Int) (w : World) (B : Nat) (hB : B ≤ w.heap.size) (hv : Sl w B v l) :
    Calls Try.prog 36 #[.int .i64 m, v] w fun e w' => e = .returned (.bool (Lg.rise m l)) ∧ Below w.heap.size w w' := by
  obtain ⟨A, c, rfl, hc, hm⟩ := hv.form
  unfold maxLen at hm
  have H := Lib.hid hv
  have HU0 := Lg.upTo_max m l
  clear hv
  generalize Lg.rise m l = r at *
  generalize hn : l.length = n at *
  have HN := Lib.hid hn
  clear hn
  by_cases hm1 : m < 1
  all_goals
    first | rw [if_pos hm1] at HU0 | rw [if_neg hm1] at HU0
    have HU := Lib.hid HU0
    clear HU0
    go_enter Try.func36, Try.ntmps36
    go_wp2_with fail
    go_loopw [5, 12] (fun a i wr => ∃ (k : Nat) (x : Int), k ≤ n ∧ i = .int .i64 (k : Int) ∧ a = .int .i64 x ∧ 1 ≤ x ∧ Hid (Lg.upTo r l k x) ∧ Sl wr B (.slice A n c) l ∧ Below w.heap.size w wr) (fun _ i _ => n - (intOf i).toNat)
    case atStart => exact ⟨0, _, Nat.zero_le _, rfl, rfl, by omega, HU, H.out, Below.refl _ _⟩
    case round =>
      obtain ⟨k, x, hk, rfl, rfl, hx1, hu, h1, hb⟩ := hrel
      by_cases hlt : k < n
      · have hkl : k < l.length := by rw [HN.out]; exact hlt
        obtain ⟨b1, o1, rfl, hbB, g0, g1, g2, g3, g4, g5, g6, -⟩ := h1.entry k hkl
        have hst := Lib.hid (Lg.upTo_stop hu.out hkl)
        have hsp := Lib.hid (Lg.upTo_step hu.out hkl)
        have S1 := Lib.hid (h1.below ((Below.refl B wr).alloc (Nat.le_trans hB hb.size) (.cells (ec l[k]) 55)))
        have HB := Lib.hid (hb.alloc hb.size (.cells (ec l[k]) 55))
        have hz := hb.size
        clear h1 hb hu
        generalize l[k] = y at *
        obtain ⟨t, y1, y2, y3, y4, y5, y6⟩ := y
        dsimp only at *
        clear hkl
        by_cases c3 : t < x
        · obtain rfl := hst.out (by omega)
          go_wp2_with fail
          go_ret
          exact ⟨rfl, HB.out⟩
        · by_cases c2 : 1073741824 < t
          · obtain rfl := hst.out (by omega)
            go_wp2_with fail
            go_ret
            exact ⟨rfl, HB.out⟩
          · have hup := Lib.hid (hsp.out (by omega))
            clear hst hsp
            go_wp2_with fail
            go_roundw
            case rel => exact ⟨k + 1, t, by omega, by go_num, rfl, by omega, hup, S1.out, HB.out⟩
            case measure => simp [intOf]; omega
      · obtain rfl := Lg.upTo_end hu.out (by rw [HN.out]; omega)
        go_wp2_with fail
        go_ret
        exact ⟨rfl, hb⟩
end Go.Proofs.Ytjcljkbalpgfdaa

/-
  What May answers.
-/

namespace Go.Proofs.Ytjcljkbalpgfdaa
open Go.RowKit

theorem may_fall {b t : Int} {l : List E} {n : Nat} (hn : l.length = n) (h : b < 0 ∨ 1099511627776 < b ∨ t < 0 ∨ 1073741824 < t ∨ (b ≤ 0 ∧ t ≠ 0) ∨ 64 < n) : Lg.may (b, t, l) = false := by
  rw [Bool.eq_false_iff, ne_eq, Lg.may_iff]
  rintro ⟨h1, h2, h3, h4, h5, h6, _⟩
  simp only at h1 h2 h3 h4 h5 h6
  omega
theorem may_rise {b t : Int} {l : List E} {n : Nat} (hn : l.length = n) (h1 : 0 ≤ b) (h2 : b ≤ 1099511627776) (h3 : 0 ≤ t) (h4 : t ≤ 1073741824) (h5 : 0 < b ∨ t = 0) (h6 : n ≤ 64) : Lg.may (b, t, l) = Lg.rise t l := by
  rw [Bool.eq_iff_iff, Lg.may_iff]
  simp only
  constructor
  · rintro ⟨_, _, _, _, _, _, h⟩; exact h
  · intro h; exact ⟨h1, h2, h3, h4, h5, by omega, h⟩
theorem may_fall2 {b t : Int} {l : List E} (h : Lg.rise t l = false) : Lg.may (b, t, l) = false := by
  rw [Bool.eq_false_iff, ne_eq, Lg.may_iff]
  rintro ⟨_, _, _, _, _, _, h7⟩
  simp only at h7
  rw [h] at h7; cases h7

set_option maxRecDepth 100000 in
theorem may_any (b t : Int) (v : Value) (l : List E) (w : World) (B : Nat) (hB : B ≤ w.heap.size) (hv : Sl w B v l) :
    Calls Try.prog 23 #[lv b t v] w fun e w' => e = .returned (.bool (Lg.may (b, t, l))) ∧ Below w.heap.size w w' := by
  obtain ⟨A, c, rfl, hc, hm⟩ := hv.form
  unfold maxLen at hm
  have hb0 : Below w.heap.size w (w.alloc (.cells #[.int .i64 b, .int .i64 t, .slice A l.length c] 26)) := (Below.refl _ _).alloc (Nat.le_refl _) _
  have HF := Lib.hid (fun W (h : Below w.heap.size w W) => follow_any _ l t W B (Nat.le_trans hB h.size) (hv.below (h.mono hB)))
  have hfall := Lib.hid (@may_fall b t l _ rfl)
  have hrise := Lib.hid (@may_rise b t l _ rfl)
  have HB := Lib.hid hb0
  clear hv hb0
  generalize Lg.may (b, t, l) = r at *
  generalize Lg.rise t l = q at *
  generalize l.length = n at *
  by_cases b1 : b < 0
  · obtain rfl := hfall.out (by omega)
    go_enter Try.func23, Try.ntmps23
    go_wp2_with fail
    go_ret
    exact ⟨rfl, HB.out⟩
  have d1 : decide (b < 0) = false := by simp; omega
  by_cases b2 : 1099511627776 < b
  · obtain rfl := hfall.out (by omega)
    go_enter Try.func23, Try.ntmps23
    go_wp2_with fail
    go_ret
    exact ⟨rfl, HB.out⟩
  by_cases b3 : t < 0
  · obtain rfl := hfall.out (by omega)
    go_enter Try.func23, Try.ntmps23
    go_wp2_with fail
    go_ret
    exact ⟨rfl, HB.out⟩
  have d3 : decide (t < 0) = false := by simp; omega
  by_cases b4 : 1073741824 < t
  · obtain rfl := hfall.out (by omega)
    go_enter Try.func23, Try.ntmps23
    go_wp2_with fail
    go_ret
    exact ⟨rfl, HB.out⟩
  by_cases b5 : b = 0
  · subst b5
    by_cases b6 : t = 0
    · subst b6
      by_cases b7 : 64 < n
      · obtain rfl := hfall.out (by omega)
        go_enter Try.func23, Try.ntmps23
        go_wp2_with fail
        go_ret
        exact ⟨rfl, HB.out⟩
      · obtain rfl := hrise.out (by omega) (by omega) (by omega) (by omega) (by omega) (by omega)
        go_enter Try.func23, Try.ntmps23
        go_wp2_with fail
        with_reducible refine (HF.out _ HB.out).mono ?_
        rintro e w2 ⟨rfl, hb2⟩
        have hb3 := HB.out.trans (hb2.mono HB.out.size)
        go_wp2_with fail
        go_ret
        exact ⟨rfl, hb3⟩
    · obtain rfl := hfall.out (by omega)
      have d6 : (t != 0) = true := by simpa using b6
      go_enter Try.func23, Try.ntmps23
      go_wp2_with fail
      go_ret
      exact ⟨rfl, HB.out⟩
  · have d5 : (b == 0) = false := by simpa using b5
    by_cases b7 : 64 < n
    · obtain rfl := hfall.out (by omega)
      go_enter Try.func23, Try.ntmps23
      go_wp2_with fail
      go_ret
      exact ⟨rfl, HB.out⟩
    · obtain rfl := hrise.out (by omega) (by omega) (by omega) (by omega) (by omega) (by omega)
      go_enter Try.func23, Try.ntmps23
      go_wp2_with fail
      with_reducible refine (HF.out _ HB.out).mono ?_
      rintro e w2 ⟨rfl, hb2⟩
      have hb3 := HB.out.trans (hb2.mono HB.out.size)
      go_wp2_with fail
      go_ret
      exact ⟨rfl, hb3⟩
end Go.Proofs.Ytjcljkbalpgfdaa

/-
  What Held answers.
-/



namespace Go.Proofs.Ytjcljkbalpgfdaa
open Go.RowKit

set_option maxRecDepth 100000 in
theorem held_any (v : Value) (l : List Int) (i : Int) (w : World) (B : Nat) (_hB : B ≤ w.heap.size) (hv : Sl w B v l) :
    Calls Try.prog 41 #[v, .int .i64 i] w fun e w' => e = .returned (.int .i64 (Qr.held l i : Int)) ∧ w = w' := by
  obtain ⟨A, c, rfl, hc, hm⟩ := hv.form
  unfold maxLen at hm
  have H := Lib.hid hv
  have HE := Lib.hid (show Qr.held (l.take l.length) i = Qr.held l i by rw [List.take_length])
  have HLE := Lib.hid (fun k => Qr.held_le (l.take k) i)
  clear hv
  generalize Qr.held l i = r at *
  generalize hn : l.length = n at *
  have HN := Lib.hid hn
  clear hn
  have HTK := Lib.hid (fun k (h : k < l.length) => Qr.held_take h i)
  go_enter Try.func41, Try.ntmps41
  go_wp2_with fail
  go_loopw [5, 10] (fun a i' wr => ∃ k : Nat, k ≤ n ∧ i' = .int .i64 (k : Int) ∧ a = .int .i64 (Qr.held (l.take k) i : Int) ∧ w = wr) (fun _ i' _ => n - (intOf i').toNat)
  case atStart => exact ⟨0, Nat.zero_le _, rfl, rfl, rfl⟩
  case round =>
    obtain ⟨k, hk, rfl, rfl, rfl⟩ := hrel
    by_cases hlt : k < n
    · have hkl : k < l.length := by rw [HN.out]; exact hlt
      obtain ⟨b1, o1, rfl, hbB, g0, -⟩ := H.out.int k hkl
      have hst := HTK.out k hkl
      have hle := HLE.out k
      rw [List.length_take] at hle
      generalize hh : Qr.held (l.take k) i = h at *
      generalize l[k] = x at *
      by_cases hx : i ≤ x
      · rw [if_pos hx] at hst
        go_wp2_with fail
        go_roundw
        case rel => exact ⟨k + 1, by omega, by go_num, by rw [hst]; go_num, trivial⟩
        case measure => simp [intOf]; omega
      · rw [if_neg hx] at hst
        go_wp2_with fail
        go_roundw
        case rel => exact ⟨k + 1, by omega, by go_num, by rw [hst]; go_num, trivial⟩
        case measure => simp [intOf]; omega
    · obtain rfl : k = n := by omega
      rw [HE.out]
      go_wp2_with fail
      go_ret
      exact ⟨rfl, rfl⟩
end Go.Proofs.Ytjcljkbalpgfdaa
