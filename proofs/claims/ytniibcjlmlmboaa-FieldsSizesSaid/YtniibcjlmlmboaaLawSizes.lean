/-
  A greater number needs no fewer bytes; one that needs so many is less than 256 to the power of that: what the law's text comes to.
-/
import Derived.Test.YtniibcjlmlmboaaAwk
namespace Go.Proofs.Ytniibcjlmlmboaa
open Go.RowKit

theorem sizes_no (a b : Int) (ha : -9223372036854775808 ≤ a ∧ a ≤ 9223372036854775807) (hb : -9223372036854775808 ≤ b ∧ b ≤ 9223372036854775807) (hno : ¬ Fm.may a) (w : World) :
    Calls Try.prog 8 #[.int .i64 a, .int .i64 b] w fun e w' => e = .returned (.bool true) ∧ Below w.heap.size w w' := by
  have HK := Lib.hid (awake_any w)
  have hs : Fm.size a = -1 := by unfold Fm.size; rw [if_neg hno]
  have h1 := fun W => size_any a ha.1 ha.2 W
  rw [hs] at h1
  have HA := Lib.hid h1
  have HB := Lib.hid (fun W => size_any b hb.1 hb.2 W)
  clear hs h1 ha hb
  generalize Fm.size b = y at *
  unfold Fm.may at hno
  rcases (show a < 0 ∨ (0 ≤ a ∧ 72057594037927936 ≤ a) by omega) with h | ⟨h, h2⟩
  all_goals
    clear hno
    go_enter Try.func8, Try.ntmps8
    go_wp2_with fail
    refine HK.out.mono ?_
    rintro e w1 ⟨rfl, hb1⟩
    go_wp2_with fail
    refine (HA.out _).mono ?_
    rintro e w2 ⟨rfl, hw⟩
    subst hw
    go_wp2_with fail
    refine (HB.out _).mono ?_
    rintro e w2 ⟨rfl, hw⟩
    subst hw
    go_wp2_with fail
    go_ret
    exact ⟨rfl, hb1⟩

set_option maxRecDepth 100000 in
theorem sizes_zero (b : Int) (hb : -9223372036854775808 ≤ b ∧ b ≤ 9223372036854775807) (w : World) :
    Calls Try.prog 8 #[.int .i64 0, .int .i64 b] w fun e w' => e = .returned (.bool true) ∧ Below w.heap.size w w' := by
  have HK := Lib.hid (awake_any w)
  have hs : Fm.size 0 = 0 := by unfold Fm.size; rw [if_pos (by unfold Fm.may; omega)]; show (Fm.sz 0 : Int) = 0; rw [Fm.sz_zero]; rfl
  have h1 := fun W => size_any 0 (by omega) (by omega) W
  rw [hs] at h1
  have HA := Lib.hid h1
  have HB := Lib.hid (fun W => size_any b hb.1 hb.2 W)
  have hmono : b < 0 ∨ (0 ≤ b ∧ 72057594037927936 ≤ b) ∨ (0 ≤ b ∧ b < 72057594037927936 ∧ 0 ≤ Fm.size b) := by
    by_cases hm : Fm.may b
    · refine .inr (.inr ⟨by unfold Fm.may at hm; omega, by unfold Fm.may at hm; omega, ?_⟩)
      unfold Fm.size
      rw [if_pos hm]
      omega
    · unfold Fm.may at hm; omega
  clear hs h1 hb
  generalize Fm.size b = y at *
  rcases hmono with h | ⟨h, h2⟩ | ⟨h, h2, h3⟩
  all_goals
    go_enter Try.func8, Try.ntmps8
    go_wp2_with fail
    refine HK.out.mono ?_
    rintro e w1 ⟨rfl, hb1⟩
    go_wp2_with fail
    refine (HA.out _).mono ?_
    rintro e w2 ⟨rfl, hw⟩
    subst hw
    go_wp2_with fail
    refine (HB.out _).mono ?_
    rintro e w2 ⟨rfl, hw⟩
    subst hw
    go_wp2_with fail
    go_ret
    exact ⟨ret_bool (by simp; try omega), hb1⟩

set_option maxRecDepth 100000 in
theorem sizes_yes (a : Nat) (b : Int) (hb : -9223372036854775808 ≤ b ∧ b ≤ 9223372036854775807) (ha : a < 72057594037927936) (h0 : 0 < a) (w : World) :
    Calls Try.prog 8 #[.int .i64 (a : Int), .int .i64 b] w fun e w' => e = .returned (.bool true) ∧ Below w.heap.size w w' := by
  have HK := Lib.hid (awake_any w)
  have hs : Fm.size (a : Int) = (Fm.sz a : Int) := by unfold Fm.size; rw [if_pos (by unfold Fm.may; omega)]; rfl
  have h1 := fun W => size_any (a : Int) (by omega) (by omega) W
  rw [hs] at h1
  have HA := Lib.hid h1
  have HB := Lib.hid (fun W => size_any b hb.1 hb.2 W)
  have hz7 := Fm.sz_le7 ha
  have hmono : b < (a : Int) ∨ ((a : Int) ≤ b ∧ 72057594037927936 ≤ b) ∨ ((a : Int) ≤ b ∧ b < 72057594037927936 ∧ (Fm.sz a : Int) ≤ Fm.size b) := by
    by_cases hm : Fm.may b
    · by_cases hlt : b < (a : Int)
      · exact .inl hlt
      · refine .inr (.inr ⟨by omega, by unfold Fm.may at hm; omega, ?_⟩)
        unfold Fm.size
        rw [if_pos hm]
        have := Fm.sz_mono (a := a) (b := b.toNat) (by omega)
        omega
    · unfold Fm.may at hm; omega
  obtain ⟨m, hm⟩ : ∃ m, Fm.sz a = m + 1 := ⟨Fm.sz a - 1, by rw [Fm.sz_step (by omega)]; omega⟩
  have hup := (Fm.sz_lt (m + 1) a).2 (by omega)
  have hlo : 256 ^ m ≤ a := by
    rcases Nat.lt_or_ge a (256 ^ m) with h | h
    · have := (Fm.sz_lt m a).1 h; omega
    · exact h
  have hp : (256 : Nat) ^ (m + 1) ≤ 256 ^ 7 := Nat.pow_le_pow_right (by omega) (by omega)
  rw [show (256 : Nat) = 2 ^ 8 from rfl, ← Nat.pow_mul] at hup hlo
  rw [show (256 : Nat) = 2 ^ 8 from rfl, ← Nat.pow_mul] at hp
  have hp2 : (2 : Nat) ^ (8 * m) ≤ 2 ^ (8 * (m + 1)) := Nat.pow_le_pow_right (by omega) (by omega)
  rw [hm] at HA hz7 hmono
  clear hs h1 hb hm
  have hpp : 2 ^ (8 * (m + 1)) ≤ 72057594037927936 := hp
  obtain ⟨X, hX⟩ : ∃ X : Int, X = ((m + 1 : Nat) : Int) := ⟨_, rfl⟩
  have x1 : 1 ≤ X := by omega
  have x7 : X ≤ 7 := by omega
  obtain ⟨Y1, hY1⟩ : ∃ Y1 : Int, 8 * X = Y1 := ⟨_, rfl⟩
  obtain ⟨Y2, hY2⟩ : ∃ Y2 : Int, Y1 - 8 = Y2 := ⟨_, rfl⟩
  obtain ⟨P1, hP1⟩ : ∃ P1 : Int, (2 : Int) ^ Y1.toNat = P1 := ⟨_, rfl⟩
  obtain ⟨P2, hP2⟩ : ∃ P2 : Int, (2 : Int) ^ Y2.toNat = P2 := ⟨_, rfl⟩
  have q1 : (a : Int) < P1 := by
    have e : Y1.toNat = 8 * (m + 1) := by omega
    rw [← hP1, e, show ((2 : Int) ^ (8 * (m + 1))) = ((2 ^ (8 * (m + 1)) : Nat) : Int) by simp]
    omega
  have q2 : P1 ≤ 72057594037927936 := by
    have e : Y1.toNat = 8 * (m + 1) := by omega
    rw [← hP1, e, show ((2 : Int) ^ (8 * (m + 1))) = ((2 ^ (8 * (m + 1)) : Nat) : Int) by simp]
    omega
  have q3 : P2 ≤ (a : Int) := by
    have e : Y2.toNat = 8 * m := by omega
    rw [← hP2, e, show ((2 : Int) ^ (8 * m)) = ((2 ^ (8 * m) : Nat) : Int) by simp]
    omega
  have q4 : 0 ≤ P2 := by rw [← hP2]; exact Int.le_of_lt (Int.pow_pos (by omega))
  have y1 : 0 ≤ Y1 := by omega
  have y2 : Y1 ≤ 64 := by omega
  have y3 : 0 ≤ Y2 := by omega
  have y4 : Y2 ≤ 64 := by omega
  have xne : (X == 0) = false := by rw [beq_eq_false_iff_ne]; omega
  have xne2 : (X == -1) = false := by rw [beq_eq_false_iff_ne]; omega
  rw [← hX] at HA hmono
  have z1 : IntKind.i64.wrap P1 = P1 := by rw [IntKind.wrap_i64]; omega
  have z2 : IntKind.i64.wrap P2 = P2 := by rw [IntKind.wrap_i64]; omega
  clear hX hup hlo hp hp2 hpp hz7
  generalize Fm.size b = y at *
  have hd1 : decide ((a : Int) < 0) = false := by simp
  have hd2 : decide (72057594037927936 ≤ (a : Int)) = false := by simp; omega
  rcases hmono with h | ⟨h, h2⟩ | ⟨h, h2, h3⟩
  all_goals
    go_enter Try.func8, Try.ntmps8
    go_wp2_with fail
    refine HK.out.mono ?_
    rintro e w1 ⟨rfl, hb1⟩
    go_wp2_with fail
    refine (HA.out _).mono ?_
    rintro e w2 ⟨rfl, hw⟩
    subst hw
    go_wp2_with fail
    refine (HB.out _).mono ?_
    rintro e w2 ⟨rfl, hw⟩
    subst hw
    go_wp2_with fail
    go_ret
    exact ⟨ret_bool (by simp; try omega), hb1⟩

theorem sizes_law (w : World) (a b : Int) (ha : -9223372036854775808 ≤ a ∧ a ≤ 9223372036854775807) (hb : -9223372036854775808 ≤ b ∧ b ≤ 9223372036854775807) :
    Calls Try.prog 8 #[.int .i64 a, .int .i64 b] w fun e w' => e = .returned (.bool true) ∧ Below w.heap.size w w' := by
  by_cases hm : Fm.may a
  · have hm' := hm
    unfold Fm.may at hm'
    obtain ⟨n, rfl⟩ : ∃ n : Nat, a = (n : Int) := ⟨a.toNat, by omega⟩
    rcases Nat.eq_zero_or_pos n with h | h
    · subst h
      exact sizes_zero b hb w
    · exact sizes_yes n b hb (by omega) h w
  · exact sizes_no a b ha hb hm w
end Go.Proofs.Ytniibcjlmlmboaa
