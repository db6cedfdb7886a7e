/-
  QuorumMeets: two majorities of the same members have a member together.
-/
import Derived.Test.YtdgfopiagfibkaaAwk
namespace Go.Proofs.Ytdgfopiagfibkaa
open Go.RowKit

/-- The bool at k of a slice of bools. -/
theorem Sl.bool {w : World} {B n c : Nat} {A : Option Addr} {l : List Bool} (h : Sl w B (.slice A n c) l) (k : Nat) (hk : k < l.length) :
    ∃ b off, A = some ⟨b, off, none⟩ ∧ b < B ∧ w.cell? ⟨b, off + k, none⟩ = some (.bool l[k]) := by
  have hr := h.room
  obtain ⟨b, off, ds, e, hb, h1, h2⟩ := h.at_ k (by omega) hk
  have e1 : ds = [.bool l[k]] := h1
  subst e1
  have := h2 0 _ rfl
  rw [show Rep.sz Bool = 1 from rfl, Nat.mul_one, Nat.add_zero] at this
  exact ⟨b, off, e, hb, this⟩

set_option maxRecDepth 100000 in
theorem meets_law (w : World) (v u : Value) (l m : List Bool) (hv : Sl w w.heap.size v l) (hu : Sl w w.heap.size u m) :
    Calls Try.prog 4 #[v, u] w fun e w' => e = .returned (.bool true) ∧ Below w.heap.size w w' := by
  obtain ⟨A, c, rfl, hc, hm⟩ := hv.form
  obtain ⟨A2, c2, rfl, hc2, hm2⟩ := hu.form
  have HB := Lib.hid (Below.refl w.heap.size w)
  have HK := Lib.hid (fun W => awake_any W)
  have H1 := Lib.hid (fun (h : l.length ≤ 1000 ∧ 0 < l.length) W => show Calls Try.prog 8 #[.int .i64 (l.length : Int)] W fun e w' => e = .returned (.int .i64 ((l.length / 2 + 1 : Nat) : Int)) ∧ W = w' by rw [← Qr.maj_nat h.2]; exact maj_any (l.length : Int) (by omega) W)
  have HV := Lib.hid hv
  have HU := Lib.hid hu
  clear hv hu
  generalize hl : l.length = n at *
  generalize hl2 : m.length = n2 at *
  have HL := Lib.hid hl
  have HL2 := Lib.hid hl2
  clear hl hl2
  go_enter Try.func4, Try.ntmps4
  go_wp2_with fail
  with_reducible refine (HK.out _).mono ?_
  rintro e w1 ⟨rfl, hb⟩
  replace HB := Lib.hid (HB.out.trans (hb.mono HB.out.size))
  clear hb HK
  by_cases hk : 100 < n
  · go_wp2_with fail
    go_ret
    exact ⟨rfl, HB.out⟩
  have d1 : decide (100 < n) = false := by simpa using hk
  by_cases he : n = n2
  rotate_left
  · have e1 : ((n : Int) != (n2 : Int)) = true := by simp; omega
    go_wp2_with fail
    go_ret
    exact ⟨rfl, HB.out⟩
  subst he
  have e1 : ((n : Int) != (n : Int)) = false := by simp
  by_cases h0 : n = 0
  · subst h0
    go_wp2_with fail
    go_ret
    exact ⟨rfl, HB.out⟩
  have hne : ((n : Int) == 0) = false := by simpa using h0
  replace H1 := Lib.hid (H1.out (by omega))
  have hq : n < 2 * (n / 2 + 1) ∧ n / 2 + 1 ≤ n := by omega
  generalize n / 2 + 1 = q at *
  go_wp2_with fail
  go_loopw [6, 7, 8, 9] (fun a b d i wr => ∃ (k x y z : Nat), k ≤ n ∧ i = .int .i64 (k : Int) ∧ a = .int .i64 (x : Int) ∧ b = .int .i64 (y : Int) ∧ d = .int .i64 (z : Int) ∧ x ≤ k ∧ y ≤ k ∧ z ≤ k ∧ x + y ≤ z + k ∧ w1 = wr) (fun _ _ _ i _ => n - (intOf i).toNat)
  case atStart => exact ⟨0, 0, 0, 0, Nat.zero_le _, rfl, rfl, rfl, rfl, Nat.le_refl _, Nat.le_refl _, Nat.le_refl _, Nat.le_refl _, rfl⟩
  case round =>
    obtain ⟨k, x, y, z, hkn, rfl, rfl, rfl, rfl, hx, hy, hz, hxy, rfl⟩ := hrel
    by_cases hlt : k < n
    · have hkl : k < l.length := by rw [HL.out]; exact hlt
      have hkm : k < m.length := by rw [HL2.out]; exact hlt
      obtain ⟨b1, o1, rfl, hb1, g1⟩ := (HV.out.below HB.out).bool k hkl
      obtain ⟨b2, o2, rfl, hb2, g2⟩ := (HU.out.below HB.out).bool k hkm
      generalize l[k] = p at *
      generalize m[k] = r at *
      clear hkl hkm
      rcases p with _ | _ <;> rcases r with _ | _
      · go_wp2_with fail
        go_roundw
        case rel => exact ⟨k + 1, x, y, z, by omega, by go_num, rfl, rfl, rfl, by omega, by omega, by omega, by omega, trivial⟩
        case measure => simp [intOf]; omega
      · go_wp2_with fail
        go_roundw
        case rel => exact ⟨k + 1, x, y + 1, z, by omega, by go_num, rfl, by go_num, rfl, by omega, by omega, by omega, by omega, trivial⟩
        case measure => simp [intOf]; omega
      · go_wp2_with fail
        go_roundw
        case rel => exact ⟨k + 1, x + 1, y, z, by omega, by go_num, by go_num, rfl, rfl, by omega, by omega, by omega, by omega, trivial⟩
        case measure => simp [intOf]; omega
      · go_wp2_with fail
        go_roundw
        case rel => exact ⟨k + 1, x + 1, y + 1, z + 1, by omega, by go_num, by go_num, by go_num, by go_num, by omega, by omega, by omega, by omega, trivial⟩
        case measure => simp [intOf]; omega
    · obtain rfl : k = n := by omega
      go_wp2_with fail
      with_reducible refine (H1.out _).mono ?_
      rintro e w2 ⟨rfl, rfl⟩
      by_cases d2 : x < q
      · go_wp2_with fail
        go_ret
        exact ⟨rfl, HB.out⟩
      have d3 : decide (x < q) = false := by simpa using d2
      by_cases d4 : y < q
      · go_wp2_with fail
        go_ret
        exact ⟨rfl, HB.out⟩
      have d5 : decide (y < q) = false := by simpa using d4
      have d6 : decide (0 < z) = true := by simp; omega
      have d7 : decide (k < 2 * q) = true := by simp; omega
      have d8 : decide (q ≤ k) = true := by simp; omega
      go_wp2_with fail
      go_ret
      exact ⟨rfl, HB.out⟩
end Go.Proofs.Ytdgfopiagfibkaa
