/-
  The sums of half bytes are linear, for all a and b: what the law's text comes to.
-/
import Derived.Test.YthjkokapehmliaaDoorAwake
import Derived.Test.YthjkokapehmliaaDoorNib
import Derived.Deep.DeepCutAuto
import Derived.Deep.QuietTactic
import Derived.BigQuiet
namespace Go.Proofs.YthjkokapehmliaaDoor
open Go.RowKit

theorem i64_xor (a b : Nat) (ha : a < 9223372036854775808) (hb : b < 9223372036854775808) : bits .xor .i64 (a : Int) (b : Int) = ((a ^^^ b : Nat) : Int) := by
  have hx : a ^^^ b < 2 ^ 63 := Nat.xor_lt_two_pow (by omega) (by omega)
  have e : ∀ n : Nat, n < 9223372036854775808 → (BitVec.ofInt 64 (n : Int)).toNat = n := by
    intro n hn
    rw [BitVec.ofInt_natCast, BitVec.toNat_ofNat]; exact Nat.mod_eq_of_lt (by omega)
  show IntKind.i64.wrap ((BitVec.ofInt 64 (a : Int) ^^^ BitVec.ofInt 64 (b : Int)).toNat : Int) = _
  rw [BitVec.toNat_xor, e a ha, e b hb, IntKind.wrap_i64]
  omega
theorem nib_ne : ∀ a, a < 16 → ∀ b, b < 16 → a ≠ b → Crc.stps 4 a ≠ Crc.stps 4 b := by decide

set_option maxRecDepth 100000 in
theorem nib_out (a b : Int) (w : World) (hT : Tab w) (hout : a < 0 ∨ (0 ≤ a ∧ 15 < a) ∨ (0 ≤ a ∧ a ≤ 15 ∧ b < 0) ∨ (0 ≤ a ∧ a ≤ 15 ∧ 0 ≤ b ∧ 15 < b)) :
    Calls Tryd.prog 10 #[.int .i64 a, .int .i64 b] w fun e w' => e = .returned (.bool true) ∧ Below w.heap.size w w' := by
  have K1 := Lib.hid (awake_any w hT)
  clear hT
  rcases hout with h | ⟨h1, h2⟩ | ⟨h1, h2, h3⟩ | ⟨h1, h2, h3, h4⟩
  all_goals
    go_enter Tryd.func10, Tryd.ntmps10
    go_wp2_with (go_at_call 11; refine K1.out.mono ?_; rintro e w1 ⟨rfl, hb1⟩)
    go_ret
    exact ⟨rfl, hb1⟩

set_option maxRecDepth 100000 in
theorem nib_in (a b : Nat) (ha : a < 16) (hb : b < 16) (w : World) (hT : Tab w) :
    Calls Tryd.prog 10 #[.int .i64 (a : Int), .int .i64 (b : Int)] w fun e w' => e = .returned (.bool true) ∧ Below w.heap.size w w' := by
  have K1 := Lib.hid (awake_any w hT)
  have K2 : Hid (∀ W, Tab W → Calls Tryd.prog 12 #[] W fun e w' => e = .returned (.agg #[.int .u32 0, .int .u32 498536548, .int .u32 997073096, .int .u32 651767980, .int .u32 1994146192, .int .u32 1802195444, .int .u32 1303535960, .int .u32 1342533948, .int .u32 3988292384, .int .u32 4027552580, .int .u32 3604390888, .int .u32 3412177804, .int .u32 2607071920, .int .u32 2262029012, .int .u32 2685067896, .int .u32 3183342108]) ∧ Below W.heap.size W w') := Lib.hid fun W hW => nibbles_any W hW
  have hpos := hT.pos
  have HT := Lib.hid hT
  clear hT
  go_enter Tryd.func10, Tryd.ntmps10
  go_upto_region 4 with (go_at_call 11; refine K1.out.mono ?_; rintro e w1 ⟨rfl, hb1⟩)
  go_cut [6] (fun s wx => ∃ g, s = .pointer (some ⟨g, 0, none⟩) ∧ (∃ t fr, wx.heap[g]? = some (.cells tabCells t fr)) ∧ Below w.heap.size w wx)
  case first =>
    have HT1 := Lib.hid (HT.out.below hb1 hpos)
    go_wp2_with (go_at_call 12; refine (K2.out _ HT1.out).mono ?_; rintro e w2 ⟨rfl, hb2⟩)
    go_meet
    case rel => exact ⟨_, rfl, ⟨_, _, heap_alloc_new _ _⟩, (hb1.trans (hb2.mono hb1.size)).alloc (by have := hb1.size; have := hb2.size; omega) _⟩
  case rest =>
    obtain ⟨g, rfl, ⟨t, fr, hg⟩, hbx⟩ := hcut
    have hx : a ^^^ b < 16 := Nat.xor_lt_two_pow (n := 4) ha hb
    have cells : ∀ i, i < 16 → wc.cell? ⟨g, i, none⟩ = some (.int .u32 ((Crc.stps 4 i : Nat) : Int)) := by
      intro i hi
      rw [cell_of_row wc g i _ t fr hg, ← tab_num i hi]
      have hl : i < tabNums.length := hi
      simp [tabCells, hl]
    have c0 : wc.cell? ⟨g, 0, none⟩ = some (.int .u32 0) := cells 0 (by omega)
    have ca := cells a ha
    have cb := cells b hb
    have cx := cells _ hx
    have e1 := i64_xor a b (by omega) (by omega)
    have e2 := u32_xor_nat (Crc.stps 4 a) (Crc.stps 4 b) (Crc.stps_lt 4 (by omega)) (Crc.stps_lt 4 (by omega))
    rw [← Crc.stps_xor] at e2
    have hne := nib_ne a ha b hb
    generalize a ^^^ b = x at *
    generalize Crc.stps 4 x = tx at *
    have hbx2 := Lib.hid hbx
    clear cells hg K2 hbx
    by_cases hab : a = b
    · subst hab
      generalize Crc.stps 4 a = ta at *
      clear hne cb hb
      go_wp2_with fail
      go_quiet (fail)
      go_wp2
      go_ret
      exact ⟨rfl, below_drewN hbx2.out _⟩
    · have hne := hne hab
      have hab1 : ((a : Int) == (b : Int)) = false := by simp; omega
      generalize Crc.stps 4 a = ta at *
      generalize Crc.stps 4 b = tb at *
      have hne1 : ((ta : Int) != (tb : Int)) = true := by simp; omega
      clear hne hab
      go_wp2_with fail
      go_quiet (fail)
      go_wp2
      go_ret
      exact ⟨rfl, below_drewN hbx2.out _⟩
/-- For all a and b. -/
theorem nib_law (w : World) (hT : Tab w) (a : Int) (_ : (Lit.int .i64 a).wf = true) (b : Int) (_ : (Lit.int .i64 b).wf = true) :
    Calls Tryd.prog 10 #[.int .i64 a, .int .i64 b] w fun e w' => e = .returned (.bool true) ∧ Below w.heap.size w w' := by
  by_cases h : (0 ≤ a ∧ a ≤ 15) ∧ 0 ≤ b ∧ b ≤ 15
  · obtain ⟨⟨h1, h2⟩, h3, h4⟩ := h
    obtain ⟨n, rfl⟩ := Int.eq_ofNat_of_zero_le h1
    obtain ⟨m, rfl⟩ := Int.eq_ofNat_of_zero_le h3
    exact nib_in n m (by omega) (by omega) w hT
  · exact nib_out a b w hT (by omega)
end Go.Proofs.YthjkokapehmliaaDoor
