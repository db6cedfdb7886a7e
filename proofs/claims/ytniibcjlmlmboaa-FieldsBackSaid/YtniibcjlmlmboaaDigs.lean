/-
  What appendDigits puts behind a slice of the caller's own, and what fromDigits and cutBytes answer.
-/
import Derived.Test.YtniibcjlmlmboaaTy
import Derived.Test.YtniibcjlmlmboaaFm
import Derived.LoopTactic
import Derived.Outline
namespace Go.Proofs.Ytniibcjlmlmboaa
open Go.RowKit

theorem u8_cell {X : Int} {m : Nat} (h : X = (m : Int)) (hm : m < 256) : (Flat.enc (UInt8.ofNat m) : List Value) = [.int .u8 X] := by
  show [Value.int .u8 ((UInt8.ofNat m).toNat : Int)] = _
  rw [Fm.ofNat_u8 hm, h]

theorem appendDigits_any (n : Nat) (_hn : n < 72057594037927936) (k : Nat) (hk : k ≤ 7) (w : World) (base : Nat) (v : Value) (l : List UInt8) (hown : Own w base 5 v l) (hl : l.length ≤ 100000) (hbase : base ≤ w.heap.size) :
    Calls Try.prog 21 #[v, .int .i64 n, .int .i64 k] w fun e w' => ∃ v', e = .returned v' ∧ Own w' base 5 v' (l ++ Fm.digs n k) ∧ Below base w w' := by
  have HO := Lib.hid hown
  clear hown
  go_enter Try.func21, Try.ntmps21
  go_wp2
  go_loopw [0, 7] (fun x i wr => ∃ j : Nat, ∃ l', j ≤ k ∧ i = .int .i64 ((j : Int) - 1) ∧ l' ++ Fm.digs n j = l ++ Fm.digs n k ∧ Own wr base 5 x l' ∧ Below base w wr) (fun _ i _ => (intOf i + 1).toNat)
  case atStart => exact ⟨k, l, Nat.le_refl _, rfl, rfl, HO.out, Below.refl _ _⟩
  case round =>
    obtain ⟨j, l', hj, rfl, hll, hown, hb⟩ := hrel
    have hlen : l'.length ≤ 100007 := by have := congrArg List.length hll; simp only [List.length_append, Fm.digs_length] at this; omega
    have HL := Lib.hid hll
    clear hll
    have hbs : base ≤ wr.heap.size := by have := hb.size; omega
    by_cases h0 : 0 < j
    · obtain ⟨i, rfl⟩ : ∃ i, j = i + 1 := ⟨j - 1, by omega⟩
      have he : ((i + 1 : Nat) : Int) - 1 = (i : Int) := by omega
      rw [he]
      clear he
      have hX : (n : Int) / 2 ^ (8 * i) % 256 = ((n / 256 ^ i % 256 : Nat) : Int) := by
        rw [show (256 : Nat) ^ i = 2 ^ (8 * i) by rw [Nat.pow_mul]]
        simp
      have HX := Lib.hid (u8_cell hX (by omega))
      clear hX
      go_wp2_with (at_builtin; refine wpList_append_sl rfl _ (.tmp 20) rfl rowB base _ l' rfl (hown.alloc _) (wr.heap.size + 1) _ [UInt8.ofNat (n / 256 ^ i % 256)] rfl (Sl.new1 wr _ _ _ trivial HX.out) (by unfold maxLen; simp; omega) (by simp; omega) (by simp; omega) ?_; intro v2 w2 hown2 hg2 hat2; have hb2 := below_of_own (hb.alloc hbs _) (hown.alloc _) hg2 (by simp; omega); clear hg2 hat2 hown)
      go_roundw
      case rel =>
        have := HL.out
        exact ⟨i, _, by omega, by go_num, by rw [List.append_assoc]; exact this, hown2, hb2⟩
      case measure => simp [intOf]
    · have hj0 : j = 0 := by omega
      subst hj0
      have hL := HL.out
      rw [Fm.digs, List.append_nil] at hL
      have HL2 := Lib.hid hL
      clear hL
      go_wp2
      go_ret
      exact ⟨_, rfl, by rw [← HL2.out]; exact hown, hb⟩
end Go.Proofs.Ytniibcjlmlmboaa
