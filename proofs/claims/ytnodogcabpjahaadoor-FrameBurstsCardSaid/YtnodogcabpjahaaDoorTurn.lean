/-
  Bytes of which some bits from one on are turned. Plain facts.
-/
import Derived.Test.YtnodogcabpjahaaDoorBurst
namespace Go.Proofs.YtnodogcabpjahaaDoor
open Go.RowKit

/-- Bit k of the mask is turned, at bit p + k, if that lies in the bytes. -/
def hit (n p mask k : Nat) : Bool := mask / 2 ^ k % 2 == 1 && decide (p + k < 8 * n)
/-- One bit is turned. -/
def flip (l : List UInt8) (p : Nat) : List UInt8 := l.set (p / 8) (UInt8.ofNat ((l.getD (p / 8) 0).toNat ^^^ 2 ^ (p % 8)))
/-- The first k bits of the mask are turned. -/
def turn (l : List UInt8) (p mask : Nat) : Nat → List UInt8
  | 0 => l
  | k + 1 => if hit l.length p mask k then flip (turn l p mask k) (p + k) else turn l p mask k
/-- What is turned, as a number. -/
def mark (n p mask : Nat) : Nat → Nat
  | 0 => 0
  | k + 1 => if hit n p mask k then mark n p mask k ^^^ 2 ^ k else mark n p mask k
theorem flip_length (l : List UInt8) (p : Nat) : (flip l p).length = l.length := by simp [flip]
theorem turn_length (l : List UInt8) (p mask k : Nat) : (turn l p mask k).length = l.length := by
  induction k with
  | zero => rfl
  | succ k ih => rw [turn]; split <;> simp [flip_length, ih]
theorem pow_lt_byte (r : Nat) (h : r < 8) : 2 ^ r < 256 := by
  have : 2 ^ r < 2 ^ 8 := Nat.pow_lt_pow_right (by omega) h
  omega
theorem num_flip (l : List UInt8) (p : Nat) (h : p < 8 * l.length) : Crc.num (nums (flip l p)) = Crc.num (nums l) ^^^ 2 ^ p := by
  have hj : p / 8 < l.length := by omega
  have e : l.getD (p / 8) 0 = l[p / 8] := by simp [List.getD, hj]
  have hb : (l[p / 8]).toNat ^^^ 2 ^ (p % 8) < 256 := Nat.xor_lt_two_pow (n := 8) (l[p / 8]).toNat_lt (pow_lt_byte _ (by omega))
  have e2 : (UInt8.ofNat ((l[p / 8]).toNat ^^^ 2 ^ (p % 8))).toNat = (l[p / 8]).toNat ^^^ 2 ^ (p % 8) := UInt8.toNat_ofNat_of_lt' hb
  have hj' : p / 8 < (nums l).length := by rw [nums_length]; exact hj
  unfold flip
  rw [e, nums_set, e2, ← nums_get l _ hj, num_set (nums l) (p / 8) _ hj', ← Nat.pow_add, show 8 * (p / 8) + p % 8 = p by omega]
theorem num_turn (l : List UInt8) (p mask k : Nat) : Crc.num (nums (turn l p mask k)) = Crc.num (nums l) ^^^ 2 ^ p * mark l.length p mask k := by
  induction k with
  | zero => simp [turn, mark]
  | succ k ih =>
    rw [turn, mark]
    by_cases h : hit l.length p mask k = true
    · have hp : p + k < 8 * l.length := by
        unfold hit at h
        simp at h
        exact h.2
      rw [if_pos h, if_pos h, num_flip _ _ (by rw [turn_length]; exact hp), ih, mul_xor, Nat.pow_add, Nat.xor_assoc]
    · rw [if_neg h, if_neg h, ih]
theorem mark_lt (n p mask k : Nat) : mark n p mask k < 2 ^ k := by
  induction k with
  | zero => simp [mark]
  | succ k ih =>
    have h2 : 2 ^ k < 2 ^ (k + 1) := Nat.pow_lt_pow_right (by omega) (by omega)
    rw [mark]
    split
    · exact Nat.xor_lt_two_pow (by omega) h2
    · omega
theorem mark_odd (n p mask k : Nat) (hm : mask % 2 = 1) (hp : p < 8 * n) : mark n p mask (k + 1) % 2 = 1 := by
  induction k with
  | zero =>
    have h : hit n p mask 0 = true := by simp [hit, hm, hp]
    rw [mark, if_pos h]
    simp [mark]
  | succ k ih =>
    rw [mark]
    split
    · have h := Nat.xor_mod_two_pow (a := mark n p mask (k + 1)) (b := 2 ^ (k + 1)) (n := 1)
      have e : 2 ^ (k + 1) % 2 ^ 1 = 0 := by rw [Nat.pow_succ]; simp
      simp only [Nat.pow_one] at h e
      rw [h, ih, e]
      rfl
    · exact ih
/-- No bytes of which a burst was turned out of sealed ones are sealed. -/
theorem turn_sealed (l m : List UInt8) (p mask : Nat) (hm : mask % 2 = 1) (hp : p < 8 * (l.length + 4)) : turn (l ++ tail (Crc.csum (nums l))) p mask 32 ≠ m ++ tail (Crc.csum (nums m)) := by
  intro h
  have hlen : (l ++ tail (Crc.csum (nums l))).length = l.length + 4 := by simp [tail_length]
  have h1 := run_sealed m
  rw [← h] at h1
  have hlt := mark_lt (l ++ tail (Crc.csum (nums l))).length p mask 32
  have hod := mark_odd (l ++ tail (Crc.csum (nums l))).length p mask 31 hm (by rw [hlen]; exact hp)
  refine run_burst Crc.ones p (mark (l ++ tail (Crc.csum (nums l))).length p mask 32) (nums (l ++ tail (Crc.csum (nums l)))) _ ?_ (num_turn _ p mask 32) ?_ (by omega) (by intro h0; rw [h0] at hod; cases hod) (h1.trans (run_sealed l).symm)
  · rw [nums_length, nums_length, turn_length]
  · rw [nums_length, hlen]; omega

end Go.Proofs.YtnodogcabpjahaaDoor
