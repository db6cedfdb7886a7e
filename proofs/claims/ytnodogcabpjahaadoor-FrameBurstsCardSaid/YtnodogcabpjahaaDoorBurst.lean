/-
  Bytes that are turned: their number, and that their sum is another one. Plain facts.
-/
import Derived.Test.YtnodogcabpjahaaDoorTail
namespace Go.Proofs.YtnodogcabpjahaaDoor
open Go.RowKit

theorem mul_xor (k a b : Nat) : 2 ^ k * (a ^^^ b) = 2 ^ k * a ^^^ 2 ^ k * b := by
  apply Nat.eq_of_testBit_eq
  intro i
  rw [Nat.testBit_xor, Nat.testBit_two_pow_mul, Nat.testBit_two_pow_mul, Nat.testBit_two_pow_mul, Nat.testBit_xor]
  by_cases h : k ≤ i <;> simp [h]
theorem num_set (l : List Nat) (j d : Nat) (hj : j < l.length) : Crc.num (l.set j (l[j] ^^^ d)) = Crc.num l ^^^ 2 ^ (8 * j) * d := by
  induction l generalizing j with
  | nil => simp at hj
  | cons c cs ih =>
    cases j with
    | zero =>
      simp only [List.set_cons_zero, List.getElem_cons_zero, Crc.num, Nat.mul_zero, Nat.pow_zero, Nat.one_mul]
      ac_rfl
    | succ j =>
      have hj' : j < cs.length := by simpa using hj
      simp only [List.set_cons_succ, List.getElem_cons_succ, Crc.num]
      rw [ih j hj', show (256 : Nat) = 2 ^ 8 by rfl, mul_xor, ← Nat.mul_assoc, ← Nat.pow_add, show 8 + 8 * j = 8 * (j + 1) by omega]
      ac_rfl
theorem stps_burst (N k D : Nat) (hk : k ≤ N) : Crc.stps N (2 ^ k * D) = Crc.stps (N - k) D := by
  have := Crc.stps_add k (N - k) (2 ^ k * D)
  rw [show k + (N - k) = N by omega, Crc.stps_shift] at this
  exact this
/-- Behind a burst what the step leaves is another thing. -/
theorem run_burst (x k D : Nat) (l m : List Nat) (hlen : m.length = l.length) (hm : Crc.num m = Crc.num l ^^^ 2 ^ k * D) (hk : k ≤ 8 * l.length) (hD : D < 4294967296) (h0 : D ≠ 0) : Crc.run x m ≠ Crc.run x l := by
  intro h
  rw [Crc.run_num, Crc.run_num, hlen, hm, ← Nat.xor_assoc, Crc.stps_xor _ (x ^^^ Crc.num l), stps_burst _ _ _ hk] at h
  have h2 : Crc.stps (8 * l.length - k) D = 0 := by
    have := congrArg (fun t => Crc.stps (8 * l.length) (x ^^^ Crc.num l) ^^^ t) h
    simpa [← Nat.xor_assoc] using this
  exact h0 (Crc.stps_ne _ hD h2)
theorem more_burst (s k D : Nat) (l m : List Nat) (hlen : m.length = l.length) (hm : Crc.num m = Crc.num l ^^^ 2 ^ k * D) (hk : k ≤ 8 * l.length) (hD : D < 4294967296) (h0 : D ≠ 0) : Crc.more s m ≠ Crc.more s l := by
  intro h
  refine run_burst (s ^^^ Crc.ones) k D l m hlen hm hk hD h0 ?_
  have := congrArg (· ^^^ Crc.ones) h
  simpa [Crc.more, Nat.xor_assoc] using this
theorem nums_set (l : List UInt8) (j : Nat) (u : UInt8) : nums (l.set j u) = (nums l).set j u.toNat := by simp [nums, List.map_set]
theorem nums_length (l : List UInt8) : (nums l).length = l.length := by simp [nums]
theorem nums_get (l : List UInt8) (j : Nat) (h : j < l.length) : (nums l)[j]'(by rw [nums_length]; exact h) = (l[j]).toNat := by simp [nums]
/-- One byte is another one. -/
theorem csum_set (l : List UInt8) (j d : Nat) (hj : j < l.length) (hd : d < 256) (h0 : d ≠ 0) : Crc.csum (nums (l.set j (UInt8.ofNat ((l[j]).toNat ^^^ d)))) ≠ Crc.csum (nums l) := by
  have hb : (l[j]).toNat ^^^ d < 256 := Nat.xor_lt_two_pow (n := 8) (l[j]).toNat_lt hd
  have e : (UInt8.ofNat ((l[j]).toNat ^^^ d)).toNat = (l[j]).toNat ^^^ d := UInt8.toNat_ofNat_of_lt' hb
  rw [nums_set, e]
  have hj' : j < (nums l).length := by rw [nums_length]; exact hj
  refine more_burst 0 (8 * j) d (nums l) _ (by simp) ?_ (by rw [nums_length]; omega) (by omega) h0
  rw [← nums_get l j hj]
  exact num_set (nums l) j d hj'
theorem more_one (s d : Nat) (hd : d < 256) (h0 : d ≠ 0) : Crc.more s [d] ≠ Crc.more s [0] := by
  refine more_burst s 0 d [0] [d] rfl ?_ (by simp) (by omega) h0
  simp [Crc.num]
end Go.Proofs.YtnodogcabpjahaaDoor
