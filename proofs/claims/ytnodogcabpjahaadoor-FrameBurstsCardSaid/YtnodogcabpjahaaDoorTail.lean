/-
  Sealed bytes: their number, their sum, and what a burst does to them. Plain facts.
-/
import Derived.Test.YtnodogcabpjahaaDoorBase
namespace Go.Proofs.YtnodogcabpjahaaDoor
open Go.RowKit

theorem num_cons (c : Nat) (hc : c < 256) (l : List Nat) : Crc.num (c :: l) = 256 * Crc.num l + c := by
  have := Crc.xor_add (k := 8) (a := Crc.num l) (b := c) (by omega)
  rw [Crc.num, Nat.xor_comm]
  exact this
theorem nums_tail (s : Nat) (hs : s < 4294967296) : nums (tail s) = [s % 256, s / 256 % 256, s / 65536 % 256, s / 16777216] := by
  have h1 : (UInt8.ofNat (s % 256)).toNat = s % 256 := UInt8.toNat_ofNat_of_lt' (by show _ < 256; omega)
  have h2 : (UInt8.ofNat (s / 256 % 256)).toNat = s / 256 % 256 := UInt8.toNat_ofNat_of_lt' (by show _ < 256; omega)
  have h3 : (UInt8.ofNat (s / 65536 % 256)).toNat = s / 65536 % 256 := UInt8.toNat_ofNat_of_lt' (by show _ < 256; omega)
  have h4 : (UInt8.ofNat (s / 16777216)).toNat = s / 16777216 := UInt8.toNat_ofNat_of_lt' (by show _ < 256; omega)
  simp only [nums, tail, List.map_cons, List.map_nil, h1, h2, h3, h4]
theorem num_tail (s : Nat) (hs : s < 4294967296) : Crc.num (nums (tail s)) = s := by
  rw [nums_tail s hs, num_cons _ (by omega), num_cons _ (by omega), num_cons _ (by omega), num_cons _ (by omega)]
  show 256 * (256 * (256 * (256 * 0 + s / 16777216) + s / 65536 % 256) + s / 256 % 256) + s % 256 = s
  omega
theorem nums_append (a b : List UInt8) : nums (a ++ b) = nums a ++ nums b := by simp [nums]
/-- Sealed bytes as the step leaves them. -/
theorem run_sealed (l : List UInt8) : Crc.run Crc.ones (nums (l ++ tail (Crc.csum (nums l)))) = Crc.stps 32 Crc.ones := by
  have hs : Crc.csum (nums l) < 4294967296 := Crc.more_lt _ (by omega) (nums_lt _)
  have hc : Crc.csum (nums l) = Crc.run Crc.ones (nums l) ^^^ Crc.ones := by
    show Crc.run (0 ^^^ Crc.ones) (nums l) ^^^ Crc.ones = _
    rw [Nat.zero_xor]
  rw [nums_append, Crc.run_append, Crc.run_num (nums (tail _)), num_tail _ hs]
  show Crc.stps 32 _ = _
  rw [hc, ← Nat.xor_assoc, Nat.xor_self, Nat.zero_xor]
theorem csum_sealed (l : List UInt8) : Crc.csum (nums (l ++ tail (Crc.csum (nums l)))) = 558161692 := by
  have h : Crc.csum (nums (l ++ tail (Crc.csum (nums l)))) = Crc.run (0 ^^^ Crc.ones) (nums (l ++ tail (Crc.csum (nums l)))) ^^^ Crc.ones := rfl
  rw [h, Nat.zero_xor, run_sealed]
  decide
end Go.Proofs.YtnodogcabpjahaaDoor
