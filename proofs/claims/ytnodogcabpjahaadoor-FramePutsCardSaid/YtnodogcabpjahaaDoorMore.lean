/-
  What More gives over a slice that reads as a list of bytes.
-/
import Derived.Test.YtnodogcabpjahaaDoorEight
import Derived.Test.YtnodogcabpjahaaDoorWords
import Derived.LoopTactic
namespace Go.Proofs.YtnodogcabpjahaaDoor
open Go.RowKit

theorem nums_take_succ (l : List UInt8) (k : Nat) (h : k < l.length) : nums (l.take (k + 1)) = nums (l.take k) ++ [(l[k]).toNat] := by
  unfold nums
  rw [List.take_succ_eq_append_getElem h, List.map_append]; rfl
theorem run_snoc (x : Nat) (l : List UInt8) (k : Nat) (h : k < l.length) : Crc.run x (nums (l.take (k + 1))) = Crc.stps 8 (Crc.run x (nums (l.take k)) ^^^ (l[k]).toNat) := by
  rw [nums_take_succ l k h, Crc.run_append]; rfl
theorem nums_lt (l : List UInt8) : ∀ c ∈ nums l, c < 256 := by
  intro c hc
  simp only [nums, List.mem_map] at hc
  obtain ⟨a, _, rfl⟩ := hc
  exact a.toNat_lt
theorem not32 (s : Nat) (hs : s < 4294967296) : bits .xor .u32 IntKind.u32.max (s : Int) = ((s ^^^ Crc.ones : Nat) : Int) := by
  have h := u32_xor_nat 4294967295 s (by omega) hs
  rw [Nat.xor_comm] at h
  exact h
theorem xor_lt32 {a b : Nat} (ha : a < 4294967296) (hb : b < 4294967296) : a ^^^ b < 4294967296 := Nat.xor_lt_two_pow (n := 32) ha hb

theorem ret_nat {k : IntKind} {a b : Nat} (h : a = b) : Ending.returned (.int k (a : Int)) = .returned (.int k (b : Int)) := by rw [h]

set_option maxRecDepth 100000 in
theorem more_any (s : Nat) (hs : s < 4294967296) (v : Value) (l : List UInt8) (hl : l.length ≤ 1000000) (w : World) (B : Nat) (hv : Rd w B v l) (hT : Tab w) :
    Calls Tryd.prog 27 #[.int .u32 (s : Int), v] w fun e w' => e = .returned (.int .u32 ((Crc.more s (nums l) : Nat) : Int)) ∧ w = w' := by
  obtain ⟨A, c, rfl, hc, hcell⟩ := hv.form
  have n1 := not32 s hs
  have sg : IntKind.u32.signed = false := rfl
  have hx0 : s ^^^ Crc.ones < 4294967296 := xor_lt32 hs (by simp [Crc.ones])
  obtain ⟨x0, hx⟩ : ∃ x0, x0 = s ^^^ Crc.ones := ⟨_, rfl⟩
  rw [← hx] at hx0 n1
  have HX := Lib.hid hx
  clear hx
  have HT := Lib.hid hT
  clear hT
  have HC := Lib.hid hcell
  clear hcell
  go_enter Tryd.func27, Tryd.ntmps27
  go_wp2
  go_loop [5, 12] (fun x i => ∃ k : Nat, k ≤ l.length ∧ i = .int .i64 k ∧ x = .int .u32 ((Crc.run x0 (nums (l.take k)) : Nat) : Int)) (fun _ i => l.length - (intOf i).toNat)
  case atStart => exact ⟨0, Nat.zero_le _, rfl, rfl⟩
  case round =>
    obtain ⟨k, hk, rfl, rfl⟩ := hrel
    have hr : Crc.run x0 (nums (l.take k)) < 4294967296 := Crc.run_lt _ hx0 (nums_lt _)
    by_cases hlt : k < l.length
    · have hsn := Lib.hid (run_snoc x0 l k hlt)
      obtain ⟨b, off, rfl, hb, hcc⟩ := HC.out (by omega)
      have hc1 := hcc k hlt
      clear hcc
      have hcb : (l[k]).toNat < 256 := (l[k]).toNat_lt
      generalize (l[k]).toNat = cc at *
      generalize Crc.run x0 (nums (l.take k)) = r at *
      have hx1 : bits .xor .u32 (r : Int) (cc : Int) = ((r ^^^ cc : Nat) : Int) := u32_xor_nat r cc hr (by omega)
      have hx2 : r ^^^ cc < 4294967296 := xor_lt32 hr (by omega)
      have hx3 : Crc.stps 8 (r ^^^ cc) < 4294967296 := Crc.stps_lt 8 hx2
      go_wp2_with (go_at_call 29; refine (eight (r ^^^ cc) hx2 w HT.out).mono ?_; rintro e w' ⟨rfl, rfl⟩)
      go_round
      case rel => exact ⟨k + 1, by omega, by go_num, by rw [hsn.out]⟩
      case measure => simp [intOf]; omega
    · have hkl : l.take k = l := List.take_of_length_le (by omega)
      have hy := not32 (Crc.run x0 (nums (l.take k))) hr
      have hfin : Crc.run x0 (nums (l.take k)) ^^^ Crc.ones = Crc.more s (nums l) := by
        rw [hkl, HX.out]; rfl
      have HF := Lib.hid hfin
      clear hfin hkl
      go_wp2
      go_ret
      exact ⟨ret_nat HF.out, rfl⟩
end Go.Proofs.YtnodogcabpjahaaDoor
