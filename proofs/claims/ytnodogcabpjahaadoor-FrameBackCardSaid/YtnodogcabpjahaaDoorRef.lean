/-
  What the reference's Step, More and Sum give.
-/
import Derived.Test.YtnodogcabpjahaaDoorMore
namespace Go.Proofs.YtnodogcabpjahaaDoor
open Go.RowKit

theorem stps_snoc (k x : Nat) : Crc.stps (k + 1) x = Crc.stp (Crc.stps k x) := Crc.stps_succ' k x
theorem stp_odd (x : Nat) (hx : x < 4294967296) (h : x % 2 = 1) : bits .xor .u32 ((x : Int) / 2) 3988292384 = ((Crc.stp x : Nat) : Int) := by
  have := u32_xor_nat (x / 2) 3988292384 (by omega) (by omega)
  have e : Crc.stp x = x / 2 ^^^ 3988292384 := by unfold Crc.stp; rw [if_pos h]; rfl
  rw [e]
  exact this
theorem stp_even (x : Nat) (h : ¬ x % 2 = 1) : (x : Int) / 2 = ((Crc.stp x : Nat) : Int) := by
  have e : Crc.stp x = x / 2 := by unfold Crc.stp; rw [if_neg h, Nat.xor_zero]
  rw [e]; omega

set_option maxRecDepth 100000 in
theorem step_any (x n : Nat) (hx : x < 4294967296) (hn : n ≤ 1000000) (w : World) :
    Calls Tryd.prog 30 #[.int .u32 (x : Int), .int .i64 (n : Int)] w fun e w' => e = .returned (.int .u32 ((Crc.stps n x : Nat) : Int)) ∧ w = w' := by
  go_enter Tryd.func30, Tryd.ntmps30
  go_wp2
  go_loop [0, 5] (fun y i => ∃ k : Nat, k ≤ n ∧ i = .int .i64 k ∧ y = .int .u32 ((Crc.stps k x : Nat) : Int)) (fun _ i => n - (intOf i).toNat)
  case atStart => exact ⟨0, Nat.zero_le _, rfl, rfl⟩
  case round =>
    obtain ⟨k, hk, rfl, rfl⟩ := hrel
    have hr : Crc.stps k x < 4294967296 := Crc.stps_lt _ hx
    have hs := Lib.hid (stps_snoc k x)
    generalize hg : Crc.stps k x = r at *
    have HG := Lib.hid hg
    clear hg
    by_cases hlt : k < n
    · by_cases ho : r % 2 = 1
      · have h1 := stp_odd r hr ho
        have hb : ((r : Int) % 2 == 1) = true := by simp; omega
        go_wp2
        go_round
        case rel => exact ⟨k + 1, by omega, by go_num, by rw [hs.out]⟩
        case measure => simp [intOf]; omega
      · have h1 := Lib.hid (stp_even r ho)
        have hb : ((r : Int) % 2 == 1) = false := by simp; omega
        go_wp2
        go_round
        case rel => exact ⟨k + 1, by omega, by go_num, by rw [hs.out, h1.out]⟩
        case measure => simp [intOf]; omega
    · have hkn : n = k := by omega
      have HK := Lib.hid hkn
      clear hkn
      go_wp2
      go_ret
      exact ⟨ret_nat (by rw [← HG.out, HK.out]), rfl⟩

set_option maxRecDepth 100000 in
theorem refMore_any (s : Nat) (hs : s < 4294967296) (v : Value) (l : List UInt8) (hl : l.length ≤ 1000000) (w : World) (B : Nat) (hv : Rd w B v l) :
    Calls Tryd.prog 28 #[.int .u32 (s : Int), v] w fun e w' => e = .returned (.int .u32 ((Crc.more s (nums l) : Nat) : Int)) ∧ w = w' := by
  obtain ⟨A, c, rfl, hc, hcell⟩ := hv.form
  have n1 := not32 s hs
  have sg : IntKind.u32.signed = false := rfl
  have hx0 : s ^^^ Crc.ones < 4294967296 := xor_lt32 hs (by simp [Crc.ones])
  obtain ⟨x0, hx⟩ : ∃ x0, x0 = s ^^^ Crc.ones := ⟨_, rfl⟩
  rw [← hx] at hx0 n1
  have HX := Lib.hid hx
  clear hx
  have HC := Lib.hid hcell
  clear hcell hv
  go_enter Tryd.func28, Tryd.ntmps28
  go_wp2
  go_loop [5, 6] (fun x i => ∃ k : Nat, k ≤ l.length ∧ i = .int .i64 k ∧ x = .int .u32 ((Crc.run x0 (nums (l.take k)) : Nat) : Int)) (fun _ i => l.length - (intOf i).toNat)
  case atStart => exact ⟨0, Nat.zero_le _, rfl, rfl⟩
  case round =>
    obtain ⟨k, hk, rfl, rfl⟩ := hrel
    have hr : Crc.run x0 (nums (l.take k)) < 4294967296 := Crc.run_lt _ hx0 (nums_lt _)
    by_cases hlt : k < l.length
    · have hsn := Lib.hid (run_snoc x0 l k hlt)
      obtain ⟨b, off, rfl, hb, hcc⟩ := HC.out (by omega)
      have hc1 := hcc k hlt
      clear hcc
      have hcb : (l[k]).toNat < 256 := (l[k]).toNat_lt
      generalize (l[k]).toNat = cc at *
      generalize Crc.run x0 (nums (l.take k)) = r at *
      have hx1 : bits .xor .u32 (r : Int) (cc : Int) = ((r ^^^ cc : Nat) : Int) := u32_xor_nat r cc hr (by omega)
      have hx2 : r ^^^ cc < 4294967296 := xor_lt32 hr (by omega)
      have hx3 : Crc.stps 8 (r ^^^ cc) < 4294967296 := Crc.stps_lt 8 hx2
      go_wp2_with (go_at_call 30; refine (step_any (r ^^^ cc) 8 hx2 (by omega) w).mono ?_; rintro e w' ⟨rfl, rfl⟩)
      go_round
      case rel => exact ⟨k + 1, by omega, by go_num, by rw [hsn.out]⟩
      case measure => simp [intOf]; omega
    · have hkl : l.take k = l := List.take_of_length_le (by omega)
      have hy := not32 (Crc.run x0 (nums (l.take k))) hr
      have hfin : Crc.run x0 (nums (l.take k)) ^^^ Crc.ones = Crc.more s (nums l) := by
        rw [hkl, HX.out]; rfl
      have HF := Lib.hid hfin
      clear hfin hkl
      go_wp2
      go_ret
      exact ⟨ret_nat HF.out, rfl⟩

set_option maxRecDepth 100000 in
theorem refSum_any (v : Value) (l : List UInt8) (hl : l.length ≤ 1000000) (w : World) (B : Nat) (hv : Rd w B v l) :
    Calls Tryd.prog 26 #[v] w fun e w' => e = .returned (.int .u32 ((Crc.csum (nums l) : Nat) : Int)) ∧ w = w' := by
  have hm := Lib.hid (refMore_any 0 (by omega) v l hl w B hv)
  clear hv
  go_enter Tryd.func26, Tryd.ntmps26
  go_wp2_with (go_at_call 28; refine hm.out.mono ?_; rintro e w' ⟨rfl, rfl⟩)
  go_ret
  exact ⟨rfl, rfl⟩
end Go.Proofs.YtnodogcabpjahaaDoor
