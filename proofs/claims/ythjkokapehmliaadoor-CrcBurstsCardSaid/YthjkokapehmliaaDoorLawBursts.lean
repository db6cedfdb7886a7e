/-
  Sealed bytes of which some bits within 32 in a row are turned are not opened: what the law's text comes to.
-/
import Derived.Test.YthjkokapehmliaaDoorAwake
import Derived.Test.YthjkokapehmliaaDoorTurned
import Derived.Test.YthjkokapehmliaaDoorOpen
import Derived.Test.YthjkokapehmliaaDoorFrame
namespace Go.Proofs.YthjkokapehmliaaDoor
open Go.RowKit

set_option maxRecDepth 100000 in
theorem bursts_out (A : Option Addr) (c : Nat) (n : Nat) (p mask : Int) (w : World) (hT : Tab w) (hout : 4000 < n ∨ (n ≤ 4000 ∧ p < 0)) :
    Calls Tryd.prog 6 #[.slice A n c, .int .i64 p, .int .u32 mask] w fun e w' => e = .returned (.bool true) ∧ Below w.heap.size w w' := by
  have K1 := Lib.hid (awake_any w hT)
  clear hT
  rcases hout with h | ⟨h, h1⟩
  all_goals
    go_enter Tryd.func6, Tryd.ntmps6
    go_wp2_with (go_at_call 11; refine K1.out.mono ?_; rintro e w1 ⟨rfl, hb1⟩)
    go_ret
    exact ⟨rfl, hb1⟩

set_option maxRecDepth 100000 in
theorem bursts_in (A : Option Addr) (c : Nat) (l : List UInt8) (p mask : Nat) (hp : p ≤ 9223372036854775807) (hm : mask < 4294967296) (w : World) (hT : Tab w) (hv : Rd w w.heap.size (.slice A l.length c) l) (hl : l.length ≤ 4000) :
    Calls Tryd.prog 6 #[.slice A l.length c, .int .i64 (p : Int), .int .u32 (mask : Int)] w fun e w' => e = .returned (.bool true) ∧ Below w.heap.size w w' := by
  have K1 := Lib.hid (awake_any w hT)
  have hpos := hT.pos
  have HT := Lib.hid hT
  have HV := Lib.hid hv
  clear hT hv
  by_cases hin : p < 8 * (l.length + 4)
  · by_cases hodd : mask % 2 = 1
    · have hob : ((mask : Int) % 2 == 0) = false := by simp; omega
      have hno := turn_sealed l
      have hop : Hid (∀ m, turn (seal_ l) p mask 32 ≠ seal_ m) := fun m => turn_sealed l m p mask hodd hin
      clear hno
      go_enter Tryd.func6, Tryd.ntmps6
      go_wp2_with fail
      refine K1.out.mono ?_
      rintro e w1 ⟨rfl, hb1⟩
      have HT1 := Lib.hid (HT.out.below hb1 hpos)
      go_wp2_with fail
      refine (seal_rd _ l (by omega) w1 w.heap.size hb1.size (HV.out.below hb1) HT1.out).mono ?_
      rintro e w2 ⟨A2, c2, rfl, hr2, hb2⟩
      have hb12 := hb1.trans (hb2.mono hb1.size)
      go_wp2_with fail
      refine (turned_any _ (seal_ l) p mask (by rw [seal_length]; omega) (by omega) w2 _ hr2).mono ?_
      rintro e w3 ⟨u, rfl, ho3, hb3⟩
      have hb13 := hb12.trans (hb3.mono hb12.size)
      have HT3 := Lib.hid (HT.out.below hb13 hpos)
      have hrd3 := Lib.hid ho3.rd
      clear ho3
      go_wp2_with fail
      refine (open_other _ _ (by rw [turn_length, seal_length]; omega) hop.out w3 _ (Nat.le_refl _) hrd3.out HT3.out).mono ?_
      rintro e w4 ⟨rfl, hb4⟩
      go_wp2_with fail
      go_ret
      exact ⟨rfl, hb13.trans (hb4.mono hb13.size)⟩
    · have hob : ((mask : Int) % 2 == 0) = true := by simp; omega
      go_enter Tryd.func6, Tryd.ntmps6
      go_wp2_with fail
      refine K1.out.mono ?_
      rintro e w1 ⟨rfl, hb1⟩
      have HT1 := Lib.hid (HT.out.below hb1 hpos)
      go_wp2_with fail
      refine (seal_rd _ l (by omega) w1 w.heap.size hb1.size (HV.out.below hb1) HT1.out).mono ?_
      rintro e w2 ⟨A2, c2, rfl, hr2, hb2⟩
      have hb12 := hb1.trans (hb2.mono hb1.size)
      go_wp2_with fail
      go_ret
      exact ⟨rfl, hb12⟩
  · go_enter Tryd.func6, Tryd.ntmps6
    go_wp2_with fail
    refine K1.out.mono ?_
    rintro e w1 ⟨rfl, hb1⟩
    have HT1 := Lib.hid (HT.out.below hb1 hpos)
    go_wp2_with fail
    refine (seal_rd _ l (by omega) w1 w.heap.size hb1.size (HV.out.below hb1) HT1.out).mono ?_
    rintro e w2 ⟨A2, c2, rfl, hr2, hb2⟩
    have hb12 := hb1.trans (hb2.mono hb1.size)
    go_wp2_with fail
    go_ret
    exact ⟨rfl, hb12⟩

theorem bursts_law (w : World) (hT : Tab w) (A : Option Addr) (c : Nat) (l : List UInt8) (hv : Rd w w.heap.size (.slice A l.length c) l) (p : Int) (hp : (Lit.int .i64 p).wf = true) (mask : Int) (hm : (Lit.int .u32 mask).wf = true) :
    Calls Tryd.prog 6 #[.slice A l.length c, .int .i64 p, .int .u32 mask] w fun e w' => e = .returned (.bool true) ∧ Below w.heap.size w w' := by
  obtain ⟨m0, m1⟩ := wf_u32 hm
  obtain ⟨p0, p1⟩ := wf_i64 hp
  by_cases h : l.length ≤ 4000 ∧ 0 ≤ p
  · obtain ⟨h1, h2⟩ := h
    obtain ⟨q, rfl⟩ := Int.eq_ofNat_of_zero_le h2
    obtain ⟨m, rfl⟩ := Int.eq_ofNat_of_zero_le m0
    exact bursts_in A c l q m (by omega) (by omega) w hT hv h1
  · exact bursts_out A c l.length p mask w hT (by omega)
end Go.Proofs.YthjkokapehmliaaDoor
