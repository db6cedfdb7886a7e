/-
  Bytes with their sum behind them have one and the same sum: what the law's text comes to.
-/
import Derived.Test.YthjkokapehmliaaDoorAwake
import Derived.Test.YthjkokapehmliaaDoorTail
import Derived.Test.YthjkokapehmliaaDoorFrame
namespace Go.Proofs.YthjkokapehmliaaDoor
open Go.RowKit

/-- A sum of what was sealed. -/
theorem sum_sealed (A : Option Addr) (c : Nat) (l : List UInt8) (hl : l.length ≤ 10000) (w : World) (B : Nat) (hv : Rd w B (.slice A (l.length + 4) c) (seal_ l)) (hT : Tab w) :
    Calls Tryd.prog 14 #[.slice A (l.length + 4) c] w fun e w' => e = .returned (.int .u32 558161692) ∧ w = w' := by
  have h := sum_any _ (seal_ l) (by rw [seal_length]; omega) w B hv hT
  rw [show Crc.csum (nums (seal_ l)) = 558161692 from csum_sealed l] at h
  exact h

set_option maxRecDepth 100000 in
theorem cuts_law (w : World) (hT : Tab w) (A1 : Option Addr) (c1 : Nat) (l1 : List UInt8) (hv1 : Rd w w.heap.size (.slice A1 l1.length c1) l1) (A2 : Option Addr) (c2 : Nat) (l2 : List UInt8) (hv2 : Rd w w.heap.size (.slice A2 l2.length c2) l2) :
    Calls Tryd.prog 8 #[.slice A1 l1.length c1, .slice A2 l2.length c2] w fun e w' => e = .returned (.bool true) ∧ Below w.heap.size w w' := by
  have K1 := Lib.hid (awake_any w hT)
  have hpos := hT.pos
  have HT := Lib.hid hT
  have HV1 := Lib.hid hv1
  have HV2 := Lib.hid hv2
  clear hT hv1 hv2
  by_cases h1 : l1.length ≤ 2000
  · by_cases h2 : l2.length ≤ 2000
    · go_enter Tryd.func8, Tryd.ntmps8
      go_wp2_with fail
      refine K1.out.mono ?_
      rintro e w1 ⟨rfl, hb1⟩
      have HT1 := Lib.hid (HT.out.below hb1 hpos)
      go_wp2_with fail
      refine (seal_rd _ l1 (by omega) w1 w.heap.size hb1.size (HV1.out.below hb1) HT1.out).mono ?_
      rintro e w2 ⟨A3, c3, rfl, hr2, hb2⟩
      have hb12 := hb1.trans (hb2.mono hb1.size)
      have HT2 := Lib.hid (HT.out.below hb12 hpos)
      go_wp2_with fail
      refine (sum_sealed A3 c3 l1 (by omega) w2 _ hr2 HT2.out).mono ?_
      rintro e w2' ⟨rfl, rfl⟩
      go_wp2_with fail
      refine (seal_rd _ l2 (by omega) w2 w.heap.size hb12.size (HV2.out.below hb12) HT2.out).mono ?_
      rintro e w3 ⟨A4, c4, rfl, hr3, hb3⟩
      have hb13 := hb12.trans (hb3.mono hb12.size)
      have HT3 := Lib.hid (HT.out.below hb13 hpos)
      go_wp2_with fail
      refine (sum_sealed A4 c4 l2 (by omega) w3 _ hr3 HT3.out).mono ?_
      rintro e w3' ⟨rfl, rfl⟩
      go_wp2_with fail
      go_ret
      exact ⟨rfl, hb13⟩
    · go_enter Tryd.func8, Tryd.ntmps8
      go_wp2_with (go_at_call 11; refine K1.out.mono ?_; rintro e w1 ⟨rfl, hb1⟩)
      go_ret
      exact ⟨rfl, hb1⟩
  · go_enter Tryd.func8, Tryd.ntmps8
    go_wp2_with (go_at_call 11; refine K1.out.mono ?_; rintro e w1 ⟨rfl, hb1⟩)
    go_ret
    exact ⟨rfl, hb1⟩
end Go.Proofs.YthjkokapehmliaaDoor
