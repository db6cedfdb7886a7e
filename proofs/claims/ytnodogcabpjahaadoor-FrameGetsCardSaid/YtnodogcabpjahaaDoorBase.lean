/-
  What Sum, Nibbles and sumBytes give.
-/
import Derived.Test.YtnodogcabpjahaaDoorMore
namespace Go.Proofs.YtnodogcabpjahaaDoor
open Go.RowKit

set_option maxRecDepth 100000 in
theorem sum_any (v : Value) (l : List UInt8) (hl : l.length ≤ 1000000) (w : World) (B : Nat) (hv : Rd w B v l) (hT : Tab w) :
    Calls Tryd.prog 25 #[v] w fun e w' => e = .returned (.int .u32 ((Crc.csum (nums l) : Nat) : Int)) ∧ w = w' := by
  have hm := Lib.hid (more_any 0 (by omega) v l hl w B hv hT)
  clear hv hT
  go_enter Tryd.func25, Tryd.ntmps25
  go_wp2_with (go_at_call 27; refine hm.out.mono ?_; rintro e w' ⟨rfl, rfl⟩)
  go_ret
  exact ⟨rfl, rfl⟩

/-- The bytes of a sum, the lowest one first. -/
def tail (s : Nat) : List UInt8 := [UInt8.ofNat (s % 256), UInt8.ofNat (s / 256 % 256), UInt8.ofNat (s / 65536 % 256), UInt8.ofNat (s / 16777216)]
theorem tail_length (s : Nat) : (tail s).length = 4 := rfl
theorem bv_tail (s : Nat) (hs : s < 4294967296) : bv (tail s) = [.int .u8 ((s : Int) % 256), .int .u8 ((s : Int) / 256 % 256), .int .u8 ((s : Int) / 65536 % 256), .int .u8 ((s : Int) / 16777216)] := by
  have h1 : (UInt8.ofNat (s % 256)).toNat = s % 256 := UInt8.toNat_ofNat_of_lt' (by show _ < 256; omega)
  have h2 : (UInt8.ofNat (s / 256 % 256)).toNat = s / 256 % 256 := UInt8.toNat_ofNat_of_lt' (by show _ < 256; omega)
  have h3 : (UInt8.ofNat (s / 65536 % 256)).toNat = s / 65536 % 256 := UInt8.toNat_ofNat_of_lt' (by show _ < 256; omega)
  have h4 : (UInt8.ofNat (s / 16777216)).toNat = s / 16777216 := UInt8.toNat_ofNat_of_lt' (by show _ < 256; omega)
  simp only [bv, tail, List.map_cons, List.map_nil, h1, h2, h3, h4]
  rfl

set_option maxRecDepth 100000 in
theorem sumBytes_walk (s : Nat) (hs : s < 4294967296) (w : World) :
    Calls Tryd.prog 24 #[.int .u32 (s : Int)] w fun e w' => e = .returned (.agg #[.int .u8 ((s : Int) % 256), .int .u8 ((s : Int) / 256 % 256), .int .u8 ((s : Int) / 65536 % 256), .int .u8 ((s : Int) / 16777216)]) ∧ Below w.heap.size w w' := by
  go_enter Tryd.func24, Tryd.ntmps24
  go_wp2
  go_rounds 5
  go_returns
  exact ⟨rfl, by go_grown⟩
theorem sumBytes_any (s : Nat) (hs : s < 4294967296) : ∃ t0 t1 t2 t3 : Int, bv (tail s) = [.int .u8 t0, .int .u8 t1, .int .u8 t2, .int .u8 t3] ∧
    ∀ w : World, Calls Tryd.prog 24 #[.int .u32 (s : Int)] w fun e w' => e = .returned (.agg #[.int .u8 t0, .int .u8 t1, .int .u8 t2, .int .u8 t3]) ∧ Below w.heap.size w w' :=
  ⟨_, _, _, _, bv_tail s hs, fun w => sumBytes_walk s hs w⟩
end Go.Proofs.YtnodogcabpjahaaDoor
