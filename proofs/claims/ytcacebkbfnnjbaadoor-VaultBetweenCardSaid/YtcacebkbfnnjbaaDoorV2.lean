/-
  Parts that the statement rests on, joined: Eight.
-/
import Derived.Test.YtcacebkbfnnjbaaDoorV1
import Derived.Test.YtcacebkbfnnjbaaDoorProg
import Derived.WalkKit
import Derived.WalkLawsBesides
import Derived.Handy
/-
  What the functions of package crc and of its reference give: eight steps, a sum that goes on, a sum.
  Conditions: the words are below 2^32, and the table in memory holds what its initialiser lays.
-/





namespace Go.Proofs.YtcacebkbfnnjbaaDoor
open Go.RowKit

/-- The numbers of the table, as its initialiser lays them. -/
def tabNums : List Int := [0, 498536548, 997073096, 651767980, 1994146192, 1802195444, 1303535960, 1342533948, 3988292384, 4027552580, 3604390888, 3412177804, 2607071920, 2262029012, 2685067896, 3183342108]
def tabCells : Array Value := (tabNums.map (Value.int .u32)).toArray
/-- The table's block is block 0. -/
def Tab (w : World) : Prop := ∃ t fr, w.heap[0]? = some (.cells tabCells t fr)
theorem tab_num : ∀ i, i < 16 → tabNums.getD i 0 = ((Crc.stps 4 i : Nat) : Int) := by decide
theorem Tab.cell {w : World} (h : Tab w) (i : Nat) (hi : i < 16) : w.cell? ⟨0, i, none⟩ = some (.int .u32 ((Crc.stps 4 i : Nat) : Int)) := by
  obtain ⟨t, fr, h⟩ := h
  rw [cell_of_row w 0 i _ t fr h, ← tab_num i hi]
  have hl : i < tabNums.length := hi
  simp [tabCells, hl]
theorem Tab.below {B : Nat} {w w' : World} (h : Tab w) (hb : Below B w w') (hB : 0 < B) : Tab w' := by
  obtain ⟨t, fr, h⟩ := h
  exact ⟨t, fr, (hb.block 0 hB).trans h⟩
theorem Tab.pos {w : World} (h : Tab w) : 0 < w.heap.size := by
  obtain ⟨t, fr, h⟩ := h
  rcases Nat.eq_zero_or_pos w.heap.size with h0 | h0
  · rw [Array.getElem?_eq_none (by omega)] at h; cases h
  · exact h0

theorem and15 (x : Nat) (hx : x < 4294967296) : bits .and .u32 (x : Int) 15 = ((x % 16 : Nat) : Int) := by
  have h := u32_and_nat x 15 hx (by omega)
  have e : x &&& 15 = x % 16 := Nat.and_two_pow_sub_one_eq_mod x 4
  rw [e] at h
  exact h
theorem xor_half (x : Nat) (hx : x < 4294967296) : bits .xor .u32 ((x : Int) / 16) ((Crc.stps 4 (x % 16) : Nat) : Int) = ((Crc.stps 4 x : Nat) : Int) := by
  have h := u32_xor_nat (x / 16) (Crc.stps 4 (x % 16)) (by omega) (Crc.stps_lt 4 (by omega))
  rw [Crc.half] at h
  exact h

set_option maxRecDepth 100000 in
theorem eight_walk (x y t x1 y1 t1 x2 : Nat) (w : World) (hy : y < 16) (hy1 : y1 < 16)
    (e1 : bits .and .u32 (x : Int) 15 = (y : Int)) (c1 : w.cell? ⟨0, y, none⟩ = some (.int .u32 (t : Int))) (f1 : bits .xor .u32 ((x : Int) / 16) (t : Int) = (x1 : Int))

    (e2 : bits .and .u32 (x1 : Int) 15 = (y1 : Int)) (c2 : w.cell? ⟨0, y1, none⟩ = some (.int .u32 (t1 : Int))) (f2 : bits .xor .u32 ((x1 : Int) / 16) (t1 : Int) = (x2 : Int)) :
    Calls Tryd.prog 76 #[.int .u32 (x : Int)] w fun e w' => e = .returned (.int .u32 (x2 : Int)) ∧ w = w' := by
  go_enter Tryd.func76, Tryd.ntmps76
  go_wp2
  refine wp_scope_jumps 0 (fun a' w' => w = w' ∧ ∃ (u4 u5 u6 u7 u8 u9 u10 u11 u12 u13 u14 u15 : Value), a' = { tmps := #[.int .u32 x1, undef, .int .u32 0, .int .i64 1, u4, u5, u6, u7, u8, u9, u10, u11, u12, u13, u14, u15], defers := [] }) (fun a' _ => 0) rfl ?_ ?_
  · go_wp2
    go_step3
    go_wp2
    go_step3
    exact ⟨rfl, rfl, _, _, _, _, _, _, _, _, _, _, _, _, rfl⟩
  · rintro a' w' ⟨rfl, u4, u5, u6, u7, u8, u9, u10, u11, u12, u13, u14, u15, rfl⟩
    go_wp2
    simp only [Exit.jump]
    go_ret
    exact ⟨rfl, rfl⟩

theorem eight (x : Nat) (hx : x < 4294967296) (w : World) (hT : Tab w) :
    Calls Tryd.prog 76 #[.int .u32 (x : Int)] w fun e w' => e = .returned (.int .u32 ((Crc.stps 8 x : Nat) : Int)) ∧ w = w' := by
  have h1 : Crc.stps 4 x < 4294967296 := Crc.stps_lt 4 hx
  have h8 : Crc.stps 8 x = Crc.stps 4 (Crc.stps 4 x) := Crc.stps_add 4 4 x
  rw [h8]
  exact eight_walk x (x % 16) (Crc.stps 4 (x % 16)) (Crc.stps 4 x) (Crc.stps 4 x % 16) (Crc.stps 4 (Crc.stps 4 x % 16)) _ w (by omega) (by omega)
    (and15 x hx) (hT.cell _ (by omega)) (xor_half x hx) (and15 _ h1) (hT.cell _ (by omega)) (xor_half _ h1)
end Go.Proofs.YtcacebkbfnnjbaaDoor
