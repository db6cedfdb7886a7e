/-
  Parts that the statement rests on, joined: Str, Ty.
-/
import Derived.Test.YtcacebkbfnnjbaaDoorV3
import Derived.Test.YtcacebkbfnnjbaaDoorV7
import Derived.Test.YtcacebkbfnnjbaaDoorProg
import Derived.WalkKit
import Derived.Lib.Hide
import Derived.KernelRfl
/-
  Bytes turned into a string; the row of the program's table of types for bytes.
-/






namespace Go.Proofs.YtcacebkbfnnjbaaDoor
open Go.RowKit

theorem rowB : Row Tryd.prog 28 5 UInt8 1 := by
  obtain ⟨i, hi, hz, hsz, hby⟩ := info_parts (show (Tryd.prog.info? 5).map (fun i => (i.zero, i.size, i.bytes)) = some (some (.int .u8 0), 1, 1) by kernel_rfl)
  exact ⟨Tryd.underlying28, i, _, hi, hz, hsz, hby, rfl⟩
theorem bwf (l : List UInt8) : ∀ a ∈ l, Flat.wf a := fun _ _ => trivial
/-- The string of bytes. -/
def strOf (l : List UInt8) : ByteArray := ⟨l.toArray⟩
theorem strOf_toList (l : List UInt8) : (strOf l).toList = l := ByteArray.toList_mk l
theorem cells_bytes (l : List UInt8) : cells l = (l.map fun b => (b.toNat : Int)).map (Value.int .u8) := by
  induction l with
  | nil => rfl
  | cons a l ih =>
    have e : cells (a :: l) = Flat.enc a ++ cells l := rfl
    rw [e, ih]; rfl
theorem conv_sl {w : World} {B n c : Nat} {A : Option Addr} {l : List UInt8} (h : Sl w B (.slice A n c) l) : (convert 28 9 (.slice A n c)).run Tryd.prog w = .ok (.string (strOf l)) w := by
  have hr := h.room
  obtain ⟨_, hx⟩ := sl_cells h
  have hc1 := cells_len l (bwf l)
  rw [show Rep.sz UInt8 = 1 from rfl, Nat.mul_one] at hc1
  rcases A with _ | ad
  · have hn : n = 0 := by
      rcases hx with h | ⟨b, off, h, _⟩
      · exact h
      · cases h
    have hl : l = [] := List.eq_nil_of_length_eq_zero (by omega)
    subst hl hn
    rw [run_convert_bytes_nil w 28 5 Tryd.underlying28 Tryd.underlying5 _ _ 9 Tryd.underlying9]
    rfl
  · have hcells : ∀ j x, (cells l)[j]? = some x → w.cell? (ad.add j) = some x := by
      intro j x hj
      rcases hx with h0 | ⟨b, off, h, _, h2⟩
      · have : l = [] := List.eq_nil_of_length_eq_zero (by omega)
        subst this
        simp [cells] at hj
      · injection h with h
        subst h
        rw [add_at]
        exact h2 j x hj
    have hload := run_loadCells_list (P := Tryd.prog) w ad (cells l) hcells
    rw [hc1, hr.1, cells_bytes] at hload
    rw [run_convert_bytes_string w 28 9 5 _ _ _ Tryd.underlying28 Tryd.underlying5 Tryd.underlying9, run_bytesToString w ad n c _ hload, foldl_push_bytes]
    have e : (l.map fun b => (b.toNat : Int)).map (fun n => UInt8.ofNat n.toNat) = l := by
      rw [List.map_map]
      conv => rhs; rw [← List.map_id l]
      apply List.map_congr_left
      intro a _
      simp
    rw [e]
    simp [strOf, ByteArray.empty, ByteArray.emptyWithCapacity]
    rfl

theorem strOf_other {l m : List UInt8} (h : l ≠ m) : ((strOf l).toList == (strOf m).toList) = false := by
  rw [strOf_toList, strOf_toList]; simpa using h
theorem bcell {W w1 : World} (hb : Below W.heap.size W w1) : (∀ b o, b < W.heap.size → w1.cell? ⟨b, o, none⟩ = W.cell? ⟨b, o, none⟩) ∧ (∀ b o, b < W.heap.size → w1.frozen? ⟨b, o, none⟩ = W.frozen? ⟨b, o, none⟩) :=
  ⟨fun b o h => hb.cell (p := ⟨b, o, none⟩) h, fun b o h => hb.frozen (p := ⟨b, o, none⟩) h⟩
theorem u8_cell {X : Int} {m : Nat} (h : X = (m : Int)) (hm : m < 256) : (Flat.enc (UInt8.ofNat m) : List Value) = [.int .u8 X] := by
  subst h
  show [Value.int .u8 _] = _
  rw [UInt8.toNat_ofNat_of_lt' (show m < 256 from hm)]
end Go.Proofs.YtcacebkbfnnjbaaDoor

/-
  The rows of the program's table of types that the statements of fields use; what two slices' values give.
-/






namespace Go.Proofs.YtcacebkbfnnjbaaDoor
open Go.RowKit

theorem rowI : Row Tryd.prog 52 3 Int 8 := by
  obtain ⟨i, hi, hz, hsz, hby⟩ := info_parts (show (Tryd.prog.info? 3).map (fun i => (i.zero, i.size, i.bytes)) = some (some (.int .i64 0), 1, 8) by kernel_rfl)
  exact ⟨Tryd.underlying52, i, _, hi, hz, hsz, hby, rfl⟩
/-- The value of fields. -/
abbrev fv (sN sD : Value) : Value := .agg #[sN, sD]
end Go.Proofs.YtcacebkbfnnjbaaDoor
