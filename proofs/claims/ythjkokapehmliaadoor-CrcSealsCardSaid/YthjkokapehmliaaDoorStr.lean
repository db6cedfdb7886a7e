/-
  Bytes turned into a string.
-/
import Derived.Test.YthjkokapehmliaaDoorWords
namespace Go.Proofs.YthjkokapehmliaaDoor
open Go.RowKit

/-- The string of bytes. -/
def strOf (l : List UInt8) : ByteArray := ⟨l.toArray⟩
theorem strOf_toList (l : List UInt8) : (strOf l).toList = l := ByteArray.toList_mk l
theorem strOf_same (l : List UInt8) : ((strOf l).toList == (strOf l).toList) = true := by simp
theorem strOf_other {l m : List UInt8} (h : l ≠ m) : ((strOf l).toList == (strOf m).toList) = false := by
  rw [strOf_toList, strOf_toList]; simpa using h
theorem conv_rd {w : World} {B n c : Nat} {A : Option Addr} {l : List UInt8} (h : Rd w B (.slice A n c) l) : (convert 23 9 (.slice A n c)).run Tryd.prog w = .ok (.string (strOf l)) w := by
  obtain ⟨A', c', e, _, hx⟩ := h.form
  injection e with e1 e2 e3
  subst e1 e2 e3
  rcases A with _ | ad
  · have hl : l = [] := by
      rcases Nat.eq_zero_or_pos l.length with h0 | h0
      · exact List.eq_nil_of_length_eq_zero h0
      · obtain ⟨b, off, h, _⟩ := hx h0
        cases h
    subst hl
    rw [run_convert_bytes_nil w 23 5 Tryd.underlying23 Tryd.underlying5 _ _ 9 Tryd.underlying9]
    rfl
  · have hcells : ∀ j x, (bv l)[j]? = some x → w.cell? (ad.add j) = some x := by
      intro j x hj
      have hjl : j < l.length := by
        rcases Nat.lt_or_ge j l.length with h | h
        · exact h
        · rw [List.getElem?_eq_none (by rw [bv_length]; exact h)] at hj; cases hj
      obtain ⟨b, off, e, _, hk⟩ := hx (by omega)
      injection e with e
      subst e
      rw [add_at, hk j hjl]
      rw [bv_get l j hjl] at hj
      exact hj
    have hload := run_loadCells_list (P := Tryd.prog) w ad (bv l) hcells
    rw [bv_length] at hload
    have hbv : bv l = (l.map fun b => (b.toNat : Int)).map (Value.int .u8) := by simp [bv]
    rw [hbv] at hload
    rw [run_convert_bytes_string w 23 9 5 _ _ _ Tryd.underlying23 Tryd.underlying5 Tryd.underlying9, run_bytesToString w ad l.length c _ hload, foldl_push_bytes]
    have e : (l.map fun b => (b.toNat : Int)).map (fun n => UInt8.ofNat n.toNat) = l := by
      rw [List.map_map]
      conv => rhs; rw [← List.map_id l]
      apply List.map_congr_left
      intro a _
      simp
    rw [e]
    simp [strOf, ByteArray.empty, ByteArray.emptyWithCapacity]
    rfl
end Go.Proofs.YthjkokapehmliaaDoor
