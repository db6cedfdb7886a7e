/-
  What Seal and Open of package crc, and the reference's, give, in the words of any data.
-/
import Derived.Test.YtnodogcabpjahaaDoorOpen
import Derived.Test.YtnodogcabpjahaaDoorRefOpen
import Derived.Test.YtnodogcabpjahaaDoorStr
namespace Go.Proofs.YtnodogcabpjahaaDoor
open Go.RowKit

/-- What sealed bytes were. -/
def unsl (m : List UInt8) : Option (List UInt8) := if 4 ≤ m.length ∧ m = seal_ (m.take (m.length - 4)) then some (m.take (m.length - 4)) else none
theorem unsl_of (l : List UInt8) : unsl (seal_ l) = some l := by
  have h1 : (seal_ l).length = l.length + 4 := seal_length l
  have h2 : (seal_ l).take ((seal_ l).length - 4) = l := by
    rw [h1, Nat.add_sub_cancel]
    unfold seal_
    rw [List.take_left]
  unfold unsl
  rw [h2, if_pos ⟨by omega, rfl⟩]
theorem unsl_some {m l : List UInt8} (h : unsl m = some l) : m = seal_ l := by
  unfold unsl at h
  split at h
  · rename_i h1
    injection h with h
    rw [← h]
    exact h1.2
  · cases h
theorem unsl_none {m : List UInt8} (h : unsl m = none) (l : List UInt8) : m ≠ seal_ l := by
  rintro rfl
  rw [unsl_of] at h
  cases h
theorem unsl_length {m l : List UInt8} (h : unsl m = some l) : m.length = l.length + 4 := by
  rw [unsl_some h, seal_length]

def SealOut (w : World) (l : List UInt8) (e : Ending) (w' : World) : Prop :=
  ∃ A c, e = .returned (.slice A (l.length + 4) c) ∧ Own w' w.heap.size 5 (.slice A (l.length + 4) c) (seal_ l) ∧ Below w.heap.size w w'
theorem seal_sl (v : Value) (l : List UInt8) (hl : l.length ≤ 10000) (w : World) (B : Nat) (hB : B ≤ w.heap.size) (hv : Sl w B v l) (hT : Tab w) :
    Calls Tryd.prog 18 #[v] w (SealOut w l) :=
  (seal_any v l hl w B hB (rd_of_sl hv) hT).mono fun e w' ⟨u, he, ho, hb⟩ => by
    obtain ⟨A, c, hu, _⟩ := ho.own.sl.form
    rw [seal_length] at hu
    subst hu
    exact ⟨A, c, he, ho.own, hb⟩
theorem refSeal_sl (v : Value) (l : List UInt8) (hl : l.length ≤ 10000) (w : World) (B : Nat) (hv : Sl w B v l) :
    Calls Tryd.prog 19 #[v] w (SealOut w l) :=
  (refSeal_any v l hl w B (rd_of_sl hv)).mono fun e w' ⟨u, he, ho, hb⟩ => by
    obtain ⟨A, c, hu, _⟩ := ho.own.sl.form
    rw [seal_length] at hu
    subst hu
    exact ⟨A, c, he, ho.own, hb⟩

def OpenOut (w : World) (r : List UInt8) (ok : Bool) (e : Ending) (w' : World) : Prop :=
  ∃ A c, e = .returned (.tuple #[.slice A r.length c, .bool ok]) ∧ Own w' w.heap.size 5 (.slice A r.length c) r ∧ Below w.heap.size w w'
theorem open_sl (v : Value) (m : List UInt8) (hm : m.length ≤ 10000) (w : World) (B : Nat) (hB : B ≤ w.heap.size) (hv : Sl w B v m) (hT : Tab w) :
    Calls Tryd.prog 21 #[v] w (OpenOut w ((unsl m).getD []) (unsl m).isSome) := by
  cases h : unsl m with
  | none => exact (open_other v m hm (unsl_none h) w B hB (rd_of_sl hv) hT).mono fun e w' ⟨he, hb⟩ => ⟨none, 0, he, Own.nil _ _ _, hb⟩
  | some l =>
    have e := unsl_some h
    subst e
    rw [seal_length] at hm
    exact (open_own v l (by omega) w B hB (rd_of_sl hv) hT).mono fun e w' ⟨u, he, ho, hb⟩ => by
      obtain ⟨A, c, hu, _⟩ := ho.own.sl.form
      subst hu
      exact ⟨A, c, he, ho.own, hb⟩
theorem refOpen_sl (v : Value) (m : List UInt8) (hm : m.length ≤ 10000) (w : World) (B : Nat) (hB : B ≤ w.heap.size) (hv : Sl w B v m) :
    Calls Tryd.prog 23 #[v] w (OpenOut w ((unsl m).getD []) (unsl m).isSome) := by
  cases h : unsl m with
  | none => exact (refOpen_other v m hm (unsl_none h) w B hB (rd_of_sl hv)).mono fun e w' ⟨he, hb⟩ => ⟨none, 0, he, Own.nil _ _ _, hb⟩
  | some l =>
    have e := unsl_some h
    subst e
    rw [seal_length] at hm
    exact (refOpen_own v l (by omega) w B hB (rd_of_sl hv)).mono fun e w' ⟨u, he, ho, hb⟩ => by
      obtain ⟨A, c, hu, _⟩ := ho.own.sl.form
      subst hu
      exact ⟨A, c, he, ho.own, hb⟩
end Go.Proofs.YtnodogcabpjahaaDoor
