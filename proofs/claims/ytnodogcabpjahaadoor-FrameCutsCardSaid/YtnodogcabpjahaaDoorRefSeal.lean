/-
  What the reference's Seal gives.
-/
import Derived.Test.YtnodogcabpjahaaDoorSeal
namespace Go.Proofs.YtnodogcabpjahaaDoor
open Go.RowKit

set_option maxRecDepth 100000 in
theorem refSeal_any (v : Value) (l : List UInt8) (hl : l.length ≤ 10000) (w : World) (B : Nat) (hv : Rd w B v l) :
    Calls Tryd.prog 19 #[v] w fun e w' => ∃ u, e = .returned u ∧ OwnB w' w.heap.size u (seal_ l) ∧ Below w.heap.size w w' := by
  have hs : Crc.csum (nums l) < 4294967296 := Crc.more_lt _ (by omega) (nums_lt _)
  have hsum := Lib.hid (refSum_any v l (by omega) w B hv)
  have HTL := Lib.hid (bv_tail (Crc.csum (nums l)) hs)
  have hseal : Hid (seal_ l = l ++ tail (Crc.csum (nums l))) := rfl
  have htl : (tail (Crc.csum (nums l))).length = 4 := rfl
  obtain ⟨A, c, rfl, hc, _⟩ := hv.form
  generalize Crc.csum (nums l) = s at *
  have HV := Lib.hid hv
  have HL := Lib.hid htl
  clear hv htl
  go_enter Tryd.func19, Tryd.ntmps19
  go_wp2_with (first
    | (go_at_call 26; refine hsum.out.mono ?_; rintro e w' ⟨rfl, rfl⟩)
    | (at_builtin; refine wpList_append_rd rfl _ (.tmp 7) rfl w.heap.size _ [] rfl (OwnB.nil _ _) B _ l rfl HV.out (by simp; omega) (Nat.le_refl _) ?_; intro v3 w3 hown3 hg3 hob3; rw [List.nil_append] at hown3; have hb3 := (Below.refl w.heap.size w).grown hg3 (Nat.le_refl _) (by intro k h; cases h); have hz3 := hg3.size; have htl3 := tail_rd (w := w3) HTL.out 5; clear hg3 hob3)
    | (at_builtin; refine wpList_append_rd rfl (.tmp 9) (.tmp 24) rfl w.heap.size _ l rfl (hown3.alloc _) (w3.heap.size + 1) _ (tail s) rfl htl3 (by rw [HL.out]; omega) (by simp; omega) ?_; intro v4 w4 hown4 hg4 hob4; have hb4 := (hb3.alloc hz3 _).grown hg4 (by simp; omega) (by intro k h; have := hown3.lt k h; omega); clear hg4 hob4))
  go_ret
  exact ⟨_, rfl, by rw [hseal.out]; exact hown4, hb4⟩
theorem refSeal_rd (v : Value) (l : List UInt8) (hl : l.length ≤ 10000) (w : World) (B : Nat) (hv : Rd w B v l) :
    Calls Tryd.prog 19 #[v] w fun e w' => ∃ A c, e = .returned (.slice A (l.length + 4) c) ∧ Rd w' w'.heap.size (.slice A (l.length + 4) c) (seal_ l) ∧ Below w.heap.size w w' :=
  (refSeal_any v l hl w B hv).mono fun e w' ⟨u, he, ho, hb⟩ => by
    have hr := ho.rd
    obtain ⟨A, c, hu, _⟩ := hr.form
    rw [seal_length] at hu
    subst hu
    exact ⟨A, c, he, hr, hb⟩
end Go.Proofs.YtnodogcabpjahaaDoor
