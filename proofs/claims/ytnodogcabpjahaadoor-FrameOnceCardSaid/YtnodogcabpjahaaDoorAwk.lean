/-
  The chapter's example holds: what every law asks first.
-/
import Derived.Test.YtnodogcabpjahaaDoorGet
import Derived.Test.YtnodogcabpjahaaDoorGrow
namespace Go.Proofs.YtnodogcabpjahaaDoor
open Go.RowKit

set_option maxRecDepth 100000 in
theorem awake_any (w : World) (hT : Tab w) :
    Calls Tryd.prog 10 #[] w fun e w' => e = .returned (.bool true) ∧ Below w.heap.size w w' := by
  have hP := put_any 5 (.slice none 0 0) [] w w.heap.size (Nat.le_refl _) (Sl.nil _ _) hT
  have he : Frm.put (5, []) = (seal_ [83, 5, 0, 0], 0) := rfl
  rw [he] at hP
  have hlen : (seal_ [83, 5, 0, 0]).length = 8 := rfl
  have hpos := hT.pos
  have hB : ∀ W : World, Own (α := UInt8) (W.alloc (.cells #[.int .u8 83, .int .u8 5, .int .u8 0, .int .u8 0] 5)) W.heap.size 5 (.slice (some ⟨W.heap.size, 0, none⟩) 4 4) [83, 5, 0, 0] := fun W =>
    Own.newL W W.heap.size 5 [83, 5, 0, 0] #[.int .u8 83, .int .u8 5, .int .u8 0, .int .u8 0] (bwf _) rfl (by unfold maxLen; simp) (Nat.le_refl _)
  have hS : Hid (∀ W : World, Below w.heap.size w W → Calls Tryd.prog 18 #[.slice (some ⟨W.heap.size, 0, none⟩) 4 4] (W.alloc (.cells #[.int .u8 83, .int .u8 5, .int .u8 0, .int .u8 0] 5)) fun e w3 => ∃ A3 c3, e = .returned (.slice A3 8 c3) ∧ Sl w3 w3.heap.size (.slice A3 8 c3) (seal_ [83, 5, 0, 0]) ∧ Below (W.alloc (.cells #[.int .u8 83, .int .u8 5, .int .u8 0, .int .u8 0] 5)).heap.size (W.alloc (.cells #[.int .u8 83, .int .u8 5, .int .u8 0, .int .u8 0] 5)) w3) := fun W h =>
    (seal_sl _ [83, 5, 0, 0] (by decide) (W.alloc (.cells #[.int .u8 83, .int .u8 5, .int .u8 0, .int .u8 0] 5)) (W.heap.size + 1) (by simp) (by have h := (hB W).sl; rw [World.size_alloc] at h; exact h) ((hT.below h hT.pos).below ((Below.refl W.heap.size W).alloc (Nat.le_refl _) _) (Nat.lt_of_lt_of_le hT.pos h.size))).mono
      fun e w3 ⟨A3, c3, he, ho3, hb3⟩ => ⟨A3, c3, he, ho3.sl, hb3⟩
  have HP := Lib.hid hP
  have HL := Lib.hid hlen
  clear hP he hlen hB
  generalize seal_ [83, 5, 0, 0] = b at *
  go_enter Tryd.func10, Tryd.ntmps10
  go_wp2_with fail
  refine HP.out.mono ?_
  rintro e w1 ⟨A, c, rfl, ho, hb1⟩
  rw [HL.out] at ho ⊢
  have HO := Lib.hid ho
  have HB1 := Lib.hid hb1
  have hs : ((strOf b).toList == (strOf b).toList) = true := by simp
  have hK : Hid (∀ W, Below w1.heap.size w1 W → (convert 22 9 (.slice A 8 c)).run Tryd.prog W = .ok (.string (strOf b)) W) := fun W h => conv_sl (HO.out.below h).sl
  have hC : Hid (Calls Tryd.prog 18 #[.slice (some ⟨w1.heap.size, 0, none⟩) 4 4] (w1.alloc (.cells #[.int .u8 83, .int .u8 5, .int .u8 0, .int .u8 0] 5)).drew (fun e w3 => ∃ A3 c3, e = .returned (.slice A3 8 c3) ∧ Sl w3 w3.heap.size (.slice A3 8 c3) b ∧ Below w1.heap.size w1 w3 ∧ Below (w1.alloc (.cells #[.int .u8 83, .int .u8 5, .int .u8 0, .int .u8 0] 5)).drew.heap.size (w1.alloc (.cells #[.int .u8 83, .int .u8 5, .int .u8 0, .int .u8 0] 5)).drew w3)) := by
    exact Calls.mono (show Calls Tryd.prog 18 #[.slice (some ⟨w1.heap.size, 0, none⟩) 4 4] (w1.alloc (.cells #[.int .u8 83, .int .u8 5, .int .u8 0, .int .u8 0] 5)).drew _ from hS.out w1.drew HB1.out.drew) fun e w3 ⟨A3, c3, he, ho3, hb3⟩ => ⟨A3, c3, he, ho3, ((Below.refl w1.heap.size w1).alloc (Nat.le_refl _) (.cells #[.int .u8 83, .int .u8 5, .int .u8 0, .int .u8 0] 5)).drew.trans (Below.mono hb3 (by show _ ≤ (World.alloc _ _).heap.size; rw [World.size_alloc]; exact Nat.le_succ _)), hb3⟩
  clear ho hb1
  generalize hse : strOf b = s at *
  have HSE := Lib.hid hse
  clear hse
  go_wp2_with fail
  refine g_start (by kernel_rfl) ?_
  refine g_take (i := 0) (v := ?_) rfl (by kernel_rfl) (by kernel_rfl) (by kernel_rfl) (fun _ _ _ h => h) (by rfl) ?_ ?_
  rotate_left
  · intro W hW
    go_simp
    first | done | rfl
  simp only [Act.put, List.setIfInBounds_toArray, List.set_cons_zero, List.set_cons_succ, List.getElem_toArray, List.getElem_cons_zero]
  refine g_take (i := 1) (v := ?_) rfl (by kernel_rfl) (by kernel_rfl) (by kernel_rfl) (fun _ _ _ h => h) (by rfl) ?_ ?_
  rotate_left
  · intro W hW
    go_simp
    first | done | rfl
  simp only [Act.put, List.setIfInBounds_toArray, List.set_cons_zero, List.set_cons_succ, List.getElem_toArray, List.getElem_cons_zero, List.getElem_cons_succ]
  refine g_take (i := 2) (v := ?_) rfl (by kernel_rfl) (by kernel_rfl) (by kernel_rfl) (fun _ _ _ h => h) (by rfl) ?_ ?_
  rotate_left
  · intro W hW
    go_simp
    first | done | rfl
  simp only [Act.put, List.setIfInBounds_toArray, List.set_cons_zero, List.set_cons_succ, List.getElem_toArray, List.getElem_cons_zero, List.getElem_cons_succ]
  refine g_take (i := 3) (v := ?_) rfl (by kernel_rfl) (by kernel_rfl) (by kernel_rfl) (fun _ _ _ h => h) (by rfl) ?_ ?_
  rotate_left
  · intro W hW
    go_simp
    first | done | rfl
  simp only [Act.put, List.setIfInBounds_toArray, List.set_cons_zero, List.set_cons_succ, List.getElem_toArray, List.getElem_cons_zero, List.getElem_cons_succ]
  refine g_take (i := 4) (v := ?_) rfl (by kernel_rfl) (by kernel_rfl) (by kernel_rfl) (fun _ _ _ h => h) (by rfl) ?_ ?_
  rotate_left
  · intro W hW
    have q := hK.out W (Below.trans (Below.refl _ _).drew hW)
    go_simp
    first | done | rfl
  simp only [Act.put, List.setIfInBounds_toArray, List.set_cons_zero, List.set_cons_succ, List.getElem_toArray, List.getElem_cons_zero, List.getElem_cons_succ]
  refine g_make (i := 5) (v := ?_) (w' := ?_) rfl (by kernel_rfl) (by rfl) ?_ ?_ ?_
  rotate_left 2
  · go_simp
    first | done | (constructor <;> rfl)
  · exact (show Below w1.drew.heap.size w1.drew (w1.drew.alloc _) from (Below.refl _ _).alloc (Nat.le_refl _) _)
  simp only [Act.put, List.setIfInBounds_toArray, List.set_cons_zero, List.set_cons_succ, List.getElem_toArray, List.getElem_cons_zero, List.getElem_cons_succ]
  refine g_call (i := 6) (f := 18) (args := #[.slice (some ⟨w1.heap.size, 0, none⟩) 4 4]) rfl (by kernel_rfl) (by rfl) (by go_simp) ?_
  refine (hC.out).mono ?_
  rintro e w3 ⟨A3, c3, he, hs3, hb3⟩
  refine ⟨_, he, hb3.2, ?_⟩
  simp only [Act.put, List.setIfInBounds_toArray, List.set_cons_zero, List.set_cons_succ, List.getElem_toArray, List.getElem_cons_zero, List.getElem_cons_succ]
  refine g_take (i := 7) (v := ?_) rfl (by kernel_rfl) (by kernel_rfl) (by kernel_rfl) (fun _ _ _ h => h) (by rfl) ?_ ?_
  rotate_left
  · intro W hW
    have q := HSE.out ▸ conv_sl (hs3.below hW)
    go_simp
    first | done | rfl
  simp only [Act.put, List.setIfInBounds_toArray, List.set_cons_zero, List.set_cons_succ, List.getElem_toArray, List.getElem_cons_zero, List.getElem_cons_succ]
  refine g_take (i := 8) (v := ?_) rfl (by kernel_rfl) (by kernel_rfl) (by kernel_rfl) (fun _ _ _ h => h) (by rfl) ?_ ?_
  rotate_left
  · intro W hW
    go_simp
    first | done | rfl
  simp only [Act.put, List.setIfInBounds_toArray, List.set_cons_zero, List.set_cons_succ, List.getElem_toArray, List.getElem_cons_zero, List.getElem_cons_succ]
  refine g_take (i := 9) (v := ?_) rfl (by kernel_rfl) (by kernel_rfl) (by kernel_rfl) (fun _ _ _ h => h) (by rfl) ?_ ?_
  rotate_left
  · intro W hW
    go_simp
    first | done | rfl
  simp only [Act.put, List.setIfInBounds_toArray, List.set_cons_zero, List.set_cons_succ, List.getElem_toArray, List.getElem_cons_zero, List.getElem_cons_succ]
  refine g_take (i := 10) (v := ?_) rfl (by kernel_rfl) (by kernel_rfl) (by kernel_rfl) (fun _ _ _ h => h) (by rfl) ?_ ?_
  rotate_left
  · intro W hW
    go_simp
    first | done | rfl
  simp only [Act.put, List.setIfInBounds_toArray, List.set_cons_zero, List.set_cons_succ, List.getElem_toArray, List.getElem_cons_zero, List.getElem_cons_succ]
  refine g_take (i := 11) (v := ?_) rfl (by kernel_rfl) (by kernel_rfl) (by kernel_rfl) (fun _ _ _ h => h) (by rfl) ?_ ?_
  rotate_left
  · intro W hW
    go_simp
    first | done | rfl
  simp only [Act.put, List.setIfInBounds_toArray, List.set_cons_zero, List.set_cons_succ, List.getElem_toArray, List.getElem_cons_zero, List.getElem_cons_succ]
  refine g_take (i := 12) (v := ?_) rfl (by kernel_rfl) (by kernel_rfl) (by kernel_rfl) (fun _ _ _ h => h) (by rfl) ?_ ?_
  rotate_left
  · intro W hW
    go_simp
    first | done | rfl
  simp only [Act.put, List.setIfInBounds_toArray, List.set_cons_zero, List.set_cons_succ, List.getElem_toArray, List.getElem_cons_zero, List.getElem_cons_succ]
  refine g_take (i := 13) (v := ?_) rfl (by kernel_rfl) (by kernel_rfl) (by kernel_rfl) (fun _ _ _ h => h) (by rfl) ?_ ?_
  rotate_left
  · intro W hW
    go_simp
    first | done | rfl
  simp only [Act.put, List.setIfInBounds_toArray, List.set_cons_zero, List.set_cons_succ, List.getElem_toArray, List.getElem_cons_zero, List.getElem_cons_succ]
  refine g_take (i := 14) (v := ?_) rfl (by kernel_rfl) (by kernel_rfl) (by kernel_rfl) (fun _ _ _ h => h) (by rfl) ?_ ?_
  rotate_left
  · intro W hW
    go_simp
    first | done | rfl
  simp only [Act.put, List.setIfInBounds_toArray, List.set_cons_zero, List.set_cons_succ, List.getElem_toArray, List.getElem_cons_zero, List.getElem_cons_succ]
  refine g_take (i := 15) (v := ?_) rfl (by kernel_rfl) (by kernel_rfl) (by kernel_rfl) (fun _ _ _ h => h) (by rfl) ?_ ?_
  rotate_left
  · intro W hW
    go_simp
    first | done | rfl
  simp only [Act.put, List.setIfInBounds_toArray, List.set_cons_zero, List.getElem_toArray, List.getElem_cons_zero, List.getElem_cons_succ]
  refine g_done (by kernel_rfl) ?_
  go_wp2_with fail
  go_ret
  exact ⟨rfl, HB1.out.trans (hb3.1.mono HB1.out.size)⟩
end Go.Proofs.YtnodogcabpjahaaDoor
