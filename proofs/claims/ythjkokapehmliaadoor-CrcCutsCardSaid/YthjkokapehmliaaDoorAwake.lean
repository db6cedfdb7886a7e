/-
  The chapter's examples hold: what every law asks first.
-/
import Derived.Test.YthjkokapehmliaaDoorSeal
import Derived.Lib.SlBytesConst
namespace Go.Proofs.YthjkokapehmliaaDoor
open Go.RowKit

theorem ex1 : Crc.csum (nums [49, 50, 51, 52, 53, 54, 55, 56, 57]) = 3421780262 := by decide +kernel
theorem ex2 : Crc.csum (nums []) = 0 := by decide +kernel
set_option maxRecDepth 100000 in
theorem awake_any (w : World) (hT : Tab w) :
    Calls Tryd.prog 11 #[] w fun e w' => e = .returned (.bool true) ∧ Below w.heap.size w w' := by
  have hpos := hT.pos
  have hcv := fun (w : World) (C : Array Value) (n c : Nat) => Lib.run_convert_bytes_const (P := Tryd.prog) w 23 5 C n c Tryd.underlying23 Tryd.underlying5
  have hcv2 : ∀ (o : Obj) (C : Array Value) (n c : Nat), (convert 23 23 (.slice (some ⟨w.heap.size + 1, 0, none⟩) n c)).run Tryd.prog ((w.alloc o).alloc (.cells C 5)) = .ok (.slice (some ⟨w.heap.size + 1, 0, none⟩) n c) ((w.alloc o).alloc (.cells C 5 (C.size, C.size + 1))) := by
    intro o C n c
    have h := hcv (w.alloc o) C n c
    rwa [World.size_alloc] at h
  have k1 : Calls Tryd.prog 14 #[.slice (some ⟨w.heap.size, 0, none⟩) 9 9] (w.alloc (.cells #[.int .u8 49, .int .u8 50, .int .u8 51, .int .u8 52, .int .u8 53, .int .u8 54, .int .u8 55, .int .u8 56, .int .u8 57] 5 (9, 10)))
      fun e w' => e = .returned (.int .u32 3421780262) ∧ (w.alloc (.cells #[.int .u8 49, .int .u8 50, .int .u8 51, .int .u8 52, .int .u8 53, .int .u8 54, .int .u8 55, .int .u8 56, .int .u8 57] 5 (9, 10))) = w' := by
    have h := sum_any (.slice (some ⟨w.heap.size, 0, none⟩) 9 9) [49, 50, 51, 52, 53, 54, 55, 56, 57] (by decide) _ (w.heap.size + 1) (Rd.block (l := [49, 50, 51, 52, 53, 54, 55, 56, 57]) (heap_alloc_new w (.cells #[.int .u8 49, .int .u8 50, .int .u8 51, .int .u8 52, .int .u8 53, .int .u8 54, .int .u8 55, .int .u8 56, .int .u8 57] 5 (9, 10))) rfl (Nat.lt_succ_self _) (Nat.le_refl _))
      (hT.below ((Below.refl w.heap.size w).alloc (Nat.le_refl _) _) hpos)
    rw [ex1] at h
    exact h
  have k2 : ∀ W, Tab W → Calls Tryd.prog 14 #[.slice none 0 0] W fun e w' => e = .returned (.int .u32 0) ∧ W = w' := by
    intro W hW
    have h := sum_any (.slice none 0 0) [] (by decide) W 0 (Rd.nil _ _) hW
    rw [ex2] at h
    exact h
  have k3 : ∀ W, Tab W → Calls Tryd.prog 20 #[.slice (some ⟨W.heap.size, 0, none⟩) 1 1] (W.alloc (.cells #[.int .u8 97] 5 (1, 2))) fun e w' => ∃ A c, e = .returned (.slice A 5 c) ∧ Below W.heap.size W w' := by
    intro W hW
    have hb : Below W.heap.size W (W.alloc (.cells #[.int .u8 97] 5 (1, 2))) := (Below.refl _ _).alloc (Nat.le_refl _) _
    refine (seal_rd (.slice (some ⟨W.heap.size, 0, none⟩) 1 1) [97] (by decide) _ (W.heap.size + 1) (by simp) (Rd.block (l := [97]) (heap_alloc_new W (.cells #[.int .u8 97] 5 (1, 2))) rfl (Nat.lt_succ_self _) (Nat.le_refl _))
      (hW.below hb hW.pos)).mono fun e w' ⟨A, c, he, _, hb2⟩ => ⟨A, c, he, hb.trans (hb2.mono (by simp))⟩
  have K1 := Lib.hid k1
  have K2 := Lib.hid k2
  have K3 := Lib.hid k3
  have HT := Lib.hid hT
  clear k1 k2 k3 hT
  have ht1 : Tab (w.alloc (.cells #[.int .u8 49, .int .u8 50, .int .u8 51, .int .u8 52, .int .u8 53, .int .u8 54, .int .u8 55, .int .u8 56, .int .u8 57] 5 (9, 10))) := HT.out.below ((Below.refl w.heap.size w).alloc (Nat.le_refl _) _) hpos
  have HT1 := Lib.hid ht1
  clear ht1
  go_enter Tryd.func11, Tryd.ntmps11
  go_wp2_with fail
  refine K1.out.mono ?_
  rintro e w' ⟨rfl, hw⟩
  subst hw
  go_wp2_with fail
  refine (K2.out _ HT1.out).mono ?_
  rintro e w' ⟨rfl, hw⟩
  subst hw
  go_wp2_with fail
  have k4 := K3.out _ HT1.out
  rw [World.size_alloc] at k4
  refine k4.mono ?_
  rintro e w' ⟨A, c, rfl, hb3⟩
  go_wp2_with fail
  go_ret
  exact ⟨rfl, ((Below.refl w.heap.size w).alloc (Nat.le_refl _) _).trans (hb3.mono (by simp))⟩
end Go.Proofs.YthjkokapehmliaaDoor
