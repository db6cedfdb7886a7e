/-
  The chapter's examples hold: what every law of layer 2 asks first.
-/
import Derived.Test.YtniibcjlmlmboaaPack
import Derived.Test.YtniibcjlmlmboaaSame
namespace Go.Proofs.Ytniibcjlmlmboaa
open Go.RowKit

theorem ex_pack : Fm.pack [300] [] = ([1, 2, 1, 44, 0, 0], 0) := by
  have h1 : Fm.sz 300 = 2 := by rw [Fm.sz_step (by omega), Fm.sz_step (by omega)]; simp [Fm.sz_zero]
  unfold Fm.pack Fm.bytes Fm.encs Fm.enc
  simp [Fm.may, h1, Fm.digs]
theorem ex_size : Fm.size 256 = 2 := by
  have h1 : Fm.sz 256 = 2 := by rw [Fm.sz_step (by omega), Fm.sz_step (by omega)]; simp [Fm.sz_zero]
  unfold Fm.size
  rw [if_pos (by unfold Fm.may; omega)]
  show (Fm.sz 256 : Int) = 2
  rw [h1]; rfl
set_option maxRecDepth 100000 in
theorem awake_any (w : World) :
    Calls Try.prog 11 #[] w fun e w' => e = .returned (.bool true) ∧ Below w.heap.size w w' := by
  have hb0 : Below w.heap.size w (w.alloc (.cells #[.int .i64 300] 3)) := (Below.refl _ _).alloc (Nat.le_refl _) _
  have hs : Sl (w.alloc (.cells #[.int .i64 300] 3)) (w.heap.size + 1) (.slice (some ⟨w.heap.size, 0, none⟩) 1 1) [(300 : Int)] := Sl.new1 w _ (300 : Int) _ ⟨by omega, by omega⟩ rfl
  have hp := pack_any (.slice (some ⟨w.heap.size, 0, none⟩) 1 1) (.slice none 0 0) [300] [] _ (w.heap.size + 1) (by simp) hs (Sl.nil _ _)
  rw [ex_pack] at hp
  have hsz := fun W => size_any 256 (by omega) (by omega) W
  rw [ex_size] at hsz
  have HP := Lib.hid hp
  have HS := Lib.hid hsz
  clear hp hsz hs
  go_enter Try.func11, Try.ntmps11
  go_wp2_with fail
  refine HP.out.mono ?_
  rintro e w1 ⟨A, c, rfl, ho, hb1⟩
  have q : (convert 23 9 (.slice A 6 c)).run Try.prog w1 = .ok (.string (strOf [1, 2, 1, 44, 0, 0])) w1 := conv_sl ho.sl
  have hq : ((strOf [1, 2, 1, 44, 0, 0]).toList == [1, 2, 1, 44, 0, 0]) = true := by rw [strOf_toList]; rfl
  have hb := hb0.trans (hb1.mono (by simp))
  clear ho
  generalize strOf [1, 2, 1, 44, 0, 0] = S at *
  go_wp2_with fail
  refine (HS.out _).mono ?_
  rintro e w2 ⟨rfl, hw⟩
  subst hw
  go_wp2_with fail
  go_ret
  exact ⟨rfl, hb⟩
end Go.Proofs.Ytniibcjlmlmboaa
