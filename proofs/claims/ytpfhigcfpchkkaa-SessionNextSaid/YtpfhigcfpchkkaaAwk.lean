/-
  The chapter's example, as the statements ask it.
-/
import Derived.Test.YtpfhigcfpchkkaaPput
namespace Go.Proofs.Ytpfhigcfpchkkaa
open Go.RowKit

theorem ex_put : Sm.put [] 1 1 7 = ([(1, 1, 7)], 0) := by decide
theorem ex_look : Sm.look [(1, 1, 7)] 1 1 = (7, true, 0) := by decide
theorem ex_gap : Sm.look [(1, 1, 7)] 1 3 = (0, false, 10) := by decide

set_option maxRecDepth 100000 in
theorem awake_any (w : World) : Calls Try.prog 8 #[] w fun e w' => e = .returned (.bool true) ∧ Below w.heap.size w w' := by
  have hP := put_any (.slice none 0 0) [] 1 1 7 (by omega) w w.heap.size (Nat.le_refl _) (Sl.nil _ _)
  rw [ex_put] at hP
  have HP := Lib.hid hP
  have HL : Hid (∀ A c W, Sl W W.heap.size (.slice A 1 c) [((1 : Int), (1 : Int), (7 : Int))] → Calls Try.prog 9 #[.slice A 1 c, .int .i64 1, .int .i64 1] W fun e w' => e = .returned (.tuple #[.int .i64 7, .bool true, .int .i64 0]) ∧ Below W.heap.size W w') := fun A c W h => by
    have := look_any _ _ 1 1 W _ (Nat.le_refl _) h
    rw [ex_look] at this
    exact this
  have HG : Hid (∀ A c W, Sl W W.heap.size (.slice A 1 c) [((1 : Int), (1 : Int), (7 : Int))] → Calls Try.prog 9 #[.slice A 1 c, .int .i64 1, .int .i64 3] W fun e w' => e = .returned (.tuple #[.int .i64 0, .bool false, .int .i64 10]) ∧ Below W.heap.size W w') := fun A c W h => by
    have := look_any _ _ 1 3 W _ (Nat.le_refl _) h
    rw [ex_gap] at this
    exact this
  clear hP
  go_enter Try.func8, Try.ntmps8
  go_wp2_with fail
  with_reducible refine HP.out.mono ?_
  rintro e w1 ⟨A, c, rfl, hown, hb1⟩
  simp only [List.length_cons, List.length_nil, Nat.zero_add] at hown ⊢
  have HS1 := Lib.hid hown.sl
  have HB1 := Lib.hid hb1
  clear hown hb1
  go_wp2_with fail
  with_reducible refine (HL.out _ _ _ HS1.out).mono ?_
  rintro e w2 ⟨rfl, hb2⟩
  have HS2 := Lib.hid (HS1.out.below hb2).here
  have HB2 := Lib.hid (HB1.out.trans (hb2.mono HB1.out.size))
  clear hb2
  go_wp2_with fail
  with_reducible refine (HG.out _ _ _ HS2.out).mono ?_
  rintro e w3 ⟨rfl, hb3⟩
  have HB3 := Lib.hid (HB2.out.trans (hb3.mono HB2.out.size))
  clear hb3
  go_wp2_with fail
  go_ret
  exact ⟨rfl, HB3.out⟩
end Go.Proofs.Ytpfhigcfpchkkaa
