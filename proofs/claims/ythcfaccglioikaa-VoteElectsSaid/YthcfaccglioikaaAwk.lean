/-
  The chapter's example.
-/
import Derived.Test.YthcfaccglioikaaGrant
namespace Go.Proofs.Ythcfaccglioikaa
open Go.RowKit

theorem ex_one : Vt.grant (0, 0) (Lg.last (0, 0, [])) 2 1 0 0 = ((1, 2), true) := by decide +kernel
theorem ex_two : Vt.grant (1, 2) (Lg.last (0, 0, [])) 3 1 0 0 = ((1, 2), false) := by decide +kernel
theorem ex_three : Vt.grant (1, 2) (Lg.last (0, 0, [])) 3 2 0 0 = ((2, 3), true) := by decide +kernel

set_option maxRecDepth 100000 in
theorem awake_any (w : World) : Calls Try.prog 9 #[] w fun e w' => e = .returned (.bool true) ∧ Below w.heap.size w w' := by
  have h1 := fun W => grant_any 0 0 0 0 (.slice none 0 0) [] 0 2 0 1 0 0 0 false none 0 0 W W.heap.size (Nat.le_refl _) (Sl.nil _ _)
  have h2 := fun W => grant_any 1 2 0 0 (.slice none 0 0) [] 0 3 0 1 0 0 0 false none 0 0 W W.heap.size (Nat.le_refl _) (Sl.nil _ _)
  have h3 := fun W => grant_any 1 2 0 0 (.slice none 0 0) [] 0 3 0 2 0 0 0 false none 0 0 W W.heap.size (Nat.le_refl _) (Sl.nil _ _)
  rw [ex_one] at h1
  rw [ex_two] at h2
  rw [ex_three] at h3
  have H1 := Lib.hid h1
  have H2 := Lib.hid h2
  have H3 := Lib.hid h3
  clear h1 h2 h3
  go_enter Try.func9, Try.ntmps9
  go_wp2_with fail
  with_reducible refine (H1.out _).mono ?_
  rintro e w1 ⟨rfl, hb1⟩
  have HB1 := Lib.hid (hb1.alloc hb1.size (.cells #[.int .i64 1, .int .i64 2] 23))
  have HG1 := Lib.hid (Whole.new w1 23 #[.int .i64 1, .int .i64 2])
  clear hb1
  obtain ⟨k0, k1⟩ := HG1.out.c2
  go_wp2_with fail
  with_reducible refine (H2.out _).mono ?_
  rintro e w2 ⟨rfl, hb2⟩
  have hb := HB1.out.trans (hb2.mono HB1.out.size)
  have HB2 := Lib.hid (hb.alloc hb.size (.cells #[.int .i64 1, .int .i64 2] 23))
  have HG12 := Lib.hid ((HG1.out.below hb2 HG1.out.lt).alloc (.cells #[.int .i64 1, .int .i64 2] 23))
  have HG2 := Lib.hid (Whole.new w2 23 #[.int .i64 1, .int .i64 2])
  clear hb hb2 k0 k1 HG1 HB1
  obtain ⟨k0, k1⟩ := HG2.out.c2
  go_wp2_with fail
  with_reducible refine (H3.out _).mono ?_
  rintro e w3 ⟨rfl, hb3⟩
  have hb := HB2.out.trans (hb3.mono HB2.out.size)
  have HB3 := Lib.hid (hb.alloc hb.size (.cells #[.int .i64 2, .int .i64 3] 23))
  have HG13 := Lib.hid ((HG12.out.below hb3 HG12.out.lt).alloc (.cells #[.int .i64 2, .int .i64 3] 23))
  have HG3 := Lib.hid (Whole.new w3 23 #[.int .i64 2, .int .i64 3])
  clear hb hb3 k0 k1 HG2 HG12 HB2
  obtain ⟨k0, k1⟩ := HG13.out.c2
  obtain ⟨k2, k3⟩ := HG3.out.c2
  go_wp2_with fail
  go_ret
  exact ⟨rfl, HB3.out⟩
end Go.Proofs.Ythcfaccglioikaa
