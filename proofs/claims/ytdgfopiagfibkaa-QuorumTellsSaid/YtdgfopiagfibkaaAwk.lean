/-
  The chapter's examples.
-/
import Derived.Test.YtdgfopiagfibkaaHeld
import Derived.Test.YtdgfopiagfibkaaCommit
namespace Go.Proofs.Ytdgfopiagfibkaa
open Go.RowKit

abbrev exL : List E := [(1, 0, 0, 0, 0, 0, 0), (1, 0, 0, 0, 0, 0, 0), (2, 0, 0, 0, 0, 0, 0)]
theorem ex_most : Qr.most [5, 3, 7] = 5 := Qr.most_is (by simp) (by decide +kernel) (by decide +kernel)
theorem ex_most2 : Qr.most [3, 3, 1] = 3 := Qr.most_is (by simp) (by decide +kernel) (by decide +kernel)
theorem ex_three : Qr.commit (0, 0, exL) [3, 3, 1] 2 0 = 3 := by unfold Qr.commit; rw [ex_most2]; decide +kernel
theorem ex_two : Qr.commit (0, 0, exL) [3, 3, 1] 1 2 = 2 := by unfold Qr.commit; rw [ex_most2]; decide +kernel
theorem ex_maj : Qr.maj 4 = 3 := by decide +kernel

theorem Whole.next (w : World) (o : Obj) (t : TypeId) (cs : Array Value) : Whole ((w.alloc o).alloc (.cells cs t)) (w.heap.size + 1) t cs := by
  have h := Whole.new (w.alloc o) t cs
  rwa [World.size_alloc] at h
set_option maxRecDepth 100000 in
theorem awake_any (w : World) : Calls Try.prog 7 #[] w fun e w' => e = .returned (.bool true) ∧ Below w.heap.size w w' := by
  have h1 := fun W => maj_any 4 ⟨by omega, by omega⟩ W
  have h2 := fun W v hv => most_any v [5, 3, 7] (by simp) W W.heap.size (Nat.le_refl _) hv
  have h3 := fun W v vm hv hm => commit_any 0 0 v exL vm [3, 3, 1] (by simp) 2 0 ⟨by omega, by omega⟩ W W.heap.size (Nat.le_refl _) hv hm
  have h4 := fun W v vm hv hm => commit_any 0 0 v exL vm [3, 3, 1] (by simp) 1 2 ⟨by omega, by omega⟩ W W.heap.size (Nat.le_refl _) hv hm
  rw [ex_maj] at h1
  rw [ex_most] at h2
  rw [ex_three] at h3
  rw [ex_two] at h4
  have H1 := Lib.hid h1
  have H2 := Lib.hid h2
  have H3 := Lib.hid h3
  have H4 := Lib.hid h4
  clear h1 h2 h3 h4
  have hb0 : Below w.heap.size w ((w.alloc (.cells #[.int .i64 1, .int .i64 0, .int .i64 0, .int .i64 0, .int .i64 0, .int .i64 0, .int .i64 0, .int .i64 1, .int .i64 0, .int .i64 0, .int .i64 0, .int .i64 0, .int .i64 0, .int .i64 0, .int .i64 2, .int .i64 0, .int .i64 0, .int .i64 0, .int .i64 0, .int .i64 0, .int .i64 0] 35)).alloc (.cells #[.int .i64 0, .int .i64 0, .slice (some ⟨w.heap.size, 0, none⟩) 3 3] 38)) :=
    ((Below.refl _ _).alloc (Nat.le_refl _) _).alloc (by simp) _
  have HB := Lib.hid hb0
  have hwe : ∀ a ∈ exL, Flat.wf a := by intro a ha; simp at ha; rcases ha with rfl | rfl <;> simp [Flat.wf]
  have HS := Lib.hid (((Own.newL (α := E) w w.heap.size 35 exL #[.int .i64 1, .int .i64 0, .int .i64 0, .int .i64 0, .int .i64 0, .int .i64 0, .int .i64 0, .int .i64 1, .int .i64 0, .int .i64 0, .int .i64 0, .int .i64 0, .int .i64 0, .int .i64 0, .int .i64 2, .int .i64 0, .int .i64 0, .int .i64 0, .int .i64 0, .int .i64 0, .int .i64 0] hwe rfl (by unfold maxLen; simp) (Nat.le_refl _)).alloc (.cells #[.int .i64 0, .int .i64 0, .slice (some ⟨w.heap.size, 0, none⟩) 3 3] 38)).sl)
  have HW := Lib.hid (Whole.next w (.cells #[.int .i64 1, .int .i64 0, .int .i64 0, .int .i64 0, .int .i64 0, .int .i64 0, .int .i64 0, .int .i64 1, .int .i64 0, .int .i64 0, .int .i64 0, .int .i64 0, .int .i64 0, .int .i64 0, .int .i64 2, .int .i64 0, .int .i64 0, .int .i64 0, .int .i64 0, .int .i64 0, .int .i64 0] 35) 38 #[.int .i64 0, .int .i64 0, .slice (some ⟨w.heap.size, 0, none⟩) 3 3])
  have hI : ∀ (W : World) (x y z : Int), (-100 ≤ x ∧ x ≤ 100 ∧ -100 ≤ y ∧ y ≤ 100 ∧ -100 ≤ z ∧ z ≤ 100) → Sl (W.alloc (.cells #[.int .i64 x, .int .i64 y, .int .i64 z] 3)) (W.alloc (.cells #[.int .i64 x, .int .i64 y, .int .i64 z] 3)).heap.size (.slice (some ⟨W.heap.size, 0, none⟩) 3 3) [x, y, z] := fun W x y z h =>
    (Own.newL (α := Int) W W.heap.size 3 [x, y, z] #[.int .i64 x, .int .i64 y, .int .i64 z] (by intro a ha; simp at ha; rcases ha with rfl | rfl | rfl <;> exact ⟨by omega, by omega⟩) rfl (by unfold maxLen; simp) (Nat.le_refl _)).sl
  have HI := Lib.hid hI
  clear hb0 hwe hI
  go_enter Try.func7, Try.ntmps7
  go_wp2_with fail
  with_reducible refine (H1.out _).mono ?_
  rintro e w1 ⟨rfl, rfl⟩
  generalize (w.alloc _).alloc _ = w1 at *
  have HI1 := Lib.hid (HI.out w1 5 3 7 (by omega))
  replace HS := Lib.hid (HS.out.below (((Below.refl w1.heap.size w1).alloc (Nat.le_refl _) (.cells #[.int .i64 5, .int .i64 3, .int .i64 7] 3)))).here
  replace HW := Lib.hid (HW.out.alloc (.cells #[.int .i64 5, .int .i64 3, .int .i64 7] 3))
  replace HB := Lib.hid (HB.out.alloc HB.out.size (.cells #[.int .i64 5, .int .i64 3, .int .i64 7] 3))
  go_wp2_with fail
  with_reducible refine (H2.out _ _ HI1.out).mono ?_
  rintro e w2 ⟨rfl, hb⟩
  replace HS := Lib.hid ((HS.out.below hb).here)
  replace HW := Lib.hid (HW.out.below hb HW.out.lt)
  replace HB := Lib.hid (HB.out.trans (hb.mono HB.out.size))
  clear hb HI1 H1 H2
  obtain ⟨k0, k1, k2⟩ := HW.out.c3
  have HI1 := Lib.hid (HI.out w2 3 3 1 (by omega))
  replace HS := Lib.hid ((HS.out.below (((Below.refl w2.heap.size w2).alloc (Nat.le_refl _) (.cells #[.int .i64 3, .int .i64 3, .int .i64 1] 3)))).here)
  replace HW := Lib.hid (HW.out.alloc (.cells #[.int .i64 3, .int .i64 3, .int .i64 1] 3))
  replace HB := Lib.hid (HB.out.alloc HB.out.size (.cells #[.int .i64 3, .int .i64 3, .int .i64 1] 3))
  go_wp2_with fail
  refine (H3.out _ _ _ HS.out HI1.out).mono ?_
  rintro e w3 ⟨rfl, hb⟩
  replace HS := Lib.hid ((HS.out.below hb).here)
  replace HW := Lib.hid (HW.out.below hb HW.out.lt)
  replace HB := Lib.hid (HB.out.trans (hb.mono HB.out.size))
  clear hb HI1 H3 k0 k1 k2
  obtain ⟨k0, k1, k2⟩ := HW.out.c3
  have HI1 := Lib.hid (HI.out w3 3 3 1 (by omega))
  replace HS := Lib.hid ((HS.out.below (((Below.refl w3.heap.size w3).alloc (Nat.le_refl _) (.cells #[.int .i64 3, .int .i64 3, .int .i64 1] 3)))).here)
  replace HB := Lib.hid (HB.out.alloc HB.out.size (.cells #[.int .i64 3, .int .i64 3, .int .i64 1] 3))
  go_wp2_with fail
  refine (H4.out _ _ _ HS.out HI1.out).mono ?_
  rintro e w4 ⟨rfl, hb⟩
  replace HB := Lib.hid (HB.out.trans (hb.mono HB.out.size))
  clear hb HI1 H4 k0 k1 k2 HS HW
  go_wp2_with fail
  go_ret
  exact ⟨rfl, HB.out⟩
end Go.Proofs.Ytdgfopiagfibkaa
