/-
  The chapter's examples hold: what every law asks first.
-/
import Derived.Test.YtckcfmkpchoaeaaOf
import Derived.Test.YtckcfmkpchoaeaaAdd
import Derived.Test.YtckcfmkpchoaeaaOrd
namespace Go.Proofs.Ytckcfmkpchoaeaa
open Go.RowKit

theorem ex_add : Lg.add (0, 0, [ent 1, ent 1, ent 2]) 1 1 [ent 1, ent 3] = ((0, 0, [ent 1, ent 1, ent 3]), 0) := by kernel_rfl
theorem ex_state : Lg.add (0, 0, [ent 1, ent 1, ent 2]) 2 2 [] = (Lg.zero, 8) := by kernel_rfl
theorem ex_gap : Lg.add (0, 0, [ent 1, ent 1, ent 2]) 5 2 [] = (Lg.zero, 10) := by kernel_rfl

set_option maxRecDepth 100000 in
set_option maxHeartbeats 1600000 in
theorem awake_any (w : World) :
    Calls Try.prog 9 #[] w fun e w' => e = .returned (.bool true) ∧ Below w.heap.size w w' := by
  have hI : Hid (∀ W : World, Own (α := Int) (W.alloc (.cells #[.int .i64 1, .int .i64 1, .int .i64 2] 3)) W.heap.size 3 (.slice (some ⟨W.heap.size, 0, none⟩) 3 3) [1, 1, 2]) := fun W =>
    Own.newL W W.heap.size 3 [1, 1, 2] #[.int .i64 1, .int .i64 1, .int .i64 2] (by intro a ha; simp at ha; rcases ha with rfl | rfl <;> exact ⟨by decide, by decide⟩) rfl (by unfold maxLen; simp) (Nat.le_refl _)
  have hI2 : Hid (∀ W : World, Own (α := Int) (W.alloc (.cells #[.int .i64 1, .int .i64 3] 3)) W.heap.size 3 (.slice (some ⟨W.heap.size, 0, none⟩) 2 2) [1, 3]) := fun W =>
    Own.newL W W.heap.size 3 [1, 3] #[.int .i64 1, .int .i64 3] (by intro a ha; simp at ha; rcases ha with rfl | rfl <;> exact ⟨by decide, by decide⟩) rfl (by unfold maxLen; simp) (Nat.le_refl _)
  have hb1 : Below w.heap.size w (w.alloc (.cells #[.int .i64 1, .int .i64 1, .int .i64 2] 3)) := (Below.refl _ _).alloc (Nat.le_refl _) _
  have HO := Lib.hid (of_any _ [1, 1, 2] (by decide) (w.alloc (.cells #[.int .i64 1, .int .i64 1, .int .i64 2] 3)) _ (Nat.le_refl _) (hI.out w).sl)
  have HB := Lib.hid hb1
  clear hb1
  go_enter Try.func9, Try.ntmps9
  go_wp2_with fail
  with_reducible refine HO.out.mono ?_
  rintro e w1 ⟨A1, c1, rfl, ho1, hb1⟩
  have hbb := HB.out.trans (hb1.mono HB.out.size)
  have HB3 := Lib.hid ((hbb.alloc hbb.size (.cells #[.int .i64 0, .int .i64 0, .slice A1 3 c1] 24)).drew)
  have HW3 := Lib.hid (show Whole (w1.alloc (.cells #[.int .i64 0, .int .i64 0, .slice A1 3 c1] 24)).drew w1.heap.size 24 #[.int .i64 0, .int .i64 0, .slice A1 3 c1] from Whole.new w1 _ _)
  have HS3 := Lib.hid (show Sl (w1.alloc (.cells #[.int .i64 0, .int .i64 0, .slice A1 3 c1] 24)).drew w1.heap.size (.slice A1 3 c1) [ent 1, ent 1, ent 2] from ho1.sl.below (((Below.refl _ _).alloc (Nat.le_refl _) _).drew))
  have hz3 : w1.heap.size < (w1.alloc (.cells #[.int .i64 0, .int .i64 0, .slice A1 3 c1] 24)).drew.heap.size := by show _ < (World.alloc _ _).heap.size; rw [World.size_alloc]; exact Nat.lt_succ_self _
  clear HO HB hbb hb1 ho1 hI
  go_wp2_with fail
  refine wp_cut (J := fun a w' => ∃ (g : Nat) (A : Option Addr) (c : Nat) (u11 u12 u13 u14 u15 u16 u17 : Value), a = { tmps := #[.bool false, .pointer (some ⟨w1.heap.size, 0, none⟩), .pointer (some ⟨g, 0, none⟩), .int .i64 0, undef, undef, undef, undef, .slice (some ⟨w.heap.size, 0, none⟩) 3 3, .slice A1 3 c1, .agg #[.int .i64 0, .int .i64 0, .slice A1 3 c1], u11, u12, u13, u14, u15, u16, u17, undef, undef, undef, undef, undef, undef, undef, undef, undef, undef, undef, undef, undef, undef, undef, undef, undef, undef, undef, undef, undef, undef, undef, undef, undef, undef, undef, undef, undef, undef, undef, undef, undef, undef], defers := [] } ∧
    Whole w' g 24 #[.int .i64 0, .int .i64 0, .slice A 3 c] ∧ Sl w' w'.heap.size (.slice A 3 c) [ent 1, ent 1, ent 3] ∧ Below (w1.alloc (.cells #[.int .i64 0, .int .i64 0, .slice A1 3 c1] 24)).drew.heap.size (w1.alloc (.cells #[.int .i64 0, .int .i64 0, .slice A1 3 c1] 24)).drew w') ?_ ?_
  · refine b_start (w1.alloc (.cells #[.int .i64 0, .int .i64 0, .slice A1 3 c1] 24)).drew.heap.size (by kernel_rfl) ?_
    generalize (w1.alloc (.cells #[.int .i64 0, .int .i64 0, .slice A1 3 c1] 24)).drew = w3 at *
    generalize w1.heap.size = g1 at *
    have hA : Hid (∀ W, Below w3.heap.size w3 W → ∀ v, Sl W W.heap.size v [ent 1, ent 3] → Calls Try.prog 25 #[lv 0 0 (.slice A1 3 c1), .int .i64 1, .int .i64 1, v] W (AddOut W ((0, 0, [ent 1, ent 1, ent 3]), 0))) := by
      intro W hW v hv
      rw [← ex_add]
      exact add_any 0 0 1 1 ⟨by omega, by omega⟩ _ v _ _ (by simp) W W.heap.size (Nat.le_refl _) (HS3.out.mono (Nat.le_of_lt hz3) |>.below hW).here hv
    have HC := Lib.hid (Below.refl w3.heap.size w3)
    have hw3lt := HW3.out.lt
    obtain ⟨B, hBe⟩ : ∃ B, B = w3.heap.size := ⟨_, rfl⟩
    rw [← hBe] at hA HC hw3lt ⊢
    have hB3 : B ≤ w3.heap.size := Nat.le_of_eq hBe
    clear hBe
    refine b_take (i := 0) (v := ?_) rfl (by kernel_rfl) (by kernel_rfl) (by kernel_rfl) (fun _ _ _ h => h) (by rfl) ?_ ?_
    rotate_left
    · intro W hW
      obtain ⟨k0, k1, k2⟩ := (HW3.out.below hW hw3lt).c3
      go_simp
      first | done | rfl
    simp only [Act.put, List.setIfInBounds_toArray, List.set_cons_zero, List.set_cons_succ, List.getElem_toArray, List.getElem_cons_zero]
    refine b_two (i := 1) (j := 7) (by kernel_rfl) ?_ ?_
    · refine one_run (i := 1) (v := ?_) (w' := ?_) rfl (by rfl) ?_ ?_ ?_
      rotate_left 2
      · go_simp
        first | done | (constructor <;> rfl)
      · exact (Below.refl _ _).alloc (Nat.le_trans hB3 HC.out.size) _
      simp only [Act.put, List.setIfInBounds_toArray, List.set_cons_zero, List.set_cons_succ, List.getElem_toArray, List.getElem_cons_zero, List.getElem_cons_succ]
      have HI := Lib.hid ((hI2.out w3).sl)
      replace HC := Lib.hid (HC.out.alloc (Nat.le_trans hB3 HC.out.size) (.cells #[.int .i64 1, .int .i64 3] 3))
      generalize (w3).alloc (.cells #[.int .i64 1, .int .i64 3] 3) = x4 at *
      refine b_two (i := 2) (j := 7) (by kernel_rfl) ?_ ?_
      · refine one_call (i := 2) (f := 27) (args := ?_) rfl (by rfl) ?_ ?_
        rotate_left
        · go_simp
          first | done | rfl
        refine (of_any _ [1, 3] (by decide) x4 _ (Nat.le_refl _) HI.out).mono ?_
        rintro e x5 ⟨A5, c5, he, ho, hb⟩
        refine ⟨_, he, hb.mono (Nat.le_trans hB3 HC.out.size), ?_⟩
        replace HC := Lib.hid (HC.out.trans (hb.mono (Nat.le_trans hB3 HC.out.size)))
        have HL := Lib.hid ho.sl
        clear HI ho hb he
        simp only [Act.put, List.setIfInBounds_toArray, List.set_cons_zero, List.set_cons_succ, List.getElem_toArray, List.getElem_cons_zero, List.getElem_cons_succ]
        refine b_two (i := 3) (j := 7) (by kernel_rfl) ?_ ?_
        · refine one_call (i := 3) (f := 25) (args := ?_) rfl (by rfl) ?_ ?_
          rotate_left
          · go_simp
            first | done | rfl
          refine (hA.out x5 HC.out _ HL.out).mono ?_
          rintro e x6 ⟨v6, he, hs, hb⟩
          refine ⟨_, he, hb.mono (Nat.le_trans hB3 HC.out.size), ?_⟩
          replace HC := Lib.hid (HC.out.trans (hb.mono (Nat.le_trans hB3 HC.out.size)))
          have HR := Lib.hid hs.here
          clear HL hs hb he
          simp only [Act.put, List.setIfInBounds_toArray, List.set_cons_zero, List.set_cons_succ, List.getElem_toArray, List.getElem_cons_zero, List.getElem_cons_succ]
          refine b_take (i := 4) (v := ?_) rfl (by kernel_rfl) (by kernel_rfl) (by kernel_rfl) (fun _ _ _ h => h) (by rfl) ?_ ?_
          rotate_left
          · intro W hW
            go_simp
            first | done | rfl
          simp only [Act.put, List.setIfInBounds_toArray, List.set_cons_zero, List.set_cons_succ, List.getElem_toArray, List.getElem_cons_zero, List.getElem_cons_succ]
          refine b_take (i := 5) (v := ?_) rfl (by kernel_rfl) (by kernel_rfl) (by kernel_rfl) (fun _ _ _ h => h) (by rfl) ?_ ?_
          rotate_left
          · intro W hW
            go_simp
            first | done | rfl
          simp only [Act.put, List.setIfInBounds_toArray, List.set_cons_zero, List.set_cons_succ, List.getElem_toArray, List.getElem_cons_zero, List.getElem_cons_succ]
          refine b_take (i := 6) (v := ?_) rfl (by kernel_rfl) (by kernel_rfl) (by kernel_rfl) (fun _ _ _ h => h) (by rfl) ?_ ?_
          rotate_left
          · intro W hW
            go_simp
            first | done | rfl
          simp only [Act.put, List.setIfInBounds_toArray, List.set_cons_zero, List.set_cons_succ, List.getElem_toArray, List.getElem_cons_zero, List.getElem_cons_succ]
          refine b_one (i := 7) (by kernel_rfl) ?_
          refine one_run (i := 7) (v := ?_) (w' := ?_) rfl (by rfl) ?_ ?_ ?_
          rotate_left 2
          · go_simp
            first | done | (constructor <;> rfl)
          · exact (Below.refl _ _).alloc (Nat.le_trans hB3 HC.out.size) _
          simp only [Act.put, List.setIfInBounds_toArray, List.set_cons_zero, List.set_cons_succ, List.getElem_toArray, List.getElem_cons_zero, List.getElem_cons_succ]
          replace HR := Lib.hid (SlS.wide (HR.out.below ((Below.refl _ _).alloc (Nat.le_refl _) (.cells #[.int .i64 0, .int .i64 0, .slice none 0 0] 24))) (fun b h _ => Nat.ne_of_lt h) : SlS _ (· ≠ (x6).heap.size) _ _)
          have HG := Lib.hid (Whole.new (x6) 24 #[.int .i64 0, .int .i64 0, .slice none 0 0])
          have hgb := Nat.le_trans hB3 HC.out.size
          replace HC := Lib.hid (HC.out.alloc (Nat.le_trans hB3 HC.out.size) (.cells #[.int .i64 0, .int .i64 0, .slice none 0 0] 24))
          generalize (x6).alloc (.cells #[.int .i64 0, .int .i64 0, .slice none 0 0] 24) = x7 at *
          obtain ⟨A9, c9, rfl, -, -⟩ := HR.out.form
          refine b_one (i := 8) (by kernel_rfl) ?_
          obtain ⟨k3, k4, k5⟩ := HG.out.c3
          obtain ⟨f3, f4, f5⟩ := HG.out.f3
          refine one_skip (i := 8) (w' := ?_) rfl (by rfl) ?_ ?_ ?_
          rotate_left 1
          · go_simp
            first | done | rfl
          · exact below_set3 (Below.refl _ _) hgb _ _ _
          simp only [Act.put, List.getElem_toArray, List.getElem_cons_zero, List.getElem_cons_succ]
          refine b_take (i := 9) (v := ?_) rfl (by kernel_rfl) (by kernel_rfl) (by kernel_rfl) (fun _ _ _ h => h) (by rfl) ?_ ?_
          rotate_left
          · intro W hW
            go_simp
            first | done | rfl
          simp only [Act.put, List.setIfInBounds_toArray, List.set_cons_zero, List.set_cons_succ, List.getElem_toArray, List.getElem_cons_zero, List.getElem_cons_succ]
          refine b_done (by kernel_rfl) ?_
          exact ⟨_, A9, c9, _, _, _, _, _, _, _, rfl, HG.out.set3 _ _ _, (((HR.out.set (p := ⟨_, 0, none⟩) (by simp) _).set (p := ⟨_, 1, none⟩) (by simp) _).set (p := ⟨_, 2, none⟩) (by simp) _).here, below_set3 HC.out hgb _ _ _⟩
        · refine one_run (i := 7) (v := ?_) (w' := ?_) rfl (by rfl) ?_ ?_ ?_
          rotate_left 2
          · go_simp
            first | done | (constructor <;> rfl)
          · exact (Below.refl _ _).alloc (Nat.le_trans hB3 HC.out.size) _
          simp only [Act.put, List.setIfInBounds_toArray, List.set_cons_zero, List.set_cons_succ, List.getElem_toArray, List.getElem_cons_zero, List.getElem_cons_succ]
          replace HL := Lib.hid (HL.out.below ((Below.refl _ _).alloc (Nat.le_refl _) (.cells #[.int .i64 0, .int .i64 0, .slice none 0 0] 24))).here
          have HG := Lib.hid (Whole.new (x5) 24 #[.int .i64 0, .int .i64 0, .slice none 0 0])
          have hgb := Nat.le_trans hB3 HC.out.size
          replace HC := Lib.hid (HC.out.alloc (Nat.le_trans hB3 HC.out.size) (.cells #[.int .i64 0, .int .i64 0, .slice none 0 0] 24))
          generalize (x5).alloc (.cells #[.int .i64 0, .int .i64 0, .slice none 0 0] 24) = x6 at *
          refine b_one (i := 3) (by kernel_rfl) ?_
          refine one_call (i := 3) (f := 25) (args := ?_) rfl (by rfl) ?_ ?_
          rotate_left
          · go_simp
            first | done | rfl
          refine (hA.out x6 HC.out _ HL.out).mono ?_
          rintro e x7 ⟨v7, he, hs, hb⟩
          refine ⟨_, he, hb.mono (Nat.le_trans hB3 HC.out.size), ?_⟩
          replace HC := Lib.hid (HC.out.trans (hb.mono (Nat.le_trans hB3 HC.out.size)))
          have HR := Lib.hid (SlS.wide hs (fun b h _ => Nat.ne_of_gt (Nat.lt_of_lt_of_le HG.out.lt h)) : SlS _ (· ≠ x5.heap.size) _ _)
          replace HG := Lib.hid (HG.out.below hb HG.out.lt)
          clear HL hs hb he
          simp only [Act.put, List.setIfInBounds_toArray, List.set_cons_zero, List.set_cons_succ, List.getElem_toArray, List.getElem_cons_zero, List.getElem_cons_succ]
          refine b_take (i := 4) (v := ?_) rfl (by kernel_rfl) (by kernel_rfl) (by kernel_rfl) (fun _ _ _ h => h) (by rfl) ?_ ?_
          rotate_left
          · intro W hW
            go_simp
            first | done | rfl
          simp only [Act.put, List.setIfInBounds_toArray, List.set_cons_zero, List.set_cons_succ, List.getElem_toArray, List.getElem_cons_zero, List.getElem_cons_succ]
          refine b_take (i := 5) (v := ?_) rfl (by kernel_rfl) (by kernel_rfl) (by kernel_rfl) (fun _ _ _ h => h) (by rfl) ?_ ?_
          rotate_left
          · intro W hW
            go_simp
            first | done | rfl
          simp only [Act.put, List.setIfInBounds_toArray, List.set_cons_zero, List.set_cons_succ, List.getElem_toArray, List.getElem_cons_zero, List.getElem_cons_succ]
          refine b_take (i := 6) (v := ?_) rfl (by kernel_rfl) (by kernel_rfl) (by kernel_rfl) (fun _ _ _ h => h) (by rfl) ?_ ?_
          rotate_left
          · intro W hW
            go_simp
            first | done | rfl
          simp only [Act.put, List.setIfInBounds_toArray, List.set_cons_zero, List.set_cons_succ, List.getElem_toArray, List.getElem_cons_zero, List.getElem_cons_succ]
          obtain ⟨A9, c9, rfl, -, -⟩ := HR.out.form
          refine b_one (i := 8) (by kernel_rfl) ?_
          obtain ⟨k3, k4, k5⟩ := HG.out.c3
          obtain ⟨f3, f4, f5⟩ := HG.out.f3
          refine one_skip (i := 8) (w' := ?_) rfl (by rfl) ?_ ?_ ?_
          rotate_left 1
          · go_simp
            first | done | rfl
          · exact below_set3 (Below.refl _ _) hgb _ _ _
          simp only [Act.put, List.getElem_toArray, List.getElem_cons_zero, List.getElem_cons_succ]
          refine b_take (i := 9) (v := ?_) rfl (by kernel_rfl) (by kernel_rfl) (by kernel_rfl) (fun _ _ _ h => h) (by rfl) ?_ ?_
          rotate_left
          · intro W hW
            go_simp
            first | done | rfl
          simp only [Act.put, List.setIfInBounds_toArray, List.set_cons_zero, List.set_cons_succ, List.getElem_toArray, List.getElem_cons_zero, List.getElem_cons_succ]
          refine b_done (by kernel_rfl) ?_
          exact ⟨_, A9, c9, _, _, _, _, _, _, _, rfl, HG.out.set3 _ _ _, (((HR.out.set (p := ⟨_, 0, none⟩) (by simp) _).set (p := ⟨_, 1, none⟩) (by simp) _).set (p := ⟨_, 2, none⟩) (by simp) _).here, below_set3 HC.out hgb _ _ _⟩
      · refine one_run (i := 7) (v := ?_) (w' := ?_) rfl (by rfl) ?_ ?_ ?_
        rotate_left 2
        · go_simp
          first | done | (constructor <;> rfl)
        · exact (Below.refl _ _).alloc (Nat.le_trans hB3 HC.out.size) _
        simp only [Act.put, List.setIfInBounds_toArray, List.set_cons_zero, List.set_cons_succ, List.getElem_toArray, List.getElem_cons_zero, List.getElem_cons_succ]
        replace HI := Lib.hid (HI.out.below ((Below.refl _ _).alloc (Nat.le_refl _) (.cells #[.int .i64 0, .int .i64 0, .slice none 0 0] 24))).here
        have HG := Lib.hid (Whole.new (x4) 24 #[.int .i64 0, .int .i64 0, .slice none 0 0])
        have hgb := Nat.le_trans hB3 HC.out.size
        replace HC := Lib.hid (HC.out.alloc (Nat.le_trans hB3 HC.out.size) (.cells #[.int .i64 0, .int .i64 0, .slice none 0 0] 24))
        generalize (x4).alloc (.cells #[.int .i64 0, .int .i64 0, .slice none 0 0] 24) = x5 at *
        refine b_one (i := 2) (by kernel_rfl) ?_
        refine one_call (i := 2) (f := 27) (args := ?_) rfl (by rfl) ?_ ?_
        rotate_left
        · go_simp
          first | done | rfl
        refine (of_any _ [1, 3] (by decide) x5 _ (Nat.le_refl _) HI.out).mono ?_
        rintro e x6 ⟨A6, c6, he, ho, hb⟩
        refine ⟨_, he, hb.mono (Nat.le_trans hB3 HC.out.size), ?_⟩
        replace HC := Lib.hid (HC.out.trans (hb.mono (Nat.le_trans hB3 HC.out.size)))
        have HL := Lib.hid ho.sl
        replace HG := Lib.hid (HG.out.below hb HG.out.lt)
        clear HI ho hb he
        simp only [Act.put, List.setIfInBounds_toArray, List.set_cons_zero, List.set_cons_succ, List.getElem_toArray, List.getElem_cons_zero, List.getElem_cons_succ]
        refine b_one (i := 3) (by kernel_rfl) ?_
        refine one_call (i := 3) (f := 25) (args := ?_) rfl (by rfl) ?_ ?_
        rotate_left
        · go_simp
          first | done | rfl
        refine (hA.out x6 HC.out _ HL.out).mono ?_
        rintro e x7 ⟨v7, he, hs, hb⟩
        refine ⟨_, he, hb.mono (Nat.le_trans hB3 HC.out.size), ?_⟩
        replace HC := Lib.hid (HC.out.trans (hb.mono (Nat.le_trans hB3 HC.out.size)))
        have HR := Lib.hid (SlS.wide hs (fun b h _ => Nat.ne_of_gt (Nat.lt_of_lt_of_le HG.out.lt h)) : SlS _ (· ≠ x4.heap.size) _ _)
        replace HG := Lib.hid (HG.out.below hb HG.out.lt)
        clear HL hs hb he
        simp only [Act.put, List.setIfInBounds_toArray, List.set_cons_zero, List.set_cons_succ, List.getElem_toArray, List.getElem_cons_zero, List.getElem_cons_succ]
        refine b_take (i := 4) (v := ?_) rfl (by kernel_rfl) (by kernel_rfl) (by kernel_rfl) (fun _ _ _ h => h) (by rfl) ?_ ?_
        rotate_left
        · intro W hW
          go_simp
          first | done | rfl
        simp only [Act.put, List.setIfInBounds_toArray, List.set_cons_zero, List.set_cons_succ, List.getElem_toArray, List.getElem_cons_zero, List.getElem_cons_succ]
        refine b_take (i := 5) (v := ?_) rfl (by kernel_rfl) (by kernel_rfl) (by kernel_rfl) (fun _ _ _ h => h) (by rfl) ?_ ?_
        rotate_left
        · intro W hW
          go_simp
          first | done | rfl
        simp only [Act.put, List.setIfInBounds_toArray, List.set_cons_zero, List.set_cons_succ, List.getElem_toArray, List.getElem_cons_zero, List.getElem_cons_succ]
        refine b_take (i := 6) (v := ?_) rfl (by kernel_rfl) (by kernel_rfl) (by kernel_rfl) (fun _ _ _ h => h) (by rfl) ?_ ?_
        rotate_left
        · intro W hW
          go_simp
          first | done | rfl
        simp only [Act.put, List.setIfInBounds_toArray, List.set_cons_zero, List.set_cons_succ, List.getElem_toArray, List.getElem_cons_zero, List.getElem_cons_succ]
        obtain ⟨A9, c9, rfl, -, -⟩ := HR.out.form
        refine b_one (i := 8) (by kernel_rfl) ?_
        obtain ⟨k3, k4, k5⟩ := HG.out.c3
        obtain ⟨f3, f4, f5⟩ := HG.out.f3
        refine one_skip (i := 8) (w' := ?_) rfl (by rfl) ?_ ?_ ?_
        rotate_left 1
        · go_simp
          first | done | rfl
        · exact below_set3 (Below.refl _ _) hgb _ _ _
        simp only [Act.put, List.getElem_toArray, List.getElem_cons_zero, List.getElem_cons_succ]
        refine b_take (i := 9) (v := ?_) rfl (by kernel_rfl) (by kernel_rfl) (by kernel_rfl) (fun _ _ _ h => h) (by rfl) ?_ ?_
        rotate_left
        · intro W hW
          go_simp
          first | done | rfl
        simp only [Act.put, List.setIfInBounds_toArray, List.set_cons_zero, List.set_cons_succ, List.getElem_toArray, List.getElem_cons_zero, List.getElem_cons_succ]
        refine b_done (by kernel_rfl) ?_
        exact ⟨_, A9, c9, _, _, _, _, _, _, _, rfl, HG.out.set3 _ _ _, (((HR.out.set (p := ⟨_, 0, none⟩) (by simp) _).set (p := ⟨_, 1, none⟩) (by simp) _).set (p := ⟨_, 2, none⟩) (by simp) _).here, below_set3 HC.out hgb _ _ _⟩
    · refine one_run (i := 7) (v := ?_) (w' := ?_) rfl (by rfl) ?_ ?_ ?_
      rotate_left 2
      · go_simp
        first | done | (constructor <;> rfl)
      · exact (Below.refl _ _).alloc (Nat.le_trans hB3 HC.out.size) _
      simp only [Act.put, List.setIfInBounds_toArray, List.set_cons_zero, List.set_cons_succ, List.getElem_toArray, List.getElem_cons_zero, List.getElem_cons_succ]
      have HG := Lib.hid (Whole.new (w3) 24 #[.int .i64 0, .int .i64 0, .slice none 0 0])
      have hgb := Nat.le_trans hB3 HC.out.size
      replace HC := Lib.hid (HC.out.alloc (Nat.le_trans hB3 HC.out.size) (.cells #[.int .i64 0, .int .i64 0, .slice none 0 0] 24))
      generalize (w3).alloc (.cells #[.int .i64 0, .int .i64 0, .slice none 0 0] 24) = x4 at *
      refine b_one (i := 1) (by kernel_rfl) ?_
      refine one_run (i := 1) (v := ?_) (w' := ?_) rfl (by rfl) ?_ ?_ ?_
      rotate_left 2
      · go_simp
        first | done | (constructor <;> rfl)
      · exact (Below.refl _ _).alloc (Nat.le_trans hB3 HC.out.size) _
      simp only [Act.put, List.setIfInBounds_toArray, List.set_cons_zero, List.set_cons_succ, List.getElem_toArray, List.getElem_cons_zero, List.getElem_cons_succ]
      replace HG := Lib.hid (HG.out.below ((Below.refl _ _).alloc (Nat.le_refl _) (.cells #[.int .i64 1, .int .i64 3] 3)) HG.out.lt)
      have HI := Lib.hid ((hI2.out x4).sl)
      replace HC := Lib.hid (HC.out.alloc (Nat.le_trans hB3 HC.out.size) (.cells #[.int .i64 1, .int .i64 3] 3))
      generalize (x4).alloc (.cells #[.int .i64 1, .int .i64 3] 3) = x5 at *
      refine b_one (i := 2) (by kernel_rfl) ?_
      refine one_call (i := 2) (f := 27) (args := ?_) rfl (by rfl) ?_ ?_
      rotate_left
      · go_simp
        first | done | rfl
      refine (of_any _ [1, 3] (by decide) x5 _ (Nat.le_refl _) HI.out).mono ?_
      rintro e x6 ⟨A6, c6, he, ho, hb⟩
      refine ⟨_, he, hb.mono (Nat.le_trans hB3 HC.out.size), ?_⟩
      replace HC := Lib.hid (HC.out.trans (hb.mono (Nat.le_trans hB3 HC.out.size)))
      have HL := Lib.hid ho.sl
      replace HG := Lib.hid (HG.out.below hb HG.out.lt)
      clear HI ho hb he
      simp only [Act.put, List.setIfInBounds_toArray, List.set_cons_zero, List.set_cons_succ, List.getElem_toArray, List.getElem_cons_zero, List.getElem_cons_succ]
      refine b_one (i := 3) (by kernel_rfl) ?_
      refine one_call (i := 3) (f := 25) (args := ?_) rfl (by rfl) ?_ ?_
      rotate_left
      · go_simp
        first | done | rfl
      refine (hA.out x6 HC.out _ HL.out).mono ?_
      rintro e x7 ⟨v7, he, hs, hb⟩
      refine ⟨_, he, hb.mono (Nat.le_trans hB3 HC.out.size), ?_⟩
      replace HC := Lib.hid (HC.out.trans (hb.mono (Nat.le_trans hB3 HC.out.size)))
      have HR := Lib.hid (SlS.wide hs (fun b h _ => Nat.ne_of_gt (Nat.lt_of_lt_of_le HG.out.lt h)) : SlS _ (· ≠ w3.heap.size) _ _)
      replace HG := Lib.hid (HG.out.below hb HG.out.lt)
      clear HL hs hb he
      simp only [Act.put, List.setIfInBounds_toArray, List.set_cons_zero, List.set_cons_succ, List.getElem_toArray, List.getElem_cons_zero, List.getElem_cons_succ]
      refine b_take (i := 4) (v := ?_) rfl (by kernel_rfl) (by kernel_rfl) (by kernel_rfl) (fun _ _ _ h => h) (by rfl) ?_ ?_
      rotate_left
      · intro W hW
        go_simp
        first | done | rfl
      simp only [Act.put, List.setIfInBounds_toArray, List.set_cons_zero, List.set_cons_succ, List.getElem_toArray, List.getElem_cons_zero, List.getElem_cons_succ]
      refine b_take (i := 5) (v := ?_) rfl (by kernel_rfl) (by kernel_rfl) (by kernel_rfl) (fun _ _ _ h => h) (by rfl) ?_ ?_
      rotate_left
      · intro W hW
        go_simp
        first | done | rfl
      simp only [Act.put, List.setIfInBounds_toArray, List.set_cons_zero, List.set_cons_succ, List.getElem_toArray, List.getElem_cons_zero, List.getElem_cons_succ]
      refine b_take (i := 6) (v := ?_) rfl (by kernel_rfl) (by kernel_rfl) (by kernel_rfl) (fun _ _ _ h => h) (by rfl) ?_ ?_
      rotate_left
      · intro W hW
        go_simp
        first | done | rfl
      simp only [Act.put, List.setIfInBounds_toArray, List.set_cons_zero, List.set_cons_succ, List.getElem_toArray, List.getElem_cons_zero, List.getElem_cons_succ]
      obtain ⟨A9, c9, rfl, -, -⟩ := HR.out.form
      refine b_one (i := 8) (by kernel_rfl) ?_
      obtain ⟨k3, k4, k5⟩ := HG.out.c3
      obtain ⟨f3, f4, f5⟩ := HG.out.f3
      refine one_skip (i := 8) (w' := ?_) rfl (by rfl) ?_ ?_ ?_
      rotate_left 1
      · go_simp
        first | done | rfl
      · exact below_set3 (Below.refl _ _) hgb _ _ _
      simp only [Act.put, List.getElem_toArray, List.getElem_cons_zero, List.getElem_cons_succ]
      refine b_take (i := 9) (v := ?_) rfl (by kernel_rfl) (by kernel_rfl) (by kernel_rfl) (fun _ _ _ h => h) (by rfl) ?_ ?_
      rotate_left
      · intro W hW
        go_simp
        first | done | rfl
      simp only [Act.put, List.setIfInBounds_toArray, List.set_cons_zero, List.set_cons_succ, List.getElem_toArray, List.getElem_cons_zero, List.getElem_cons_succ]
      refine b_done (by kernel_rfl) ?_
      exact ⟨_, A9, c9, _, _, _, _, _, _, _, rfl, HG.out.set3 _ _ _, (((HR.out.set (p := ⟨_, 0, none⟩) (by simp) _).set (p := ⟨_, 1, none⟩) (by simp) _).set (p := ⟨_, 2, none⟩) (by simp) _).here, below_set3 HC.out hgb _ _ _⟩
  · generalize (w1.alloc (.cells #[.int .i64 0, .int .i64 0, .slice A1 3 c1] 24)).drew = w3 at *
    generalize w1.heap.size = g1 at *
    rintro a w5 ⟨g, A5, c5, u11, u12, u13, u14, u15, u16, u17, rfl, hW5, hS5, hb5⟩
    have hL : ∀ W, Below w3.heap.size w3 W → Sl W W.heap.size (.slice A1 3 c1) [ent 1, ent 1, ent 2] := fun W hW => (HS3.out.mono (Nat.le_of_lt hz3) |>.below hW).here
    have hA2 := fun W hW => add_any 0 0 2 2 ⟨by omega, by omega⟩ _ (.slice none 0 0) _ [] (by simp) W W.heap.size (Nat.le_refl _) (hL W hW) (Sl.nil _ _)
    have hA3 := fun W hW => add_any 0 0 5 2 ⟨by omega, by omega⟩ _ (.slice none 0 0) _ [] (by simp) W W.heap.size (Nat.le_refl _) (hL W hW) (Sl.nil _ _)
    rw [ex_state] at hA2
    rw [ex_gap] at hA3
    have HA2 := Lib.hid hA2
    have HA3 := Lib.hid hA3
    have HW5 := Lib.hid hW5
    have HS5 := Lib.hid hS5
    have HB5 := Lib.hid hb5
    obtain ⟨k0, k1, k2⟩ := (HW3.out.below hb5 HW3.out.lt).c3
    have hlt5 := hW5.lt
    clear hA2 hA3 hL hW5 hS5 hb5 hI2
    go_wp2_with fail
    with_reducible refine (HA2.out _ HB5.out).mono ?_
    rintro e w6 ⟨v6, rfl, hs6, hb6⟩
    obtain ⟨A6, c6, rfl, -, -⟩ := hs6.form
    simp only [Lg.zero, List.length_nil] at hs6 ⊢
    have hb6' := HB5.out.trans (hb6.mono HB5.out.size)
    have HB6 := Lib.hid (hb6'.alloc hb6'.size (.cells #[.int .i64 0, .int .i64 0, .slice A6 0 c6] 24))
    have HW6 := Lib.hid ((HW5.out.below hb6 hlt5).alloc (.cells #[.int .i64 0, .int .i64 0, .slice A6 0 c6] 24))
    have HS6 := Lib.hid ((HS5.out.below hb6).mono hb6.size |>.below ((Below.refl _ _).alloc (Nat.le_refl _) (.cells #[.int .i64 0, .int .i64 0, .slice A6 0 c6] 24))).here
    have HW36 := Lib.hid (HW3.out.below HB6.out HW3.out.lt)
    have hlt6 := HW6.out.lt
    clear k0 k1 k2 hs6 hb6 hb6' HW5 HS5 HB5
    obtain ⟨k0, k1, k2⟩ := HW36.out.c3
    go_wp2_with fail
    with_reducible refine (HA3.out _ HB6.out).mono ?_
    rintro e w7 ⟨v7, rfl, hs7, hb7⟩
    obtain ⟨A7, c7, rfl, -, -⟩ := hs7.form
    simp only [Lg.zero, List.length_nil] at hs7 ⊢
    have hb7' := HB6.out.trans (hb7.mono HB6.out.size)
    have HB7 := Lib.hid (hb7'.alloc hb7'.size (.cells #[.int .i64 0, .int .i64 0, .slice A7 0 c7] 24))
    have HW7 := Lib.hid ((HW6.out.below hb7 hlt6).alloc (.cells #[.int .i64 0, .int .i64 0, .slice A7 0 c7] 24))
    have HS7 := Lib.hid ((HS6.out.below hb7).mono hb7.size |>.below ((Below.refl _ _).alloc (Nat.le_refl _) (.cells #[.int .i64 0, .int .i64 0, .slice A7 0 c7] 24))).here
    clear k0 k1 k2 hs7 hb7 hb7' HW6 HS6
    obtain ⟨k0, k1, k2⟩ := HW7.out.c3
    obtain ⟨b8, o8, rfl, k3⟩ := HS7.out.term 2 (by simp)
    have hf := HB3.out.trans (HB7.out.mono HB3.out.size)
    have HF := Lib.hid hf
    clear hf HA2 HA3 HB6 HB7 HW36 HS7 HW7
    go_wp2_with fail
    go_ret
    exact ⟨rfl, HF.out⟩
end Go.Proofs.Ytckcfmkpchoaeaa
