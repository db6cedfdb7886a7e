/-
  EntriesKeeps: what is added and is there already leaves the log as it is.
-/
import Derived.Test.YtckcfmkpchoaeaaAwk
import Derived.Test.YtckcfmkpchoaeaaNewer
import Derived.Test.YtckcfmkpchoaeaaRfrom
import Derived.Test.YtckcfmkpchoaeaaSame
import Derived.Test.YtckcfmkpchoaeaaAdds
namespace Go.Proofs.Ytckcfmkpchoaeaa
open Go.RowKit

theorem from_len (l : Lg.L) (i m : Int) : (Lg.from_ l i m).length ≤ 64 := by
  unfold Lg.from_
  have h1 := from0_le (Lg.fair l) i m
  have h2 := (Lg.may_iff _).1 (Lg.fair_may l)
  have := h2.2.2.2.2.2.1
  omega
theorem term_range {b t i : Int} {l : List E} (h : (Lg.term (b, t, l) i).2 = true) : 0 ≤ i ∧ i ≤ 1099511628000 := by
  unfold Lg.term at h
  have h2 := (Lg.may_iff _).1 (Lg.fair_may (b, t, l))
  obtain ⟨m1, m2, -, -, -, m6, -⟩ := h2
  unfold Lg.term0 at h
  split at h
  · omega
  · split at h
    · cases h
    · omega

set_option maxRecDepth 100000 in
set_option maxHeartbeats 1600000 in
theorem keeps_law (w : World) (b t : Int) (v : Value) (l : List E) (hv : Sl w w.heap.size v l) (i m : Int) (hi : -9223372036854775808 ≤ i ∧ i ≤ 9223372036854775807) :
    Calls Try.prog 6 #[lv b t v, .int .i64 i, .int .i64 m] w fun e w' => e = .returned (.bool true) ∧ Below w.heap.size w w' := by
  obtain ⟨A, c, rfl, hc, hm⟩ := hv.form
  have hb0 : Below w.heap.size w (w.alloc (.cells #[.int .i64 b, .int .i64 t, .slice A l.length c] 24)) := (Below.refl _ _).alloc (Nat.le_refl _) _
  have HB := Lib.hid hb0
  have hW := Lib.hid (Whole.new w 24 #[.int .i64 b, .int .i64 t, .slice A l.length c])
  have HK := Lib.hid (awake_any (w.alloc (.cells #[.int .i64 b, .int .i64 t, .slice A l.length c] 24)))
  have HF := Lib.hid (fun W => few_any b t A l.length c W)
  have HMA := Lib.hid (fun W (h : Below w.heap.size w W) => may_any b t _ l W w.heap.size h.size (hv.below h))
  have HTA := Lib.hid (fun W (h : Below w.heap.size w W) => term_any b t i hi _ l W w.heap.size h.size (hv.below h))
  have HV := Lib.hid (fun W (h : Below w.heap.size w W) => (hv.below h).here)
  have HSM := Lib.hid (fun u => @Lg.add_same b t i u m l)
  have HTR := Lib.hid (@term_range b t i l)
  have HFR := Lib.hid (fun (h : 0 ≤ i ∧ i ≤ 1099511628000) W (hW : Below w.heap.size w W) => from_any b t (i + 1) m (by omega) _ l W w.heap.size hW.size (hv.below hW))
  have HFL := Lib.hid (from_len (b, t, l) (i + 1) m)
  have HA := Lib.hid (fun u W (h : Below w.heap.size w W) v2 (h2 : Sl W W.heap.size v2 (Lg.from_ (b, t, l) (i + 1) m)) => add_any b t i u hi _ v2 l _ (Nat.le_trans (from_len _ _ _) (by omega)) W W.heap.size (Nat.le_refl _) ((hv.below h).here) h2)
  clear hv hb0
  generalize Lg.may (b, t, l) = my at *
  generalize Lg.term (b, t, l) i = X at *
  obtain ⟨t1, t2⟩ := X
  go_enter Try.func6, Try.ntmps6
  go_wp2_with fail
  with_reducible refine HK.out.mono ?_
  rintro e w1 ⟨rfl, hb1⟩
  have HB1 := Lib.hid (HB.out.trans (hb1.mono HB.out.size))
  have HW1 := Lib.hid (hW.out.below hb1 hW.out.lt)
  clear hb1 HK hW HB
  obtain ⟨k0, k1, k2⟩ := HW1.out.c3
  go_wp2_with fail
  with_reducible refine (HF.out _).mono ?_
  rintro e w2 ⟨rfl, hb2⟩
  have HB2 := Lib.hid (HB1.out.trans (hb2.mono HB1.out.size))
  have HW2 := Lib.hid (HW1.out.below hb2 HW1.out.lt)
  clear hb2 HB1 HW1 HF k0 k1 k2
  obtain ⟨k0, k1, k2⟩ := HW2.out.c3
  by_cases c1 : l.length ≤ 100
  · have d1 : decide (l.length ≤ 100) = true := by simpa using c1
    rw [d1]
    go_wp2_with fail
    with_reducible refine (HMA.out _ HB2.out).mono ?_
    rintro e w3 ⟨rfl, hb3⟩
    have HB3 := Lib.hid (HB2.out.trans (hb3.mono HB2.out.size))
    have HW3 := Lib.hid (HW2.out.below hb3 HW2.out.lt)
    clear hb3 HB2 HW2 HMA k0 k1 k2
    obtain ⟨k0, k1, k2⟩ := HW3.out.c3
    rcases my with _ | _
    · go_wp2_with fail
      go_ret
      exact ⟨rfl, HB3.out⟩
    go_wp2_with fail
    with_reducible refine (HTA.out _ HB3.out).mono ?_
    rintro e w4 ⟨rfl, hb4⟩
    have HB4 := Lib.hid (HB3.out.trans (hb4.mono HB3.out.size))
    have HW4 := Lib.hid (HW3.out.below hb4 HW3.out.lt)
    clear hb4 HB3 HW3 HTA k0 k1 k2
    simp only
    rcases t2 with _ | _
    · go_wp2_with fail
      go_ret
      exact ⟨rfl, HB4.out⟩
    obtain ⟨r1, r2⟩ := HTR.out rfl
    have hsm := HSM.out t1 (by simp) rfl
    have hfr := HFR.out ⟨r1, r2⟩
    have hA := HA.out t1
    rw [hsm] at hA
    have HA2 := Lib.hid hA
    have HFR2 := Lib.hid hfr
    have HFL2 := Lib.hid HFL.out
    clear HSM HFR HA HFL HTR hsm hfr hA
    generalize Lg.from_ (b, t, l) (i + 1) m = FL at *
    have HV4 := Lib.hid (show ∀ W, Below w.heap.size w W → Sl W W.heap.size (.slice A l.length c) l from HV.out)
    clear HV
    generalize hn : l.length = n at *
    have i1 : -9223372036854775808 ≤ i + 1 := by omega
    have i2 : i + 1 ≤ 9223372036854775807 := by omega
    have hwr : IntKind.i64.wrap (i + 1) = i + 1 := by rw [IntKind.wrap_i64]; omega
    go_wp2_with fail
    refine wp_cut (J := fun a w' => ∃ (g : Nat) (A9 : Option Addr) (c9 : Nat) (u37 u38 u39 u40 u41 u42 u43 u44 u45 u46 u47 u48 : Value), a = { tmps := #[lv b t (Value.slice A n c), Value.int IntKind.i64 i, Value.int IntKind.i64 m, Value.pointer (some { block := w.heap.size, off := 0 }), undef, undef, Value.bool false, Value.bool true, Value.bool true, Value.int IntKind.i64 t1, Value.bool true, .pointer (some ⟨g, 0, none⟩), .int .i64 0, undef, Value.bool true, Value.agg #[Value.int IntKind.i64 b, Value.int IntKind.i64 t, Value.slice A n c], Value.bool true, Value.bool true, Value.bool false, Value.bool false, Value.bool true, Value.bool false, Value.bool false, Value.bool false, Value.agg #[Value.int IntKind.i64 b, Value.int IntKind.i64 t, Value.slice A n c], Value.bool true, Value.bool false, Value.bool false, undef, Value.tuple #[Value.int IntKind.i64 t1, Value.bool true], Value.agg #[Value.int IntKind.i64 b, Value.int IntKind.i64 t, Value.slice A n c], Value.int IntKind.i64 i, Value.tuple #[Value.int IntKind.i64 t1, Value.bool true], Value.int IntKind.i64 t1, Value.bool true, Value.bool true, Value.bool false, u37, u38, u39, u40, u41, u42, u43, u44, u45, u46, u47, u48, undef, undef, undef, undef, undef, undef, undef, undef], defers := [] } ∧
      Whole w' g 24 #[.int .i64 b, .int .i64 t, .slice A9 n c9] ∧ Sl w' w'.heap.size (.slice A9 n c9) l ∧ Below w.heap.size w w' ∧ Whole w' w.heap.size 24 #[.int .i64 b, .int .i64 t, .slice A n c]) ?_ ?_
    · have HB5 := Lib.hid (show Below w.heap.size w w4.drew from HB4.out.drew)
      have HW5 := Lib.hid (show Whole w4.drew w.heap.size 24 #[.int .i64 b, .int .i64 t, .slice A n c] from HW4.out)
      refine b_start w4.drew.heap.size (by kernel_rfl) ?_
      clear HB4 HW4
      generalize w4.drew = w5 at *
      have HC := Lib.hid (Below.refl w5.heap.size w5)
      have hw5lt := HW5.out.lt
      have hw5B := HB5.out.size
      obtain ⟨B, hBe⟩ : ∃ B, B = w5.heap.size := ⟨_, rfl⟩
      rw [← hBe] at HC hw5lt hw5B ⊢
      have hB3 : B ≤ w5.heap.size := Nat.le_of_eq hBe
      clear hBe
      subst hn
      refine b_take (i := 0) (v := ?_) rfl (by kernel_rfl) (by kernel_rfl) (by kernel_rfl) (fun _ _ _ h => h) (by rfl) ?_ ?_
      rotate_left
      · intro W hW
        obtain ⟨k0, k1, k2⟩ := (HW5.out.below hW hw5lt).c3
        go_simp
        first | done | rfl
      simp only [Act.put, List.setIfInBounds_toArray, List.set_cons_zero, List.set_cons_succ, List.getElem_toArray, List.getElem_cons_zero]
      refine b_take (i := 1) (v := ?_) rfl (by kernel_rfl) (by kernel_rfl) (by kernel_rfl) (fun _ _ _ h => h) (by rfl) ?_ ?_
      rotate_left
      · intro W hW
        go_simp
        first | done | rfl
      simp only [Act.put, List.setIfInBounds_toArray, List.set_cons_zero, List.set_cons_succ, List.getElem_toArray, List.getElem_cons_zero, List.getElem_cons_succ]
      refine b_take (i := 2) (v := ?_) rfl (by kernel_rfl) (by kernel_rfl) (by kernel_rfl) (fun _ _ _ h => h) (by rfl) ?_ ?_
      rotate_left
      · intro W hW
        go_simp
        first | done | rfl
      simp only [Act.put, List.setIfInBounds_toArray, List.set_cons_zero, List.set_cons_succ, List.getElem_toArray, List.getElem_cons_zero, List.getElem_cons_succ]
      refine b_take (i := 3) (v := ?_) rfl (by kernel_rfl) (by kernel_rfl) (by kernel_rfl) (fun _ _ _ h => h) (by rfl) ?_ ?_
      rotate_left
      · intro W hW
        obtain ⟨k0, k1, k2⟩ := (HW5.out.below hW hw5lt).c3
        go_simp
        first | done | rfl
      simp only [Act.put, List.setIfInBounds_toArray, List.set_cons_zero, List.set_cons_succ, List.getElem_toArray, List.getElem_cons_zero, List.getElem_cons_succ]
      refine b_take (i := 4) (v := ?_) rfl (by kernel_rfl) (by kernel_rfl) (by kernel_rfl) (fun _ _ _ h => h) (by rfl) ?_ ?_
      rotate_left
      · intro W hW
        go_simp
        first | done | rfl
      simp only [Act.put, List.setIfInBounds_toArray, List.set_cons_zero, List.set_cons_succ, List.getElem_toArray, List.getElem_cons_zero, List.getElem_cons_succ]
      refine b_take (i := 5) (v := ?_) rfl (by kernel_rfl) (by kernel_rfl) (by kernel_rfl) (fun _ _ _ h => h) (by rfl) ?_ ?_
      rotate_left
      · intro W hW
        go_simp
        first | done | rfl
      simp only [Act.put, List.setIfInBounds_toArray, List.set_cons_zero, List.set_cons_succ, List.getElem_toArray, List.getElem_cons_zero, List.getElem_cons_succ]
      refine b_take (i := 6) (v := ?_) rfl (by kernel_rfl) (by kernel_rfl) (by kernel_rfl) (fun _ _ _ h => h) (by rfl) ?_ ?_
      rotate_left
      · intro W hW
        go_simp
        first | done | rfl
      simp only [Act.put, List.setIfInBounds_toArray, List.set_cons_zero, List.set_cons_succ, List.getElem_toArray, List.getElem_cons_zero, List.getElem_cons_succ]
      refine b_two (i := 7) (j := 12) (by kernel_rfl) ?_ ?_
      · refine one_call (i := 7) (f := 16) (args := ?_) rfl (by rfl) ?_ ?_
        rotate_left
        · go_simp
          first | done | rfl
        with_reducible refine (HFR2.out w5 (HB5.out.trans (HC.out.mono hw5B))).mono ?_
        rintro e x6 ⟨A6, c6, he, ho, hb⟩
        refine ⟨_, he, hb.mono (Nat.le_trans hB3 HC.out.size), ?_⟩
        replace HC := Lib.hid (HC.out.trans (hb.mono (Nat.le_trans hB3 HC.out.size)))
        have HL := Lib.hid ho.sl
        clear ho hb he
        simp only [Act.put, List.setIfInBounds_toArray, List.set_cons_zero, List.set_cons_succ, List.getElem_toArray, List.getElem_cons_zero, List.getElem_cons_succ]
        refine b_two (i := 8) (j := 12) (by kernel_rfl) ?_ ?_
        · refine one_call (i := 8) (f := 25) (args := ?_) rfl (by rfl) ?_ ?_
          rotate_left
          · go_simp
            first | done | rfl
          with_reducible refine (HA2.out x6 (HB5.out.trans (HC.out.mono hw5B)) _ HL.out).mono ?_
          rintro e x7 ⟨v7, he, hs, hb⟩
          refine ⟨_, he, hb.mono (Nat.le_trans hB3 HC.out.size), ?_⟩
          replace HC := Lib.hid (HC.out.trans (hb.mono (Nat.le_trans hB3 HC.out.size)))
          have HR := Lib.hid hs.here
          replace HL := Lib.hid (HL.out.below hb).here
          clear hs hb he
          simp only [Act.put, List.setIfInBounds_toArray, List.set_cons_zero, List.set_cons_succ, List.getElem_toArray, List.getElem_cons_zero, List.getElem_cons_succ]
          refine b_take (i := 9) (v := ?_) rfl (by kernel_rfl) (by kernel_rfl) (by kernel_rfl) (fun _ _ _ h => h) (by rfl) ?_ ?_
          rotate_left
          · intro W hW
            go_simp
            first | done | rfl
          simp only [Act.put, List.setIfInBounds_toArray, List.set_cons_zero, List.set_cons_succ, List.getElem_toArray, List.getElem_cons_zero, List.getElem_cons_succ]
          refine b_take (i := 10) (v := ?_) rfl (by kernel_rfl) (by kernel_rfl) (by kernel_rfl) (fun _ _ _ h => h) (by rfl) ?_ ?_
          rotate_left
          · intro W hW
            go_simp
            first | done | rfl
          simp only [Act.put, List.setIfInBounds_toArray, List.set_cons_zero, List.set_cons_succ, List.getElem_toArray, List.getElem_cons_zero, List.getElem_cons_succ]
          refine b_take (i := 11) (v := ?_) rfl (by kernel_rfl) (by kernel_rfl) (by kernel_rfl) (fun _ _ _ h => h) (by rfl) ?_ ?_
          rotate_left
          · intro W hW
            go_simp
            first | done | rfl
          simp only [Act.put, List.setIfInBounds_toArray, List.set_cons_zero, List.set_cons_succ, List.getElem_toArray, List.getElem_cons_zero, List.getElem_cons_succ]
          refine b_one (i := 12) (by kernel_rfl) ?_
          refine one_run (i := 12) (v := ?_) (w' := ?_) rfl (by rfl) ?_ ?_ ?_
          rotate_left 2
          · go_simp
            first | done | (constructor <;> rfl)
          · exact (Below.refl _ _).alloc (Nat.le_trans hB3 HC.out.size) _
          simp only [Act.put, List.setIfInBounds_toArray, List.set_cons_zero, List.set_cons_succ, List.getElem_toArray, List.getElem_cons_zero, List.getElem_cons_succ]
          replace HL := Lib.hid (HL.out.below ((Below.refl _ _).alloc (Nat.le_refl _) (.cells #[.int .i64 0, .int .i64 0, .slice none 0 0] 24))).here
          replace HR := Lib.hid (SlS.wide (HR.out.below ((Below.refl _ _).alloc (Nat.le_refl _) (.cells #[.int .i64 0, .int .i64 0, .slice none 0 0] 24))) (fun b h _ => Nat.ne_of_lt h) : SlS _ (· ≠ (x7).heap.size) _ _)
          have HG := Lib.hid (Whole.new (x7) 24 #[.int .i64 0, .int .i64 0, .slice none 0 0])
          have hgb := Nat.le_trans hB3 HC.out.size
          replace HC := Lib.hid (HC.out.alloc (Nat.le_trans hB3 HC.out.size) (.cells #[.int .i64 0, .int .i64 0, .slice none 0 0] 24))
          generalize (x7).alloc (.cells #[.int .i64 0, .int .i64 0, .slice none 0 0] 24) = x8 at *
          obtain ⟨A9, c9, rfl, -, -⟩ := HR.out.form
          refine b_one (i := 13) (by kernel_rfl) ?_
          obtain ⟨k3, k4, k5⟩ := HG.out.c3
          obtain ⟨f3, f4, f5⟩ := HG.out.f3
          refine one_skip (i := 13) (w' := ?_) rfl (by rfl) ?_ ?_ ?_
          rotate_left 1
          · go_simp
            first | done | rfl
          · exact below_set3 (Below.refl _ _) hgb _ _ _
          simp only [Act.put, List.getElem_toArray, List.getElem_cons_zero, List.getElem_cons_succ]
          refine b_take (i := 14) (v := ?_) rfl (by kernel_rfl) (by kernel_rfl) (by kernel_rfl) (fun _ _ _ h => h) (by rfl) ?_ ?_
          rotate_left
          · intro W hW
            go_simp
            first | done | rfl
          simp only [Act.put, List.setIfInBounds_toArray, List.set_cons_zero, List.set_cons_succ, List.getElem_toArray, List.getElem_cons_zero, List.getElem_cons_succ]
          refine b_done (by kernel_rfl) ?_
          exact ⟨_, A9, c9, _, _, _, _, _, _, _, _, _, _, _, _, rfl, HG.out.set3 _ _ _, (((HR.out.set (p := ⟨_, 0, none⟩) (by simp) _).set (p := ⟨_, 1, none⟩) (by simp) _).set (p := ⟨_, 2, none⟩) (by simp) _).here, HB5.out.trans ((below_set3 HC.out hgb _ _ _).mono hw5B), HW5.out.below (below_set3 HC.out hgb _ _ _) hw5lt⟩
        · refine one_run (i := 12) (v := ?_) (w' := ?_) rfl (by rfl) ?_ ?_ ?_
          rotate_left 2
          · go_simp
            first | done | (constructor <;> rfl)
          · exact (Below.refl _ _).alloc (Nat.le_trans hB3 HC.out.size) _
          simp only [Act.put, List.setIfInBounds_toArray, List.set_cons_zero, List.set_cons_succ, List.getElem_toArray, List.getElem_cons_zero, List.getElem_cons_succ]
          replace HL := Lib.hid (HL.out.below ((Below.refl _ _).alloc (Nat.le_refl _) (.cells #[.int .i64 0, .int .i64 0, .slice none 0 0] 24))).here
          have HG := Lib.hid (Whole.new (x6) 24 #[.int .i64 0, .int .i64 0, .slice none 0 0])
          have hgb := Nat.le_trans hB3 HC.out.size
          replace HC := Lib.hid (HC.out.alloc (Nat.le_trans hB3 HC.out.size) (.cells #[.int .i64 0, .int .i64 0, .slice none 0 0] 24))
          generalize (x6).alloc (.cells #[.int .i64 0, .int .i64 0, .slice none 0 0] 24) = x7 at *
          refine b_one (i := 8) (by kernel_rfl) ?_
          refine one_call (i := 8) (f := 25) (args := ?_) rfl (by rfl) ?_ ?_
          rotate_left
          · go_simp
            first | done | rfl
          with_reducible refine (HA2.out x7 (HB5.out.trans (HC.out.mono hw5B)) _ HL.out).mono ?_
          rintro e x8 ⟨v8, he, hs, hb⟩
          refine ⟨_, he, hb.mono (Nat.le_trans hB3 HC.out.size), ?_⟩
          replace HC := Lib.hid (HC.out.trans (hb.mono (Nat.le_trans hB3 HC.out.size)))
          have HR := Lib.hid (SlS.wide hs (fun b h _ => Nat.ne_of_gt (Nat.lt_of_lt_of_le HG.out.lt h)) : SlS _ (· ≠ x6.heap.size) _ _)
          replace HL := Lib.hid (HL.out.below hb).here
          replace HG := Lib.hid (HG.out.below hb HG.out.lt)
          clear hs hb he
          simp only [Act.put, List.setIfInBounds_toArray, List.set_cons_zero, List.set_cons_succ, List.getElem_toArray, List.getElem_cons_zero, List.getElem_cons_succ]
          refine b_take (i := 9) (v := ?_) rfl (by kernel_rfl) (by kernel_rfl) (by kernel_rfl) (fun _ _ _ h => h) (by rfl) ?_ ?_
          rotate_left
          · intro W hW
            go_simp
            first | done | rfl
          simp only [Act.put, List.setIfInBounds_toArray, List.set_cons_zero, List.set_cons_succ, List.getElem_toArray, List.getElem_cons_zero, List.getElem_cons_succ]
          refine b_take (i := 10) (v := ?_) rfl (by kernel_rfl) (by kernel_rfl) (by kernel_rfl) (fun _ _ _ h => h) (by rfl) ?_ ?_
          rotate_left
          · intro W hW
            go_simp
            first | done | rfl
          simp only [Act.put, List.setIfInBounds_toArray, List.set_cons_zero, List.set_cons_succ, List.getElem_toArray, List.getElem_cons_zero, List.getElem_cons_succ]
          refine b_take (i := 11) (v := ?_) rfl (by kernel_rfl) (by kernel_rfl) (by kernel_rfl) (fun _ _ _ h => h) (by rfl) ?_ ?_
          rotate_left
          · intro W hW
            go_simp
            first | done | rfl
          simp only [Act.put, List.setIfInBounds_toArray, List.set_cons_zero, List.set_cons_succ, List.getElem_toArray, List.getElem_cons_zero, List.getElem_cons_succ]
          obtain ⟨A9, c9, rfl, -, -⟩ := HR.out.form
          refine b_one (i := 13) (by kernel_rfl) ?_
          obtain ⟨k3, k4, k5⟩ := HG.out.c3
          obtain ⟨f3, f4, f5⟩ := HG.out.f3
          refine one_skip (i := 13) (w' := ?_) rfl (by rfl) ?_ ?_ ?_
          rotate_left 1
          · go_simp
            first | done | rfl
          · exact below_set3 (Below.refl _ _) hgb _ _ _
          simp only [Act.put, List.getElem_toArray, List.getElem_cons_zero, List.getElem_cons_succ]
          refine b_take (i := 14) (v := ?_) rfl (by kernel_rfl) (by kernel_rfl) (by kernel_rfl) (fun _ _ _ h => h) (by rfl) ?_ ?_
          rotate_left
          · intro W hW
            go_simp
            first | done | rfl
          simp only [Act.put, List.setIfInBounds_toArray, List.set_cons_zero, List.set_cons_succ, List.getElem_toArray, List.getElem_cons_zero, List.getElem_cons_succ]
          refine b_done (by kernel_rfl) ?_
          exact ⟨_, A9, c9, _, _, _, _, _, _, _, _, _, _, _, _, rfl, HG.out.set3 _ _ _, (((HR.out.set (p := ⟨_, 0, none⟩) (by simp) _).set (p := ⟨_, 1, none⟩) (by simp) _).set (p := ⟨_, 2, none⟩) (by simp) _).here, HB5.out.trans ((below_set3 HC.out hgb _ _ _).mono hw5B), HW5.out.below (below_set3 HC.out hgb _ _ _) hw5lt⟩
      · refine one_run (i := 12) (v := ?_) (w' := ?_) rfl (by rfl) ?_ ?_ ?_
        rotate_left 2
        · go_simp
          first | done | (constructor <;> rfl)
        · exact (Below.refl _ _).alloc (Nat.le_trans hB3 HC.out.size) _
        simp only [Act.put, List.setIfInBounds_toArray, List.set_cons_zero, List.set_cons_succ, List.getElem_toArray, List.getElem_cons_zero, List.getElem_cons_succ]
        have HG := Lib.hid (Whole.new (w5) 24 #[.int .i64 0, .int .i64 0, .slice none 0 0])
        have hgb := Nat.le_trans hB3 HC.out.size
        replace HC := Lib.hid (HC.out.alloc (Nat.le_trans hB3 HC.out.size) (.cells #[.int .i64 0, .int .i64 0, .slice none 0 0] 24))
        generalize (w5).alloc (.cells #[.int .i64 0, .int .i64 0, .slice none 0 0] 24) = x6 at *
        refine b_one (i := 7) (by kernel_rfl) ?_
        refine one_call (i := 7) (f := 16) (args := ?_) rfl (by rfl) ?_ ?_
        rotate_left
        · go_simp
          first | done | rfl
        with_reducible refine (HFR2.out x6 (HB5.out.trans (HC.out.mono hw5B))).mono ?_
        rintro e x7 ⟨A7, c7, he, ho, hb⟩
        refine ⟨_, he, hb.mono (Nat.le_trans hB3 HC.out.size), ?_⟩
        replace HC := Lib.hid (HC.out.trans (hb.mono (Nat.le_trans hB3 HC.out.size)))
        have HL := Lib.hid ho.sl
        replace HG := Lib.hid (HG.out.below hb HG.out.lt)
        clear ho hb he
        simp only [Act.put, List.setIfInBounds_toArray, List.set_cons_zero, List.set_cons_succ, List.getElem_toArray, List.getElem_cons_zero, List.getElem_cons_succ]
        refine b_one (i := 8) (by kernel_rfl) ?_
        refine one_call (i := 8) (f := 25) (args := ?_) rfl (by rfl) ?_ ?_
        rotate_left
        · go_simp
          first | done | rfl
        with_reducible refine (HA2.out x7 (HB5.out.trans (HC.out.mono hw5B)) _ HL.out).mono ?_
        rintro e x8 ⟨v8, he, hs, hb⟩
        refine ⟨_, he, hb.mono (Nat.le_trans hB3 HC.out.size), ?_⟩
        replace HC := Lib.hid (HC.out.trans (hb.mono (Nat.le_trans hB3 HC.out.size)))
        have HR := Lib.hid (SlS.wide hs (fun b h _ => Nat.ne_of_gt (Nat.lt_of_lt_of_le HG.out.lt h)) : SlS _ (· ≠ w5.heap.size) _ _)
        replace HG := Lib.hid (HG.out.below hb HG.out.lt)
        replace HL := Lib.hid (HL.out.below hb).here
        clear hs hb he
        simp only [Act.put, List.setIfInBounds_toArray, List.set_cons_zero, List.set_cons_succ, List.getElem_toArray, List.getElem_cons_zero, List.getElem_cons_succ]
        refine b_take (i := 9) (v := ?_) rfl (by kernel_rfl) (by kernel_rfl) (by kernel_rfl) (fun _ _ _ h => h) (by rfl) ?_ ?_
        rotate_left
        · intro W hW
          go_simp
          first | done | rfl
        simp only [Act.put, List.setIfInBounds_toArray, List.set_cons_zero, List.set_cons_succ, List.getElem_toArray, List.getElem_cons_zero, List.getElem_cons_succ]
        refine b_take (i := 10) (v := ?_) rfl (by kernel_rfl) (by kernel_rfl) (by kernel_rfl) (fun _ _ _ h => h) (by rfl) ?_ ?_
        rotate_left
        · intro W hW
          go_simp
          first | done | rfl
        simp only [Act.put, List.setIfInBounds_toArray, List.set_cons_zero, List.set_cons_succ, List.getElem_toArray, List.getElem_cons_zero, List.getElem_cons_succ]
        refine b_take (i := 11) (v := ?_) rfl (by kernel_rfl) (by kernel_rfl) (by kernel_rfl) (fun _ _ _ h => h) (by rfl) ?_ ?_
        rotate_left
        · intro W hW
          go_simp
          first | done | rfl
        simp only [Act.put, List.setIfInBounds_toArray, List.set_cons_zero, List.set_cons_succ, List.getElem_toArray, List.getElem_cons_zero, List.getElem_cons_succ]
        obtain ⟨A9, c9, rfl, -, -⟩ := HR.out.form
        refine b_one (i := 13) (by kernel_rfl) ?_
        obtain ⟨k3, k4, k5⟩ := HG.out.c3
        obtain ⟨f3, f4, f5⟩ := HG.out.f3
        refine one_skip (i := 13) (w' := ?_) rfl (by rfl) ?_ ?_ ?_
        rotate_left 1
        · go_simp
          first | done | rfl
        · exact below_set3 (Below.refl _ _) hgb _ _ _
        simp only [Act.put, List.getElem_toArray, List.getElem_cons_zero, List.getElem_cons_succ]
        refine b_take (i := 14) (v := ?_) rfl (by kernel_rfl) (by kernel_rfl) (by kernel_rfl) (fun _ _ _ h => h) (by rfl) ?_ ?_
        rotate_left
        · intro W hW
          go_simp
          first | done | rfl
        simp only [Act.put, List.setIfInBounds_toArray, List.set_cons_zero, List.set_cons_succ, List.getElem_toArray, List.getElem_cons_zero, List.getElem_cons_succ]
        refine b_done (by kernel_rfl) ?_
        exact ⟨_, A9, c9, _, _, _, _, _, _, _, _, _, _, _, _, rfl, HG.out.set3 _ _ _, (((HR.out.set (p := ⟨_, 0, none⟩) (by simp) _).set (p := ⟨_, 1, none⟩) (by simp) _).set (p := ⟨_, 2, none⟩) (by simp) _).here, HB5.out.trans ((below_set3 HC.out hgb _ _ _).mono hw5B), HW5.out.below (below_set3 HC.out hgb _ _ _) hw5lt⟩
    · rintro a w6 ⟨g, A9, c9, u37, u38, u39, u40, u41, u42, u43, u44, u45, u46, u47, u48, rfl, hg, hs9, hb9, hw9⟩
      have HG := Lib.hid hg
      have HB9 := Lib.hid hb9
      have HW9 := Lib.hid hw9
      have HLG := Lib.hid (logs_any b t _ _ l w6 _ (Nat.le_refl _) hs9 (HV4.out _ hb9))
      clear hg hs9 hb9 hw9 HB4 HW4 HA2 HFR2 HV4
      obtain ⟨k0, k1, k2⟩ := HW9.out.c3
      obtain ⟨j0, j1, j2⟩ := HG.out.c3
      go_wp2_with fail
      with_reducible refine HLG.out.mono ?_
      rintro e w7 ⟨rfl, hb7⟩
      have hb8 := HB9.out.trans (hb7.mono HB9.out.size)
      go_wp2_with fail
      go_ret
      exact ⟨rfl, hb8⟩
  · have d1 : decide (l.length ≤ 100) = false := by simpa using c1
    rw [d1]
    generalize l.length = n at *
    go_wp2_with fail
    go_ret
    exact ⟨rfl, HB2.out⟩
end Go.Proofs.Ytckcfmkpchoaeaa
