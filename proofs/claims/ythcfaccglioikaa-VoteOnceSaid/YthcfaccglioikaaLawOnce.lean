/-
  VoteOnce: of all who ask in one term at most one is given the vote.
-/
import Derived.Test.YthcfaccglioikaaAwk
import Derived.Test.YthcfaccglioikaaFew
import Derived.Test.YthcfaccglioikaaMsg
import Derived.Test.YthcfaccglioikaaOrd
namespace Go.Proofs.Ythcfaccglioikaa
open Go.RowKit

set_option maxRecDepth 100000 in
set_option maxHeartbeats 1600000 in
theorem once_law (w : World) (T0 V0 b t : Int) (v : Value) (l : List E) (hv : Sl w w.heap.size v l) (v3 : Value) (ms : List M) (hv3 : Sl w w.heap.size v3 ms) :
    Calls Try.prog 4 #[bv T0 V0, lv b t v, v3] w fun e w' => e = .returned (.bool true) ∧ Below w.heap.size w w' := by
  obtain ⟨A, d, rfl, hc, hm⟩ := hv.form
  obtain ⟨A3, d3, rfl, hc3, hm3⟩ := hv3.form
  have hb0 : Below w.heap.size w ((w.alloc (.cells #[.int .i64 T0, .int .i64 V0] 23)).alloc (.cells #[.int .i64 b, .int .i64 t, .slice A l.length d] 26)) :=
    ((Below.refl _ _).alloc (Nat.le_refl _) _).alloc (by simp) _
  have HB := Lib.hid hb0
  have HW1 := Lib.hid ((Whole.new w 23 #[.int .i64 T0, .int .i64 V0]).alloc (.cells #[.int .i64 b, .int .i64 t, .slice A l.length d] 26))
  have HW2 := Lib.hid (Whole.new1 w (.cells #[.int .i64 T0, .int .i64 V0] 23) 26 #[.int .i64 b, .int .i64 t, .slice A l.length d])
  have HK := Lib.hid (fun W => awake_any W)
  have HF := Lib.hid (fun W => few_any b t A l.length d W)
  have HM := Lib.hid (fun W => bmay_any T0 V0 W)
  have HGA := Lib.hid (fun W (h : Below w.heap.size w W) T V k f o m i u c y A2 n2 c2 => grant_any T V b t _ l k f o m i u c y A2 n2 c2 W w.heap.size h.size (hv.below h))
  have HV3 := Lib.hid hv3
  clear hv hv3 hb0
  generalize Lg.last (b, t, l) = p at *
  generalize hmy : Vt.may (T0, V0) = my at *
  generalize l.length = n at *
  generalize hn3 : ms.length = n3 at *
  have HN3 := Lib.hid hn3
  have HMY := Lib.hid hmy
  clear hn3 hmy
  go_enter Try.func4, Try.ntmps4
  go_wp2_with fail
  with_reducible refine (HK.out _).mono ?_
  rintro e w1 ⟨rfl, hb⟩
  replace HB := Lib.hid (HB.out.trans (hb.mono HB.out.size))
  replace HW1 := Lib.hid (HW1.out.below hb HW1.out.lt)
  replace HW2 := Lib.hid (HW2.out.below hb HW2.out.lt)
  clear hb HK
  obtain ⟨k0, k1, k2⟩ := HW2.out.c3
  go_wp2_with fail
  with_reducible refine (HF.out _).mono ?_
  rintro e w2 ⟨rfl, hb⟩
  replace HB := Lib.hid (HB.out.trans (hb.mono HB.out.size))
  replace HW1 := Lib.hid (HW1.out.below hb HW1.out.lt)
  replace HW2 := Lib.hid (HW2.out.below hb HW2.out.lt)
  clear hb HF k0 k1 k2
  by_cases c1 : n ≤ 100
  rotate_left
  · have d1 : decide (n ≤ 100) = false := by simpa using c1
    rw [d1]
    go_wp2_with fail
    go_ret
    exact ⟨rfl, HB.out⟩
  have d1 : decide (n ≤ 100) = true := by simpa using c1
  rw [d1]
  clear d1
  by_cases c2 : 100 < n3
  · go_wp2_with fail
    go_ret
    exact ⟨rfl, HB.out⟩
  obtain ⟨p0, p1⟩ := HW1.out.c2
  go_wp2_with fail
  with_reducible refine (HM.out _).mono ?_
  rintro e w3 ⟨rfl, hb⟩
  replace HB := Lib.hid (HB.out.trans (hb.mono HB.out.size))
  replace HW1 := Lib.hid (HW1.out.below hb HW1.out.lt)
  replace HW2 := Lib.hid (HW2.out.below hb HW2.out.lt)
  clear hb HM p0 p1
  rcases my with _ | _
  · go_wp2_with fail
    go_ret
    exact ⟨rfl, HB.out⟩
  go_wp2_with fail
  go_loopw [9] (fun i wr => ∃ (k : Nat) (T V : Int), k ≤ n3 ∧ i = .int .i64 (k : Int) ∧ Vt.may (T, V) = true ∧ Whole wr w.heap.size 23 #[.int .i64 T, .int .i64 V] ∧ Whole wr (w.heap.size + 1) 26 #[.int .i64 b, .int .i64 t, .slice A n d] ∧ Below w.heap.size w wr) (fun i _ => n3 - (intOf i).toNat)
  case atStart => exact ⟨0, T0, V0, Nat.zero_le _, rfl, HMY.out, HW1.out, HW2.out, HB.out⟩
  case round =>
    clear HMY HW1 HW2 HB
    obtain ⟨k, T, V, hk, rfl, hmay, hw1, hw2, hbr⟩ := hrel
    have HW1 := Lib.hid hw1
    have HW2 := Lib.hid hw2
    have HB := Lib.hid hbr
    have HMY := Lib.hid hmay
    clear hw1 hw2 hbr hmay
    by_cases hlt : k < n3
    · have hkl : k < ms.length := by rw [HN3.out]; exact hlt
      obtain ⟨b3, o3, A2, n2, c2', rfl, hb3, hcells⟩ := HV3.out.msg k hkl
      have HC3 := Lib.hid (fun W (h : Below w.heap.size w W) => (hcells.below hb3 h).at9)
      clear hcells
      generalize ms[k] = q at *
      obtain ⟨km, f, o, m, i, u, c, y, es⟩ := q
      dsimp only at *
      have hon := Vt.grant_once p f m i u HMY.out
      have HG := Lib.hid (fun W (h : Below w.heap.size w W) => HGA.out W h T V km f o m i u c y A2 n2 c2')
      generalize Vt.grant (T, V) p f m i u = r at *
      obtain ⟨⟨x1, x2⟩, x3⟩ := r
      obtain ⟨on1, on2, on3, on4⟩ := hon
      have HON := Lib.hid (And.intro on1 (And.intro on2 (And.intro on3 on4)))
      have hm2 := fun W => bmay_any x1 x2 W
      rw [on4] at hm2
      have HM2 := Lib.hid hm2
      clear HMY on1 on2 on3 on4 hm2 HV3 HGA HN3 hkl
      have i1 : (0 : Int) ≤ (k : Int) := by omega
      have i2 : (k : Int) < (n3 : Int) := by omega
      go_wp2_with fail
      refine wp_cut (J := fun a' w' => ∃ (g : Nat) (v38 v39 v40 v41 v42 v43 v44 v45 v46 v47 : Value), a' = { tmps := #[bv T0 V0, lv b t (Value.slice A n d), Value.slice (some { block := b3, off := o3 }) n3 d3, Value.pointer (some { block := w.heap.size, off := 0 }), Value.pointer (some { block := w.heap.size + 1, off := 0 }), undef, u6, Value.bool true, Value.bool true, Value.int IntKind.i64 (k : Int), .pointer (some ⟨g, 0, none⟩), .bool x3, Value.bool true, Value.agg #[Value.int IntKind.i64 b, Value.int IntKind.i64 t, Value.slice A n d], Value.bool true, Value.bool true, Value.bool false, Value.bool false, Value.bool true, Value.bool false, Value.bool false, Value.bool false, Value.slice (some { block := b3, off := o3 }) n3 d3, Value.int IntKind.i64 (n3 : Int), Value.bool (decide (100 < (n3 : Int))), Value.bool (decide (100 < (n3 : Int))), Value.bool (decide (100 < (n3 : Int))), Value.agg #[Value.int IntKind.i64 T0, Value.int IntKind.i64 V0], Value.bool true, Value.bool false, Value.bool (decide (100 < (n3 : Int))), undef, Value.int IntKind.i64 (k : Int), Value.slice (some { block := b3, off := o3 }) n3 d3, Value.int IntKind.i64 (n3 : Int), Value.bool true, u36, u37, v38, v39, v40, v41, v42, v43, v44, v45, v46, v47, u48, u49, u50, u51, u52, u53, u54, u55, u56, u57, u58, u59, u60, u61, u62, u63, u64, u65, u66, u67, u68, u69, u70, u71, u72, u73, u74, u75, u76, u77, u78, u79, u80, u81, u82, u83, u84, u85, u86, u87, u88, u89, u90, u91, u92, u93, u94, u95, u96, u97, u98], defers := [] } ∧ Whole w' g 23 #[.int .i64 x1, .int .i64 x2] ∧ Whole w' w.heap.size 23 #[.int .i64 T, .int .i64 V] ∧ Whole w' (w.heap.size + 1) 26 #[.int .i64 b, .int .i64 t, .slice A n d] ∧ Below w.heap.size w w' ∧ w.heap.size + 1 < g) ?_ ?_
      · have hlt1 := HW1.out.lt
        have hlt2 := HW2.out.lt
        have hB0 := HB.out.size
        refine b_start (wr).heap.size (by kernel_rfl) ?_
        have hBz : (wr).heap.size ≤ (wr).drew.heap.size := Nat.le_refl _
        replace HW1 := Lib.hid (show Whole (wr).drew _ _ _ from HW1.out)
        replace HW2 := Lib.hid (show Whole (wr).drew _ _ _ from HW2.out)
        replace HB := Lib.hid (HB.out.drew)
        have HC := Lib.hid (Below.refl (wr).heap.size (wr).drew)
        generalize wr.drew = w4 at *
        refine b_take (i := 0) (v := ?_) rfl (by kernel_rfl) (by kernel_rfl) (by kernel_rfl) (fun _ _ _ h => h) (by rfl) ?_ ?_
        rotate_left
        · intro W hW
          obtain ⟨p0, p1⟩ := (HW1.out.below (HC.out.trans hW) hlt1).c2
          obtain ⟨k0, k1, k2⟩ := (HW2.out.below (HC.out.trans hW) hlt2).c3
          go_simp
          first | done | rfl
        simp only [Act.put, List.setIfInBounds_toArray, List.set_cons_zero, List.set_cons_succ, List.getElem_toArray, List.getElem_cons_zero, List.getElem_cons_succ]
        refine b_take (i := 1) (v := ?_) rfl (by kernel_rfl) (by kernel_rfl) (by kernel_rfl) (fun _ _ _ h => h) (by rfl) ?_ ?_
        rotate_left
        · intro W hW
          obtain ⟨p0, p1⟩ := (HW1.out.below (HC.out.trans hW) hlt1).c2
          obtain ⟨k0, k1, k2⟩ := (HW2.out.below (HC.out.trans hW) hlt2).c3
          go_simp
          first | done | rfl
        simp only [Act.put, List.setIfInBounds_toArray, List.set_cons_zero, List.set_cons_succ, List.getElem_toArray, List.getElem_cons_zero, List.getElem_cons_succ]
        refine b_take (i := 2) (v := ?_) rfl (by kernel_rfl) (by kernel_rfl) (by kernel_rfl) (fun _ _ _ h => h) (by rfl) ?_ ?_
        rotate_left
        · intro W hW
          go_simp
          first | done | rfl
        simp only [Act.put, List.setIfInBounds_toArray, List.set_cons_zero, List.set_cons_succ, List.getElem_toArray, List.getElem_cons_zero, List.getElem_cons_succ]
        refine b_take (i := 3) (v := ?_) rfl (by kernel_rfl) (by kernel_rfl) (by kernel_rfl) (fun _ _ _ h => h) (by rfl) ?_ ?_
        rotate_left
        · intro W hW
          go_simp
          first | done | rfl
        simp only [Act.put, List.setIfInBounds_toArray, List.set_cons_zero, List.set_cons_succ, List.getElem_toArray, List.getElem_cons_zero, List.getElem_cons_succ]
        refine b_take (i := 4) (v := ?_) rfl (by kernel_rfl) (by kernel_rfl) (by kernel_rfl) (fun _ _ _ h => h) (by rfl) ?_ ?_
        rotate_left
        · intro W hW
          go_simp
          first | done | rfl
        simp only [Act.put, List.setIfInBounds_toArray, List.set_cons_zero, List.set_cons_succ, List.getElem_toArray, List.getElem_cons_zero, List.getElem_cons_succ]
        refine b_take (i := 5) (v := ?_) rfl (by kernel_rfl) (by kernel_rfl) (by kernel_rfl) (fun _ _ _ h => h) (by rfl) ?_ ?_
        rotate_left
        · intro W hW
          obtain ⟨m0, m1, m2, m3, m4, m5, m6, m7, m8⟩ := HC3.out _ (HB.out.trans ((HC.out.trans hW).mono hB0))
          go_simp
          first | done | rfl
        simp only [Act.put, List.setIfInBounds_toArray, List.set_cons_zero, List.set_cons_succ, List.getElem_toArray, List.getElem_cons_zero, List.getElem_cons_succ]
        refine b_two (i := 6) (j := 10) (by kernel_rfl) ?_ ?_
        · refine one_call (i := 6) (f := 11) (args := ?_) rfl (by rfl) ?_ ?_
          rotate_left
          · go_simp
            first | done | rfl
          with_reducible refine (HG.out _ (HB.out.trans (HC.out.mono hB0))).mono ?_
          rintro e wa1 ⟨rfl, hb⟩
          refine ⟨_, rfl, hb.mono hBz, ?_⟩
          replace HC := Lib.hid (HC.out.trans (hb.mono hBz))
          replace hBz := Nat.le_trans hBz hb.size
          clear hb
          simp only [Act.put, List.setIfInBounds_toArray, List.set_cons_zero, List.set_cons_succ, List.getElem_toArray, List.getElem_cons_zero, List.getElem_cons_succ]
          refine b_take (i := 7) (v := ?_) rfl (by kernel_rfl) (by kernel_rfl) (by kernel_rfl) (fun _ _ _ h => h) (by rfl) ?_ ?_
          rotate_left
          · intro W hW
            go_simp
            first | done | rfl
          simp only [Act.put, List.setIfInBounds_toArray, List.set_cons_zero, List.set_cons_succ, List.getElem_toArray, List.getElem_cons_zero, List.getElem_cons_succ]
          refine b_take (i := 8) (v := ?_) rfl (by kernel_rfl) (by kernel_rfl) (by kernel_rfl) (fun _ _ _ h => h) (by rfl) ?_ ?_
          rotate_left
          · intro W hW
            go_simp
            first | done | rfl
          simp only [Act.put, List.setIfInBounds_toArray, List.set_cons_zero, List.set_cons_succ, List.getElem_toArray, List.getElem_cons_zero, List.getElem_cons_succ]
          refine b_take (i := 9) (v := ?_) rfl (by kernel_rfl) (by kernel_rfl) (by kernel_rfl) (fun _ _ _ h => h) (by rfl) ?_ ?_
          rotate_left
          · intro W hW
            go_simp
            first | done | rfl
          simp only [Act.put, List.setIfInBounds_toArray, List.set_cons_zero, List.set_cons_succ, List.getElem_toArray, List.getElem_cons_zero, List.getElem_cons_succ]
          refine b_one (i := 10) (by kernel_rfl) ?_
          refine one_run (i := 10) (v := ?_) (w' := ?_) rfl (by rfl) ?_ ?_ ?_
          rotate_left 2
          · go_simp
            first | done | (constructor <;> rfl)
          · exact (Below.refl _ _).alloc hBz _
          simp only [Act.put, List.setIfInBounds_toArray, List.set_cons_zero, List.set_cons_succ, List.getElem_toArray, List.getElem_cons_zero, List.getElem_cons_succ]
          have HX := Lib.hid (Whole.new (wa1) 23 #[.int .i64 0, .int .i64 0])
          have hgHX := hBz
          replace HC := Lib.hid (HC.out.alloc hBz (.cells #[.int .i64 0, .int .i64 0] 23))
          replace hBz := Nat.le_trans hBz ((Below.refl _ _).alloc (Nat.le_refl _) (.cells #[.int .i64 0, .int .i64 0] 23) : Below (wa1).heap.size (wa1) _).size
          generalize (wa1).alloc (.cells #[.int .i64 0, .int .i64 0] 23) = wa2 at *
          refine b_one (i := 11) (by kernel_rfl) ?_
          obtain ⟨kc0, kc1⟩ := HX.out.c2
          obtain ⟨fc0, fc1⟩ := HX.out.f2
          refine one_skip (i := 11) (w' := ?_) rfl (by rfl) ?_ ?_ ?_
          rotate_left 1
          · go_simp
            first | done | rfl
          · exact below_set2 (Below.refl _ _) hgHX _ _
          simp only [Act.put, List.setIfInBounds_toArray, List.set_cons_zero, List.set_cons_succ, List.getElem_toArray, List.getElem_cons_zero, List.getElem_cons_succ]
          clear kc0 fc0 kc1 fc1
          replace HX := Lib.hid (HX.out.set2 (.int .i64 x1) (.int .i64 x2))
          replace HC := Lib.hid (below_set2 HC.out hgHX (.int .i64 x1) (.int .i64 x2))
          replace hBz := Nat.le_trans hBz (below_set2 (Below.refl _ _) hgHX (.int .i64 x1) (.int .i64 x2)).size
          generalize ((wa2).setCell ⟨(wa1).heap.size, 0, none⟩ (.int .i64 x1)).setCell ⟨(wa1).heap.size, 1, none⟩ (.int .i64 x2) = wa3 at *
          refine b_take (i := 12) (v := ?_) rfl (by kernel_rfl) (by kernel_rfl) (by kernel_rfl) (fun _ _ _ h => h) (by rfl) ?_ ?_
          rotate_left
          · intro W hW
            go_simp
            first | done | rfl
          simp only [Act.put, List.setIfInBounds_toArray, List.set_cons_zero, List.set_cons_succ, List.getElem_toArray, List.getElem_cons_zero, List.getElem_cons_succ]
          refine b_done (by kernel_rfl) ?_
          exact ⟨(wa1).heap.size, _, _, _, _, _, _, _, _, _, _, rfl, HX.out, HW1.out.below HC.out hlt1, HW2.out.below HC.out hlt2, (HB.out.trans (HC.out.mono hB0)), Nat.lt_of_lt_of_le hlt2 hgHX⟩
        · refine one_run (i := 10) (v := ?_) (w' := ?_) rfl (by rfl) ?_ ?_ ?_
          rotate_left 2
          · go_simp
            first | done | (constructor <;> rfl)
          · exact (Below.refl _ _).alloc hBz _
          simp only [Act.put, List.setIfInBounds_toArray, List.set_cons_zero, List.set_cons_succ, List.getElem_toArray, List.getElem_cons_zero, List.getElem_cons_succ]
          have HX := Lib.hid (Whole.new (w4) 23 #[.int .i64 0, .int .i64 0])
          have hgHX := hBz
          replace HC := Lib.hid (HC.out.alloc hBz (.cells #[.int .i64 0, .int .i64 0] 23))
          replace hBz := Nat.le_trans hBz ((Below.refl _ _).alloc (Nat.le_refl _) (.cells #[.int .i64 0, .int .i64 0] 23) : Below (w4).heap.size (w4) _).size
          generalize (w4).alloc (.cells #[.int .i64 0, .int .i64 0] 23) = wa4 at *
          refine b_one (i := 6) (by kernel_rfl) ?_
          refine one_call (i := 6) (f := 11) (args := ?_) rfl (by rfl) ?_ ?_
          rotate_left
          · go_simp
            first | done | rfl
          with_reducible refine (HG.out _ (HB.out.trans (HC.out.mono hB0))).mono ?_
          rintro e wa5 ⟨rfl, hb⟩
          refine ⟨_, rfl, hb.mono hBz, ?_⟩
          replace HC := Lib.hid (HC.out.trans (hb.mono hBz))
          replace hBz := Nat.le_trans hBz hb.size
          replace HX := Lib.hid (HX.out.below hb HX.out.lt)
          clear hb
          simp only [Act.put, List.setIfInBounds_toArray, List.set_cons_zero, List.set_cons_succ, List.getElem_toArray, List.getElem_cons_zero, List.getElem_cons_succ]
          refine b_take (i := 7) (v := ?_) rfl (by kernel_rfl) (by kernel_rfl) (by kernel_rfl) (fun _ _ _ h => h) (by rfl) ?_ ?_
          rotate_left
          · intro W hW
            go_simp
            first | done | rfl
          simp only [Act.put, List.setIfInBounds_toArray, List.set_cons_zero, List.set_cons_succ, List.getElem_toArray, List.getElem_cons_zero, List.getElem_cons_succ]
          refine b_take (i := 8) (v := ?_) rfl (by kernel_rfl) (by kernel_rfl) (by kernel_rfl) (fun _ _ _ h => h) (by rfl) ?_ ?_
          rotate_left
          · intro W hW
            go_simp
            first | done | rfl
          simp only [Act.put, List.setIfInBounds_toArray, List.set_cons_zero, List.set_cons_succ, List.getElem_toArray, List.getElem_cons_zero, List.getElem_cons_succ]
          refine b_take (i := 9) (v := ?_) rfl (by kernel_rfl) (by kernel_rfl) (by kernel_rfl) (fun _ _ _ h => h) (by rfl) ?_ ?_
          rotate_left
          · intro W hW
            go_simp
            first | done | rfl
          simp only [Act.put, List.setIfInBounds_toArray, List.set_cons_zero, List.set_cons_succ, List.getElem_toArray, List.getElem_cons_zero, List.getElem_cons_succ]
          refine b_one (i := 11) (by kernel_rfl) ?_
          obtain ⟨kc0, kc1⟩ := HX.out.c2
          obtain ⟨fc0, fc1⟩ := HX.out.f2
          refine one_skip (i := 11) (w' := ?_) rfl (by rfl) ?_ ?_ ?_
          rotate_left 1
          · go_simp
            first | done | rfl
          · exact below_set2 (Below.refl _ _) hgHX _ _
          simp only [Act.put, List.setIfInBounds_toArray, List.set_cons_zero, List.set_cons_succ, List.getElem_toArray, List.getElem_cons_zero, List.getElem_cons_succ]
          clear kc0 fc0 kc1 fc1
          replace HX := Lib.hid (HX.out.set2 (.int .i64 x1) (.int .i64 x2))
          replace HC := Lib.hid (below_set2 HC.out hgHX (.int .i64 x1) (.int .i64 x2))
          replace hBz := Nat.le_trans hBz (below_set2 (Below.refl _ _) hgHX (.int .i64 x1) (.int .i64 x2)).size
          generalize ((wa5).setCell ⟨(w4).heap.size, 0, none⟩ (.int .i64 x1)).setCell ⟨(w4).heap.size, 1, none⟩ (.int .i64 x2) = wa6 at *
          refine b_take (i := 12) (v := ?_) rfl (by kernel_rfl) (by kernel_rfl) (by kernel_rfl) (fun _ _ _ h => h) (by rfl) ?_ ?_
          rotate_left
          · intro W hW
            go_simp
            first | done | rfl
          simp only [Act.put, List.setIfInBounds_toArray, List.set_cons_zero, List.set_cons_succ, List.getElem_toArray, List.getElem_cons_zero, List.getElem_cons_succ]
          refine b_done (by kernel_rfl) ?_
          exact ⟨(w4).heap.size, _, _, _, _, _, _, _, _, _, _, rfl, HX.out, HW1.out.below HC.out hlt1, HW2.out.below HC.out hlt2, (HB.out.trans (HC.out.mono hB0)), Nat.lt_of_lt_of_le hlt2 hgHX⟩
      · rintro a w5 ⟨g, v38, v39, v40, v41, v42, v43, v44, v45, v46, v47, rfl, hx, h1, h2, hb5, hg⟩
        have HX := Lib.hid hx
        replace HW1 := Lib.hid h1
        replace HW2 := Lib.hid h2
        replace HB := Lib.hid hb5
        clear hx h1 h2 hb5 HG
        obtain ⟨s0, s1⟩ := HX.out.c2
        obtain ⟨p0, p1⟩ := HW1.out.c2
        have d1 : decide (x1 < T) = false := by have := HON.out.1; simp; omega
        rcases x3 with _ | _
        · by_cases a1 : x1 = T
          · have a2 : (x1 == T) = true := by simpa using a1
            by_cases a3 : V = 0
            · have a4 : (V != 0) = false := by simpa using a3
              clear a1 a3
              go_wp2_with fail
              clear s0 s1 p0 p1
              have hltX := HX.out.lt
              have hlt1 := HW1.out.lt
              have hlt2 := HW2.out.lt
              have hB0 := HB.out.size
              refine b_start (w5).heap.size (by kernel_rfl) ?_
              have hBz : (w5).heap.size ≤ (w5).drew.heap.size := Nat.le_refl _
              replace HX := Lib.hid (show Whole (w5).drew _ _ _ from HX.out)
              replace HW1 := Lib.hid (show Whole (w5).drew _ _ _ from HW1.out)
              replace HW2 := Lib.hid (show Whole (w5).drew _ _ _ from HW2.out)
              replace HB := Lib.hid (HB.out.drew)
              have HC := Lib.hid (Below.refl (w5).heap.size (w5).drew)
              generalize w5.drew = w7 at *
              refine b_take (i := 0) (v := ?_) rfl (by kernel_rfl) (by kernel_rfl) (by kernel_rfl) (fun _ _ _ h => h) (by rfl) ?_ ?_
              rotate_left
              · intro W hW
                go_simp
                first | done | rfl
              simp only [Act.put, List.setIfInBounds_toArray, List.set_cons_zero, List.set_cons_succ, List.getElem_toArray, List.getElem_cons_zero, List.getElem_cons_succ]
              refine b_take (i := 1) (v := ?_) rfl (by kernel_rfl) (by kernel_rfl) (by kernel_rfl) (fun _ _ _ h => h) (by rfl) ?_ ?_
              rotate_left
              · intro W hW
                go_simp
                first | done | rfl
              simp only [Act.put, List.setIfInBounds_toArray, List.set_cons_zero, List.set_cons_succ, List.getElem_toArray, List.getElem_cons_zero, List.getElem_cons_succ]
              refine b_skip (i := 2) rfl (by kernel_rfl) (by kernel_rfl) (by kernel_rfl) (fun _ _ _ h => h) (by rfl) ?_
              simp only [Act.put, List.setIfInBounds_toArray, List.set_cons_zero, List.set_cons_succ, List.getElem_toArray, List.getElem_cons_zero, List.getElem_cons_succ]
              refine b_skip (i := 3) rfl (by kernel_rfl) (by kernel_rfl) (by kernel_rfl) (fun _ _ _ h => h) (by rfl) ?_
              simp only [Act.put, List.setIfInBounds_toArray, List.set_cons_zero, List.set_cons_succ, List.getElem_toArray, List.getElem_cons_zero, List.getElem_cons_succ]
              refine b_skip (i := 4) rfl (by kernel_rfl) (by kernel_rfl) (by kernel_rfl) (fun _ _ _ h => h) (by rfl) ?_
              simp only [Act.put, List.setIfInBounds_toArray, List.set_cons_zero, List.set_cons_succ, List.getElem_toArray, List.getElem_cons_zero, List.getElem_cons_succ]
              refine b_skip (i := 5) rfl (by kernel_rfl) (by kernel_rfl) (by kernel_rfl) (fun _ _ _ h => h) (by rfl) ?_
              simp only [Act.put, List.setIfInBounds_toArray, List.set_cons_zero, List.set_cons_succ, List.getElem_toArray, List.getElem_cons_zero, List.getElem_cons_succ]
              refine b_skip (i := 6) rfl (by kernel_rfl) (by kernel_rfl) (by kernel_rfl) (fun _ _ _ h => h) (by rfl) ?_
              simp only [Act.put, List.setIfInBounds_toArray, List.set_cons_zero, List.set_cons_succ, List.getElem_toArray, List.getElem_cons_zero, List.getElem_cons_succ]
              refine b_skip (i := 7) rfl (by kernel_rfl) (by kernel_rfl) (by kernel_rfl) (fun _ _ _ h => h) (by rfl) ?_
              simp only [Act.put, List.setIfInBounds_toArray, List.set_cons_zero, List.set_cons_succ, List.getElem_toArray, List.getElem_cons_zero, List.getElem_cons_succ]
              refine b_skip (i := 8) rfl (by kernel_rfl) (by kernel_rfl) (by kernel_rfl) (fun _ _ _ h => h) (by rfl) ?_
              simp only [Act.put, List.setIfInBounds_toArray, List.set_cons_zero, List.set_cons_succ, List.getElem_toArray, List.getElem_cons_zero, List.getElem_cons_succ]
              refine b_skip (i := 9) rfl (by kernel_rfl) (by kernel_rfl) (by kernel_rfl) (fun _ _ _ h => h) (by rfl) ?_
              simp only [Act.put, List.setIfInBounds_toArray, List.set_cons_zero, List.set_cons_succ, List.getElem_toArray, List.getElem_cons_zero, List.getElem_cons_succ]
              refine b_skip (i := 10) rfl (by kernel_rfl) (by kernel_rfl) (by kernel_rfl) (fun _ _ _ h => h) (by rfl) ?_
              simp only [Act.put, List.setIfInBounds_toArray, List.set_cons_zero, List.set_cons_succ, List.getElem_toArray, List.getElem_cons_zero, List.getElem_cons_succ]
              refine b_skip (i := 11) rfl (by kernel_rfl) (by kernel_rfl) (by kernel_rfl) (fun _ _ _ h => h) (by rfl) ?_
              simp only [Act.put, List.setIfInBounds_toArray, List.set_cons_zero, List.set_cons_succ, List.getElem_toArray, List.getElem_cons_zero, List.getElem_cons_succ]
              refine b_skip (i := 12) rfl (by kernel_rfl) (by kernel_rfl) (by kernel_rfl) (fun _ _ _ h => h) (by rfl) ?_
              simp only [Act.put, List.setIfInBounds_toArray, List.set_cons_zero, List.set_cons_succ, List.getElem_toArray, List.getElem_cons_zero, List.getElem_cons_succ]
              refine b_skip (i := 13) rfl (by kernel_rfl) (by kernel_rfl) (by kernel_rfl) (fun _ _ _ h => h) (by rfl) ?_
              simp only [Act.put, List.setIfInBounds_toArray, List.set_cons_zero, List.set_cons_succ, List.getElem_toArray, List.getElem_cons_zero, List.getElem_cons_succ]
              refine b_skip (i := 14) rfl (by kernel_rfl) (by kernel_rfl) (by kernel_rfl) (fun _ _ _ h => h) (by rfl) ?_
              simp only [Act.put, List.setIfInBounds_toArray, List.set_cons_zero, List.set_cons_succ, List.getElem_toArray, List.getElem_cons_zero, List.getElem_cons_succ]
              refine b_skip (i := 15) rfl (by kernel_rfl) (by kernel_rfl) (by kernel_rfl) (fun _ _ _ h => h) (by rfl) ?_
              simp only [Act.put, List.setIfInBounds_toArray, List.set_cons_zero, List.set_cons_succ, List.getElem_toArray, List.getElem_cons_zero, List.getElem_cons_succ]
              refine b_skip (i := 16) rfl (by kernel_rfl) (by kernel_rfl) (by kernel_rfl) (fun _ _ _ h => h) (by rfl) ?_
              simp only [Act.put, List.setIfInBounds_toArray, List.set_cons_zero, List.set_cons_succ, List.getElem_toArray, List.getElem_cons_zero, List.getElem_cons_succ]
              refine b_skip (i := 17) rfl (by kernel_rfl) (by kernel_rfl) (by kernel_rfl) (fun _ _ _ h => h) (by rfl) ?_
              simp only [Act.put, List.setIfInBounds_toArray, List.set_cons_zero, List.set_cons_succ, List.getElem_toArray, List.getElem_cons_zero, List.getElem_cons_succ]
              refine b_skip (i := 18) rfl (by kernel_rfl) (by kernel_rfl) (by kernel_rfl) (fun _ _ _ h => h) (by rfl) ?_
              simp only [Act.put, List.setIfInBounds_toArray, List.set_cons_zero, List.set_cons_succ, List.getElem_toArray, List.getElem_cons_zero, List.getElem_cons_succ]
              refine b_skip (i := 19) rfl (by kernel_rfl) (by kernel_rfl) (by kernel_rfl) (fun _ _ _ h => h) (by rfl) ?_
              simp only [Act.put, List.setIfInBounds_toArray, List.set_cons_zero, List.set_cons_succ, List.getElem_toArray, List.getElem_cons_zero, List.getElem_cons_succ]
              refine b_take (i := 20) (v := ?_) rfl (by kernel_rfl) (by kernel_rfl) (by kernel_rfl) (fun _ _ _ h => h) (by rfl) ?_ ?_
              rotate_left
              · intro W hW
                go_simp
                first | done | rfl
              simp only [Act.put, List.setIfInBounds_toArray, List.set_cons_zero, List.set_cons_succ, List.getElem_toArray, List.getElem_cons_zero, List.getElem_cons_succ]
              refine b_take (i := 21) (v := ?_) rfl (by kernel_rfl) (by kernel_rfl) (by kernel_rfl) (fun _ _ _ h => h) (by rfl) ?_ ?_
              rotate_left
              · intro W hW
                go_simp
                first | done | rfl
              simp only [Act.put, List.setIfInBounds_toArray, List.set_cons_zero, List.set_cons_succ, List.getElem_toArray, List.getElem_cons_zero, List.getElem_cons_succ]
              refine b_take (i := 22) (v := ?_) rfl (by kernel_rfl) (by kernel_rfl) (by kernel_rfl) (fun _ _ _ h => h) (by rfl) ?_ ?_
              rotate_left
              · intro W hW
                obtain ⟨s0, s1⟩ := (HX.out.below (HC.out.trans hW) hltX).c2
                obtain ⟨p0, p1⟩ := (HW1.out.below (HC.out.trans hW) hlt1).c2
                obtain ⟨k0, k1, k2⟩ := (HW2.out.below (HC.out.trans hW) hlt2).c3
                obtain ⟨m0, m1, m2, m3, m4, m5, m6, m7, m8⟩ := HC3.out _ (HB.out.trans ((HC.out.trans hW).mono hB0))
                go_simp
                first | done | rfl
              simp only [Act.put, List.setIfInBounds_toArray, List.set_cons_zero, List.set_cons_succ, List.getElem_toArray, List.getElem_cons_zero, List.getElem_cons_succ]
              refine b_one (i := 23) (by kernel_rfl) ?_
              refine one_call (i := 23) (f := 15) (args := ?_) rfl (by rfl) ?_ ?_
              rotate_left
              · go_simp
                first | done | rfl
              with_reducible refine (HM2.out _).mono ?_
              rintro e wb1 ⟨rfl, hb⟩
              refine ⟨_, rfl, hb.mono hBz, ?_⟩
              replace HC := Lib.hid (HC.out.trans (hb.mono hBz))
              replace hBz := Nat.le_trans hBz hb.size
              clear hb
              simp only [Act.put, List.setIfInBounds_toArray, List.set_cons_zero, List.set_cons_succ, List.getElem_toArray, List.getElem_cons_zero, List.getElem_cons_succ]
              refine b_take (i := 24) (v := ?_) rfl (by kernel_rfl) (by kernel_rfl) (by kernel_rfl) (fun _ _ _ h => h) (by rfl) ?_ ?_
              rotate_left
              · intro W hW
                go_simp
                first | done | rfl
              simp only [Act.put, List.setIfInBounds_toArray, List.set_cons_zero, List.set_cons_succ, List.getElem_toArray, List.getElem_cons_zero, List.getElem_cons_succ]
              refine b_take (i := 25) (v := ?_) rfl (by kernel_rfl) (by kernel_rfl) (by kernel_rfl) (fun _ _ _ h => h) (by rfl) ?_ ?_
              rotate_left
              · intro W hW
                go_simp
                first | done | rfl
              simp only [Act.put, List.setIfInBounds_toArray, List.set_cons_zero, List.set_cons_succ, List.getElem_toArray, List.getElem_cons_zero, List.getElem_cons_succ]
              refine b_done (by kernel_rfl) ?_
              replace HB := Lib.hid (HB.out.trans (HC.out.mono hB0))
              replace HX := Lib.hid (HX.out.below HC.out hltX)
              replace HW1 := Lib.hid (HW1.out.below HC.out hlt1)
              replace HW2 := Lib.hid (HW2.out.below HC.out hlt2)
              clear HC hBz
              obtain ⟨s0, s1⟩ := HX.out.c2
              obtain ⟨p0, p1⟩ := HW1.out.c2
              obtain ⟨f0, f1⟩ := HW1.out.f2
              have HW1n := Lib.hid (HW1.out.set2 (.int .i64 x1) (.int .i64 x2))
              have HW2n := Lib.hid ((HW2.out.far (p := ⟨w.heap.size, 0, none⟩) (by simp) (.int .i64 x1)).far (p := ⟨w.heap.size, 1, none⟩) (by simp) (.int .i64 x2))
              have HBn := Lib.hid (below_set2 HB.out (Nat.le_refl w.heap.size) (.int .i64 x1) (.int .i64 x2))
              clear HW1 HW2 HB HX HC3
              go_wp2_with fail
              go_roundw
              case rel => exact ⟨k + 1, x1, x2, by omega, by go_num, HON.out.2.2.2, HW1n.out, HW2n.out, HBn.out⟩
              case measure => simp [intOf]; omega
            · have a4 : (V != 0) = true := by simpa using a3
              have a5 : (x2 != V) = false := by simpa using HON.out.2.1 a1 a3
              clear a1 a3
              go_wp2_with fail
              clear s0 s1 p0 p1
              have hltX := HX.out.lt
              have hlt1 := HW1.out.lt
              have hlt2 := HW2.out.lt
              have hB0 := HB.out.size
              refine b_start (w5).heap.size (by kernel_rfl) ?_
              have hBz : (w5).heap.size ≤ (w5).drew.heap.size := Nat.le_refl _
              replace HX := Lib.hid (show Whole (w5).drew _ _ _ from HX.out)
              replace HW1 := Lib.hid (show Whole (w5).drew _ _ _ from HW1.out)
              replace HW2 := Lib.hid (show Whole (w5).drew _ _ _ from HW2.out)
              replace HB := Lib.hid (HB.out.drew)
              have HC := Lib.hid (Below.refl (w5).heap.size (w5).drew)
              generalize w5.drew = w7 at *
              refine b_take (i := 0) (v := ?_) rfl (by kernel_rfl) (by kernel_rfl) (by kernel_rfl) (fun _ _ _ h => h) (by rfl) ?_ ?_
              rotate_left
              · intro W hW
                go_simp
                first | done | rfl
              simp only [Act.put, List.setIfInBounds_toArray, List.set_cons_zero, List.set_cons_succ, List.getElem_toArray, List.getElem_cons_zero, List.getElem_cons_succ]
              refine b_take (i := 1) (v := ?_) rfl (by kernel_rfl) (by kernel_rfl) (by kernel_rfl) (fun _ _ _ h => h) (by rfl) ?_ ?_
              rotate_left
              · intro W hW
                go_simp
                first | done | rfl
              simp only [Act.put, List.setIfInBounds_toArray, List.set_cons_zero, List.set_cons_succ, List.getElem_toArray, List.getElem_cons_zero, List.getElem_cons_succ]
              refine b_skip (i := 2) rfl (by kernel_rfl) (by kernel_rfl) (by kernel_rfl) (fun _ _ _ h => h) (by rfl) ?_
              simp only [Act.put, List.setIfInBounds_toArray, List.set_cons_zero, List.set_cons_succ, List.getElem_toArray, List.getElem_cons_zero, List.getElem_cons_succ]
              refine b_skip (i := 3) rfl (by kernel_rfl) (by kernel_rfl) (by kernel_rfl) (fun _ _ _ h => h) (by rfl) ?_
              simp only [Act.put, List.setIfInBounds_toArray, List.set_cons_zero, List.set_cons_succ, List.getElem_toArray, List.getElem_cons_zero, List.getElem_cons_succ]
              refine b_skip (i := 4) rfl (by kernel_rfl) (by kernel_rfl) (by kernel_rfl) (fun _ _ _ h => h) (by rfl) ?_
              simp only [Act.put, List.setIfInBounds_toArray, List.set_cons_zero, List.set_cons_succ, List.getElem_toArray, List.getElem_cons_zero, List.getElem_cons_succ]
              refine b_skip (i := 5) rfl (by kernel_rfl) (by kernel_rfl) (by kernel_rfl) (fun _ _ _ h => h) (by rfl) ?_
              simp only [Act.put, List.setIfInBounds_toArray, List.set_cons_zero, List.set_cons_succ, List.getElem_toArray, List.getElem_cons_zero, List.getElem_cons_succ]
              refine b_skip (i := 6) rfl (by kernel_rfl) (by kernel_rfl) (by kernel_rfl) (fun _ _ _ h => h) (by rfl) ?_
              simp only [Act.put, List.setIfInBounds_toArray, List.set_cons_zero, List.set_cons_succ, List.getElem_toArray, List.getElem_cons_zero, List.getElem_cons_succ]
              refine b_skip (i := 7) rfl (by kernel_rfl) (by kernel_rfl) (by kernel_rfl) (fun _ _ _ h => h) (by rfl) ?_
              simp only [Act.put, List.setIfInBounds_toArray, List.set_cons_zero, List.set_cons_succ, List.getElem_toArray, List.getElem_cons_zero, List.getElem_cons_succ]
              refine b_skip (i := 8) rfl (by kernel_rfl) (by kernel_rfl) (by kernel_rfl) (fun _ _ _ h => h) (by rfl) ?_
              simp only [Act.put, List.setIfInBounds_toArray, List.set_cons_zero, List.set_cons_succ, List.getElem_toArray, List.getElem_cons_zero, List.getElem_cons_succ]
              refine b_skip (i := 9) rfl (by kernel_rfl) (by kernel_rfl) (by kernel_rfl) (fun _ _ _ h => h) (by rfl) ?_
              simp only [Act.put, List.setIfInBounds_toArray, List.set_cons_zero, List.set_cons_succ, List.getElem_toArray, List.getElem_cons_zero, List.getElem_cons_succ]
              refine b_skip (i := 10) rfl (by kernel_rfl) (by kernel_rfl) (by kernel_rfl) (fun _ _ _ h => h) (by rfl) ?_
              simp only [Act.put, List.setIfInBounds_toArray, List.set_cons_zero, List.set_cons_succ, List.getElem_toArray, List.getElem_cons_zero, List.getElem_cons_succ]
              refine b_skip (i := 11) rfl (by kernel_rfl) (by kernel_rfl) (by kernel_rfl) (fun _ _ _ h => h) (by rfl) ?_
              simp only [Act.put, List.setIfInBounds_toArray, List.set_cons_zero, List.set_cons_succ, List.getElem_toArray, List.getElem_cons_zero, List.getElem_cons_succ]
              refine b_skip (i := 12) rfl (by kernel_rfl) (by kernel_rfl) (by kernel_rfl) (fun _ _ _ h => h) (by rfl) ?_
              simp only [Act.put, List.setIfInBounds_toArray, List.set_cons_zero, List.set_cons_succ, List.getElem_toArray, List.getElem_cons_zero, List.getElem_cons_succ]
              refine b_skip (i := 13) rfl (by kernel_rfl) (by kernel_rfl) (by kernel_rfl) (fun _ _ _ h => h) (by rfl) ?_
              simp only [Act.put, List.setIfInBounds_toArray, List.set_cons_zero, List.set_cons_succ, List.getElem_toArray, List.getElem_cons_zero, List.getElem_cons_succ]
              refine b_skip (i := 14) rfl (by kernel_rfl) (by kernel_rfl) (by kernel_rfl) (fun _ _ _ h => h) (by rfl) ?_
              simp only [Act.put, List.setIfInBounds_toArray, List.set_cons_zero, List.set_cons_succ, List.getElem_toArray, List.getElem_cons_zero, List.getElem_cons_succ]
              refine b_skip (i := 15) rfl (by kernel_rfl) (by kernel_rfl) (by kernel_rfl) (fun _ _ _ h => h) (by rfl) ?_
              simp only [Act.put, List.setIfInBounds_toArray, List.set_cons_zero, List.set_cons_succ, List.getElem_toArray, List.getElem_cons_zero, List.getElem_cons_succ]
              refine b_skip (i := 16) rfl (by kernel_rfl) (by kernel_rfl) (by kernel_rfl) (fun _ _ _ h => h) (by rfl) ?_
              simp only [Act.put, List.setIfInBounds_toArray, List.set_cons_zero, List.set_cons_succ, List.getElem_toArray, List.getElem_cons_zero, List.getElem_cons_succ]
              refine b_skip (i := 17) rfl (by kernel_rfl) (by kernel_rfl) (by kernel_rfl) (fun _ _ _ h => h) (by rfl) ?_
              simp only [Act.put, List.setIfInBounds_toArray, List.set_cons_zero, List.set_cons_succ, List.getElem_toArray, List.getElem_cons_zero, List.getElem_cons_succ]
              refine b_skip (i := 18) rfl (by kernel_rfl) (by kernel_rfl) (by kernel_rfl) (fun _ _ _ h => h) (by rfl) ?_
              simp only [Act.put, List.setIfInBounds_toArray, List.set_cons_zero, List.set_cons_succ, List.getElem_toArray, List.getElem_cons_zero, List.getElem_cons_succ]
              refine b_skip (i := 19) rfl (by kernel_rfl) (by kernel_rfl) (by kernel_rfl) (fun _ _ _ h => h) (by rfl) ?_
              simp only [Act.put, List.setIfInBounds_toArray, List.set_cons_zero, List.set_cons_succ, List.getElem_toArray, List.getElem_cons_zero, List.getElem_cons_succ]
              refine b_take (i := 20) (v := ?_) rfl (by kernel_rfl) (by kernel_rfl) (by kernel_rfl) (fun _ _ _ h => h) (by rfl) ?_ ?_
              rotate_left
              · intro W hW
                go_simp
                first | done | rfl
              simp only [Act.put, List.setIfInBounds_toArray, List.set_cons_zero, List.set_cons_succ, List.getElem_toArray, List.getElem_cons_zero, List.getElem_cons_succ]
              refine b_take (i := 21) (v := ?_) rfl (by kernel_rfl) (by kernel_rfl) (by kernel_rfl) (fun _ _ _ h => h) (by rfl) ?_ ?_
              rotate_left
              · intro W hW
                go_simp
                first | done | rfl
              simp only [Act.put, List.setIfInBounds_toArray, List.set_cons_zero, List.set_cons_succ, List.getElem_toArray, List.getElem_cons_zero, List.getElem_cons_succ]
              refine b_take (i := 22) (v := ?_) rfl (by kernel_rfl) (by kernel_rfl) (by kernel_rfl) (fun _ _ _ h => h) (by rfl) ?_ ?_
              rotate_left
              · intro W hW
                obtain ⟨s0, s1⟩ := (HX.out.below (HC.out.trans hW) hltX).c2
                obtain ⟨p0, p1⟩ := (HW1.out.below (HC.out.trans hW) hlt1).c2
                obtain ⟨k0, k1, k2⟩ := (HW2.out.below (HC.out.trans hW) hlt2).c3
                obtain ⟨m0, m1, m2, m3, m4, m5, m6, m7, m8⟩ := HC3.out _ (HB.out.trans ((HC.out.trans hW).mono hB0))
                go_simp
                first | done | rfl
              simp only [Act.put, List.setIfInBounds_toArray, List.set_cons_zero, List.set_cons_succ, List.getElem_toArray, List.getElem_cons_zero, List.getElem_cons_succ]
              refine b_one (i := 23) (by kernel_rfl) ?_
              refine one_call (i := 23) (f := 15) (args := ?_) rfl (by rfl) ?_ ?_
              rotate_left
              · go_simp
                first | done | rfl
              with_reducible refine (HM2.out _).mono ?_
              rintro e wb1 ⟨rfl, hb⟩
              refine ⟨_, rfl, hb.mono hBz, ?_⟩
              replace HC := Lib.hid (HC.out.trans (hb.mono hBz))
              replace hBz := Nat.le_trans hBz hb.size
              clear hb
              simp only [Act.put, List.setIfInBounds_toArray, List.set_cons_zero, List.set_cons_succ, List.getElem_toArray, List.getElem_cons_zero, List.getElem_cons_succ]
              refine b_take (i := 24) (v := ?_) rfl (by kernel_rfl) (by kernel_rfl) (by kernel_rfl) (fun _ _ _ h => h) (by rfl) ?_ ?_
              rotate_left
              · intro W hW
                go_simp
                first | done | rfl
              simp only [Act.put, List.setIfInBounds_toArray, List.set_cons_zero, List.set_cons_succ, List.getElem_toArray, List.getElem_cons_zero, List.getElem_cons_succ]
              refine b_take (i := 25) (v := ?_) rfl (by kernel_rfl) (by kernel_rfl) (by kernel_rfl) (fun _ _ _ h => h) (by rfl) ?_ ?_
              rotate_left
              · intro W hW
                go_simp
                first | done | rfl
              simp only [Act.put, List.setIfInBounds_toArray, List.set_cons_zero, List.set_cons_succ, List.getElem_toArray, List.getElem_cons_zero, List.getElem_cons_succ]
              refine b_done (by kernel_rfl) ?_
              replace HB := Lib.hid (HB.out.trans (HC.out.mono hB0))
              replace HX := Lib.hid (HX.out.below HC.out hltX)
              replace HW1 := Lib.hid (HW1.out.below HC.out hlt1)
              replace HW2 := Lib.hid (HW2.out.below HC.out hlt2)
              clear HC hBz
              obtain ⟨s0, s1⟩ := HX.out.c2
              obtain ⟨p0, p1⟩ := HW1.out.c2
              obtain ⟨f0, f1⟩ := HW1.out.f2
              have HW1n := Lib.hid (HW1.out.set2 (.int .i64 x1) (.int .i64 x2))
              have HW2n := Lib.hid ((HW2.out.far (p := ⟨w.heap.size, 0, none⟩) (by simp) (.int .i64 x1)).far (p := ⟨w.heap.size, 1, none⟩) (by simp) (.int .i64 x2))
              have HBn := Lib.hid (below_set2 HB.out (Nat.le_refl w.heap.size) (.int .i64 x1) (.int .i64 x2))
              clear HW1 HW2 HB HX HC3
              go_wp2_with fail
              go_roundw
              case rel => exact ⟨k + 1, x1, x2, by omega, by go_num, HON.out.2.2.2, HW1n.out, HW2n.out, HBn.out⟩
              case measure => simp [intOf]; omega
          · have a2 : (x1 == T) = false := by simpa using a1
            clear a1
            go_wp2_with fail
            clear s0 s1 p0 p1
            have hltX := HX.out.lt
            have hlt1 := HW1.out.lt
            have hlt2 := HW2.out.lt
            have hB0 := HB.out.size
            refine b_start (w5).heap.size (by kernel_rfl) ?_
            have hBz : (w5).heap.size ≤ (w5).drew.heap.size := Nat.le_refl _
            replace HX := Lib.hid (show Whole (w5).drew _ _ _ from HX.out)
            replace HW1 := Lib.hid (show Whole (w5).drew _ _ _ from HW1.out)
            replace HW2 := Lib.hid (show Whole (w5).drew _ _ _ from HW2.out)
            replace HB := Lib.hid (HB.out.drew)
            have HC := Lib.hid (Below.refl (w5).heap.size (w5).drew)
            generalize w5.drew = w7 at *
            refine b_take (i := 0) (v := ?_) rfl (by kernel_rfl) (by kernel_rfl) (by kernel_rfl) (fun _ _ _ h => h) (by rfl) ?_ ?_
            rotate_left
            · intro W hW
              go_simp
              first | done | rfl
            simp only [Act.put, List.setIfInBounds_toArray, List.set_cons_zero, List.set_cons_succ, List.getElem_toArray, List.getElem_cons_zero, List.getElem_cons_succ]
            refine b_take (i := 1) (v := ?_) rfl (by kernel_rfl) (by kernel_rfl) (by kernel_rfl) (fun _ _ _ h => h) (by rfl) ?_ ?_
            rotate_left
            · intro W hW
              go_simp
              first | done | rfl
            simp only [Act.put, List.setIfInBounds_toArray, List.set_cons_zero, List.set_cons_succ, List.getElem_toArray, List.getElem_cons_zero, List.getElem_cons_succ]
            refine b_skip (i := 2) rfl (by kernel_rfl) (by kernel_rfl) (by kernel_rfl) (fun _ _ _ h => h) (by rfl) ?_
            simp only [Act.put, List.setIfInBounds_toArray, List.set_cons_zero, List.set_cons_succ, List.getElem_toArray, List.getElem_cons_zero, List.getElem_cons_succ]
            refine b_skip (i := 3) rfl (by kernel_rfl) (by kernel_rfl) (by kernel_rfl) (fun _ _ _ h => h) (by rfl) ?_
            simp only [Act.put, List.setIfInBounds_toArray, List.set_cons_zero, List.set_cons_succ, List.getElem_toArray, List.getElem_cons_zero, List.getElem_cons_succ]
            refine b_skip (i := 4) rfl (by kernel_rfl) (by kernel_rfl) (by kernel_rfl) (fun _ _ _ h => h) (by rfl) ?_
            simp only [Act.put, List.setIfInBounds_toArray, List.set_cons_zero, List.set_cons_succ, List.getElem_toArray, List.getElem_cons_zero, List.getElem_cons_succ]
            refine b_skip (i := 5) rfl (by kernel_rfl) (by kernel_rfl) (by kernel_rfl) (fun _ _ _ h => h) (by rfl) ?_
            simp only [Act.put, List.setIfInBounds_toArray, List.set_cons_zero, List.set_cons_succ, List.getElem_toArray, List.getElem_cons_zero, List.getElem_cons_succ]
            refine b_skip (i := 6) rfl (by kernel_rfl) (by kernel_rfl) (by kernel_rfl) (fun _ _ _ h => h) (by rfl) ?_
            simp only [Act.put, List.setIfInBounds_toArray, List.set_cons_zero, List.set_cons_succ, List.getElem_toArray, List.getElem_cons_zero, List.getElem_cons_succ]
            refine b_skip (i := 7) rfl (by kernel_rfl) (by kernel_rfl) (by kernel_rfl) (fun _ _ _ h => h) (by rfl) ?_
            simp only [Act.put, List.setIfInBounds_toArray, List.set_cons_zero, List.set_cons_succ, List.getElem_toArray, List.getElem_cons_zero, List.getElem_cons_succ]
            refine b_skip (i := 8) rfl (by kernel_rfl) (by kernel_rfl) (by kernel_rfl) (fun _ _ _ h => h) (by rfl) ?_
            simp only [Act.put, List.setIfInBounds_toArray, List.set_cons_zero, List.set_cons_succ, List.getElem_toArray, List.getElem_cons_zero, List.getElem_cons_succ]
            refine b_skip (i := 9) rfl (by kernel_rfl) (by kernel_rfl) (by kernel_rfl) (fun _ _ _ h => h) (by rfl) ?_
            simp only [Act.put, List.setIfInBounds_toArray, List.set_cons_zero, List.set_cons_succ, List.getElem_toArray, List.getElem_cons_zero, List.getElem_cons_succ]
            refine b_skip (i := 10) rfl (by kernel_rfl) (by kernel_rfl) (by kernel_rfl) (fun _ _ _ h => h) (by rfl) ?_
            simp only [Act.put, List.setIfInBounds_toArray, List.set_cons_zero, List.set_cons_succ, List.getElem_toArray, List.getElem_cons_zero, List.getElem_cons_succ]
            refine b_skip (i := 11) rfl (by kernel_rfl) (by kernel_rfl) (by kernel_rfl) (fun _ _ _ h => h) (by rfl) ?_
            simp only [Act.put, List.setIfInBounds_toArray, List.set_cons_zero, List.set_cons_succ, List.getElem_toArray, List.getElem_cons_zero, List.getElem_cons_succ]
            refine b_skip (i := 12) rfl (by kernel_rfl) (by kernel_rfl) (by kernel_rfl) (fun _ _ _ h => h) (by rfl) ?_
            simp only [Act.put, List.setIfInBounds_toArray, List.set_cons_zero, List.set_cons_succ, List.getElem_toArray, List.getElem_cons_zero, List.getElem_cons_succ]
            refine b_skip (i := 13) rfl (by kernel_rfl) (by kernel_rfl) (by kernel_rfl) (fun _ _ _ h => h) (by rfl) ?_
            simp only [Act.put, List.setIfInBounds_toArray, List.set_cons_zero, List.set_cons_succ, List.getElem_toArray, List.getElem_cons_zero, List.getElem_cons_succ]
            refine b_skip (i := 14) rfl (by kernel_rfl) (by kernel_rfl) (by kernel_rfl) (fun _ _ _ h => h) (by rfl) ?_
            simp only [Act.put, List.setIfInBounds_toArray, List.set_cons_zero, List.set_cons_succ, List.getElem_toArray, List.getElem_cons_zero, List.getElem_cons_succ]
            refine b_skip (i := 15) rfl (by kernel_rfl) (by kernel_rfl) (by kernel_rfl) (fun _ _ _ h => h) (by rfl) ?_
            simp only [Act.put, List.setIfInBounds_toArray, List.set_cons_zero, List.set_cons_succ, List.getElem_toArray, List.getElem_cons_zero, List.getElem_cons_succ]
            refine b_skip (i := 16) rfl (by kernel_rfl) (by kernel_rfl) (by kernel_rfl) (fun _ _ _ h => h) (by rfl) ?_
            simp only [Act.put, List.setIfInBounds_toArray, List.set_cons_zero, List.set_cons_succ, List.getElem_toArray, List.getElem_cons_zero, List.getElem_cons_succ]
            refine b_skip (i := 17) rfl (by kernel_rfl) (by kernel_rfl) (by kernel_rfl) (fun _ _ _ h => h) (by rfl) ?_
            simp only [Act.put, List.setIfInBounds_toArray, List.set_cons_zero, List.set_cons_succ, List.getElem_toArray, List.getElem_cons_zero, List.getElem_cons_succ]
            refine b_skip (i := 18) rfl (by kernel_rfl) (by kernel_rfl) (by kernel_rfl) (fun _ _ _ h => h) (by rfl) ?_
            simp only [Act.put, List.setIfInBounds_toArray, List.set_cons_zero, List.set_cons_succ, List.getElem_toArray, List.getElem_cons_zero, List.getElem_cons_succ]
            refine b_skip (i := 19) rfl (by kernel_rfl) (by kernel_rfl) (by kernel_rfl) (fun _ _ _ h => h) (by rfl) ?_
            simp only [Act.put, List.setIfInBounds_toArray, List.set_cons_zero, List.set_cons_succ, List.getElem_toArray, List.getElem_cons_zero, List.getElem_cons_succ]
            refine b_take (i := 20) (v := ?_) rfl (by kernel_rfl) (by kernel_rfl) (by kernel_rfl) (fun _ _ _ h => h) (by rfl) ?_ ?_
            rotate_left
            · intro W hW
              go_simp
              first | done | rfl
            simp only [Act.put, List.setIfInBounds_toArray, List.set_cons_zero, List.set_cons_succ, List.getElem_toArray, List.getElem_cons_zero, List.getElem_cons_succ]
            refine b_take (i := 21) (v := ?_) rfl (by kernel_rfl) (by kernel_rfl) (by kernel_rfl) (fun _ _ _ h => h) (by rfl) ?_ ?_
            rotate_left
            · intro W hW
              go_simp
              first | done | rfl
            simp only [Act.put, List.setIfInBounds_toArray, List.set_cons_zero, List.set_cons_succ, List.getElem_toArray, List.getElem_cons_zero, List.getElem_cons_succ]
            refine b_take (i := 22) (v := ?_) rfl (by kernel_rfl) (by kernel_rfl) (by kernel_rfl) (fun _ _ _ h => h) (by rfl) ?_ ?_
            rotate_left
            · intro W hW
              obtain ⟨s0, s1⟩ := (HX.out.below (HC.out.trans hW) hltX).c2
              obtain ⟨p0, p1⟩ := (HW1.out.below (HC.out.trans hW) hlt1).c2
              obtain ⟨k0, k1, k2⟩ := (HW2.out.below (HC.out.trans hW) hlt2).c3
              obtain ⟨m0, m1, m2, m3, m4, m5, m6, m7, m8⟩ := HC3.out _ (HB.out.trans ((HC.out.trans hW).mono hB0))
              go_simp
              first | done | rfl
            simp only [Act.put, List.setIfInBounds_toArray, List.set_cons_zero, List.set_cons_succ, List.getElem_toArray, List.getElem_cons_zero, List.getElem_cons_succ]
            refine b_one (i := 23) (by kernel_rfl) ?_
            refine one_call (i := 23) (f := 15) (args := ?_) rfl (by rfl) ?_ ?_
            rotate_left
            · go_simp
              first | done | rfl
            with_reducible refine (HM2.out _).mono ?_
            rintro e wb1 ⟨rfl, hb⟩
            refine ⟨_, rfl, hb.mono hBz, ?_⟩
            replace HC := Lib.hid (HC.out.trans (hb.mono hBz))
            replace hBz := Nat.le_trans hBz hb.size
            clear hb
            simp only [Act.put, List.setIfInBounds_toArray, List.set_cons_zero, List.set_cons_succ, List.getElem_toArray, List.getElem_cons_zero, List.getElem_cons_succ]
            refine b_take (i := 24) (v := ?_) rfl (by kernel_rfl) (by kernel_rfl) (by kernel_rfl) (fun _ _ _ h => h) (by rfl) ?_ ?_
            rotate_left
            · intro W hW
              go_simp
              first | done | rfl
            simp only [Act.put, List.setIfInBounds_toArray, List.set_cons_zero, List.set_cons_succ, List.getElem_toArray, List.getElem_cons_zero, List.getElem_cons_succ]
            refine b_take (i := 25) (v := ?_) rfl (by kernel_rfl) (by kernel_rfl) (by kernel_rfl) (fun _ _ _ h => h) (by rfl) ?_ ?_
            rotate_left
            · intro W hW
              go_simp
              first | done | rfl
            simp only [Act.put, List.setIfInBounds_toArray, List.set_cons_zero, List.set_cons_succ, List.getElem_toArray, List.getElem_cons_zero, List.getElem_cons_succ]
            refine b_done (by kernel_rfl) ?_
            replace HB := Lib.hid (HB.out.trans (HC.out.mono hB0))
            replace HX := Lib.hid (HX.out.below HC.out hltX)
            replace HW1 := Lib.hid (HW1.out.below HC.out hlt1)
            replace HW2 := Lib.hid (HW2.out.below HC.out hlt2)
            clear HC hBz
            obtain ⟨s0, s1⟩ := HX.out.c2
            obtain ⟨p0, p1⟩ := HW1.out.c2
            obtain ⟨f0, f1⟩ := HW1.out.f2
            have HW1n := Lib.hid (HW1.out.set2 (.int .i64 x1) (.int .i64 x2))
            have HW2n := Lib.hid ((HW2.out.far (p := ⟨w.heap.size, 0, none⟩) (by simp) (.int .i64 x1)).far (p := ⟨w.heap.size, 1, none⟩) (by simp) (.int .i64 x2))
            have HBn := Lib.hid (below_set2 HB.out (Nat.le_refl w.heap.size) (.int .i64 x1) (.int .i64 x2))
            clear HW1 HW2 HB HX HC3
            go_wp2_with fail
            go_roundw
            case rel => exact ⟨k + 1, x1, x2, by omega, by go_num, HON.out.2.2.2, HW1n.out, HW2n.out, HBn.out⟩
            case measure => simp [intOf]; omega
        · have q3 := HON.out.2.2.1 rfl
          have e1 : (x2 != f) = false := by simpa using q3.1
          have e2 : (x1 != m) = false := by simpa using q3.2
          clear q3
          by_cases a1 : x1 = T
          · have a2 : (x1 == T) = true := by simpa using a1
            by_cases a3 : V = 0
            · have a4 : (V != 0) = false := by simpa using a3
              clear a1 a3
              go_wp2_with fail
              clear s0 s1 p0 p1
              have hltX := HX.out.lt
              have hlt1 := HW1.out.lt
              have hlt2 := HW2.out.lt
              have hB0 := HB.out.size
              refine b_start (w5).heap.size (by kernel_rfl) ?_
              have hBz : (w5).heap.size ≤ (w5).drew.heap.size := Nat.le_refl _
              replace HX := Lib.hid (show Whole (w5).drew _ _ _ from HX.out)
              replace HW1 := Lib.hid (show Whole (w5).drew _ _ _ from HW1.out)
              replace HW2 := Lib.hid (show Whole (w5).drew _ _ _ from HW2.out)
              replace HB := Lib.hid (HB.out.drew)
              have HC := Lib.hid (Below.refl (w5).heap.size (w5).drew)
              generalize w5.drew = w7 at *
              refine b_take (i := 0) (v := ?_) rfl (by kernel_rfl) (by kernel_rfl) (by kernel_rfl) (fun _ _ _ h => h) (by rfl) ?_ ?_
              rotate_left
              · intro W hW
                go_simp
                first | done | rfl
              simp only [Act.put, List.setIfInBounds_toArray, List.set_cons_zero, List.set_cons_succ, List.getElem_toArray, List.getElem_cons_zero, List.getElem_cons_succ]
              refine b_take (i := 1) (v := ?_) rfl (by kernel_rfl) (by kernel_rfl) (by kernel_rfl) (fun _ _ _ h => h) (by rfl) ?_ ?_
              rotate_left
              · intro W hW
                go_simp
                first | done | rfl
              simp only [Act.put, List.setIfInBounds_toArray, List.set_cons_zero, List.set_cons_succ, List.getElem_toArray, List.getElem_cons_zero, List.getElem_cons_succ]
              refine b_take (i := 2) (v := ?_) rfl (by kernel_rfl) (by kernel_rfl) (by kernel_rfl) (fun _ _ _ h => h) (by rfl) ?_ ?_
              rotate_left
              · intro W hW
                go_simp
                first | done | rfl
              simp only [Act.put, List.setIfInBounds_toArray, List.set_cons_zero, List.set_cons_succ, List.getElem_toArray, List.getElem_cons_zero, List.getElem_cons_succ]
              refine b_take (i := 3) (v := ?_) rfl (by kernel_rfl) (by kernel_rfl) (by kernel_rfl) (fun _ _ _ h => h) (by rfl) ?_ ?_
              rotate_left
              · intro W hW
                obtain ⟨s0, s1⟩ := (HX.out.below (HC.out.trans hW) hltX).c2
                obtain ⟨p0, p1⟩ := (HW1.out.below (HC.out.trans hW) hlt1).c2
                obtain ⟨k0, k1, k2⟩ := (HW2.out.below (HC.out.trans hW) hlt2).c3
                obtain ⟨m0, m1, m2, m3, m4, m5, m6, m7, m8⟩ := HC3.out _ (HB.out.trans ((HC.out.trans hW).mono hB0))
                go_simp
                first | done | rfl
              simp only [Act.put, List.setIfInBounds_toArray, List.set_cons_zero, List.set_cons_succ, List.getElem_toArray, List.getElem_cons_zero, List.getElem_cons_succ]
              refine b_take (i := 4) (v := ?_) rfl (by kernel_rfl) (by kernel_rfl) (by kernel_rfl) (fun _ _ _ h => h) (by rfl) ?_ ?_
              rotate_left
              · intro W hW
                go_simp
                first | done | rfl
              simp only [Act.put, List.setIfInBounds_toArray, List.set_cons_zero, List.set_cons_succ, List.getElem_toArray, List.getElem_cons_zero, List.getElem_cons_succ]
              refine b_take (i := 5) (v := ?_) rfl (by kernel_rfl) (by kernel_rfl) (by kernel_rfl) (fun _ _ _ h => h) (by rfl) ?_ ?_
              rotate_left
              · intro W hW
                go_simp
                first | done | rfl
              simp only [Act.put, List.setIfInBounds_toArray, List.set_cons_zero, List.set_cons_succ, List.getElem_toArray, List.getElem_cons_zero, List.getElem_cons_succ]
              refine b_take (i := 6) (v := ?_) rfl (by kernel_rfl) (by kernel_rfl) (by kernel_rfl) (fun _ _ _ h => h) (by rfl) ?_ ?_
              rotate_left
              · intro W hW
                go_simp
                first | done | rfl
              simp only [Act.put, List.setIfInBounds_toArray, List.set_cons_zero, List.set_cons_succ, List.getElem_toArray, List.getElem_cons_zero, List.getElem_cons_succ]
              refine b_take (i := 7) (v := ?_) rfl (by kernel_rfl) (by kernel_rfl) (by kernel_rfl) (fun _ _ _ h => h) (by rfl) ?_ ?_
              rotate_left
              · intro W hW
                go_simp
                first | done | rfl
              simp only [Act.put, List.setIfInBounds_toArray, List.set_cons_zero, List.set_cons_succ, List.getElem_toArray, List.getElem_cons_zero, List.getElem_cons_succ]
              refine b_take (i := 8) (v := ?_) rfl (by kernel_rfl) (by kernel_rfl) (by kernel_rfl) (fun _ _ _ h => h) (by rfl) ?_ ?_
              rotate_left
              · intro W hW
                obtain ⟨s0, s1⟩ := (HX.out.below (HC.out.trans hW) hltX).c2
                obtain ⟨p0, p1⟩ := (HW1.out.below (HC.out.trans hW) hlt1).c2
                obtain ⟨k0, k1, k2⟩ := (HW2.out.below (HC.out.trans hW) hlt2).c3
                obtain ⟨m0, m1, m2, m3, m4, m5, m6, m7, m8⟩ := HC3.out _ (HB.out.trans ((HC.out.trans hW).mono hB0))
                go_simp
                first | done | rfl
              simp only [Act.put, List.setIfInBounds_toArray, List.set_cons_zero, List.set_cons_succ, List.getElem_toArray, List.getElem_cons_zero, List.getElem_cons_succ]
              refine b_take (i := 9) (v := ?_) rfl (by kernel_rfl) (by kernel_rfl) (by kernel_rfl) (fun _ _ _ h => h) (by rfl) ?_ ?_
              rotate_left
              · intro W hW
                go_simp
                first | done | rfl
              simp only [Act.put, List.setIfInBounds_toArray, List.set_cons_zero, List.set_cons_succ, List.getElem_toArray, List.getElem_cons_zero, List.getElem_cons_succ]
              refine b_take (i := 10) (v := ?_) rfl (by kernel_rfl) (by kernel_rfl) (by kernel_rfl) (fun _ _ _ h => h) (by rfl) ?_ ?_
              rotate_left
              · intro W hW
                go_simp
                first | done | rfl
              simp only [Act.put, List.setIfInBounds_toArray, List.set_cons_zero, List.set_cons_succ, List.getElem_toArray, List.getElem_cons_zero, List.getElem_cons_succ]
              refine b_take (i := 11) (v := ?_) rfl (by kernel_rfl) (by kernel_rfl) (by kernel_rfl) (fun _ _ _ h => h) (by rfl) ?_ ?_
              rotate_left
              · intro W hW
                go_simp
                first | done | rfl
              simp only [Act.put, List.setIfInBounds_toArray, List.set_cons_zero, List.set_cons_succ, List.getElem_toArray, List.getElem_cons_zero, List.getElem_cons_succ]
              refine b_take (i := 12) (v := ?_) rfl (by kernel_rfl) (by kernel_rfl) (by kernel_rfl) (fun _ _ _ h => h) (by rfl) ?_ ?_
              rotate_left
              · intro W hW
                obtain ⟨s0, s1⟩ := (HX.out.below (HC.out.trans hW) hltX).c2
                obtain ⟨p0, p1⟩ := (HW1.out.below (HC.out.trans hW) hlt1).c2
                obtain ⟨k0, k1, k2⟩ := (HW2.out.below (HC.out.trans hW) hlt2).c3
                obtain ⟨m0, m1, m2, m3, m4, m5, m6, m7, m8⟩ := HC3.out _ (HB.out.trans ((HC.out.trans hW).mono hB0))
                go_simp
                first | done | rfl
              simp only [Act.put, List.setIfInBounds_toArray, List.set_cons_zero, List.set_cons_succ, List.getElem_toArray, List.getElem_cons_zero, List.getElem_cons_succ]
              refine b_take (i := 13) (v := ?_) rfl (by kernel_rfl) (by kernel_rfl) (by kernel_rfl) (fun _ _ _ h => h) (by rfl) ?_ ?_
              rotate_left
              · intro W hW
                go_simp
                first | done | rfl
              simp only [Act.put, List.setIfInBounds_toArray, List.set_cons_zero, List.set_cons_succ, List.getElem_toArray, List.getElem_cons_zero, List.getElem_cons_succ]
              refine b_take (i := 14) (v := ?_) rfl (by kernel_rfl) (by kernel_rfl) (by kernel_rfl) (fun _ _ _ h => h) (by rfl) ?_ ?_
              rotate_left
              · intro W hW
                go_simp
                first | done | rfl
              simp only [Act.put, List.setIfInBounds_toArray, List.set_cons_zero, List.set_cons_succ, List.getElem_toArray, List.getElem_cons_zero, List.getElem_cons_succ]
              refine b_take (i := 15) (v := ?_) rfl (by kernel_rfl) (by kernel_rfl) (by kernel_rfl) (fun _ _ _ h => h) (by rfl) ?_ ?_
              rotate_left
              · intro W hW
                go_simp
                first | done | rfl
              simp only [Act.put, List.setIfInBounds_toArray, List.set_cons_zero, List.set_cons_succ, List.getElem_toArray, List.getElem_cons_zero, List.getElem_cons_succ]
              refine b_take (i := 16) (v := ?_) rfl (by kernel_rfl) (by kernel_rfl) (by kernel_rfl) (fun _ _ _ h => h) (by rfl) ?_ ?_
              rotate_left
              · intro W hW
                go_simp
                first | done | rfl
              simp only [Act.put, List.setIfInBounds_toArray, List.set_cons_zero, List.set_cons_succ, List.getElem_toArray, List.getElem_cons_zero, List.getElem_cons_succ]
              refine b_take (i := 17) (v := ?_) rfl (by kernel_rfl) (by kernel_rfl) (by kernel_rfl) (fun _ _ _ h => h) (by rfl) ?_ ?_
              rotate_left
              · intro W hW
                obtain ⟨s0, s1⟩ := (HX.out.below (HC.out.trans hW) hltX).c2
                obtain ⟨p0, p1⟩ := (HW1.out.below (HC.out.trans hW) hlt1).c2
                obtain ⟨k0, k1, k2⟩ := (HW2.out.below (HC.out.trans hW) hlt2).c3
                obtain ⟨m0, m1, m2, m3, m4, m5, m6, m7, m8⟩ := HC3.out _ (HB.out.trans ((HC.out.trans hW).mono hB0))
                go_simp
                first | done | rfl
              simp only [Act.put, List.setIfInBounds_toArray, List.set_cons_zero, List.set_cons_succ, List.getElem_toArray, List.getElem_cons_zero, List.getElem_cons_succ]
              refine b_take (i := 18) (v := ?_) rfl (by kernel_rfl) (by kernel_rfl) (by kernel_rfl) (fun _ _ _ h => h) (by rfl) ?_ ?_
              rotate_left
              · intro W hW
                go_simp
                first | done | rfl
              simp only [Act.put, List.setIfInBounds_toArray, List.set_cons_zero, List.set_cons_succ, List.getElem_toArray, List.getElem_cons_zero, List.getElem_cons_succ]
              refine b_take (i := 19) (v := ?_) rfl (by kernel_rfl) (by kernel_rfl) (by kernel_rfl) (fun _ _ _ h => h) (by rfl) ?_ ?_
              rotate_left
              · intro W hW
                go_simp
                first | done | rfl
              simp only [Act.put, List.setIfInBounds_toArray, List.set_cons_zero, List.set_cons_succ, List.getElem_toArray, List.getElem_cons_zero, List.getElem_cons_succ]
              refine b_take (i := 20) (v := ?_) rfl (by kernel_rfl) (by kernel_rfl) (by kernel_rfl) (fun _ _ _ h => h) (by rfl) ?_ ?_
              rotate_left
              · intro W hW
                go_simp
                first | done | rfl
              simp only [Act.put, List.setIfInBounds_toArray, List.set_cons_zero, List.set_cons_succ, List.getElem_toArray, List.getElem_cons_zero, List.getElem_cons_succ]
              refine b_take (i := 21) (v := ?_) rfl (by kernel_rfl) (by kernel_rfl) (by kernel_rfl) (fun _ _ _ h => h) (by rfl) ?_ ?_
              rotate_left
              · intro W hW
                go_simp
                first | done | rfl
              simp only [Act.put, List.setIfInBounds_toArray, List.set_cons_zero, List.set_cons_succ, List.getElem_toArray, List.getElem_cons_zero, List.getElem_cons_succ]
              refine b_take (i := 22) (v := ?_) rfl (by kernel_rfl) (by kernel_rfl) (by kernel_rfl) (fun _ _ _ h => h) (by rfl) ?_ ?_
              rotate_left
              · intro W hW
                obtain ⟨s0, s1⟩ := (HX.out.below (HC.out.trans hW) hltX).c2
                obtain ⟨p0, p1⟩ := (HW1.out.below (HC.out.trans hW) hlt1).c2
                obtain ⟨k0, k1, k2⟩ := (HW2.out.below (HC.out.trans hW) hlt2).c3
                obtain ⟨m0, m1, m2, m3, m4, m5, m6, m7, m8⟩ := HC3.out _ (HB.out.trans ((HC.out.trans hW).mono hB0))
                go_simp
                first | done | rfl
              simp only [Act.put, List.setIfInBounds_toArray, List.set_cons_zero, List.set_cons_succ, List.getElem_toArray, List.getElem_cons_zero, List.getElem_cons_succ]
              refine b_one (i := 23) (by kernel_rfl) ?_
              refine one_call (i := 23) (f := 15) (args := ?_) rfl (by rfl) ?_ ?_
              rotate_left
              · go_simp
                first | done | rfl
              with_reducible refine (HM2.out _).mono ?_
              rintro e wb1 ⟨rfl, hb⟩
              refine ⟨_, rfl, hb.mono hBz, ?_⟩
              replace HC := Lib.hid (HC.out.trans (hb.mono hBz))
              replace hBz := Nat.le_trans hBz hb.size
              clear hb
              simp only [Act.put, List.setIfInBounds_toArray, List.set_cons_zero, List.set_cons_succ, List.getElem_toArray, List.getElem_cons_zero, List.getElem_cons_succ]
              refine b_take (i := 24) (v := ?_) rfl (by kernel_rfl) (by kernel_rfl) (by kernel_rfl) (fun _ _ _ h => h) (by rfl) ?_ ?_
              rotate_left
              · intro W hW
                go_simp
                first | done | rfl
              simp only [Act.put, List.setIfInBounds_toArray, List.set_cons_zero, List.set_cons_succ, List.getElem_toArray, List.getElem_cons_zero, List.getElem_cons_succ]
              refine b_take (i := 25) (v := ?_) rfl (by kernel_rfl) (by kernel_rfl) (by kernel_rfl) (fun _ _ _ h => h) (by rfl) ?_ ?_
              rotate_left
              · intro W hW
                go_simp
                first | done | rfl
              simp only [Act.put, List.setIfInBounds_toArray, List.set_cons_zero, List.set_cons_succ, List.getElem_toArray, List.getElem_cons_zero, List.getElem_cons_succ]
              refine b_done (by kernel_rfl) ?_
              replace HB := Lib.hid (HB.out.trans (HC.out.mono hB0))
              replace HX := Lib.hid (HX.out.below HC.out hltX)
              replace HW1 := Lib.hid (HW1.out.below HC.out hlt1)
              replace HW2 := Lib.hid (HW2.out.below HC.out hlt2)
              clear HC hBz
              obtain ⟨s0, s1⟩ := HX.out.c2
              obtain ⟨p0, p1⟩ := HW1.out.c2
              obtain ⟨f0, f1⟩ := HW1.out.f2
              have HW1n := Lib.hid (HW1.out.set2 (.int .i64 x1) (.int .i64 x2))
              have HW2n := Lib.hid ((HW2.out.far (p := ⟨w.heap.size, 0, none⟩) (by simp) (.int .i64 x1)).far (p := ⟨w.heap.size, 1, none⟩) (by simp) (.int .i64 x2))
              have HBn := Lib.hid (below_set2 HB.out (Nat.le_refl w.heap.size) (.int .i64 x1) (.int .i64 x2))
              clear HW1 HW2 HB HX HC3
              go_wp2_with fail
              go_roundw
              case rel => exact ⟨k + 1, x1, x2, by omega, by go_num, HON.out.2.2.2, HW1n.out, HW2n.out, HBn.out⟩
              case measure => simp [intOf]; omega
            · have a4 : (V != 0) = true := by simpa using a3
              have a5 : (x2 != V) = false := by simpa using HON.out.2.1 a1 a3
              clear a1 a3
              go_wp2_with fail
              clear s0 s1 p0 p1
              have hltX := HX.out.lt
              have hlt1 := HW1.out.lt
              have hlt2 := HW2.out.lt
              have hB0 := HB.out.size
              refine b_start (w5).heap.size (by kernel_rfl) ?_
              have hBz : (w5).heap.size ≤ (w5).drew.heap.size := Nat.le_refl _
              replace HX := Lib.hid (show Whole (w5).drew _ _ _ from HX.out)
              replace HW1 := Lib.hid (show Whole (w5).drew _ _ _ from HW1.out)
              replace HW2 := Lib.hid (show Whole (w5).drew _ _ _ from HW2.out)
              replace HB := Lib.hid (HB.out.drew)
              have HC := Lib.hid (Below.refl (w5).heap.size (w5).drew)
              generalize w5.drew = w7 at *
              refine b_take (i := 0) (v := ?_) rfl (by kernel_rfl) (by kernel_rfl) (by kernel_rfl) (fun _ _ _ h => h) (by rfl) ?_ ?_
              rotate_left
              · intro W hW
                go_simp
                first | done | rfl
              simp only [Act.put, List.setIfInBounds_toArray, List.set_cons_zero, List.set_cons_succ, List.getElem_toArray, List.getElem_cons_zero, List.getElem_cons_succ]
              refine b_take (i := 1) (v := ?_) rfl (by kernel_rfl) (by kernel_rfl) (by kernel_rfl) (fun _ _ _ h => h) (by rfl) ?_ ?_
              rotate_left
              · intro W hW
                go_simp
                first | done | rfl
              simp only [Act.put, List.setIfInBounds_toArray, List.set_cons_zero, List.set_cons_succ, List.getElem_toArray, List.getElem_cons_zero, List.getElem_cons_succ]
              refine b_take (i := 2) (v := ?_) rfl (by kernel_rfl) (by kernel_rfl) (by kernel_rfl) (fun _ _ _ h => h) (by rfl) ?_ ?_
              rotate_left
              · intro W hW
                go_simp
                first | done | rfl
              simp only [Act.put, List.setIfInBounds_toArray, List.set_cons_zero, List.set_cons_succ, List.getElem_toArray, List.getElem_cons_zero, List.getElem_cons_succ]
              refine b_take (i := 3) (v := ?_) rfl (by kernel_rfl) (by kernel_rfl) (by kernel_rfl) (fun _ _ _ h => h) (by rfl) ?_ ?_
              rotate_left
              · intro W hW
                obtain ⟨s0, s1⟩ := (HX.out.below (HC.out.trans hW) hltX).c2
                obtain ⟨p0, p1⟩ := (HW1.out.below (HC.out.trans hW) hlt1).c2
                obtain ⟨k0, k1, k2⟩ := (HW2.out.below (HC.out.trans hW) hlt2).c3
                obtain ⟨m0, m1, m2, m3, m4, m5, m6, m7, m8⟩ := HC3.out _ (HB.out.trans ((HC.out.trans hW).mono hB0))
                go_simp
                first | done | rfl
              simp only [Act.put, List.setIfInBounds_toArray, List.set_cons_zero, List.set_cons_succ, List.getElem_toArray, List.getElem_cons_zero, List.getElem_cons_succ]
              refine b_take (i := 4) (v := ?_) rfl (by kernel_rfl) (by kernel_rfl) (by kernel_rfl) (fun _ _ _ h => h) (by rfl) ?_ ?_
              rotate_left
              · intro W hW
                go_simp
                first | done | rfl
              simp only [Act.put, List.setIfInBounds_toArray, List.set_cons_zero, List.set_cons_succ, List.getElem_toArray, List.getElem_cons_zero, List.getElem_cons_succ]
              refine b_take (i := 5) (v := ?_) rfl (by kernel_rfl) (by kernel_rfl) (by kernel_rfl) (fun _ _ _ h => h) (by rfl) ?_ ?_
              rotate_left
              · intro W hW
                go_simp
                first | done | rfl
              simp only [Act.put, List.setIfInBounds_toArray, List.set_cons_zero, List.set_cons_succ, List.getElem_toArray, List.getElem_cons_zero, List.getElem_cons_succ]
              refine b_take (i := 6) (v := ?_) rfl (by kernel_rfl) (by kernel_rfl) (by kernel_rfl) (fun _ _ _ h => h) (by rfl) ?_ ?_
              rotate_left
              · intro W hW
                go_simp
                first | done | rfl
              simp only [Act.put, List.setIfInBounds_toArray, List.set_cons_zero, List.set_cons_succ, List.getElem_toArray, List.getElem_cons_zero, List.getElem_cons_succ]
              refine b_take (i := 7) (v := ?_) rfl (by kernel_rfl) (by kernel_rfl) (by kernel_rfl) (fun _ _ _ h => h) (by rfl) ?_ ?_
              rotate_left
              · intro W hW
                go_simp
                first | done | rfl
              simp only [Act.put, List.setIfInBounds_toArray, List.set_cons_zero, List.set_cons_succ, List.getElem_toArray, List.getElem_cons_zero, List.getElem_cons_succ]
              refine b_take (i := 8) (v := ?_) rfl (by kernel_rfl) (by kernel_rfl) (by kernel_rfl) (fun _ _ _ h => h) (by rfl) ?_ ?_
              rotate_left
              · intro W hW
                obtain ⟨s0, s1⟩ := (HX.out.below (HC.out.trans hW) hltX).c2
                obtain ⟨p0, p1⟩ := (HW1.out.below (HC.out.trans hW) hlt1).c2
                obtain ⟨k0, k1, k2⟩ := (HW2.out.below (HC.out.trans hW) hlt2).c3
                obtain ⟨m0, m1, m2, m3, m4, m5, m6, m7, m8⟩ := HC3.out _ (HB.out.trans ((HC.out.trans hW).mono hB0))
                go_simp
                first | done | rfl
              simp only [Act.put, List.setIfInBounds_toArray, List.set_cons_zero, List.set_cons_succ, List.getElem_toArray, List.getElem_cons_zero, List.getElem_cons_succ]
              refine b_take (i := 9) (v := ?_) rfl (by kernel_rfl) (by kernel_rfl) (by kernel_rfl) (fun _ _ _ h => h) (by rfl) ?_ ?_
              rotate_left
              · intro W hW
                go_simp
                first | done | rfl
              simp only [Act.put, List.setIfInBounds_toArray, List.set_cons_zero, List.set_cons_succ, List.getElem_toArray, List.getElem_cons_zero, List.getElem_cons_succ]
              refine b_take (i := 10) (v := ?_) rfl (by kernel_rfl) (by kernel_rfl) (by kernel_rfl) (fun _ _ _ h => h) (by rfl) ?_ ?_
              rotate_left
              · intro W hW
                go_simp
                first | done | rfl
              simp only [Act.put, List.setIfInBounds_toArray, List.set_cons_zero, List.set_cons_succ, List.getElem_toArray, List.getElem_cons_zero, List.getElem_cons_succ]
              refine b_take (i := 11) (v := ?_) rfl (by kernel_rfl) (by kernel_rfl) (by kernel_rfl) (fun _ _ _ h => h) (by rfl) ?_ ?_
              rotate_left
              · intro W hW
                go_simp
                first | done | rfl
              simp only [Act.put, List.setIfInBounds_toArray, List.set_cons_zero, List.set_cons_succ, List.getElem_toArray, List.getElem_cons_zero, List.getElem_cons_succ]
              refine b_take (i := 12) (v := ?_) rfl (by kernel_rfl) (by kernel_rfl) (by kernel_rfl) (fun _ _ _ h => h) (by rfl) ?_ ?_
              rotate_left
              · intro W hW
                obtain ⟨s0, s1⟩ := (HX.out.below (HC.out.trans hW) hltX).c2
                obtain ⟨p0, p1⟩ := (HW1.out.below (HC.out.trans hW) hlt1).c2
                obtain ⟨k0, k1, k2⟩ := (HW2.out.below (HC.out.trans hW) hlt2).c3
                obtain ⟨m0, m1, m2, m3, m4, m5, m6, m7, m8⟩ := HC3.out _ (HB.out.trans ((HC.out.trans hW).mono hB0))
                go_simp
                first | done | rfl
              simp only [Act.put, List.setIfInBounds_toArray, List.set_cons_zero, List.set_cons_succ, List.getElem_toArray, List.getElem_cons_zero, List.getElem_cons_succ]
              refine b_take (i := 13) (v := ?_) rfl (by kernel_rfl) (by kernel_rfl) (by kernel_rfl) (fun _ _ _ h => h) (by rfl) ?_ ?_
              rotate_left
              · intro W hW
                go_simp
                first | done | rfl
              simp only [Act.put, List.setIfInBounds_toArray, List.set_cons_zero, List.set_cons_succ, List.getElem_toArray, List.getElem_cons_zero, List.getElem_cons_succ]
              refine b_take (i := 14) (v := ?_) rfl (by kernel_rfl) (by kernel_rfl) (by kernel_rfl) (fun _ _ _ h => h) (by rfl) ?_ ?_
              rotate_left
              · intro W hW
                go_simp
                first | done | rfl
              simp only [Act.put, List.setIfInBounds_toArray, List.set_cons_zero, List.set_cons_succ, List.getElem_toArray, List.getElem_cons_zero, List.getElem_cons_succ]
              refine b_take (i := 15) (v := ?_) rfl (by kernel_rfl) (by kernel_rfl) (by kernel_rfl) (fun _ _ _ h => h) (by rfl) ?_ ?_
              rotate_left
              · intro W hW
                go_simp
                first | done | rfl
              simp only [Act.put, List.setIfInBounds_toArray, List.set_cons_zero, List.set_cons_succ, List.getElem_toArray, List.getElem_cons_zero, List.getElem_cons_succ]
              refine b_take (i := 16) (v := ?_) rfl (by kernel_rfl) (by kernel_rfl) (by kernel_rfl) (fun _ _ _ h => h) (by rfl) ?_ ?_
              rotate_left
              · intro W hW
                go_simp
                first | done | rfl
              simp only [Act.put, List.setIfInBounds_toArray, List.set_cons_zero, List.set_cons_succ, List.getElem_toArray, List.getElem_cons_zero, List.getElem_cons_succ]
              refine b_take (i := 17) (v := ?_) rfl (by kernel_rfl) (by kernel_rfl) (by kernel_rfl) (fun _ _ _ h => h) (by rfl) ?_ ?_
              rotate_left
              · intro W hW
                obtain ⟨s0, s1⟩ := (HX.out.below (HC.out.trans hW) hltX).c2
                obtain ⟨p0, p1⟩ := (HW1.out.below (HC.out.trans hW) hlt1).c2
                obtain ⟨k0, k1, k2⟩ := (HW2.out.below (HC.out.trans hW) hlt2).c3
                obtain ⟨m0, m1, m2, m3, m4, m5, m6, m7, m8⟩ := HC3.out _ (HB.out.trans ((HC.out.trans hW).mono hB0))
                go_simp
                first | done | rfl
              simp only [Act.put, List.setIfInBounds_toArray, List.set_cons_zero, List.set_cons_succ, List.getElem_toArray, List.getElem_cons_zero, List.getElem_cons_succ]
              refine b_take (i := 18) (v := ?_) rfl (by kernel_rfl) (by kernel_rfl) (by kernel_rfl) (fun _ _ _ h => h) (by rfl) ?_ ?_
              rotate_left
              · intro W hW
                go_simp
                first | done | rfl
              simp only [Act.put, List.setIfInBounds_toArray, List.set_cons_zero, List.set_cons_succ, List.getElem_toArray, List.getElem_cons_zero, List.getElem_cons_succ]
              refine b_take (i := 19) (v := ?_) rfl (by kernel_rfl) (by kernel_rfl) (by kernel_rfl) (fun _ _ _ h => h) (by rfl) ?_ ?_
              rotate_left
              · intro W hW
                go_simp
                first | done | rfl
              simp only [Act.put, List.setIfInBounds_toArray, List.set_cons_zero, List.set_cons_succ, List.getElem_toArray, List.getElem_cons_zero, List.getElem_cons_succ]
              refine b_take (i := 20) (v := ?_) rfl (by kernel_rfl) (by kernel_rfl) (by kernel_rfl) (fun _ _ _ h => h) (by rfl) ?_ ?_
              rotate_left
              · intro W hW
                go_simp
                first | done | rfl
              simp only [Act.put, List.setIfInBounds_toArray, List.set_cons_zero, List.set_cons_succ, List.getElem_toArray, List.getElem_cons_zero, List.getElem_cons_succ]
              refine b_take (i := 21) (v := ?_) rfl (by kernel_rfl) (by kernel_rfl) (by kernel_rfl) (fun _ _ _ h => h) (by rfl) ?_ ?_
              rotate_left
              · intro W hW
                go_simp
                first | done | rfl
              simp only [Act.put, List.setIfInBounds_toArray, List.set_cons_zero, List.set_cons_succ, List.getElem_toArray, List.getElem_cons_zero, List.getElem_cons_succ]
              refine b_take (i := 22) (v := ?_) rfl (by kernel_rfl) (by kernel_rfl) (by kernel_rfl) (fun _ _ _ h => h) (by rfl) ?_ ?_
              rotate_left
              · intro W hW
                obtain ⟨s0, s1⟩ := (HX.out.below (HC.out.trans hW) hltX).c2
                obtain ⟨p0, p1⟩ := (HW1.out.below (HC.out.trans hW) hlt1).c2
                obtain ⟨k0, k1, k2⟩ := (HW2.out.below (HC.out.trans hW) hlt2).c3
                obtain ⟨m0, m1, m2, m3, m4, m5, m6, m7, m8⟩ := HC3.out _ (HB.out.trans ((HC.out.trans hW).mono hB0))
                go_simp
                first | done | rfl
              simp only [Act.put, List.setIfInBounds_toArray, List.set_cons_zero, List.set_cons_succ, List.getElem_toArray, List.getElem_cons_zero, List.getElem_cons_succ]
              refine b_one (i := 23) (by kernel_rfl) ?_
              refine one_call (i := 23) (f := 15) (args := ?_) rfl (by rfl) ?_ ?_
              rotate_left
              · go_simp
                first | done | rfl
              with_reducible refine (HM2.out _).mono ?_
              rintro e wb1 ⟨rfl, hb⟩
              refine ⟨_, rfl, hb.mono hBz, ?_⟩
              replace HC := Lib.hid (HC.out.trans (hb.mono hBz))
              replace hBz := Nat.le_trans hBz hb.size
              clear hb
              simp only [Act.put, List.setIfInBounds_toArray, List.set_cons_zero, List.set_cons_succ, List.getElem_toArray, List.getElem_cons_zero, List.getElem_cons_succ]
              refine b_take (i := 24) (v := ?_) rfl (by kernel_rfl) (by kernel_rfl) (by kernel_rfl) (fun _ _ _ h => h) (by rfl) ?_ ?_
              rotate_left
              · intro W hW
                go_simp
                first | done | rfl
              simp only [Act.put, List.setIfInBounds_toArray, List.set_cons_zero, List.set_cons_succ, List.getElem_toArray, List.getElem_cons_zero, List.getElem_cons_succ]
              refine b_take (i := 25) (v := ?_) rfl (by kernel_rfl) (by kernel_rfl) (by kernel_rfl) (fun _ _ _ h => h) (by rfl) ?_ ?_
              rotate_left
              · intro W hW
                go_simp
                first | done | rfl
              simp only [Act.put, List.setIfInBounds_toArray, List.set_cons_zero, List.set_cons_succ, List.getElem_toArray, List.getElem_cons_zero, List.getElem_cons_succ]
              refine b_done (by kernel_rfl) ?_
              replace HB := Lib.hid (HB.out.trans (HC.out.mono hB0))
              replace HX := Lib.hid (HX.out.below HC.out hltX)
              replace HW1 := Lib.hid (HW1.out.below HC.out hlt1)
              replace HW2 := Lib.hid (HW2.out.below HC.out hlt2)
              clear HC hBz
              obtain ⟨s0, s1⟩ := HX.out.c2
              obtain ⟨p0, p1⟩ := HW1.out.c2
              obtain ⟨f0, f1⟩ := HW1.out.f2
              have HW1n := Lib.hid (HW1.out.set2 (.int .i64 x1) (.int .i64 x2))
              have HW2n := Lib.hid ((HW2.out.far (p := ⟨w.heap.size, 0, none⟩) (by simp) (.int .i64 x1)).far (p := ⟨w.heap.size, 1, none⟩) (by simp) (.int .i64 x2))
              have HBn := Lib.hid (below_set2 HB.out (Nat.le_refl w.heap.size) (.int .i64 x1) (.int .i64 x2))
              clear HW1 HW2 HB HX HC3
              go_wp2_with fail
              go_roundw
              case rel => exact ⟨k + 1, x1, x2, by omega, by go_num, HON.out.2.2.2, HW1n.out, HW2n.out, HBn.out⟩
              case measure => simp [intOf]; omega
          · have a2 : (x1 == T) = false := by simpa using a1
            clear a1
            go_wp2_with fail
            clear s0 s1 p0 p1
            have hltX := HX.out.lt
            have hlt1 := HW1.out.lt
            have hlt2 := HW2.out.lt
            have hB0 := HB.out.size
            refine b_start (w5).heap.size (by kernel_rfl) ?_
            have hBz : (w5).heap.size ≤ (w5).drew.heap.size := Nat.le_refl _
            replace HX := Lib.hid (show Whole (w5).drew _ _ _ from HX.out)
            replace HW1 := Lib.hid (show Whole (w5).drew _ _ _ from HW1.out)
            replace HW2 := Lib.hid (show Whole (w5).drew _ _ _ from HW2.out)
            replace HB := Lib.hid (HB.out.drew)
            have HC := Lib.hid (Below.refl (w5).heap.size (w5).drew)
            generalize w5.drew = w7 at *
            refine b_take (i := 0) (v := ?_) rfl (by kernel_rfl) (by kernel_rfl) (by kernel_rfl) (fun _ _ _ h => h) (by rfl) ?_ ?_
            rotate_left
            · intro W hW
              go_simp
              first | done | rfl
            simp only [Act.put, List.setIfInBounds_toArray, List.set_cons_zero, List.set_cons_succ, List.getElem_toArray, List.getElem_cons_zero, List.getElem_cons_succ]
            refine b_take (i := 1) (v := ?_) rfl (by kernel_rfl) (by kernel_rfl) (by kernel_rfl) (fun _ _ _ h => h) (by rfl) ?_ ?_
            rotate_left
            · intro W hW
              go_simp
              first | done | rfl
            simp only [Act.put, List.setIfInBounds_toArray, List.set_cons_zero, List.set_cons_succ, List.getElem_toArray, List.getElem_cons_zero, List.getElem_cons_succ]
            refine b_take (i := 2) (v := ?_) rfl (by kernel_rfl) (by kernel_rfl) (by kernel_rfl) (fun _ _ _ h => h) (by rfl) ?_ ?_
            rotate_left
            · intro W hW
              go_simp
              first | done | rfl
            simp only [Act.put, List.setIfInBounds_toArray, List.set_cons_zero, List.set_cons_succ, List.getElem_toArray, List.getElem_cons_zero, List.getElem_cons_succ]
            refine b_take (i := 3) (v := ?_) rfl (by kernel_rfl) (by kernel_rfl) (by kernel_rfl) (fun _ _ _ h => h) (by rfl) ?_ ?_
            rotate_left
            · intro W hW
              obtain ⟨s0, s1⟩ := (HX.out.below (HC.out.trans hW) hltX).c2
              obtain ⟨p0, p1⟩ := (HW1.out.below (HC.out.trans hW) hlt1).c2
              obtain ⟨k0, k1, k2⟩ := (HW2.out.below (HC.out.trans hW) hlt2).c3
              obtain ⟨m0, m1, m2, m3, m4, m5, m6, m7, m8⟩ := HC3.out _ (HB.out.trans ((HC.out.trans hW).mono hB0))
              go_simp
              first | done | rfl
            simp only [Act.put, List.setIfInBounds_toArray, List.set_cons_zero, List.set_cons_succ, List.getElem_toArray, List.getElem_cons_zero, List.getElem_cons_succ]
            refine b_take (i := 4) (v := ?_) rfl (by kernel_rfl) (by kernel_rfl) (by kernel_rfl) (fun _ _ _ h => h) (by rfl) ?_ ?_
            rotate_left
            · intro W hW
              go_simp
              first | done | rfl
            simp only [Act.put, List.setIfInBounds_toArray, List.set_cons_zero, List.set_cons_succ, List.getElem_toArray, List.getElem_cons_zero, List.getElem_cons_succ]
            refine b_take (i := 5) (v := ?_) rfl (by kernel_rfl) (by kernel_rfl) (by kernel_rfl) (fun _ _ _ h => h) (by rfl) ?_ ?_
            rotate_left
            · intro W hW
              go_simp
              first | done | rfl
            simp only [Act.put, List.setIfInBounds_toArray, List.set_cons_zero, List.set_cons_succ, List.getElem_toArray, List.getElem_cons_zero, List.getElem_cons_succ]
            refine b_take (i := 6) (v := ?_) rfl (by kernel_rfl) (by kernel_rfl) (by kernel_rfl) (fun _ _ _ h => h) (by rfl) ?_ ?_
            rotate_left
            · intro W hW
              go_simp
              first | done | rfl
            simp only [Act.put, List.setIfInBounds_toArray, List.set_cons_zero, List.set_cons_succ, List.getElem_toArray, List.getElem_cons_zero, List.getElem_cons_succ]
            refine b_take (i := 7) (v := ?_) rfl (by kernel_rfl) (by kernel_rfl) (by kernel_rfl) (fun _ _ _ h => h) (by rfl) ?_ ?_
            rotate_left
            · intro W hW
              go_simp
              first | done | rfl
            simp only [Act.put, List.setIfInBounds_toArray, List.set_cons_zero, List.set_cons_succ, List.getElem_toArray, List.getElem_cons_zero, List.getElem_cons_succ]
            refine b_take (i := 8) (v := ?_) rfl (by kernel_rfl) (by kernel_rfl) (by kernel_rfl) (fun _ _ _ h => h) (by rfl) ?_ ?_
            rotate_left
            · intro W hW
              obtain ⟨s0, s1⟩ := (HX.out.below (HC.out.trans hW) hltX).c2
              obtain ⟨p0, p1⟩ := (HW1.out.below (HC.out.trans hW) hlt1).c2
              obtain ⟨k0, k1, k2⟩ := (HW2.out.below (HC.out.trans hW) hlt2).c3
              obtain ⟨m0, m1, m2, m3, m4, m5, m6, m7, m8⟩ := HC3.out _ (HB.out.trans ((HC.out.trans hW).mono hB0))
              go_simp
              first | done | rfl
            simp only [Act.put, List.setIfInBounds_toArray, List.set_cons_zero, List.set_cons_succ, List.getElem_toArray, List.getElem_cons_zero, List.getElem_cons_succ]
            refine b_take (i := 9) (v := ?_) rfl (by kernel_rfl) (by kernel_rfl) (by kernel_rfl) (fun _ _ _ h => h) (by rfl) ?_ ?_
            rotate_left
            · intro W hW
              go_simp
              first | done | rfl
            simp only [Act.put, List.setIfInBounds_toArray, List.set_cons_zero, List.set_cons_succ, List.getElem_toArray, List.getElem_cons_zero, List.getElem_cons_succ]
            refine b_take (i := 10) (v := ?_) rfl (by kernel_rfl) (by kernel_rfl) (by kernel_rfl) (fun _ _ _ h => h) (by rfl) ?_ ?_
            rotate_left
            · intro W hW
              go_simp
              first | done | rfl
            simp only [Act.put, List.setIfInBounds_toArray, List.set_cons_zero, List.set_cons_succ, List.getElem_toArray, List.getElem_cons_zero, List.getElem_cons_succ]
            refine b_take (i := 11) (v := ?_) rfl (by kernel_rfl) (by kernel_rfl) (by kernel_rfl) (fun _ _ _ h => h) (by rfl) ?_ ?_
            rotate_left
            · intro W hW
              go_simp
              first | done | rfl
            simp only [Act.put, List.setIfInBounds_toArray, List.set_cons_zero, List.set_cons_succ, List.getElem_toArray, List.getElem_cons_zero, List.getElem_cons_succ]
            refine b_take (i := 12) (v := ?_) rfl (by kernel_rfl) (by kernel_rfl) (by kernel_rfl) (fun _ _ _ h => h) (by rfl) ?_ ?_
            rotate_left
            · intro W hW
              obtain ⟨s0, s1⟩ := (HX.out.below (HC.out.trans hW) hltX).c2
              obtain ⟨p0, p1⟩ := (HW1.out.below (HC.out.trans hW) hlt1).c2
              obtain ⟨k0, k1, k2⟩ := (HW2.out.below (HC.out.trans hW) hlt2).c3
              obtain ⟨m0, m1, m2, m3, m4, m5, m6, m7, m8⟩ := HC3.out _ (HB.out.trans ((HC.out.trans hW).mono hB0))
              go_simp
              first | done | rfl
            simp only [Act.put, List.setIfInBounds_toArray, List.set_cons_zero, List.set_cons_succ, List.getElem_toArray, List.getElem_cons_zero, List.getElem_cons_succ]
            refine b_take (i := 13) (v := ?_) rfl (by kernel_rfl) (by kernel_rfl) (by kernel_rfl) (fun _ _ _ h => h) (by rfl) ?_ ?_
            rotate_left
            · intro W hW
              go_simp
              first | done | rfl
            simp only [Act.put, List.setIfInBounds_toArray, List.set_cons_zero, List.set_cons_succ, List.getElem_toArray, List.getElem_cons_zero, List.getElem_cons_succ]
            refine b_take (i := 14) (v := ?_) rfl (by kernel_rfl) (by kernel_rfl) (by kernel_rfl) (fun _ _ _ h => h) (by rfl) ?_ ?_
            rotate_left
            · intro W hW
              go_simp
              first | done | rfl
            simp only [Act.put, List.setIfInBounds_toArray, List.set_cons_zero, List.set_cons_succ, List.getElem_toArray, List.getElem_cons_zero, List.getElem_cons_succ]
            refine b_take (i := 15) (v := ?_) rfl (by kernel_rfl) (by kernel_rfl) (by kernel_rfl) (fun _ _ _ h => h) (by rfl) ?_ ?_
            rotate_left
            · intro W hW
              go_simp
              first | done | rfl
            simp only [Act.put, List.setIfInBounds_toArray, List.set_cons_zero, List.set_cons_succ, List.getElem_toArray, List.getElem_cons_zero, List.getElem_cons_succ]
            refine b_take (i := 16) (v := ?_) rfl (by kernel_rfl) (by kernel_rfl) (by kernel_rfl) (fun _ _ _ h => h) (by rfl) ?_ ?_
            rotate_left
            · intro W hW
              go_simp
              first | done | rfl
            simp only [Act.put, List.setIfInBounds_toArray, List.set_cons_zero, List.set_cons_succ, List.getElem_toArray, List.getElem_cons_zero, List.getElem_cons_succ]
            refine b_take (i := 17) (v := ?_) rfl (by kernel_rfl) (by kernel_rfl) (by kernel_rfl) (fun _ _ _ h => h) (by rfl) ?_ ?_
            rotate_left
            · intro W hW
              obtain ⟨s0, s1⟩ := (HX.out.below (HC.out.trans hW) hltX).c2
              obtain ⟨p0, p1⟩ := (HW1.out.below (HC.out.trans hW) hlt1).c2
              obtain ⟨k0, k1, k2⟩ := (HW2.out.below (HC.out.trans hW) hlt2).c3
              obtain ⟨m0, m1, m2, m3, m4, m5, m6, m7, m8⟩ := HC3.out _ (HB.out.trans ((HC.out.trans hW).mono hB0))
              go_simp
              first | done | rfl
            simp only [Act.put, List.setIfInBounds_toArray, List.set_cons_zero, List.set_cons_succ, List.getElem_toArray, List.getElem_cons_zero, List.getElem_cons_succ]
            refine b_take (i := 18) (v := ?_) rfl (by kernel_rfl) (by kernel_rfl) (by kernel_rfl) (fun _ _ _ h => h) (by rfl) ?_ ?_
            rotate_left
            · intro W hW
              go_simp
              first | done | rfl
            simp only [Act.put, List.setIfInBounds_toArray, List.set_cons_zero, List.set_cons_succ, List.getElem_toArray, List.getElem_cons_zero, List.getElem_cons_succ]
            refine b_take (i := 19) (v := ?_) rfl (by kernel_rfl) (by kernel_rfl) (by kernel_rfl) (fun _ _ _ h => h) (by rfl) ?_ ?_
            rotate_left
            · intro W hW
              go_simp
              first | done | rfl
            simp only [Act.put, List.setIfInBounds_toArray, List.set_cons_zero, List.set_cons_succ, List.getElem_toArray, List.getElem_cons_zero, List.getElem_cons_succ]
            refine b_take (i := 20) (v := ?_) rfl (by kernel_rfl) (by kernel_rfl) (by kernel_rfl) (fun _ _ _ h => h) (by rfl) ?_ ?_
            rotate_left
            · intro W hW
              go_simp
              first | done | rfl
            simp only [Act.put, List.setIfInBounds_toArray, List.set_cons_zero, List.set_cons_succ, List.getElem_toArray, List.getElem_cons_zero, List.getElem_cons_succ]
            refine b_take (i := 21) (v := ?_) rfl (by kernel_rfl) (by kernel_rfl) (by kernel_rfl) (fun _ _ _ h => h) (by rfl) ?_ ?_
            rotate_left
            · intro W hW
              go_simp
              first | done | rfl
            simp only [Act.put, List.setIfInBounds_toArray, List.set_cons_zero, List.set_cons_succ, List.getElem_toArray, List.getElem_cons_zero, List.getElem_cons_succ]
            refine b_take (i := 22) (v := ?_) rfl (by kernel_rfl) (by kernel_rfl) (by kernel_rfl) (fun _ _ _ h => h) (by rfl) ?_ ?_
            rotate_left
            · intro W hW
              obtain ⟨s0, s1⟩ := (HX.out.below (HC.out.trans hW) hltX).c2
              obtain ⟨p0, p1⟩ := (HW1.out.below (HC.out.trans hW) hlt1).c2
              obtain ⟨k0, k1, k2⟩ := (HW2.out.below (HC.out.trans hW) hlt2).c3
              obtain ⟨m0, m1, m2, m3, m4, m5, m6, m7, m8⟩ := HC3.out _ (HB.out.trans ((HC.out.trans hW).mono hB0))
              go_simp
              first | done | rfl
            simp only [Act.put, List.setIfInBounds_toArray, List.set_cons_zero, List.set_cons_succ, List.getElem_toArray, List.getElem_cons_zero, List.getElem_cons_succ]
            refine b_one (i := 23) (by kernel_rfl) ?_
            refine one_call (i := 23) (f := 15) (args := ?_) rfl (by rfl) ?_ ?_
            rotate_left
            · go_simp
              first | done | rfl
            with_reducible refine (HM2.out _).mono ?_
            rintro e wb1 ⟨rfl, hb⟩
            refine ⟨_, rfl, hb.mono hBz, ?_⟩
            replace HC := Lib.hid (HC.out.trans (hb.mono hBz))
            replace hBz := Nat.le_trans hBz hb.size
            clear hb
            simp only [Act.put, List.setIfInBounds_toArray, List.set_cons_zero, List.set_cons_succ, List.getElem_toArray, List.getElem_cons_zero, List.getElem_cons_succ]
            refine b_take (i := 24) (v := ?_) rfl (by kernel_rfl) (by kernel_rfl) (by kernel_rfl) (fun _ _ _ h => h) (by rfl) ?_ ?_
            rotate_left
            · intro W hW
              go_simp
              first | done | rfl
            simp only [Act.put, List.setIfInBounds_toArray, List.set_cons_zero, List.set_cons_succ, List.getElem_toArray, List.getElem_cons_zero, List.getElem_cons_succ]
            refine b_take (i := 25) (v := ?_) rfl (by kernel_rfl) (by kernel_rfl) (by kernel_rfl) (fun _ _ _ h => h) (by rfl) ?_ ?_
            rotate_left
            · intro W hW
              go_simp
              first | done | rfl
            simp only [Act.put, List.setIfInBounds_toArray, List.set_cons_zero, List.set_cons_succ, List.getElem_toArray, List.getElem_cons_zero, List.getElem_cons_succ]
            refine b_done (by kernel_rfl) ?_
            replace HB := Lib.hid (HB.out.trans (HC.out.mono hB0))
            replace HX := Lib.hid (HX.out.below HC.out hltX)
            replace HW1 := Lib.hid (HW1.out.below HC.out hlt1)
            replace HW2 := Lib.hid (HW2.out.below HC.out hlt2)
            clear HC hBz
            obtain ⟨s0, s1⟩ := HX.out.c2
            obtain ⟨p0, p1⟩ := HW1.out.c2
            obtain ⟨f0, f1⟩ := HW1.out.f2
            have HW1n := Lib.hid (HW1.out.set2 (.int .i64 x1) (.int .i64 x2))
            have HW2n := Lib.hid ((HW2.out.far (p := ⟨w.heap.size, 0, none⟩) (by simp) (.int .i64 x1)).far (p := ⟨w.heap.size, 1, none⟩) (by simp) (.int .i64 x2))
            have HBn := Lib.hid (below_set2 HB.out (Nat.le_refl w.heap.size) (.int .i64 x1) (.int .i64 x2))
            clear HW1 HW2 HB HX HC3
            go_wp2_with fail
            go_roundw
            case rel => exact ⟨k + 1, x1, x2, by omega, by go_num, HON.out.2.2.2, HW1n.out, HW2n.out, HBn.out⟩
            case measure => simp [intOf]; omega
    · go_wp2_with fail
      go_ret
      exact ⟨rfl, HB.out⟩
end Go.Proofs.Ythcfaccglioikaa
