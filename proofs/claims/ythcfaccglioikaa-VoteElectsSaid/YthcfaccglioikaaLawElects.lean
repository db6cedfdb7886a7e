/-
  VoteElects: of two who ask the same voters in one term both together get no more votes than there are voters.
-/
import Derived.Test.YthcfaccglioikaaAwk
import Derived.Test.YthcfaccglioikaaFew
import Derived.Test.YthcfaccglioikaaMsg
import Derived.Test.YthcfaccglioikaaOrd
namespace Go.Proofs.Ythcfaccglioikaa
open Go.RowKit

set_option maxRecDepth 100000 in
set_option maxHeartbeats 1600000 in
theorem elects_law (w : World) (v : Value) (ls : List L) (hv : Sl w w.heap.size v ls) (ka fa oa m ia ua ca : Int) (ya : Bool) (Aa : Option Addr) (na c1a : Nat) (kb fb ob mb ib ub cb : Int) (yb : Bool) (Ab : Option Addr) (nb c1b : Nat) :
    Calls Try.prog 8 #[v, .agg (mc ka fa oa m ia ua ca ya (.slice Aa na c1a)), .agg (mc kb fb ob mb ib ub cb yb (.slice Ab nb c1b))] w fun e w' => e = .returned (.bool true) ∧ Below w.heap.size w w' := by
  obtain ⟨A, d, rfl, hc, hm⟩ := hv.form
  have hb0 : Below w.heap.size w ((w.alloc (.cells (mc ka fa oa m ia ua ca ya (.slice Aa na c1a)) 28)).alloc (.cells (mc kb fb ob mb ib ub cb yb (.slice Ab nb c1b)) 28)) :=
    ((Below.refl _ _).alloc (Nat.le_refl _) _).alloc (by simp) _
  have HB := Lib.hid hb0
  have HW1 := Lib.hid ((Whole.new w 28 (mc ka fa oa m ia ua ca ya (.slice Aa na c1a))).alloc (.cells (mc kb fb ob mb ib ub cb yb (.slice Ab nb c1b)) 28))
  have HW2 := Lib.hid (Whole.new1 w (.cells (mc ka fa oa m ia ua ca ya (.slice Aa na c1a)) 28) 28 (mc kb fb ob mb ib ub cb yb (.slice Ab nb c1b)))
  have HK := Lib.hid (fun W => awake_any W)
  have HV := Lib.hid hv
  clear hv hb0
  generalize hn : ls.length = n at *
  have HN := Lib.hid hn
  clear hn
  go_enter Try.func8, Try.ntmps8
  go_wp2_with fail
  with_reducible refine (HK.out _).mono ?_
  rintro e w1 ⟨rfl, hb⟩
  replace HB := Lib.hid (HB.out.trans (hb.mono HB.out.size))
  replace HW1 := Lib.hid (HW1.out.below hb HW1.out.lt)
  replace HW2 := Lib.hid (HW2.out.below hb HW2.out.lt)
  clear hb HK
  by_cases c2 : 16 < n
  · go_wp2_with fail
    go_ret
    exact ⟨rfl, HB.out⟩
  obtain ⟨m0, m1, m2, m3, m4, m5, m6, m7, m8⟩ := HW1.out.c9
  obtain ⟨q0, q1, q2, q3, q4, q5, q6, q7, q8⟩ := HW2.out.c9
  by_cases a1 : m = mb
  rotate_left
  · have e1 : (m != mb) = true := by simpa using a1
    go_wp2_with fail
    go_ret
    exact ⟨rfl, HB.out⟩
  have e1 : (m != mb) = false := by simpa using a1
  by_cases a2 : fa = fb
  · have e2 : (fa == fb) = true := by simpa using a2
    clear a1 a2
    go_wp2_with fail
    go_ret
    exact ⟨rfl, HB.out⟩
  have e2 : (fa == fb) = false := by simpa using a2
  have A1 := Lib.hid a1
  have A2 := Lib.hid a2
  clear a1 a2
  go_wp2_with fail
  clear m0 m1 m2 m3 m4 m5 m6 m7 m8 q0 q1 q2 q3 q4 q5 q6 q7 q8
  go_loopw [8, 9] (fun c i wr => ∃ (k q : Nat), q ≤ k ∧ k ≤ n ∧ c = .int .i64 (q : Int) ∧ i = .int .i64 (k : Int) ∧ Whole wr w.heap.size 28 (mc ka fa oa m ia ua ca ya (.slice Aa na c1a)) ∧ Whole wr (w.heap.size + 1) 28 (mc kb fb ob mb ib ub cb yb (.slice Ab nb c1b)) ∧ Below w.heap.size w wr) (fun _ i _ => n - (intOf i).toNat)
  case atStart => exact ⟨0, 0, Nat.le_refl _, Nat.zero_le _, rfl, rfl, HW1.out, HW2.out, HB.out⟩
  case round =>
    clear HW1 HW2 HB
    obtain ⟨k, q, hqk, hk, rfl, rfl, hw1, hw2, hbr⟩ := hrel
    have HW1 := Lib.hid hw1
    have HW2 := Lib.hid hw2
    have HB := Lib.hid hbr
    clear hw1 hw2 hbr
    by_cases hlt : k < n
    · have hkl : k < ls.length := by rw [HN.out]; exact hlt
      obtain ⟨b3, o3, v3, rfl, hb3, hcells, hsl⟩ := HV.out.lg k hkl
      obtain ⟨A3, d3, rfl, hc3, hm3⟩ := hsl.form
      have HC3 := Lib.hid (fun W (h : Below w.heap.size w W) => (hcells.below hb3 h).at3)
      clear hcells
      generalize ls[k] = x at *
      obtain ⟨b, t, l⟩ := x
      dsimp only at *
      have HG1 := Lib.hid (fun W (h : Below w.heap.size w W) => grant_any 0 0 b t _ l ka fa oa m ia ua ca ya Aa na c1a W w.heap.size h.size (hsl.below h))
      have HG2 := Lib.hid (fun W (h : Below w.heap.size w W) => grant_any (Vt.grant (0, 0) (Lg.last (b, t, l)) fa m ia ua).1.1 (Vt.grant (0, 0) (Lg.last (b, t, l)) fa m ia ua).1.2 b t _ l kb fb ob mb ib ub cb yb Ab nb c1b W w.heap.size h.size (hsl.below h))
      have H2 := Lib.hid (fun h => (congrArg (fun z => (Vt.grant (Vt.grant (0, 0) (Lg.last (b, t, l)) fa m ia ua).1 (Lg.last (b, t, l)) fb z ib ub).2) A1.out).symm.trans (Vt.grant_two (b := (0, 0)) (p := Lg.last (b, t, l)) (i := ia) (u := ua) (j := ib) (v := ub) A2.out h))
      have HF := Lib.hid (fun W => few_any b t A3 l.length d3 W)
      rw [show ((Vt.grant (0, 0) (Lg.last (b, t, l)) fa m ia ua).1.1, (Vt.grant (0, 0) (Lg.last (b, t, l)) fa m ia ua).1.2) = (Vt.grant (0, 0) (Lg.last (b, t, l)) fa m ia ua).1 from rfl] at HG2
      generalize Vt.grant (Vt.grant (0, 0) (Lg.last (b, t, l)) fa m ia ua).1 (Lg.last (b, t, l)) fb mb ib ub = y at *
      generalize Vt.grant (0, 0) (Lg.last (b, t, l)) fa m ia ua = x at *
      obtain ⟨⟨x1, x2⟩, x3⟩ := x
      obtain ⟨⟨y1, y2⟩, y3⟩ := y
      simp only at HG2 H2
      generalize l.length = nl at *
      have i1 : (0 : Int) ≤ (k : Int) := by omega
      have i2 : (k : Int) < (n : Int) := by omega
      clear hsl HV HN hkl
      obtain ⟨l0, l1, l2⟩ := HC3.out _ HB.out
      go_wp2_with fail
      with_reducible refine (HF.out _).mono ?_
      rintro e w6 ⟨rfl, hb⟩
      replace HB := Lib.hid (HB.out.trans (hb.mono HB.out.size))
      replace HW1 := Lib.hid (HW1.out.below hb HW1.out.lt)
      replace HW2 := Lib.hid (HW2.out.below hb HW2.out.lt)
      clear hb HF l0 l1 l2
      by_cases c1 : nl ≤ 100
      rotate_left
      · have d1 : decide (nl ≤ 100) = false := by simpa using c1
        rw [d1]
        go_wp2_with fail
        go_ret
        exact ⟨rfl, HB.out⟩
      have d1 : decide (nl ≤ 100) = true := by simpa using c1
      rw [d1]
      clear d1
      go_wp2_with fail
      refine wp_cut (J := fun a' w' => ∃ (g : Nat) (v51 v52 v53 v54 v55 v56 v57 v58 v59 v60 : Value), a' = { tmps := #[Value.slice (some { block := b3, off := o3 }) n d, Value.agg (mc ka fa oa m ia ua ca ya (Value.slice Aa na c1a)), Value.agg (mc kb fb ob mb ib ub cb yb (Value.slice Ab nb c1b)), undef, Value.pointer (some { block := w.heap.size, off := 0 }), Value.pointer (some { block := w.heap.size + 1, off := 0 }), u6, Value.bool true, Value.int IntKind.i64 (q : Int), Value.int IntKind.i64 (k : Int), Value.bool true, .pointer (some ⟨g, 0, none⟩), .bool x3, u13, u14, Value.bool true, Value.bool true, Value.bool false, Value.bool false, Value.slice (some { block := b3, off := o3 }) n d, Value.int IntKind.i64 (n : Int), Value.bool (decide (16 < (n : Int))), Value.bool (decide (16 < (n : Int))), Value.bool (decide (16 < (n : Int))), Value.pointer (some { block := w.heap.size, off := 3 }), Value.int IntKind.i64 m, Value.pointer (some { block := w.heap.size + 1, off := 3 }), Value.int IntKind.i64 mb, Value.bool false, Value.bool (decide (16 < (n : Int))), Value.bool (decide (16 < (n : Int))), Value.pointer (some { block := w.heap.size, off := 1 }), Value.int IntKind.i64 fa, Value.pointer (some { block := w.heap.size + 1, off := 1 }), Value.int IntKind.i64 fb, Value.bool false, Value.bool (decide (16 < (n : Int))), undef, Value.int IntKind.i64 (k : Int), Value.slice (some { block := b3, off := o3 }) n d, Value.int IntKind.i64 (n : Int), Value.bool true, u42, u43, Value.slice (some { block := b3, off := o3 }) n d, Value.int IntKind.i64 (k : Int), Value.pointer (some { block := b3, off := o3 + k * 3 }), Value.agg #[Value.int IntKind.i64 b, Value.int IntKind.i64 t, Value.slice A3 nl d3], Value.bool true, Value.bool true, Value.bool false, v51, v52, v53, v54, v55, v56, v57, v58, v59, v60, u61, u62, u63, u64, u65, u66, u67, u68, u69, u70, u71, u72, u73, u74, u75, u76, u77, u78, u79, u80, undef, undef, undef, undef], defers := [] } ∧ Whole w' g 23 #[.int .i64 x1, .int .i64 x2] ∧ Whole w' w.heap.size 28 (mc ka fa oa m ia ua ca ya (.slice Aa na c1a)) ∧ Whole w' (w.heap.size + 1) 28 (mc kb fb ob mb ib ub cb yb (.slice Ab nb c1b)) ∧ Below w.heap.size w w') ?_ ?_
      · have hlt1 := HW1.out.lt
        have hlt2 := HW2.out.lt
        have hB0 := HB.out.size
        refine b_start (w6).heap.size (by kernel_rfl) ?_
        have hBz : (w6).heap.size ≤ (w6).drew.heap.size := Nat.le_refl _
        replace HW1 := Lib.hid (show Whole (w6).drew _ _ _ from HW1.out)
        replace HW2 := Lib.hid (show Whole (w6).drew _ _ _ from HW2.out)
        replace HB := Lib.hid (HB.out.drew)
        have HC := Lib.hid (Below.refl (w6).heap.size (w6).drew)
        generalize w6.drew = w7 at *
        refine b_take (i := 0) (v := ?_) rfl (by kernel_rfl) (by kernel_rfl) (by kernel_rfl) (fun _ _ _ h => h) (by rfl) ?_ ?_
        rotate_left
        · intro W hW
          go_simp
          first | done | rfl
        simp only [Act.put, List.setIfInBounds_toArray, List.set_cons_zero, List.set_cons_succ, List.getElem_toArray, List.getElem_cons_zero, List.getElem_cons_succ]
        refine b_take (i := 1) (v := ?_) rfl (by kernel_rfl) (by kernel_rfl) (by kernel_rfl) (fun _ _ _ h => h) (by rfl) ?_ ?_
        rotate_left
        · intro W hW
          go_simp
          first | done | rfl
        simp only [Act.put, List.setIfInBounds_toArray, List.set_cons_zero, List.set_cons_succ, List.getElem_toArray, List.getElem_cons_zero, List.getElem_cons_succ]
        refine b_take (i := 2) (v := ?_) rfl (by kernel_rfl) (by kernel_rfl) (by kernel_rfl) (fun _ _ _ h => h) (by rfl) ?_ ?_
        rotate_left
        · intro W hW
          go_simp
          first | done | rfl
        simp only [Act.put, List.setIfInBounds_toArray, List.set_cons_zero, List.set_cons_succ, List.getElem_toArray, List.getElem_cons_zero, List.getElem_cons_succ]
        refine b_take (i := 3) (v := ?_) rfl (by kernel_rfl) (by kernel_rfl) (by kernel_rfl) (fun _ _ _ h => h) (by rfl) ?_ ?_
        rotate_left
        · intro W hW
          go_simp
          first | done | rfl
        simp only [Act.put, List.setIfInBounds_toArray, List.set_cons_zero, List.set_cons_succ, List.getElem_toArray, List.getElem_cons_zero, List.getElem_cons_succ]
        refine b_take (i := 4) (v := ?_) rfl (by kernel_rfl) (by kernel_rfl) (by kernel_rfl) (fun _ _ _ h => h) (by rfl) ?_ ?_
        rotate_left
        · intro W hW
          obtain ⟨l0, l1, l2⟩ := HC3.out _ (HB.out.trans ((HC.out.trans hW).mono hB0))
          go_simp
          first | done | rfl
        simp only [Act.put, List.setIfInBounds_toArray, List.set_cons_zero, List.set_cons_succ, List.getElem_toArray, List.getElem_cons_zero, List.getElem_cons_succ]
        refine b_take (i := 5) (v := ?_) rfl (by kernel_rfl) (by kernel_rfl) (by kernel_rfl) (fun _ _ _ h => h) (by rfl) ?_ ?_
        rotate_left
        · intro W hW
          obtain ⟨m0, m1, m2, m3, m4, m5, m6, m7, m8⟩ := (HW1.out.below (HC.out.trans hW) hlt1).c9
          obtain ⟨q0, q1, q2, q3, q4, q5, q6, q7, q8⟩ := (HW2.out.below (HC.out.trans hW) hlt2).c9
          go_simp
          first | done | rfl
        simp only [Act.put, List.setIfInBounds_toArray, List.set_cons_zero, List.set_cons_succ, List.getElem_toArray, List.getElem_cons_zero, List.getElem_cons_succ]
        refine b_two (i := 6) (j := 10) (by kernel_rfl) ?_ ?_
        · refine one_call (i := 6) (f := 11) (args := ?_) rfl (by rfl) ?_ ?_
          rotate_left
          · go_simp
            first | done | rfl
          with_reducible refine (HG1.out _ (HB.out.trans (HC.out.mono hB0))).mono ?_
          rintro e wa1 ⟨rfl, hb⟩
          refine ⟨_, rfl, hb.mono hBz, ?_⟩
          replace HC := Lib.hid (HC.out.trans (hb.mono hBz))
          replace hBz := Nat.le_trans hBz hb.size
          clear hb
          simp only [Act.put, List.setIfInBounds_toArray, List.set_cons_zero, List.set_cons_succ, List.getElem_toArray, List.getElem_cons_zero, List.getElem_cons_succ]
          refine b_take (i := 7) (v := ?_) rfl (by kernel_rfl) (by kernel_rfl) (by kernel_rfl) (fun _ _ _ h => h) (by rfl) ?_ ?_
          rotate_left
          · intro W hW
            go_simp
            first | done | rfl
          simp only [Act.put, List.setIfInBounds_toArray, List.set_cons_zero, List.set_cons_succ, List.getElem_toArray, List.getElem_cons_zero, List.getElem_cons_succ]
          refine b_take (i := 8) (v := ?_) rfl (by kernel_rfl) (by kernel_rfl) (by kernel_rfl) (fun _ _ _ h => h) (by rfl) ?_ ?_
          rotate_left
          · intro W hW
            go_simp
            first | done | rfl
          simp only [Act.put, List.setIfInBounds_toArray, List.set_cons_zero, List.set_cons_succ, List.getElem_toArray, List.getElem_cons_zero, List.getElem_cons_succ]
          refine b_take (i := 9) (v := ?_) rfl (by kernel_rfl) (by kernel_rfl) (by kernel_rfl) (fun _ _ _ h => h) (by rfl) ?_ ?_
          rotate_left
          · intro W hW
            go_simp
            first | done | rfl
          simp only [Act.put, List.setIfInBounds_toArray, List.set_cons_zero, List.set_cons_succ, List.getElem_toArray, List.getElem_cons_zero, List.getElem_cons_succ]
          refine b_one (i := 10) (by kernel_rfl) ?_
          refine one_run (i := 10) (v := ?_) (w' := ?_) rfl (by rfl) ?_ ?_ ?_
          rotate_left 2
          · go_simp
            first | done | (constructor <;> rfl)
          · exact (Below.refl _ _).alloc hBz _
          simp only [Act.put, List.setIfInBounds_toArray, List.set_cons_zero, List.set_cons_succ, List.getElem_toArray, List.getElem_cons_zero, List.getElem_cons_succ]
          have HX := Lib.hid (Whole.new (wa1) 23 #[.int .i64 0, .int .i64 0])
          have hgHX := hBz
          replace HC := Lib.hid (HC.out.alloc hBz (.cells #[.int .i64 0, .int .i64 0] 23))
          replace hBz := Nat.le_trans hBz ((Below.refl _ _).alloc (Nat.le_refl _) (.cells #[.int .i64 0, .int .i64 0] 23) : Below (wa1).heap.size (wa1) _).size
          generalize (wa1).alloc (.cells #[.int .i64 0, .int .i64 0] 23) = wa2 at *
          refine b_one (i := 11) (by kernel_rfl) ?_
          obtain ⟨kc0, kc1⟩ := HX.out.c2
          obtain ⟨fc0, fc1⟩ := HX.out.f2
          refine one_skip (i := 11) (w' := ?_) rfl (by rfl) ?_ ?_ ?_
          rotate_left 1
          · go_simp
            first | done | rfl
          · exact below_set2 (Below.refl _ _) hgHX _ _
          simp only [Act.put, List.setIfInBounds_toArray, List.set_cons_zero, List.set_cons_succ, List.getElem_toArray, List.getElem_cons_zero, List.getElem_cons_succ]
          clear kc0 fc0 kc1 fc1
          replace HX := Lib.hid (HX.out.set2 (.int .i64 x1) (.int .i64 x2))
          replace HC := Lib.hid (below_set2 HC.out hgHX (.int .i64 x1) (.int .i64 x2))
          replace hBz := Nat.le_trans hBz (below_set2 (Below.refl _ _) hgHX (.int .i64 x1) (.int .i64 x2)).size
          generalize ((wa2).setCell ⟨(wa1).heap.size, 0, none⟩ (.int .i64 x1)).setCell ⟨(wa1).heap.size, 1, none⟩ (.int .i64 x2) = wa3 at *
          refine b_take (i := 12) (v := ?_) rfl (by kernel_rfl) (by kernel_rfl) (by kernel_rfl) (fun _ _ _ h => h) (by rfl) ?_ ?_
          rotate_left
          · intro W hW
            go_simp
            first | done | rfl
          simp only [Act.put, List.setIfInBounds_toArray, List.set_cons_zero, List.set_cons_succ, List.getElem_toArray, List.getElem_cons_zero, List.getElem_cons_succ]
          refine b_done (by kernel_rfl) ?_
          exact ⟨(wa1).heap.size, _, _, _, _, _, _, _, _, _, _, rfl, HX.out, HW1.out.below HC.out hlt1, HW2.out.below HC.out hlt2, (HB.out.trans (HC.out.mono hB0))⟩
        · refine one_run (i := 10) (v := ?_) (w' := ?_) rfl (by rfl) ?_ ?_ ?_
          rotate_left 2
          · go_simp
            first | done | (constructor <;> rfl)
          · exact (Below.refl _ _).alloc hBz _
          simp only [Act.put, List.setIfInBounds_toArray, List.set_cons_zero, List.set_cons_succ, List.getElem_toArray, List.getElem_cons_zero, List.getElem_cons_succ]
          have HX := Lib.hid (Whole.new (w7) 23 #[.int .i64 0, .int .i64 0])
          have hgHX := hBz
          replace HC := Lib.hid (HC.out.alloc hBz (.cells #[.int .i64 0, .int .i64 0] 23))
          replace hBz := Nat.le_trans hBz ((Below.refl _ _).alloc (Nat.le_refl _) (.cells #[.int .i64 0, .int .i64 0] 23) : Below (w7).heap.size (w7) _).size
          generalize (w7).alloc (.cells #[.int .i64 0, .int .i64 0] 23) = wa4 at *
          refine b_one (i := 6) (by kernel_rfl) ?_
          refine one_call (i := 6) (f := 11) (args := ?_) rfl (by rfl) ?_ ?_
          rotate_left
          · go_simp
            first | done | rfl
          with_reducible refine (HG1.out _ (HB.out.trans (HC.out.mono hB0))).mono ?_
          rintro e wa5 ⟨rfl, hb⟩
          refine ⟨_, rfl, hb.mono hBz, ?_⟩
          replace HC := Lib.hid (HC.out.trans (hb.mono hBz))
          replace hBz := Nat.le_trans hBz hb.size
          replace HX := Lib.hid (HX.out.below hb HX.out.lt)
          clear hb
          simp only [Act.put, List.setIfInBounds_toArray, List.set_cons_zero, List.set_cons_succ, List.getElem_toArray, List.getElem_cons_zero, List.getElem_cons_succ]
          refine b_take (i := 7) (v := ?_) rfl (by kernel_rfl) (by kernel_rfl) (by kernel_rfl) (fun _ _ _ h => h) (by rfl) ?_ ?_
          rotate_left
          · intro W hW
            go_simp
            first | done | rfl
          simp only [Act.put, List.setIfInBounds_toArray, List.set_cons_zero, List.set_cons_succ, List.getElem_toArray, List.getElem_cons_zero, List.getElem_cons_succ]
          refine b_take (i := 8) (v := ?_) rfl (by kernel_rfl) (by kernel_rfl) (by kernel_rfl) (fun _ _ _ h => h) (by rfl) ?_ ?_
          rotate_left
          · intro W hW
            go_simp
            first | done | rfl
          simp only [Act.put, List.setIfInBounds_toArray, List.set_cons_zero, List.set_cons_succ, List.getElem_toArray, List.getElem_cons_zero, List.getElem_cons_succ]
          refine b_take (i := 9) (v := ?_) rfl (by kernel_rfl) (by kernel_rfl) (by kernel_rfl) (fun _ _ _ h => h) (by rfl) ?_ ?_
          rotate_left
          · intro W hW
            go_simp
            first | done | rfl
          simp only [Act.put, List.setIfInBounds_toArray, List.set_cons_zero, List.set_cons_succ, List.getElem_toArray, List.getElem_cons_zero, List.getElem_cons_succ]
          refine b_one (i := 11) (by kernel_rfl) ?_
          obtain ⟨kc0, kc1⟩ := HX.out.c2
          obtain ⟨fc0, fc1⟩ := HX.out.f2
          refine one_skip (i := 11) (w' := ?_) rfl (by rfl) ?_ ?_ ?_
          rotate_left 1
          · go_simp
            first | done | rfl
          · exact below_set2 (Below.refl _ _) hgHX _ _
          simp only [Act.put, List.setIfInBounds_toArray, List.set_cons_zero, List.set_cons_succ, List.getElem_toArray, List.getElem_cons_zero, List.getElem_cons_succ]
          clear kc0 fc0 kc1 fc1
          replace HX := Lib.hid (HX.out.set2 (.int .i64 x1) (.int .i64 x2))
          replace HC := Lib.hid (below_set2 HC.out hgHX (.int .i64 x1) (.int .i64 x2))
          replace hBz := Nat.le_trans hBz (below_set2 (Below.refl _ _) hgHX (.int .i64 x1) (.int .i64 x2)).size
          generalize ((wa5).setCell ⟨(w7).heap.size, 0, none⟩ (.int .i64 x1)).setCell ⟨(w7).heap.size, 1, none⟩ (.int .i64 x2) = wa6 at *
          refine b_take (i := 12) (v := ?_) rfl (by kernel_rfl) (by kernel_rfl) (by kernel_rfl) (fun _ _ _ h => h) (by rfl) ?_ ?_
          rotate_left
          · intro W hW
            go_simp
            first | done | rfl
          simp only [Act.put, List.setIfInBounds_toArray, List.set_cons_zero, List.set_cons_succ, List.getElem_toArray, List.getElem_cons_zero, List.getElem_cons_succ]
          refine b_done (by kernel_rfl) ?_
          exact ⟨(w7).heap.size, _, _, _, _, _, _, _, _, _, _, rfl, HX.out, HW1.out.below HC.out hlt1, HW2.out.below HC.out hlt2, (HB.out.trans (HC.out.mono hB0))⟩
      rintro a w8 ⟨g, v51, v52, v53, v54, v55, v56, v57, v58, v59, v60, rfl, hx, h1, h2, hb5⟩
      have HX := Lib.hid hx
      replace HW1 := Lib.hid h1
      replace HW2 := Lib.hid h2
      replace HB := Lib.hid hb5
      clear hx h1 h2 hb5 HG1
      go_wp2_with fail
      refine wp_cut (J := fun a' w' => ∃ (g2 : Nat) (v61 v62 v63 v64 v65 v66 v67 v68 v69 v70 : Value), a' = { tmps := #[Value.slice (some { block := b3, off := o3 }) n d, Value.agg (mc ka fa oa m ia ua ca ya (Value.slice Aa na c1a)), Value.agg (mc kb fb ob mb ib ub cb yb (Value.slice Ab nb c1b)), undef, Value.pointer (some { block := w.heap.size, off := 0 }), Value.pointer (some { block := w.heap.size + 1, off := 0 }), u6, Value.bool true, Value.int IntKind.i64 (q : Int), Value.int IntKind.i64 (k : Int), Value.bool true, .pointer (some ⟨g, 0, none⟩), .bool x3, .pointer (some ⟨g2, 0, none⟩), .bool y3, Value.bool true, Value.bool true, Value.bool false, Value.bool false, Value.slice (some { block := b3, off := o3 }) n d, Value.int IntKind.i64 (n : Int), Value.bool (decide (16 < (n : Int))), Value.bool (decide (16 < (n : Int))), Value.bool (decide (16 < (n : Int))), Value.pointer (some { block := w.heap.size, off := 3 }), Value.int IntKind.i64 m, Value.pointer (some { block := w.heap.size + 1, off := 3 }), Value.int IntKind.i64 mb, Value.bool false, Value.bool (decide (16 < (n : Int))), Value.bool (decide (16 < (n : Int))), Value.pointer (some { block := w.heap.size, off := 1 }), Value.int IntKind.i64 fa, Value.pointer (some { block := w.heap.size + 1, off := 1 }), Value.int IntKind.i64 fb, Value.bool false, Value.bool (decide (16 < (n : Int))), undef, Value.int IntKind.i64 (k : Int), Value.slice (some { block := b3, off := o3 }) n d, Value.int IntKind.i64 (n : Int), Value.bool true, u42, u43, Value.slice (some { block := b3, off := o3 }) n d, Value.int IntKind.i64 (k : Int), Value.pointer (some { block := b3, off := o3 + k * 3 }), Value.agg #[Value.int IntKind.i64 b, Value.int IntKind.i64 t, Value.slice A3 nl d3], Value.bool true, Value.bool true, Value.bool false, v51, v52, v53, v54, v55, v56, v57, v58, v59, v60, v61, v62, v63, v64, v65, v66, v67, v68, v69, v70, u71, u72, u73, u74, u75, u76, u77, u78, u79, u80, undef, undef, undef, undef], defers := [] } ∧ Whole w' w.heap.size 28 (mc ka fa oa m ia ua ca ya (.slice Aa na c1a)) ∧ Whole w' (w.heap.size + 1) 28 (mc kb fb ob mb ib ub cb yb (.slice Ab nb c1b)) ∧ Below w.heap.size w w') ?_ ?_
      · have hlt1 := HW1.out.lt
        have hlt2 := HW2.out.lt
        have hltX := HX.out.lt
        have hB0 := HB.out.size
        refine b_start (w8).heap.size (by kernel_rfl) ?_
        have hBz : (w8).heap.size ≤ (w8).drew.heap.size := Nat.le_refl _
        replace HW1 := Lib.hid (show Whole (w8).drew _ _ _ from HW1.out)
        replace HW2 := Lib.hid (show Whole (w8).drew _ _ _ from HW2.out)
        replace HX := Lib.hid (show Whole (w8).drew _ _ _ from HX.out)
        replace HB := Lib.hid (HB.out.drew)
        have HC := Lib.hid (Below.refl (w8).heap.size (w8).drew)
        generalize w8.drew = w9 at *
        refine b_take (i := 0) (v := ?_) rfl (by kernel_rfl) (by kernel_rfl) (by kernel_rfl) (fun _ _ _ h => h) (by rfl) ?_ ?_
        rotate_left
        · intro W hW
          obtain ⟨m0, m1, m2, m3, m4, m5, m6, m7, m8⟩ := (HW1.out.below (HC.out.trans hW) hlt1).c9
          obtain ⟨q0, q1, q2, q3, q4, q5, q6, q7, q8⟩ := (HW2.out.below (HC.out.trans hW) hlt2).c9
          obtain ⟨s0, s1⟩ := (HX.out.below (HC.out.trans hW) hltX).c2
          go_simp
          first | done | rfl
        simp only [Act.put, List.setIfInBounds_toArray, List.set_cons_zero, List.set_cons_succ, List.getElem_toArray, List.getElem_cons_zero, List.getElem_cons_succ]
        refine b_take (i := 1) (v := ?_) rfl (by kernel_rfl) (by kernel_rfl) (by kernel_rfl) (fun _ _ _ h => h) (by rfl) ?_ ?_
        rotate_left
        · intro W hW
          go_simp
          first | done | rfl
        simp only [Act.put, List.setIfInBounds_toArray, List.set_cons_zero, List.set_cons_succ, List.getElem_toArray, List.getElem_cons_zero, List.getElem_cons_succ]
        refine b_take (i := 2) (v := ?_) rfl (by kernel_rfl) (by kernel_rfl) (by kernel_rfl) (fun _ _ _ h => h) (by rfl) ?_ ?_
        rotate_left
        · intro W hW
          go_simp
          first | done | rfl
        simp only [Act.put, List.setIfInBounds_toArray, List.set_cons_zero, List.set_cons_succ, List.getElem_toArray, List.getElem_cons_zero, List.getElem_cons_succ]
        refine b_take (i := 3) (v := ?_) rfl (by kernel_rfl) (by kernel_rfl) (by kernel_rfl) (fun _ _ _ h => h) (by rfl) ?_ ?_
        rotate_left
        · intro W hW
          go_simp
          first | done | rfl
        simp only [Act.put, List.setIfInBounds_toArray, List.set_cons_zero, List.set_cons_succ, List.getElem_toArray, List.getElem_cons_zero, List.getElem_cons_succ]
        refine b_take (i := 4) (v := ?_) rfl (by kernel_rfl) (by kernel_rfl) (by kernel_rfl) (fun _ _ _ h => h) (by rfl) ?_ ?_
        rotate_left
        · intro W hW
          obtain ⟨l0, l1, l2⟩ := HC3.out _ (HB.out.trans ((HC.out.trans hW).mono hB0))
          go_simp
          first | done | rfl
        simp only [Act.put, List.setIfInBounds_toArray, List.set_cons_zero, List.set_cons_succ, List.getElem_toArray, List.getElem_cons_zero, List.getElem_cons_succ]
        refine b_take (i := 5) (v := ?_) rfl (by kernel_rfl) (by kernel_rfl) (by kernel_rfl) (fun _ _ _ h => h) (by rfl) ?_ ?_
        rotate_left
        · intro W hW
          obtain ⟨m0, m1, m2, m3, m4, m5, m6, m7, m8⟩ := (HW1.out.below (HC.out.trans hW) hlt1).c9
          obtain ⟨q0, q1, q2, q3, q4, q5, q6, q7, q8⟩ := (HW2.out.below (HC.out.trans hW) hlt2).c9
          obtain ⟨s0, s1⟩ := (HX.out.below (HC.out.trans hW) hltX).c2
          go_simp
          first | done | rfl
        simp only [Act.put, List.setIfInBounds_toArray, List.set_cons_zero, List.set_cons_succ, List.getElem_toArray, List.getElem_cons_zero, List.getElem_cons_succ]
        refine b_two (i := 6) (j := 10) (by kernel_rfl) ?_ ?_
        · refine one_call (i := 6) (f := 11) (args := ?_) rfl (by rfl) ?_ ?_
          rotate_left
          · go_simp
            first | done | rfl
          with_reducible refine (HG2.out _ (HB.out.trans (HC.out.mono hB0))).mono ?_
          rintro e wb1 ⟨rfl, hb⟩
          refine ⟨_, rfl, hb.mono hBz, ?_⟩
          replace HC := Lib.hid (HC.out.trans (hb.mono hBz))
          replace hBz := Nat.le_trans hBz hb.size
          clear hb
          simp only [Act.put, List.setIfInBounds_toArray, List.set_cons_zero, List.set_cons_succ, List.getElem_toArray, List.getElem_cons_zero, List.getElem_cons_succ]
          refine b_take (i := 7) (v := ?_) rfl (by kernel_rfl) (by kernel_rfl) (by kernel_rfl) (fun _ _ _ h => h) (by rfl) ?_ ?_
          rotate_left
          · intro W hW
            go_simp
            first | done | rfl
          simp only [Act.put, List.setIfInBounds_toArray, List.set_cons_zero, List.set_cons_succ, List.getElem_toArray, List.getElem_cons_zero, List.getElem_cons_succ]
          refine b_take (i := 8) (v := ?_) rfl (by kernel_rfl) (by kernel_rfl) (by kernel_rfl) (fun _ _ _ h => h) (by rfl) ?_ ?_
          rotate_left
          · intro W hW
            go_simp
            first | done | rfl
          simp only [Act.put, List.setIfInBounds_toArray, List.set_cons_zero, List.set_cons_succ, List.getElem_toArray, List.getElem_cons_zero, List.getElem_cons_succ]
          refine b_take (i := 9) (v := ?_) rfl (by kernel_rfl) (by kernel_rfl) (by kernel_rfl) (fun _ _ _ h => h) (by rfl) ?_ ?_
          rotate_left
          · intro W hW
            go_simp
            first | done | rfl
          simp only [Act.put, List.setIfInBounds_toArray, List.set_cons_zero, List.set_cons_succ, List.getElem_toArray, List.getElem_cons_zero, List.getElem_cons_succ]
          refine b_one (i := 10) (by kernel_rfl) ?_
          refine one_run (i := 10) (v := ?_) (w' := ?_) rfl (by rfl) ?_ ?_ ?_
          rotate_left 2
          · go_simp
            first | done | (constructor <;> rfl)
          · exact (Below.refl _ _).alloc hBz _
          simp only [Act.put, List.setIfInBounds_toArray, List.set_cons_zero, List.set_cons_succ, List.getElem_toArray, List.getElem_cons_zero, List.getElem_cons_succ]
          have HY := Lib.hid (Whole.new (wb1) 23 #[.int .i64 0, .int .i64 0])
          have hgHY := hBz
          replace HC := Lib.hid (HC.out.alloc hBz (.cells #[.int .i64 0, .int .i64 0] 23))
          replace hBz := Nat.le_trans hBz ((Below.refl _ _).alloc (Nat.le_refl _) (.cells #[.int .i64 0, .int .i64 0] 23) : Below (wb1).heap.size (wb1) _).size
          generalize (wb1).alloc (.cells #[.int .i64 0, .int .i64 0] 23) = wb2 at *
          refine b_one (i := 11) (by kernel_rfl) ?_
          obtain ⟨kc0, kc1⟩ := HY.out.c2
          obtain ⟨fc0, fc1⟩ := HY.out.f2
          refine one_skip (i := 11) (w' := ?_) rfl (by rfl) ?_ ?_ ?_
          rotate_left 1
          · go_simp
            first | done | rfl
          · exact below_set2 (Below.refl _ _) hgHY _ _
          simp only [Act.put, List.setIfInBounds_toArray, List.set_cons_zero, List.set_cons_succ, List.getElem_toArray, List.getElem_cons_zero, List.getElem_cons_succ]
          clear kc0 fc0 kc1 fc1
          replace HY := Lib.hid (HY.out.set2 (.int .i64 y1) (.int .i64 y2))
          replace HC := Lib.hid (below_set2 HC.out hgHY (.int .i64 y1) (.int .i64 y2))
          replace hBz := Nat.le_trans hBz (below_set2 (Below.refl _ _) hgHY (.int .i64 y1) (.int .i64 y2)).size
          generalize ((wb2).setCell ⟨(wb1).heap.size, 0, none⟩ (.int .i64 y1)).setCell ⟨(wb1).heap.size, 1, none⟩ (.int .i64 y2) = wb3 at *
          refine b_take (i := 12) (v := ?_) rfl (by kernel_rfl) (by kernel_rfl) (by kernel_rfl) (fun _ _ _ h => h) (by rfl) ?_ ?_
          rotate_left
          · intro W hW
            go_simp
            first | done | rfl
          simp only [Act.put, List.setIfInBounds_toArray, List.set_cons_zero, List.set_cons_succ, List.getElem_toArray, List.getElem_cons_zero, List.getElem_cons_succ]
          refine b_done (by kernel_rfl) ?_
          exact ⟨(wb1).heap.size, _, _, _, _, _, _, _, _, _, _, rfl, HW1.out.below HC.out hlt1, HW2.out.below HC.out hlt2, (HB.out.trans (HC.out.mono hB0))⟩
        · refine one_run (i := 10) (v := ?_) (w' := ?_) rfl (by rfl) ?_ ?_ ?_
          rotate_left 2
          · go_simp
            first | done | (constructor <;> rfl)
          · exact (Below.refl _ _).alloc hBz _
          simp only [Act.put, List.setIfInBounds_toArray, List.set_cons_zero, List.set_cons_succ, List.getElem_toArray, List.getElem_cons_zero, List.getElem_cons_succ]
          have HY := Lib.hid (Whole.new (w9) 23 #[.int .i64 0, .int .i64 0])
          have hgHY := hBz
          replace HC := Lib.hid (HC.out.alloc hBz (.cells #[.int .i64 0, .int .i64 0] 23))
          replace hBz := Nat.le_trans hBz ((Below.refl _ _).alloc (Nat.le_refl _) (.cells #[.int .i64 0, .int .i64 0] 23) : Below (w9).heap.size (w9) _).size
          generalize (w9).alloc (.cells #[.int .i64 0, .int .i64 0] 23) = wb4 at *
          refine b_one (i := 6) (by kernel_rfl) ?_
          refine one_call (i := 6) (f := 11) (args := ?_) rfl (by rfl) ?_ ?_
          rotate_left
          · go_simp
            first | done | rfl
          with_reducible refine (HG2.out _ (HB.out.trans (HC.out.mono hB0))).mono ?_
          rintro e wb5 ⟨rfl, hb⟩
          refine ⟨_, rfl, hb.mono hBz, ?_⟩
          replace HC := Lib.hid (HC.out.trans (hb.mono hBz))
          replace hBz := Nat.le_trans hBz hb.size
          replace HY := Lib.hid (HY.out.below hb HY.out.lt)
          clear hb
          simp only [Act.put, List.setIfInBounds_toArray, List.set_cons_zero, List.set_cons_succ, List.getElem_toArray, List.getElem_cons_zero, List.getElem_cons_succ]
          refine b_take (i := 7) (v := ?_) rfl (by kernel_rfl) (by kernel_rfl) (by kernel_rfl) (fun _ _ _ h => h) (by rfl) ?_ ?_
          rotate_left
          · intro W hW
            go_simp
            first | done | rfl
          simp only [Act.put, List.setIfInBounds_toArray, List.set_cons_zero, List.set_cons_succ, List.getElem_toArray, List.getElem_cons_zero, List.getElem_cons_succ]
          refine b_take (i := 8) (v := ?_) rfl (by kernel_rfl) (by kernel_rfl) (by kernel_rfl) (fun _ _ _ h => h) (by rfl) ?_ ?_
          rotate_left
          · intro W hW
            go_simp
            first | done | rfl
          simp only [Act.put, List.setIfInBounds_toArray, List.set_cons_zero, List.set_cons_succ, List.getElem_toArray, List.getElem_cons_zero, List.getElem_cons_succ]
          refine b_take (i := 9) (v := ?_) rfl (by kernel_rfl) (by kernel_rfl) (by kernel_rfl) (fun _ _ _ h => h) (by rfl) ?_ ?_
          rotate_left
          · intro W hW
            go_simp
            first | done | rfl
          simp only [Act.put, List.setIfInBounds_toArray, List.set_cons_zero, List.set_cons_succ, List.getElem_toArray, List.getElem_cons_zero, List.getElem_cons_succ]
          refine b_one (i := 11) (by kernel_rfl) ?_
          obtain ⟨kc0, kc1⟩ := HY.out.c2
          obtain ⟨fc0, fc1⟩ := HY.out.f2
          refine one_skip (i := 11) (w' := ?_) rfl (by rfl) ?_ ?_ ?_
          rotate_left 1
          · go_simp
            first | done | rfl
          · exact below_set2 (Below.refl _ _) hgHY _ _
          simp only [Act.put, List.setIfInBounds_toArray, List.set_cons_zero, List.set_cons_succ, List.getElem_toArray, List.getElem_cons_zero, List.getElem_cons_succ]
          clear kc0 fc0 kc1 fc1
          replace HY := Lib.hid (HY.out.set2 (.int .i64 y1) (.int .i64 y2))
          replace HC := Lib.hid (below_set2 HC.out hgHY (.int .i64 y1) (.int .i64 y2))
          replace hBz := Nat.le_trans hBz (below_set2 (Below.refl _ _) hgHY (.int .i64 y1) (.int .i64 y2)).size
          generalize ((wb5).setCell ⟨(w9).heap.size, 0, none⟩ (.int .i64 y1)).setCell ⟨(w9).heap.size, 1, none⟩ (.int .i64 y2) = wb6 at *
          refine b_take (i := 12) (v := ?_) rfl (by kernel_rfl) (by kernel_rfl) (by kernel_rfl) (fun _ _ _ h => h) (by rfl) ?_ ?_
          rotate_left
          · intro W hW
            go_simp
            first | done | rfl
          simp only [Act.put, List.setIfInBounds_toArray, List.set_cons_zero, List.set_cons_succ, List.getElem_toArray, List.getElem_cons_zero, List.getElem_cons_succ]
          refine b_done (by kernel_rfl) ?_
          exact ⟨(w9).heap.size, _, _, _, _, _, _, _, _, _, _, rfl, HW1.out.below HC.out hlt1, HW2.out.below HC.out hlt2, (HB.out.trans (HC.out.mono hB0))⟩
      rintro a w10 ⟨g2, v61, v62, v63, v64, v65, v66, v67, v68, v69, v70, rfl, h1, h2, hb5⟩
      replace HW1 := Lib.hid h1
      replace HW2 := Lib.hid h2
      replace HB := Lib.hid hb5
      clear h1 h2 hb5 HG2 HX HC3
      rcases x3 with _ | _
      · rcases y3 with _ | _
        · go_wp2_with fail
          go_roundw
          case rel => exact ⟨k + 1, q, by omega, by omega, by go_num, by go_num, HW1.out, HW2.out, HB.out⟩
          case measure => simp [intOf]; omega
        · go_wp2_with fail
          go_roundw
          case rel => exact ⟨k + 1, q + 1, by omega, by omega, by go_num, by go_num, HW1.out, HW2.out, HB.out⟩
          case measure => simp [intOf]; omega
      · have hy := H2.out rfl
        subst hy
        go_wp2_with fail
        go_roundw
        case rel => exact ⟨k + 1, q + 1, by omega, by omega, by go_num, by go_num, HW1.out, HW2.out, HB.out⟩
        case measure => simp [intOf]; omega
    · go_wp2_with fail
      go_ret
      exact ⟨ret_bool (by simp; omega), HB.out⟩
end Go.Proofs.Ythcfaccglioikaa
