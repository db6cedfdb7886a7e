/-
  What Grant answers.
-/
import Derived.Test.YthcfaccglioikaaSee
import Derived.Test.YthcfaccglioikaaLast
import Derived.Test.YthcfaccglioikaaNewer
import Derived.Test.YthcfaccglioikaaGoto
namespace Go.Proofs.Ythcfaccglioikaa
open Go.RowKit

def GrantOut (w : World) (r : Vt.B × Bool) (e : Ending) (w' : World) : Prop := e = .returned (.tuple #[bv r.1.1 r.1.2, .bool r.2]) ∧ Below w.heap.size w w'

set_option maxRecDepth 100000 in
theorem grant_any (T V : Int) (b t : Int) (v : Value) (l : List E) (k f o m i u c : Int) (y : Bool) (A2 : Option Addr) (n2 c2 : Nat) (w : World) (B : Nat) (hB : B ≤ w.heap.size) (hv : Sl w B v l) :
    Calls Try.prog 11 #[bv T V, lv b t v, .agg (mc k f o m i u c y (.slice A2 n2 c2))] w (GrantOut w (Vt.grant (T, V) (Lg.last (b, t, l)) f m i u)) := by
  obtain ⟨A, d, rfl, hc, hm⟩ := hv.form
  unfold maxLen at hm
  have hb0 : Below w.heap.size w ((((w.alloc (.cells #[.int .i64 T, .int .i64 V] 23)).alloc (.cells #[.int .i64 b, .int .i64 t, .slice A l.length d] 26)).alloc (.cells (mc k f o m i u c y (.slice A2 n2 c2)) 28)).alloc (.cells #[.int .i64 0, .int .i64 0] 23)) :=
    ((((Below.refl _ _).alloc (Nat.le_refl _) _).alloc (by simp) _).alloc (by simp only [World.size_alloc]; omega) _).alloc (by simp only [World.size_alloc]; omega) _
  have HB := Lib.hid hb0
  have HL := Lib.hid (fun W (h : Below w.heap.size w W) => last_any b t _ l W B (Nat.le_trans hB h.size) (hv.below (h.mono hB)))
  have HW2 := Lib.hid (((Whole.new1 w (.cells #[.int .i64 T, .int .i64 V] 23) 26 #[.int .i64 b, .int .i64 t, .slice A l.length d]).alloc (.cells (mc k f o m i u c y (.slice A2 n2 c2)) 28)).alloc (.cells #[.int .i64 0, .int .i64 0] 23))
  have HW3 := Lib.hid ((Whole.new1 (w.alloc (.cells #[.int .i64 T, .int .i64 V] 23)) (.cells #[.int .i64 b, .int .i64 t, .slice A l.length d] 26) 28 (mc k f o m i u c y (.slice A2 n2 c2))).alloc (.cells #[.int .i64 0, .int .i64 0] 23))
  have HW4 := Lib.hid (Whole.new1 ((w.alloc (.cells #[.int .i64 T, .int .i64 V] 23)).alloc (.cells #[.int .i64 b, .int .i64 t, .slice A l.length d] 26)) (.cells (mc k f o m i u c y (.slice A2 n2 c2)) 28) 23 #[.int .i64 0, .int .i64 0])
  simp only [World.size_alloc] at HW3 HW4
  have HS := Lib.hid (fun W => see_any T V m W)
  have hyes := Lib.hid (@Vt.grant_yes (T, V) (Lg.last (b, t, l)) f m i u _ rfl)
  have hno := Lib.hid (@Vt.grant_no (T, V) (Lg.last (b, t, l)) f m i u _ rfl)
  have HN := Lib.hid (fun W => newer_any i u (Lg.last (b, t, l)).1 (Lg.last (b, t, l)).2 W)
  clear hv hb0
  generalize Vt.grant (T, V) (Lg.last (b, t, l)) f m i u = r at *
  generalize Vt.see (T, V) m = x at *
  obtain ⟨x1, x2⟩ := x
  unfold Vt.gives at hyes hno
  generalize Lg.newer i u (Lg.last (b, t, l)).1 (Lg.last (b, t, l)).2 = nw at *
  generalize Lg.last (b, t, l) = p at *
  obtain ⟨p1, p2⟩ := p
  generalize l.length = n at *
  simp only at hyes hno HN HS HL
  have hs0 : w.heap.size + 1 + 1 + 1 + 1 ≤ w.heap.size + 4 := by omega
  go_enter Try.func11, Try.ntmps11
  go_wp2_with fail
  refine wp_scope_goto 0 (fun a' w' => r = ((x1, x2), false) ∧ Below w.heap.size w w' ∧ ∃ (g : Nat), Whole w' g 23 #[.int .i64 x1, .int .i64 x2] ∧ Whole w' (w.heap.size + 1 + 1 + 1) 23 #[.int .i64 0, .int .i64 0] ∧ g ≠ w.heap.size + 1 + 1 + 1 ∧ ∃ (u7 u9 u10 u11 u12 u13 u14 u15 u16 u17 u18 u19 u20 u21 u22 u23 u24 u25 u26 u27 u28 u29 u30 u31 u32 u33 u34 u35 u36 u37 u38 u39 u40 u41 u42 u43 u44 u45 u46 u47 u48 u49 u50 u51 u52 u53 u54 u55 : Value), a' = { tmps := #[bv T V, lv b t (.slice A n d), .agg (mc k f o m i u c y (.slice A2 n2 c2)), .pointer (some ⟨w.heap.size, 0, none⟩), .pointer (some ⟨w.heap.size + 1, 0, none⟩), .pointer (some ⟨w.heap.size + 1 + 1, 0, none⟩), .pointer (some ⟨w.heap.size + 1 + 1 + 1, 0, none⟩), u7, .pointer (some ⟨g, 0, none⟩), u9, u10, u11, u12, u13, u14, u15, u16, u17, u18, u19, u20, u21, u22, u23, u24, u25, u26, u27, u28, u29, u30, u31, u32, u33, u34, u35, u36, u37, u38, u39, u40, u41, u42, u43, u44, u45, u46, u47, u48, u49, u50, u51, u52, u53, u54, u55], defers := [] }) (fun _ _ => 0) rfl ?_ ?_
  · rintro a' w' ⟨hr, hb, g, hg, hg6, hne, u7, u9, u10, u11, u12, u13, u14, u15, u16, u17, u18, u19, u20, u21, u22, u23, u24, u25, u26, u27, u28, u29, u30, u31, u32, u33, u34, u35, u36, u37, u38, u39, u40, u41, u42, u43, u44, u45, u46, u47, u48, u49, u50, u51, u52, u53, u54, u55, rfl⟩
    subst hr
    have HR := Lib.hid (hg6.set2 (.int .i64 x1) (.int .i64 x2))
    have HBB := Lib.hid (below_set2 hb (g := w.heap.size + 1 + 1 + 1) (by omega) (.int .i64 x1) (.int .i64 x2))
    obtain ⟨k0, k1⟩ := hg.c2
    obtain ⟨f0, f1⟩ := hg6.f2
    obtain ⟨k2, k3⟩ := hg6.c2
    clear hg hg6 hb
    go_wp2_with fail
    refine bodyPost_ret (results_ballot2 rfl rfl HR.out) rfl ?_
    exact ⟨rfl, HBB.out⟩
  · intro _
    go_wp2_with fail
    with_reducible refine (HS.out _).mono ?_
    rintro e w5 ⟨rfl, hb5⟩
    have hl2 := HW2.out.lt
    have hl3 := HW3.out.lt
    have hl4 := HW4.out.lt
    have hz5 := hb5.size
    have hbb := HB.out.trans (hb5.mono HB.out.size)
    have HB5 := Lib.hid (hbb.alloc hbb.size (.cells #[.int .i64 x1, .int .i64 x2] 23))
    have HW25 := Lib.hid ((HW2.out.below hb5 hl2).alloc (.cells #[.int .i64 x1, .int .i64 x2] 23))
    have HW35 := Lib.hid ((HW3.out.below hb5 hl3).alloc (.cells #[.int .i64 x1, .int .i64 x2] 23))
    have HW45 := Lib.hid ((HW4.out.below hb5 hl4).alloc (.cells #[.int .i64 x1, .int .i64 x2] 23))
    have HWx := Lib.hid (Whole.new w5 23 #[.int .i64 x1, .int .i64 x2])
    simp only [World.size_alloc] at hl2 hl3 hl4 hz5
    clear hb5 hbb HB HW2 HW3 HW4 HS
    obtain ⟨k0, k1, k2⟩ := HW25.out.c3
    go_wp2_with fail
    with_reducible refine (HL.out _ HB5.out).mono ?_
    rintro e w6 ⟨rfl, hb6⟩
    have HB6 := Lib.hid (HB5.out.trans (hb6.mono HB5.out.size))
    have HW36 := Lib.hid (HW35.out.below hb6 HW35.out.lt)
    have HW46 := Lib.hid (HW45.out.below hb6 HW45.out.lt)
    have HWx6 := Lib.hid (HWx.out.below hb6 HWx.out.lt)
    clear hb6 HB5 HW25 HW35 HW45 HWx HL k0 k1 k2
    obtain ⟨k0, k1, k2, k3, k4, k5, k6, k7, k8⟩ := HW36.out.c9
    obtain ⟨j0, j1⟩ := HWx6.out.c2
    by_cases d1 : m = x1
    · have e1 : (m != x1) = false := by simpa using d1
      have D1 := Lib.hid d1
      clear d1
      by_cases d2 : x2 = 0
      · have e2 : (x2 != 0) = false := by simpa using d2
        have D2 := Lib.hid d2
        clear d2
        by_cases d3 : f < 1
        · go_wp2_with fail
          go_step3
          exact ⟨rfl, hno.out (fun h => by omega), HB6.out, w5.heap.size, HWx6.out, HW46.out, by omega, _, _, _, _, _, _, _, _, _, _, _, _, _, _, _, _, _, _, _, _, _, _, _, _, _, _, _, _, _, _, _, _, _, _, _, _, _, _, _, _, _, _, _, _, _, _, _, _, rfl⟩
        have e3 : decide (f < 1) = false := by simp; omega
        by_cases d4 : 16 < f
        · go_wp2_with fail
          go_step3
          exact ⟨rfl, hno.out (fun h => by omega), HB6.out, w5.heap.size, HWx6.out, HW46.out, by omega, _, _, _, _, _, _, _, _, _, _, _, _, _, _, _, _, _, _, _, _, _, _, _, _, _, _, _, _, _, _, _, _, _, _, _, _, _, _, _, _, _, _, _, _, _, _, _, _, rfl⟩
        have e4 : decide (16 < f) = false := by simp; omega
        go_wp2_with fail
        with_reducible refine (HN.out _).mono ?_
        rintro e w7 ⟨rfl, hw7⟩
        subst hw7
        rcases nw with _ | _
        · go_wp2_with fail
          go_step3
          exact ⟨rfl, hno.out (fun h => Bool.false_ne_true h.2.2.2.2), HB6.out, w5.heap.size, HWx6.out, HW46.out, by omega, _, _, _, _, _, _, _, _, _, _, _, _, _, _, _, _, _, _, _, _, _, _, _, _, _, _, _, _, _, _, _, _, _, _, _, _, _, _, _, _, _, _, _, _, _, _, _, _, rfl⟩
        · have er := hyes.out ⟨D1.out, .inl D2.out, by omega, by omega, rfl⟩
          subst er
          have HR := Lib.hid ((HW46.out.far (p := ⟨w5.heap.size, 1, none⟩) (by simp only; omega) (.int .i64 f)).set2 (.int .i64 x1) (.int .i64 f))
          have HBB := Lib.hid (below_set2 (HB6.out.setCell (p := ⟨w5.heap.size, 1, none⟩) (by simp only; omega) (.int .i64 f)) (g := w.heap.size + 1 + 1 + 1) (by omega) (.int .i64 x1) (.int .i64 f))
          obtain ⟨g0, g1⟩ := HW46.out.f2
          obtain ⟨g2, g3⟩ := HWx6.out.f2
          obtain ⟨g4, g5⟩ := HW46.out.c2
          go_wp2_with fail
          refine bodyPost_ret (results_ballot2 rfl rfl HR.out) rfl ?_
          exact ⟨rfl, HBB.out⟩
      have e2 : (x2 != 0) = true := by simpa using d2
      by_cases d5 : x2 = f
      · have e5 : (x2 != f) = false := by simpa using d5
        have D5 := Lib.hid d5
        clear d5
        by_cases d3 : f < 1
        · go_wp2_with fail
          go_step3
          exact ⟨rfl, hno.out (fun h => by omega), HB6.out, w5.heap.size, HWx6.out, HW46.out, by omega, _, _, _, _, _, _, _, _, _, _, _, _, _, _, _, _, _, _, _, _, _, _, _, _, _, _, _, _, _, _, _, _, _, _, _, _, _, _, _, _, _, _, _, _, _, _, _, _, rfl⟩
        have e3 : decide (f < 1) = false := by simp; omega
        by_cases d4 : 16 < f
        · go_wp2_with fail
          go_step3
          exact ⟨rfl, hno.out (fun h => by omega), HB6.out, w5.heap.size, HWx6.out, HW46.out, by omega, _, _, _, _, _, _, _, _, _, _, _, _, _, _, _, _, _, _, _, _, _, _, _, _, _, _, _, _, _, _, _, _, _, _, _, _, _, _, _, _, _, _, _, _, _, _, _, _, rfl⟩
        have e4 : decide (16 < f) = false := by simp; omega
        go_wp2_with fail
        with_reducible refine (HN.out _).mono ?_
        rintro e w7 ⟨rfl, hw7⟩
        subst hw7
        rcases nw with _ | _
        · go_wp2_with fail
          go_step3
          exact ⟨rfl, hno.out (fun h => Bool.false_ne_true h.2.2.2.2), HB6.out, w5.heap.size, HWx6.out, HW46.out, by omega, _, _, _, _, _, _, _, _, _, _, _, _, _, _, _, _, _, _, _, _, _, _, _, _, _, _, _, _, _, _, _, _, _, _, _, _, _, _, _, _, _, _, _, _, _, _, _, _, rfl⟩
        · have er := hyes.out ⟨D1.out, .inr D5.out, by omega, by omega, rfl⟩
          subst er
          have HR := Lib.hid ((HW46.out.far (p := ⟨w5.heap.size, 1, none⟩) (by simp only; omega) (.int .i64 f)).set2 (.int .i64 x1) (.int .i64 f))
          have HBB := Lib.hid (below_set2 (HB6.out.setCell (p := ⟨w5.heap.size, 1, none⟩) (by simp only; omega) (.int .i64 f)) (g := w.heap.size + 1 + 1 + 1) (by omega) (.int .i64 x1) (.int .i64 f))
          obtain ⟨g0, g1⟩ := HW46.out.f2
          obtain ⟨g2, g3⟩ := HWx6.out.f2
          obtain ⟨g4, g5⟩ := HW46.out.c2
          go_wp2_with fail
          refine bodyPost_ret (results_ballot2 rfl rfl HR.out) rfl ?_
          exact ⟨rfl, HBB.out⟩
      · have e5 : (x2 != f) = true := by simpa using d5
        go_wp2_with fail
        go_step3
        exact ⟨rfl, hno.out (fun h => h.2.1.elim d2 d5), HB6.out, w5.heap.size, HWx6.out, HW46.out, by omega, _, _, _, _, _, _, _, _, _, _, _, _, _, _, _, _, _, _, _, _, _, _, _, _, _, _, _, _, _, _, _, _, _, _, _, _, _, _, _, _, _, _, _, _, _, _, _, _, rfl⟩
    · have e1 : (m != x1) = true := by simpa using d1
      go_wp2_with fail
      go_step3
      exact ⟨rfl, hno.out (fun h => d1 h.1), HB6.out, w5.heap.size, HWx6.out, HW46.out, by omega, _, _, _, _, _, _, _, _, _, _, _, _, _, _, _, _, _, _, _, _, _, _, _, _, _, _, _, _, _, _, _, _, _, _, _, _, _, _, _, _, _, _, _, _, _, _, _, _, rfl⟩
end Go.Proofs.Ythcfaccglioikaa
