/-
  Parts that the statement rests on, joined: Last.
-/
import Derived.Test.YtjcljkbalpgfdaaM6
import Derived.BigQuiet
/-
  What Last answers: the program's and the reference's.
-/


namespace Go.Proofs.Ytjcljkbalpgfdaa
open Go.RowKit

theorem last0_nil {x : Lg.L} (h : x.2.2.length = 0) : Lg.last0 x = (x.1, x.2.1) := by unfold Lg.last0; rw [if_pos h]
theorem last0_cons {x : Lg.L} (h : 0 < x.2.2.length) : Lg.last0 x = (x.1 + x.2.2.length, (x.2.2[x.2.2.length - 1]'(by omega)).1) := by
  unfold Lg.last0; rw [if_neg (by omega), Lg.tm_eq]

set_option maxRecDepth 100000 in
theorem last_any (b t : Int) (v : Value) (l : List E) (w : World) (B : Nat) (hB : B ≤ w.heap.size) (hv : Sl w B v l) :
    Calls Try.prog 21 #[lv b t v] w fun e w' => e = .returned (.tuple #[.int .i64 (Lg.last (b, t, l)).1, .int .i64 (Lg.last (b, t, l)).2]) ∧ Below w.heap.size w w' := by
  obtain ⟨A, c, rfl, hc, hm⟩ := hv.form
  unfold maxLen at hm
  have hb0 : Below w.heap.size w (w.alloc (.cells #[.int .i64 b, .int .i64 t, .slice A l.length c] 26)) := (Below.refl _ _).alloc (Nat.le_refl _) _
  have HF := Lib.hid (fair_any b t _ l _ B (Nat.le_trans hB hb0.size) (hv.below (hb0.mono hB)))
  have HW := Lib.hid (Whole.new w 26 #[.int .i64 b, .int .i64 t, .slice A l.length c])
  have HB := Lib.hid hb0
  have hfm := Lg.fair_may (b, t, l)
  unfold Lg.last
  clear hv hb0
  generalize Lg.fair (b, t, l) = x at *
  generalize l.length = n at *
  obtain ⟨y, z, m⟩ := x
  rw [Lg.may_iff] at hfm
  simp only at hfm
  obtain ⟨q1, q2, q3, q4, -, q6, -⟩ := hfm
  have H0 := Lib.hid (@last0_nil (y, z, m))
  have H1 := Lib.hid (@last0_cons (y, z, m))
  generalize Lg.last0 (y, z, m) = r at *
  obtain ⟨r1, r2⟩ := r
  go_enter Try.func21, Try.ntmps21
  go_wp2_with fail
  with_reducible refine HF.out.mono ?_
  rintro e w2 ⟨v2, rfl, hs, hb2⟩
  simp only at hs ⊢
  obtain ⟨A2, c2, rfl, hc2, hm2⟩ := hs.form
  unfold maxLen at hm2
  have hbb := HB.out.trans (hb2.mono HB.out.size)
  have hw2 := HW.out.below hb2 HW.out.lt
  obtain ⟨k0, k1, k2⟩ := hw2.c3
  obtain ⟨f0, f1, f2⟩ := hw2.f3
  have HB2 := Lib.hid (below_set3 hbb (Nat.le_refl w.heap.size) (.int .i64 y) (.int .i64 z) (.slice A2 m.length c2))
  clear hw2 hbb hb2 HF HW HB
  by_cases h0 : m.length = 0
  · obtain ⟨rfl, rfl⟩ := Prod.mk.inj (H0.out h0)
    clear hs H0 H1
    generalize m.length = p at *
    subst h0
    go_wp2_with fail
    go_quiet (fail)
    go_wp2_with fail
    go_ret2
    exact ⟨rfl, below_drewN HB2.out _⟩
  · have hp : 0 < m.length := by omega
    have e := H1.out hp
    obtain ⟨b1, o1, hA2, g0⟩ := hs.term (m.length - 1) (by omega)
    obtain ⟨b1', o1', hA2', hlt, -⟩ := hs.entry (m.length - 1) (by omega)
    rw [hA2] at hA2'
    injection hA2' with hA2'
    injection hA2' with e1 e2
    subst e1 e2 hA2
    clear hs H0 H1
    generalize (m[m.length - 1]'(by omega)).1 = tt at *
    generalize m.length = p at *
    obtain ⟨rfl, rfl⟩ := Prod.mk.inj e
    clear e
    have hne : ((p : Int) == 0) = false := by simp; omega
    have i1 : (0 : Int) ≤ (p : Int) - 1 := by omega
    have i2 : (p : Int) - 1 < (p : Int) := by omega
    go_wp2_with fail
    go_quiet (fail)
    go_wp2_with fail
    go_ret2
    exact ⟨rfl, below_drewN HB2.out _⟩
end Go.Proofs.Ytjcljkbalpgfdaa
