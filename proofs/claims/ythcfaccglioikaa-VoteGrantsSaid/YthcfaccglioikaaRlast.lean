/-
  What the reference's Last answers.
-/
import Derived.Test.YthcfaccglioikaaLast
import Derived.Test.YthcfaccglioikaaRfair
namespace Go.Proofs.Ythcfaccglioikaa
open Go.RowKit

set_option maxRecDepth 100000 in
theorem rlast_any (b t : Int) (v : Value) (l : List E) (w : World) (B : Nat) (hB : B ≤ w.heap.size) (hv : Sl w B v l) :
    Calls Try.prog 19 #[lv b t v] w fun e w' => e = .returned (.tuple #[.int .i64 (Lg.last (b, t, l)).1, .int .i64 (Lg.last (b, t, l)).2]) ∧ Below w.heap.size w w' := by
  obtain ⟨A, c, rfl, hc, hm⟩ := hv.form
  unfold maxLen at hm
  have hb0 : Below w.heap.size w (w.alloc (.cells #[.int .i64 b, .int .i64 t, .slice A l.length c] 26)) := (Below.refl _ _).alloc (Nat.le_refl _) _
  have HF := Lib.hid (rfair_any b t _ l _ B (Nat.le_trans hB hb0.size) (hv.below (hb0.mono hB)))
  have HB := Lib.hid hb0
  have hfm := Lg.fair_may (b, t, l)
  unfold Lg.last
  clear hv hb0
  generalize Lg.fair (b, t, l) = x at *
  generalize l.length = n at *
  obtain ⟨y, z, m⟩ := x
  rw [Lg.may_iff] at hfm
  simp only at hfm
  obtain ⟨q1, q2, q3, q4, -, q6, -⟩ := hfm
  have H0 := Lib.hid (@last0_nil (y, z, m))
  have H1 := Lib.hid (@last0_cons (y, z, m))
  generalize Lg.last0 (y, z, m) = r at *
  obtain ⟨r1, r2⟩ := r
  go_enter Try.func19, Try.ntmps19
  go_wp2_with fail
  with_reducible refine HF.out.mono ?_
  rintro e w2 ⟨v2, rfl, hs, hb2⟩
  simp only at hs ⊢
  obtain ⟨A2, c2, rfl, hc2, hm2⟩ := hs.form
  unfold maxLen at hm2
  have hbb := HB.out.trans (hb2.mono HB.out.size)
  have hz := hbb.size
  have HB2 := Lib.hid (hbb.alloc hbb.size (.cells #[.int .i64 y, .int .i64 z, .slice A2 m.length c2] 26))
  clear hbb hb2 HF HB
  by_cases h0 : m.length = 0
  · obtain ⟨rfl, rfl⟩ := Prod.mk.inj (H0.out h0)
    clear hs H0 H1
    generalize m.length = p at *
    subst h0
    go_wp2_with fail
    go_quiet (fail)
    go_wp2_with fail
    go_ret2
    exact ⟨rfl, below_drewN HB2.out _⟩
  · have hp : 0 < m.length := by omega
    have e := H1.out hp
    obtain ⟨b1, o1, hA2, g0⟩ := hs.term (m.length - 1) (by omega)
    obtain ⟨b1', o1', hA2', hlt, -⟩ := hs.entry (m.length - 1) (by omega)
    rw [hA2] at hA2'
    injection hA2' with hA2'
    injection hA2' with e1 e2
    subst e1 e2 hA2
    have gA := (Below.cell ((Below.refl w2.heap.size w2).alloc (Nat.le_refl _) (.cells #[.int .i64 y, .int .i64 z, .slice (some ⟨b1, o1, none⟩) m.length c2] 26)) (p := ⟨b1, o1 + (m.length - 1) * 7, none⟩) (Nat.lt_of_lt_of_le hlt (Nat.le_trans hB hz))).trans g0
    clear hs H0 H1
    generalize (m[m.length - 1]'(by omega)).1 = tt at *
    generalize m.length = p at *
    obtain ⟨rfl, rfl⟩ := Prod.mk.inj e
    clear e
    have hne : ((p : Int) == 0) = false := by simp; omega
    have i1 : (0 : Int) ≤ (p : Int) - 1 := by omega
    have i2 : (p : Int) - 1 < (p : Int) := by omega
    go_wp2_with fail
    go_quiet (fail)
    go_wp2_with fail
    go_ret2
    exact ⟨rfl, below_drewN HB2.out _⟩
end Go.Proofs.Ythcfaccglioikaa
