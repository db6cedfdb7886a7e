/-
  Parts that the statement rests on, joined: Fair, Term, Why, From.
-/
import Derived.Test.YtjcljkbalpgfdaaM2
import Derived.Test.YtjcljkbalpgfdaaM4
import Derived.Test.YtjcljkbalpgfdaaM5
/-
  What stands in the place of a log that may not be.
-/


namespace Go.Proofs.Ytjcljkbalpgfdaa
open Go.RowKit

def FairOut (w : World) (B : Nat) (x : Lg.L) (e : Ending) (w' : World) : Prop :=
  ∃ v', e = .returned (lv x.1 x.2.1 v') ∧ Sl w' B v' x.2.2 ∧ Below w.heap.size w w'

set_option maxRecDepth 100000 in
theorem fair_any (b t : Int) (v : Value) (l : List E) (w : World) (B : Nat) (hB : B ≤ w.heap.size) (hv : Sl w B v l) :
    Calls Try.prog 35 #[lv b t v] w (FairOut w B (Lg.fair (b, t, l))) := by
  obtain ⟨A, c, rfl, hc, hm⟩ := hv.form
  unfold maxLen at hm
  have hb0 : Below w.heap.size w (w.alloc (.cells #[.int .i64 b, .int .i64 t, .slice A l.length c] 26)) := (Below.refl _ _).alloc (Nat.le_refl _) _
  have hb1 : Below w.heap.size w ((w.alloc (.cells #[.int .i64 b, .int .i64 t, .slice A l.length c] 26)).alloc (.cells #[.int .i64 0, .int .i64 0, .slice none 0 0] 26)) := hb0.alloc hb0.size _
  have HM := Lib.hid (may_any b t _ l _ B (Nat.le_trans hB hb1.size) (hv.below (hb1.mono hB)))
  have hW := Lib.hid ((Whole.new w 26 #[.int .i64 b, .int .i64 t, .slice A l.length c]).alloc (.cells #[.int .i64 0, .int .i64 0, .slice none 0 0] 26))
  have hW2 := Lib.hid (Whole.new (w.alloc (.cells #[.int .i64 b, .int .i64 t, .slice A l.length c] 26)) 26 #[.int .i64 0, .int .i64 0, .slice none 0 0])
  have HB := Lib.hid hb1
  have HV := Lib.hid (fun W (h : Below w.heap.size w W) => hv.below (h.mono hB))
  have hyes := Lib.hid (@Lg.fair_of (b, t, l))
  have hno := Lib.hid (@Lg.fair_not (b, t, l))
  clear hv hb0 hb1
  generalize Lg.fair (b, t, l) = x at *
  generalize Lg.may (b, t, l) = r at *
  generalize l.length = n at *
  go_enter Try.func35, Try.ntmps35
  go_wp2_with fail
  with_reducible refine HM.out.mono ?_
  rintro e w2 ⟨rfl, hb2⟩
  have hbb := HB.out.trans (hb2.mono HB.out.size)
  have hw1 := hW.out.below hb2 hW.out.lt
  have hw2 := hW2.out.below hb2 hW2.out.lt
  rw [World.size_alloc] at hw2
  obtain ⟨k0, k1, k2⟩ := hw1.c3
  obtain ⟨k3, k4, k5⟩ := hw2.c3
  obtain ⟨f3, f4, f5⟩ := hw2.f3
  have HW2 := Lib.hid hw2
  have HB2 := Lib.hid hbb
  clear hw1 hw2 hbb hb2 HM
  rcases r with _ | _
  · have e := hno.out rfl
    subst e
    go_wp2_with fail
    refine bodyPost_ret (results_log rfl rfl (HW2.out.set3 _ _ _)) rfl ?_
    exact ⟨_, rfl, Sl.nil _ _, below_set3 HB2.out (by omega) _ _ _⟩
  · have e := hyes.out rfl
    subst e
    go_wp2_with fail
    refine bodyPost_ret (results_log rfl rfl (HW2.out.set3 _ _ _)) rfl ?_
    have hx := below_set3 HB2.out (g := w.heap.size + 1) (by omega) (.int .i64 b) (.int .i64 t) (.slice A n c)
    exact ⟨_, rfl, HV.out _ hx, hx⟩
end Go.Proofs.Ytjcljkbalpgfdaa

/-
  What Term answers: the program's and the reference's.
-/

namespace Go.Proofs.Ytjcljkbalpgfdaa
open Go.RowKit

theorem term0_base {x : Lg.L} : Lg.term0 x x.1 = (x.2.1, true) := by unfold Lg.term0; rw [if_pos rfl]
theorem term0_off {x : Lg.L} {i : Int} (h : i ≠ x.1) (h2 : i < x.1 ∨ x.1 + x.2.2.length < i) : Lg.term0 x i = (0, false) := by unfold Lg.term0; rw [if_neg h, if_pos h2]
theorem term0_at {x : Lg.L} {j k : Nat} (h : x.1 = (k : Int)) (h1 : k < j) (h2 : j ≤ k + x.2.2.length) : Lg.term0 x (j : Int) = ((x.2.2[j - k - 1]'(by omega)).1, true) := by
  unfold Lg.term0
  rw [if_neg (by omega), if_neg (by omega), h, show ((j : Int) - (k : Int) - 1).toNat = j - k - 1 by omega, Lg.tm_eq]

set_option maxRecDepth 100000 in
theorem term_any (b t i : Int) (hi : -9223372036854775808 ≤ i ∧ i ≤ 9223372036854775807) (v : Value) (l : List E) (w : World) (B : Nat) (hB : B ≤ w.heap.size) (hv : Sl w B v l) :
    Calls Try.prog 45 #[lv b t v, .int .i64 i] w fun e w' => e = .returned (.tuple #[.int .i64 (Lg.term (b, t, l) i).1, .bool (Lg.term (b, t, l) i).2]) ∧ Below w.heap.size w w' := by
  obtain ⟨A, c, rfl, hc, hm⟩ := hv.form
  unfold maxLen at hm
  have hb0 : Below w.heap.size w (w.alloc (.cells #[.int .i64 b, .int .i64 t, .slice A l.length c] 26)) := (Below.refl _ _).alloc (Nat.le_refl _) _
  have HF := Lib.hid (fair_any b t _ l _ B (Nat.le_trans hB hb0.size) (hv.below (hb0.mono hB)))
  have HW := Lib.hid (Whole.new w 26 #[.int .i64 b, .int .i64 t, .slice A l.length c])
  have HB := Lib.hid hb0
  have hfm := Lg.fair_may (b, t, l)
  unfold Lg.term
  clear hv hb0
  generalize Lg.fair (b, t, l) = x at *
  generalize l.length = n at *
  obtain ⟨y, z, m⟩ := x
  rw [Lg.may_iff] at hfm
  simp only at hfm
  obtain ⟨q1, q2, q3, q4, -, q6, -⟩ := hfm
  obtain ⟨k, rfl⟩ := Int.eq_ofNat_of_zero_le q1
  have H0 := Lib.hid (@term0_base ((k : Int), z, m))
  have H1 := Lib.hid (@term0_off ((k : Int), z, m) i)
  have H2 := Lib.hid (fun j => @term0_at ((k : Int), z, m) j k rfl)
  go_enter Try.func45, Try.ntmps45
  by_cases h0 : i = (k : Int)
  · subst h0
    have e0 := H0.out
    generalize Lg.term0 ((k : Int), z, m) (k : Int) = r at *
    obtain ⟨r1, r2⟩ := r
    obtain ⟨rfl, rfl⟩ := Prod.mk.inj e0
    go_wp2_with fail
    with_reducible refine HF.out.mono ?_
    rintro e w2 ⟨v2, rfl, hs, hb2⟩
    simp only at hs ⊢
    obtain ⟨A2, c2, rfl, hc2, hm2⟩ := hs.form
    unfold maxLen at hm2
    have hbb := HB.out.trans (hb2.mono HB.out.size)
    have hw2 := HW.out.below hb2 HW.out.lt
    obtain ⟨k0, k1, k2⟩ := hw2.c3
    obtain ⟨f0, f1, f2⟩ := hw2.f3
    have HB2 := Lib.hid (below_set3 hbb (Nat.le_refl w.heap.size) (.int .i64 (k : Int)) (.int .i64 r1) (.slice A2 m.length c2))
    clear hw2 hbb hb2 HF HW HB H0 H1 H2 hs e0
    generalize m.length = p at *
    go_wp2_with fail
    go_ret2
    exact ⟨rfl, HB2.out⟩
  · by_cases h1 : i < (k : Int) ∨ (k : Int) + m.length < i
    · have e0 := H1.out h0 h1
      generalize Lg.term0 ((k : Int), z, m) i = r at *
      obtain ⟨r1, r2⟩ := r
      obtain ⟨rfl, rfl⟩ := Prod.mk.inj e0
      have hne : (i == (k : Int)) = false := by simpa using h0
      go_wp2_with fail
      with_reducible refine HF.out.mono ?_
      rintro e w2 ⟨v2, rfl, hs, hb2⟩
      simp only at hs ⊢
      obtain ⟨A2, c2, rfl, hc2, hm2⟩ := hs.form
      unfold maxLen at hm2
      have hbb := HB.out.trans (hb2.mono HB.out.size)
      have hw2 := HW.out.below hb2 HW.out.lt
      obtain ⟨k0, k1, k2⟩ := hw2.c3
      obtain ⟨f0, f1, f2⟩ := hw2.f3
      have HB2 := Lib.hid (below_set3 hbb (Nat.le_refl w.heap.size) (.int .i64 (k : Int)) (.int .i64 z) (.slice A2 m.length c2))
      clear hw2 hbb hb2 HF HW HB H0 H1 H2 hs e0
      generalize m.length = p at *
      rcases h1 with h1 | h1
      · go_wp2_with fail
        go_ret2
        exact ⟨rfl, HB2.out⟩
      · have d1 : decide (i < (k : Int)) = false := by simp; omega
        go_wp2_with fail
        go_ret2
        exact ⟨rfl, HB2.out⟩
    · obtain ⟨j, rfl⟩ := Int.eq_ofNat_of_zero_le (show 0 ≤ i by omega)
      have e0 := H2.out j (by omega) (show j ≤ k + m.length by omega)
      simp only at e0
      generalize Lg.term0 ((k : Int), z, m) (j : Int) = r at *
      obtain ⟨r1, r2⟩ := r
      have hne : ((j : Int) == (k : Int)) = false := by simpa using h0
      have d1 : decide ((j : Int) < (k : Int)) = false := by simp; omega
      have d2 : decide (j < k) = false := by simp; omega
      go_wp2_with fail
      with_reducible refine HF.out.mono ?_
      rintro e w2 ⟨v2, rfl, hs, hb2⟩
      simp only at hs ⊢
      obtain ⟨A2, c2, rfl, hc2, hm2⟩ := hs.form
      unfold maxLen at hm2
      obtain ⟨b1, o1, hA2, hlt, g0, -⟩ := hs.entry (j - k - 1) (by omega)
      subst hA2
      have hbb := HB.out.trans (hb2.mono HB.out.size)
      have hw2 := HW.out.below hb2 HW.out.lt
      obtain ⟨k0, k1, k2⟩ := hw2.c3
      obtain ⟨f0, f1, f2⟩ := hw2.f3
      have HB2 := Lib.hid (below_set3 hbb (Nat.le_refl w.heap.size) (.int .i64 (k : Int)) (.int .i64 z) (.slice (some ⟨b1, o1, none⟩) m.length c2))
      clear hw2 hbb hb2 HF HW HB H0 H1 H2 hs
      generalize (m[j - k - 1]'(by omega)).1 = tt at *
      generalize m.length = p at *
      obtain ⟨rfl, rfl⟩ := Prod.mk.inj e0
      clear e0
      have i1 : (0 : Int) ≤ (j : Int) - (k : Int) - 1 := by omega
      have i2 : (j : Int) - (k : Int) - 1 < (p : Int) := by omega
      go_wp2_with fail
      go_ret2
      exact ⟨rfl, HB2.out⟩
end Go.Proofs.Ytjcljkbalpgfdaa

/-
  Why nothing is added: what mayAdd answers.
-/

namespace Go.Proofs.Ytjcljkbalpgfdaa
open Go.RowKit

set_option maxRecDepth 100000 in
theorem why_any (b t i u : Int) (hi : -9223372036854775808 ≤ i ∧ i ≤ 9223372036854775807) (v v2 : Value) (l m : List E) (w : World) (B : Nat) (hB : B ≤ w.heap.size) (hv : Sl w B v l) (hv2 : Sl w B v2 m) :
    Calls Try.prog 53 #[lv b t v, .int .i64 i, .int .i64 u, v2] w fun e w' => e = .returned (.int .i64 (Lg.why (b, t, l) i u m)) ∧ Below w.heap.size w w' := by
  obtain ⟨A, c, rfl, hc, hm⟩ := hv.form
  obtain ⟨A2, c2, rfl, hc2, hm2⟩ := hv2.form
  have hb0 : Below w.heap.size w (w.alloc (.cells #[.int .i64 b, .int .i64 t, .slice A l.length c] 26)) := (Below.refl _ _).alloc (Nat.le_refl _) _
  have HM := Lib.hid (may_any b t _ l _ B (Nat.le_trans hB hb0.size) (hv.below (hb0.mono hB)))
  have HF := Lib.hid (fun W (h : Below w.heap.size w W) => follow_any _ m u W B (Nat.le_trans hB h.size) (hv2.below (h.mono hB)))
  have HT := Lib.hid (fun W (h : Below w.heap.size w W) => term_any b t i hi _ l W B (Nat.le_trans hB h.size) (hv.below (h.mono hB)))
  have HW := Lib.hid (Whole.new w 26 #[.int .i64 b, .int .i64 t, .slice A l.length c])
  have HB := Lib.hid hb0
  have HR : Hid (Lg.why (b, t, l) i u m = if Lg.may (b, t, l) = false then 1 else if Lg.rise u m = false then 1 else if i < b then 9 else if (Lg.term (b, t, l) i).2 = false then 10 else if (Lg.term (b, t, l) i).1 ≠ u then 8 else 0) := rfl
  clear hv hv2 hb0
  generalize Lg.why (b, t, l) i u m = R at *
  generalize Lg.may (b, t, l) = r1 at *
  generalize Lg.rise u m = r2 at *
  generalize Lg.term (b, t, l) i = T at *
  obtain ⟨t1, t2⟩ := T
  simp only at HR HT
  generalize l.length = n at *
  generalize m.length = n2 at *
  go_enter Try.func53, Try.ntmps53
  go_wp2_with fail
  with_reducible refine HM.out.mono ?_
  rintro e w2 ⟨rfl, hb2⟩
  have hbb := HB.out.trans (hb2.mono HB.out.size)
  have hw2 := HW.out.below hb2 HW.out.lt
  have HB2 := Lib.hid hbb
  have HW2 := Lib.hid hw2
  obtain ⟨k0, k1, k2⟩ := hw2.c3
  clear hbb hb2 hw2 HW HB HM
  rcases r1 with _ | _
  · obtain rfl : R = 1 := HR.out
    go_wp2_with fail
    go_ret
    exact ⟨rfl, HB2.out⟩
  go_wp2_with fail
  with_reducible refine (HF.out _ HB2.out).mono ?_
  rintro e w3 ⟨rfl, hb3⟩
  have hbb := HB2.out.trans (hb3.mono HB2.out.size)
  have hw3 := HW2.out.below hb3 HW2.out.lt
  have HB3 := Lib.hid hbb
  obtain ⟨k0, k1, k2⟩ := hw3.c3
  clear hbb hb3 hw3 HW2 HB2 HF
  rcases r2 with _ | _
  · obtain rfl : R = 1 := HR.out
    go_wp2_with fail
    go_ret
    exact ⟨rfl, HB3.out⟩
  have HR2 : Hid (R = if i < b then 9 else if t2 = false then 10 else if t1 ≠ u then 8 else 0) := HR.out
  clear HR
  by_cases c1 : i < b
  · obtain rfl : R = 9 := by rw [HR2.out, if_pos c1]
    go_wp2_with fail
    go_ret
    exact ⟨rfl, HB3.out⟩
  have HR3 : Hid (R = if t2 = false then 10 else if t1 ≠ u then 8 else 0) := by show _ = _; rw [HR2.out, if_neg c1]
  clear HR2
  go_wp2_with fail
  with_reducible refine (HT.out _ HB3.out).mono ?_
  rintro e w4 ⟨rfl, hb4⟩
  have HB4 := Lib.hid (HB3.out.trans (hb4.mono HB3.out.size))
  clear hb4 HB3 HT
  rcases t2 with _ | _
  · obtain rfl : R = 10 := HR3.out
    go_wp2_with fail
    go_ret
    exact ⟨rfl, HB4.out⟩
  have HR4 : Hid (R = if t1 ≠ u then 8 else 0) := HR3.out
  clear HR3
  by_cases c2 : t1 = u
  · subst c2
    obtain rfl : R = 0 := by rw [HR4.out, if_neg (by simp)]
    have e1 : (t1 != t1) = false := by simp
    go_wp2_with fail
    go_ret
    exact ⟨rfl, HB4.out⟩
  · obtain rfl : R = 8 := by rw [HR4.out, if_pos c2]
    have e1 : (t1 != u) = true := by simpa using c2
    go_wp2_with fail
    go_ret
    exact ⟨rfl, HB4.out⟩
end Go.Proofs.Ytjcljkbalpgfdaa

/-
  What From answers.
-/


namespace Go.Proofs.Ytjcljkbalpgfdaa
open Go.RowKit

theorem from0_no {x : Lg.L} {i m : Int} (h : m ≤ 0 ∨ i ≤ x.1 ∨ x.1 + x.2.2.length < i) : Lg.from0 x i m = [] := by unfold Lg.from0; rw [if_pos h]
theorem from0_yes {x : Lg.L} {j k : Nat} {m : Int} (h : x.1 = (k : Int)) (hm : 0 < m) (h1 : k < j) (h2 : j ≤ k + x.2.2.length) : Lg.from0 x (j : Int) m = (x.2.2.drop (j - k - 1)).take m.toNat := by
  unfold Lg.from0
  rw [if_neg (by omega), h, show ((j : Int) - (k : Int) - 1).toNat = j - k - 1 by omega]

set_option maxRecDepth 100000 in
theorem from_any (b t i m : Int) (hi : -9223372036854775808 ≤ i ∧ i ≤ 9223372036854775807) (v : Value) (l : List E) (w : World) (B : Nat) (hB : B ≤ w.heap.size) (hv : Sl w B v l) :
    Calls Try.prog 46 #[lv b t v, .int .i64 i, .int .i64 m] w (ListOut w (Lg.from_ (b, t, l) i m)) := by
  obtain ⟨A, c, rfl, hc, hmm⟩ := hv.form
  unfold maxLen at hmm
  have hb0 : Below w.heap.size w (w.alloc (.cells #[.int .i64 b, .int .i64 t, .slice A l.length c] 26)) := (Below.refl _ _).alloc (Nat.le_refl _) _
  have HF := Lib.hid (fair_any b t _ l _ B (Nat.le_trans hB hb0.size) (hv.below (hb0.mono hB)))
  have HW := Lib.hid (Whole.new w 26 #[.int .i64 b, .int .i64 t, .slice A l.length c])
  have HB := Lib.hid hb0
  have hfm := Lg.fair_may (b, t, l)
  unfold Lg.from_
  clear hv hb0
  generalize Lg.fair (b, t, l) = x at *
  generalize l.length = n at *
  obtain ⟨y, z, s⟩ := x
  rw [Lg.may_iff] at hfm
  simp only at hfm
  obtain ⟨q1, q2, q3, q4, -, q6, -⟩ := hfm
  obtain ⟨k, rfl⟩ := Int.eq_ofNat_of_zero_le q1
  have H1 := Lib.hid (@from0_no ((k : Int), z, s) i m)
  have H2 := Lib.hid (fun j => @from0_yes ((k : Int), z, s) j k m rfl)
  go_enter Try.func46, Try.ntmps46
  by_cases h1 : m ≤ 0 ∨ i ≤ (k : Int) ∨ (k : Int) + s.length < i
  · have e0 := H1.out h1
    generalize Lg.from0 ((k : Int), z, s) i m = r at *
    subst e0
    go_wp2_with fail
    with_reducible refine HF.out.mono ?_
    rintro e w2 ⟨v2, rfl, hs, hb2⟩
    simp only at hs ⊢
    obtain ⟨A2, c2, rfl, hc2, hm2⟩ := hs.form
    unfold maxLen at hm2
    have hbb := HB.out.trans (hb2.mono HB.out.size)
    have hw2 := HW.out.below hb2 HW.out.lt
    obtain ⟨k0, k1, k2⟩ := hw2.c3
    obtain ⟨f0, f1, f2⟩ := hw2.f3
    have HB2 := Lib.hid (below_set3 hbb (Nat.le_refl w.heap.size) (.int .i64 (k : Int)) (.int .i64 z) (.slice A2 s.length c2))
    clear hw2 hbb hb2 HF HW HB H1 H2 hs
    generalize s.length = p at *
    by_cases h2 : m ≤ 0
    · go_wp2_with fail
      go_ret
      exact ⟨none, 0, rfl, Own.nil _ _ _, HB2.out⟩
    · have d2 : decide (m ≤ 0) = false := by simp; omega
      by_cases h3 : i ≤ (k : Int)
      · go_wp2_with fail
        go_ret
        exact ⟨none, 0, rfl, Own.nil _ _ _, HB2.out⟩
      · have d3 : decide (i ≤ (k : Int)) = false := by simp; omega
        have h4 : (k : Int) + p < i := by omega
        go_wp2_with fail
        go_ret
        exact ⟨none, 0, rfl, Own.nil _ _ _, HB2.out⟩
  · obtain ⟨j, rfl⟩ := Int.eq_ofNat_of_zero_le (show 0 ≤ i by omega)
    obtain ⟨mm, rfl⟩ := Int.eq_ofNat_of_zero_le (show 0 ≤ m by omega)
    have e0 := H2.out j (by omega) (by omega) (show j ≤ k + s.length by omega)
    simp only [Int.toNat_natCast] at e0
    rw [e0]
    have d2 : decide ((mm : Int) ≤ 0) = false := by simp; omega
    have d3 : decide ((j : Int) ≤ (k : Int)) = false := by simp; omega
    have d3' : decide (j ≤ k) = false := by simp; omega
    go_wp2_with fail
    with_reducible refine HF.out.mono ?_
    rintro e w2 ⟨v2, rfl, hs, hb2⟩
    simp only at hs ⊢
    obtain ⟨A2, c2, rfl, hc2, hm2⟩ := hs.form
    unfold maxLen at hm2
    obtain ⟨b1, o1, hA2, -⟩ := hs.term (j - k - 1) (by omega)
    subst hA2
    have hbb := HB.out.trans (hb2.mono HB.out.size)
    have hw2 := HW.out.below hb2 HW.out.lt
    obtain ⟨k0, k1, k2⟩ := hw2.c3
    obtain ⟨f0, f1, f2⟩ := hw2.f3
    have hB2 := below_set3 hbb (Nat.le_refl w.heap.size) (.int .i64 (k : Int)) (.int .i64 z) (.slice (some ⟨b1, o1, none⟩) s.length c2)
    have hdr := hs.drop (j - k - 1) (by omega)
    have hcu : ¬ c2 = j - k - 1 := by omega
    rw [if_neg hcu, show Rep.sz E = 7 from rfl, Option.map_some, add_at] at hdr
    have HB2 := Lib.hid hB2
    have hdw := hdr.below ((((Below.refl w.heap.size w2).setCell (p := ⟨w.heap.size, 0, none⟩) (Nat.le_refl _) (.int .i64 (k : Int))).setCell (p := ⟨w.heap.size, 1, none⟩) (Nat.le_refl _) (.int .i64 z)).setCell (p := ⟨w.heap.size, 2, none⟩) (Nat.le_refl _) (.slice (some ⟨b1, o1, none⟩) s.length c2) |>.mono hB)
    have HD := Lib.hid hdw
    have hdl : (s.drop (j - k - 1)).length = s.length - (j - k - 1) := List.length_drop
    by_cases h6 : mm ≤ s.length - (j - k - 1)
    · have hL : ((s.drop (j - k - 1)).take mm).length = mm := by rw [List.length_take]; omega
      have HC := Lib.hid (clone_any _ ((s.drop (j - k - 1)).take mm) (by omega) _ B (Nat.le_trans hB hB2.size) (HD.out.take mm (c2 - (j - k - 1)) h6 (by omega) (by unfold maxLen; omega)))
      clear hw2 hbb hb2 HF HW HB H1 H2 hs hdr hdw HD hB2 e0 hdl
      generalize (s.drop (j - k - 1)).take mm = L at *
      have HL := Lib.hid hL
      clear hL
      generalize s.length = p at *
      go_wp2_with fail
      with_reducible refine HC.out.mono ?_
      rintro e w5 ⟨A5, c5, rfl, ho5, hb5⟩
      have hb6 := HB2.out.trans (hb5.mono HB2.out.size)
      have ho6 := ho5.down HB2.out.size
      clear ho5 hb5 HC HB2
      go_wp2_with fail
      go_ret
      exact listOut_of ho6 hb6
    · have hL : ((s.drop (j - k - 1)).take mm).length = s.length - (j - k - 1) := by rw [List.length_take]; omega
      have hte : (s.drop (j - k - 1)).take mm = s.drop (j - k - 1) := List.take_of_length_le (by omega)
      have HC := Lib.hid (clone_any _ ((s.drop (j - k - 1)).take mm) (by omega) _ B (Nat.le_trans hB hB2.size) (by rw [hte]; exact HD.out))
      clear hw2 hbb hb2 HF HW HB H1 H2 hs hdr hdw HD hB2 e0 hdl hte
      generalize (s.drop (j - k - 1)).take mm = L at *
      have HL := Lib.hid hL
      clear hL
      generalize s.length = p at *
      go_wp2_with fail
      with_reducible refine HC.out.mono ?_
      rintro e w5 ⟨A5, c5, rfl, ho5, hb5⟩
      have hb6 := HB2.out.trans (hb5.mono HB2.out.size)
      have ho6 := ho5.down HB2.out.size
      clear ho5 hb5 HC HB2
      go_wp2_with fail
      go_ret
      exact listOut_of ho6 hb6
end Go.Proofs.Ytjcljkbalpgfdaa
