/-
  Parts that the statement rests on, joined: Last, Rlast, Rcommit.
-/
import Derived.Test.YtjcljkbalpgfdaaGreatZ5
import Derived.Test.YtjcljkbalpgfdaaGreatZ6
import Derived.BigQuiet
import Derived.LoopTactic
/-
  What Last answers: the program's and the reference's.
-/


namespace Go.Proofs.YtjcljkbalpgfdaaGreat
open Go.RowKit

theorem last0_nil {x : Lg.L} (h : x.2.2.length = 0) : Lg.last0 x = (x.1, x.2.1) := by unfold Lg.last0; rw [if_pos h]
theorem last0_cons {x : Lg.L} (h : 0 < x.2.2.length) : Lg.last0 x = (x.1 + x.2.2.length, (x.2.2[x.2.2.length - 1]'(by omega)).1) := by
  unfold Lg.last0; rw [if_neg (by omega), Lg.tm_eq]

set_option maxRecDepth 100000 in
theorem last_any (b t : Int) (v : Value) (l : List E) (w : World) (B : Nat) (hB : B ≤ w.heap.size) (hv : Sl w B v l) :
    Calls Tryz.prog 17 #[lv b t v] w fun e w' => e = .returned (.tuple #[.int .i64 (Lg.last (b, t, l)).1, .int .i64 (Lg.last (b, t, l)).2]) ∧ Below w.heap.size w w' := by
  obtain ⟨A, c, rfl, hc, hm⟩ := hv.form
  unfold maxLen at hm
  have hb0 : Below w.heap.size w (w.alloc (.cells #[.int .i64 b, .int .i64 t, .slice A l.length c] 26)) := (Below.refl _ _).alloc (Nat.le_refl _) _
  have HF := Lib.hid (fair_any b t _ l _ B (Nat.le_trans hB hb0.size) (hv.below (hb0.mono hB)))
  have HW := Lib.hid (Whole.new w 26 #[.int .i64 b, .int .i64 t, .slice A l.length c])
  have HB := Lib.hid hb0
  have hfm := Lg.fair_may (b, t, l)
  unfold Lg.last
  clear hv hb0
  generalize Lg.fair (b, t, l) = x at *
  generalize l.length = n at *
  obtain ⟨y, z, m⟩ := x
  rw [Lg.may_iff] at hfm
  simp only at hfm
  obtain ⟨q1, q2, q3, q4, -, q6, -⟩ := hfm
  have H0 := Lib.hid (@last0_nil (y, z, m))
  have H1 := Lib.hid (@last0_cons (y, z, m))
  generalize Lg.last0 (y, z, m) = r at *
  obtain ⟨r1, r2⟩ := r
  go_enter Tryz.func17, Tryz.ntmps17
  go_wp2_with fail
  with_reducible refine HF.out.mono ?_
  rintro e w2 ⟨v2, rfl, hs, hb2⟩
  simp only at hs ⊢
  obtain ⟨A2, c2, rfl, hc2, hm2⟩ := hs.form
  unfold maxLen at hm2
  have hbb := HB.out.trans (hb2.mono HB.out.size)
  have hw2 := HW.out.below hb2 HW.out.lt
  obtain ⟨k0, k1, k2⟩ := hw2.c3
  obtain ⟨f0, f1, f2⟩ := hw2.f3
  have HB2 := Lib.hid (below_set3 hbb (Nat.le_refl w.heap.size) (.int .i64 y) (.int .i64 z) (.slice A2 m.length c2))
  clear hw2 hbb hb2 HF HW HB
  by_cases h0 : m.length = 0
  · obtain ⟨rfl, rfl⟩ := Prod.mk.inj (H0.out h0)
    clear hs H0 H1
    generalize m.length = p at *
    subst h0
    go_wp2_with fail
    go_quiet (fail)
    go_wp2_with fail
    go_ret2
    exact ⟨rfl, below_drewN HB2.out _⟩
  · have hp : 0 < m.length := by omega
    have e := H1.out hp
    obtain ⟨b1, o1, hA2, g0⟩ := hs.term (m.length - 1) (by omega)
    obtain ⟨b1', o1', hA2', hlt, -⟩ := hs.entry (m.length - 1) (by omega)
    rw [hA2] at hA2'
    injection hA2' with hA2'
    injection hA2' with e1 e2
    subst e1 e2 hA2
    clear hs H0 H1
    generalize (m[m.length - 1]'(by omega)).1 = tt at *
    generalize m.length = p at *
    obtain ⟨rfl, rfl⟩ := Prod.mk.inj e
    clear e
    have hne : ((p : Int) == 0) = false := by simp; omega
    have i1 : (0 : Int) ≤ (p : Int) - 1 := by omega
    have i2 : (p : Int) - 1 < (p : Int) := by omega
    go_wp2_with fail
    go_quiet (fail)
    go_wp2_with fail
    go_ret2
    exact ⟨rfl, below_drewN HB2.out _⟩
end Go.Proofs.YtjcljkbalpgfdaaGreat

/-
  What the reference's Last answers.
-/


namespace Go.Proofs.YtjcljkbalpgfdaaGreat
open Go.RowKit

set_option maxRecDepth 100000 in
theorem rlast_any (b t : Int) (v : Value) (l : List E) (w : World) (B : Nat) (hB : B ≤ w.heap.size) (hv : Sl w B v l) :
    Calls Tryz.prog 23 #[lv b t v] w fun e w' => e = .returned (.tuple #[.int .i64 (Lg.last (b, t, l)).1, .int .i64 (Lg.last (b, t, l)).2]) ∧ Below w.heap.size w w' := by
  obtain ⟨A, c, rfl, hc, hm⟩ := hv.form
  unfold maxLen at hm
  have hb0 : Below w.heap.size w (w.alloc (.cells #[.int .i64 b, .int .i64 t, .slice A l.length c] 26)) := (Below.refl _ _).alloc (Nat.le_refl _) _
  have HF := Lib.hid (rfair_any b t _ l _ B (Nat.le_trans hB hb0.size) (hv.below (hb0.mono hB)))
  have HB := Lib.hid hb0
  have hfm := Lg.fair_may (b, t, l)
  unfold Lg.last
  clear hv hb0
  generalize Lg.fair (b, t, l) = x at *
  generalize l.length = n at *
  obtain ⟨y, z, m⟩ := x
  rw [Lg.may_iff] at hfm
  simp only at hfm
  obtain ⟨q1, q2, q3, q4, -, q6, -⟩ := hfm
  have H0 := Lib.hid (@last0_nil (y, z, m))
  have H1 := Lib.hid (@last0_cons (y, z, m))
  generalize Lg.last0 (y, z, m) = r at *
  obtain ⟨r1, r2⟩ := r
  go_enter Tryz.func23, Tryz.ntmps23
  go_wp2_with fail
  with_reducible refine HF.out.mono ?_
  rintro e w2 ⟨v2, rfl, hs, hb2⟩
  simp only at hs ⊢
  obtain ⟨A2, c2, rfl, hc2, hm2⟩ := hs.form
  unfold maxLen at hm2
  have hbb := HB.out.trans (hb2.mono HB.out.size)
  have hz := hbb.size
  have HB2 := Lib.hid (hbb.alloc hbb.size (.cells #[.int .i64 y, .int .i64 z, .slice A2 m.length c2] 26))
  clear hbb hb2 HF HB
  by_cases h0 : m.length = 0
  · obtain ⟨rfl, rfl⟩ := Prod.mk.inj (H0.out h0)
    clear hs H0 H1
    generalize m.length = p at *
    subst h0
    go_wp2_with fail
    go_quiet (fail)
    go_wp2_with fail
    go_ret2
    exact ⟨rfl, below_drewN HB2.out _⟩
  · have hp : 0 < m.length := by omega
    have e := H1.out hp
    obtain ⟨b1, o1, hA2, g0⟩ := hs.term (m.length - 1) (by omega)
    obtain ⟨b1', o1', hA2', hlt, -⟩ := hs.entry (m.length - 1) (by omega)
    rw [hA2] at hA2'
    injection hA2' with hA2'
    injection hA2' with e1 e2
    subst e1 e2 hA2
    have gA := (Below.cell ((Below.refl w2.heap.size w2).alloc (Nat.le_refl _) (.cells #[.int .i64 y, .int .i64 z, .slice (some ⟨b1, o1, none⟩) m.length c2] 26)) (p := ⟨b1, o1 + (m.length - 1) * 7, none⟩) (Nat.lt_of_lt_of_le hlt (Nat.le_trans hB hz))).trans g0
    clear hs H0 H1
    generalize (m[m.length - 1]'(by omega)).1 = tt at *
    generalize m.length = p at *
    obtain ⟨rfl, rfl⟩ := Prod.mk.inj e
    clear e
    have hne : ((p : Int) == 0) = false := by simp; omega
    have i1 : (0 : Int) ≤ (p : Int) - 1 := by omega
    have i2 : (p : Int) - 1 < (p : Int) := by omega
    go_wp2_with fail
    go_quiet (fail)
    go_wp2_with fail
    go_ret2
    exact ⟨rfl, below_drewN HB2.out _⟩
end Go.Proofs.YtjcljkbalpgfdaaGreat

/-
  What the reference's Commit answers.
-/




namespace Go.Proofs.YtjcljkbalpgfdaaGreat
open Go.RowKit

set_option maxRecDepth 100000 in
theorem rcommit_any (b t : Int) (v : Value) (l : List E) (vm : Value) (m : List Int) (hl : m.length ≤ 100000) (tm s : Int) (w : World) (B : Nat) (hB : B ≤ w.heap.size) (hv : Sl w B v l) (hm : Sl w B vm m) :
    Calls Tryz.prog 71 #[lv b t v, vm, .int .i64 tm, .int .i64 s] w fun e w' => e = .returned (.int .i64 (Qr.commit (b, t, l) m tm s)) ∧ Below w.heap.size w w' := by
  obtain ⟨A, c, rfl, hc, -⟩ := hv.form
  obtain ⟨A2, c2, rfl, hc2, -⟩ := hm.form
  have hb0 : Below w.heap.size w (w.alloc (.cells #[.int .i64 b, .int .i64 t, .slice A l.length c] 26)) := (Below.refl _ _).alloc (Nat.le_refl _) _
  have HB := Lib.hid hb0
  have HW := Lib.hid (Whole.new w 26 #[.int .i64 b, .int .i64 t, .slice A l.length c])
  have HL := Lib.hid (fun W (h : Below w.heap.size w W) => rlast_any b t _ l W B (Nat.le_trans hB h.size) (hv.below (h.mono hB)))
  have HT := Lib.hid (fun i hi W (h : Below w.heap.size w W) => rterm_any b t i hi _ l W B (Nat.le_trans hB h.size) (hv.below (h.mono hB)))
  have HM := Lib.hid (fun W (h : Below w.heap.size w W) => rmost_any _ m hl W B (Nat.le_trans hB h.size) (hm.below (h.mono hB)))
  have hlast := Qr.last_le (b, t, l)
  have H0 := Lib.hid (Qr.best_zero (b, t, l) tm s (Qr.most m))
  have HY := Lib.hid (fun i out => @Qr.best_yes (b, t, l) tm s (Qr.most m) i out)
  have HN := Lib.hid (fun i out => @Qr.best_no (b, t, l) tm s (Qr.most m) i out)
  have HE := Lib.hid (fun out => @Qr.best_end (b, t, l) m tm s out)
  unfold Qr.fit at HY HN
  clear hv hm hb0
  generalize Qr.commit (b, t, l) m tm s = R at *
  generalize Qr.best (b, t, l) tm s (Qr.most m) = bs at *
  generalize Lg.term (b, t, l) = tt at *
  generalize Lg.last (b, t, l) = p at *
  generalize (Lg.fair (b, t, l)).1 = y at *
  generalize Qr.most m = mo at *
  obtain ⟨p1, p2⟩ := p
  generalize l.length = n at *
  generalize m.length = n2 at *
  simp only at hlast HL H0 HE
  go_enter Tryz.func71, Tryz.ntmps71
  obtain ⟨k0, k1, k2⟩ := HW.out.c3
  go_wp2_with fail
  with_reducible refine (HL.out _ HB.out).mono ?_
  rintro e w1 ⟨rfl, hb1⟩
  replace HW := Lib.hid (HW.out.below hb1 HW.out.lt)
  replace HB := Lib.hid (HB.out.trans (hb1.mono HB.out.size))
  clear k0 k1 k2 hb1
  go_wp2_with fail
  with_reducible refine (HM.out _ HB.out).mono ?_
  rintro e w2 ⟨rfl, rfl⟩
  have hwr : IntKind.i64.wrap (p1 - 64) = p1 - 64 := by rw [IntKind.wrap_i64]; omega
  go_wp2_with fail
  go_loopw [12, 13] (fun o i wr => ∃ x z : Int, i = .int .i64 x ∧ o = .int .i64 z ∧ p1 - 64 ≤ x ∧ x ≤ p1 + 1 ∧ Hid (bs x z) ∧ Hid (Whole wr w.heap.size 26 #[.int .i64 b, .int .i64 t, .slice A n c]) ∧ Hid (Below w.heap.size w wr)) (fun _ i _ => (p1 + 1 - intOf i).toNat)
  case atStart => exact ⟨p1 - 64, s, rfl, rfl, by omega, by omega, H0, HW, HB⟩
  case round =>
    obtain ⟨x, z, rfl, rfl, h1, h2, hbs, hw, hb⟩ := hrel
    clear HW HB H0
    by_cases hlt : x ≤ p1
    · have HTC := Lib.hid (HT.out x (by omega) wr hb.out)
      have HY1 := Lib.hid (HY.out x z hbs.out)
      have HN1 := Lib.hid (HN.out x z hbs.out)
      obtain ⟨k0, k1, k2⟩ := hw.out.c3
      clear hbs HY HN
      generalize tt x = q at *
      obtain ⟨q1, q2⟩ := q
      simp only at HTC HY1 HN1
      go_wp2_with fail
      with_reducible refine HTC.out.mono ?_
      rintro e w3 ⟨rfl, hb1⟩
      have HW3 := Lib.hid (hw.out.below hb1 hw.out.lt)
      have HB3 := Lib.hid (hb.out.trans (hb1.mono hb.out.size))
      clear k0 k1 k2 hb1 HTC hw hb
      have hw2 : IntKind.i64.wrap (x + 1) = x + 1 := by rw [IntKind.wrap_i64]; omega
      rcases q2 with _ | _
      · have HH := Lib.hid (HN1.out (fun h => by cases h.1))
        clear HY1 HN1
        go_wp2_with fail
        go_roundw
        case rel => exact ⟨x + 1, z, rfl, rfl, by omega, by omega, HH, HW3, HB3⟩
        case measure => simp [intOf]; omega
      by_cases c1 : q1 = tm
      rotate_left
      · have HH := Lib.hid (HN1.out (fun h => c1 (by injection h.1)))
        have e1 : (q1 == tm) = false := by simpa using c1
        clear HY1 HN1 c1
        go_wp2_with fail
        go_roundw
        case rel => exact ⟨x + 1, z, rfl, rfl, by omega, by omega, HH, HW3, HB3⟩
        case measure => simp [intOf]; omega
      have e1 : (q1 == tm) = true := by simpa using c1
      by_cases c2 : s < x
      rotate_left
      · have HH := Lib.hid (HN1.out (fun h => c2 h.2.1))
        have e2 : decide (s < x) = false := by simpa using c2
        clear HY1 HN1 c1
        go_wp2_with fail
        go_roundw
        case rel => exact ⟨x + 1, z, rfl, rfl, by omega, by omega, HH, HW3, HB3⟩
        case measure => simp [intOf]; omega
      by_cases c3 : x ≤ mo
      · have HH := Lib.hid (HY1.out ⟨by rw [c1], c2, c3⟩)
        clear HY1 HN1 c1
        go_wp2_with fail
        go_roundw
        case rel => exact ⟨x + 1, x, rfl, rfl, by omega, by omega, HH, HW3, HB3⟩
        case measure => simp [intOf]; omega
      · have HH := Lib.hid (HN1.out (fun h => c3 h.2.2))
        have e3 : decide (x ≤ mo) = false := by simpa using c3
        clear HY1 HN1 c1
        go_wp2_with fail
        go_roundw
        case rel => exact ⟨x + 1, z, rfl, rfl, by omega, by omega, HH, HW3, HB3⟩
        case measure => simp [intOf]; omega
    · obtain rfl : x = p1 + 1 := by omega
      obtain rfl := HE.out _ hbs.out
      have e1 : decide (p1 + 1 ≤ p1) = false := by simp; omega
      go_wp2_with fail
      go_ret
      exact ⟨rfl, hb.out⟩
end Go.Proofs.YtjcljkbalpgfdaaGreat
