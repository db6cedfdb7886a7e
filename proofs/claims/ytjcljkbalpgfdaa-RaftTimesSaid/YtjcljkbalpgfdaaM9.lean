/-
  Parts that the statement rests on, joined: Add, AddMay, Adds, Rf, Mem0, Grant.
-/
import Derived.Test.YtjcljkbalpgfdaaM2
import Derived.Test.YtjcljkbalpgfdaaM3
import Derived.Test.YtjcljkbalpgfdaaM4
import Derived.Test.YtjcljkbalpgfdaaM6
import Derived.Test.YtjcljkbalpgfdaaM7
import Derived.Test.YtjcljkbalpgfdaaM8
import Derived.Test.YtjcljkbalpgfdaaM14
/-
  What Add answers.
-/




namespace Go.Proofs.Ytjcljkbalpgfdaa
open Go.RowKit

theorem why_zero {l : Lg.L} {i u : Int} {m : List E} (h : Lg.why l i u m = 0) : Lg.may l = true ∧ Lg.rise u m = true ∧ l.1 ≤ i ∧ i ≤ l.1 + l.2.2.length ∧ Lg.term l i = (u, true) := by
  unfold Lg.why at h
  split at h
  · exact absurd h (by decide)
  rename_i h1
  split at h
  · exact absurd h (by decide)
  rename_i h2
  split at h
  · exact absurd h (by decide)
  rename_i h3
  split at h
  · exact absurd h (by decide)
  rename_i h4
  split at h
  · exact absurd h (by decide)
  rename_i h5
  have h1 : Lg.may l = true := by simpa using h1
  have h4 : (Lg.term l i).2 = true := by simpa using h4
  have h5 : (Lg.term l i).1 = u := Decidable.not_not.1 h5
  refine ⟨h1, by simpa using h2, by omega, ?_, Prod.ext h5 h4⟩
  unfold Lg.term at h4
  rw [Lg.fair_of h1] at h4
  unfold Lg.term0 at h4
  split at h4
  · omega
  · split at h4
    · cases h4
    · omega
theorem add_no {l : Lg.L} {i u : Int} {m : List E} (h : Lg.why l i u m ≠ 0) : Lg.add l i u m = (Lg.zero, Lg.why l i u m) := by unfold Lg.add; rw [if_pos h]
theorem add_yes {l : Lg.L} {i u : Int} {m : List E} (h : Lg.why l i u m = 0) : Lg.add l i u m = Lg.put l (i - l.1).toNat (Lg.known (l.2.2.drop (i - l.1).toNat) m) m := by
  unfold Lg.add; rw [if_neg (by rw [h]; simp)]
theorem put_all {l : Lg.L} {a q : Nat} {m : List E} (h : q = m.length) : Lg.put l a q m = (l, 0) := by unfold Lg.put; rw [if_pos h]
theorem put_full {l : Lg.L} {a q : Nat} {m : List E} (h : q ≠ m.length) (h2 : 64 < a + m.length) : Lg.put l a q m = (Lg.zero, 7) := by unfold Lg.put; rw [if_neg h, if_pos h2]
theorem put_some {l : Lg.L} {a q : Nat} {m : List E} (h : q ≠ m.length) (h2 : ¬ 64 < a + m.length) : Lg.put l a q m = ((l.1, l.2.1, l.2.2.take (a + q) ++ m.drop q), 0) := by unfold Lg.put; rw [if_neg h, if_neg h2]

def AddOut (w : World) (x : Lg.L × Int) (e : Ending) (w' : World) : Prop :=
  ∃ v', e = .returned (.tuple #[lv x.1.1 x.1.2.1 v', .int .i64 x.2]) ∧ SlS w' (w.heap.size ≤ ·) v' x.1.2.2 ∧ Below w.heap.size w w'

set_option maxRecDepth 100000 in
theorem add_any (b t i u : Int) (hi : -9223372036854775808 ≤ i ∧ i ≤ 9223372036854775807) (v v2 : Value) (l m : List E) (hml : m.length ≤ 100000) (w : World) (B : Nat) (hB : B ≤ w.heap.size) (hv : Sl w B v l) (hv2 : Sl w B v2 m) :
    Calls Try.prog 49 #[lv b t v, .int .i64 i, .int .i64 u, v2] w (AddOut w (Lg.add (b, t, l) i u m)) := by
  obtain ⟨A, c, rfl, hc, hm⟩ := hv.form
  obtain ⟨A2, c2, rfl, hc2, hm2⟩ := hv2.form
  have hm' := hm
  have hm2' := hm2
  unfold maxLen at hm' hm2'
  have hb0 : Below w.heap.size w (w.alloc (.cells #[.int .i64 b, .int .i64 t, .slice A l.length c] 26)) := (Below.refl _ _).alloc (Nat.le_refl _) _
  have hb1 : Below w.heap.size w ((w.alloc (.cells #[.int .i64 b, .int .i64 t, .slice A l.length c] 26)).alloc (.cells #[.int .i64 0, .int .i64 0, .slice none 0 0] 26)) := hb0.alloc hb0.size _
  have HV := Lib.hid (fun W (h : Below w.heap.size w W) => hv.below (h.mono hB))
  have HV2 := Lib.hid (fun W (h : Below w.heap.size w W) => hv2.below (h.mono hB))
  have HY := Lib.hid (why_any b t i u hi _ _ l m _ B (Nat.le_trans hB hb1.size) (HV.out _ hb1) (HV2.out _ hb1))
  have hW := Lib.hid ((Whole.new w 26 #[.int .i64 b, .int .i64 t, .slice A l.length c]).alloc (.cells #[.int .i64 0, .int .i64 0, .slice none 0 0] 26))
  have hW2 := Lib.hid (Whole.new (w.alloc (.cells #[.int .i64 b, .int .i64 t, .slice A l.length c] 26)) 26 #[.int .i64 0, .int .i64 0, .slice none 0 0])
  have HB := Lib.hid hb1
  have hno := Lib.hid (@add_no (b, t, l) i u m)
  have hyes := Lib.hid (@add_yes (b, t, l) i u m)
  have hzero := Lib.hid (@why_zero (b, t, l) i u m)
  clear hv hv2 hb0 hb1
  generalize Lg.add (b, t, l) i u m = X at *
  generalize Lg.why (b, t, l) i u m = R at *
  go_enter Try.func49, Try.ntmps49
  go_wp2_with fail
  with_reducible refine HY.out.mono ?_
  rintro e w2 ⟨rfl, hb2⟩
  have hbb := HB.out.trans (hb2.mono HB.out.size)
  have HW1 := Lib.hid (hW.out.below hb2 hW.out.lt)
  have hw2 := hW2.out.below hb2 hW2.out.lt
  rw [World.size_alloc] at hw2
  have HW2 := Lib.hid hw2
  have HB2 := Lib.hid hbb
  clear hw2 hbb hb2 HY hW hW2 HB
  by_cases hr : R = 0
  · have hX := hyes.out hr
    have hz := hzero.out hr
    subst hr
    obtain ⟨hmay, -, z1, z2, -⟩ := hz
    rw [Lg.may_iff] at hmay
    obtain ⟨q1, q2, -, -, -, q6, -⟩ := hmay
    obtain ⟨k, rfl⟩ := Int.eq_ofNat_of_zero_le q1
    obtain ⟨j, rfl⟩ := Int.eq_ofNat_of_zero_le (show 0 ≤ i by omega)
    rw [show ((j : Int) - (k : Int)).toNat = j - k by omega] at hX
    clear hno hyes hzero
    have hs1 := fun W => run_from A l.length c (j - k) ((j : Int) - (k : Int)) (by omega) (by omega) W
    have hd1 := fun W (h : Below w.heap.size w W) => (HV.out W h).drop (j - k) (by omega)
    have hlen : (l.drop (j - k)).length = l.length - (j - k) := List.length_drop
    rw [show Rep.sz E = 7 from rfl] at hd1
    have hK := fun W (h : Below w.heap.size w W) => known_any _ _ (l.drop (j - k)) m W B (Nat.le_trans hB h.size) (hd1 W h) (HV2.out W h)
    generalize (if c = j - k then A else A.map (·.add ((j - k) * 7))) = A3 at *
    have HK := Lib.hid hK
    clear hd1 hK
    have hkl := Lg.known_le (l.drop (j - k)) m
    generalize Lg.known (l.drop (j - k)) m = q at *
    obtain ⟨k0, k1, k2⟩ := HW1.out.c3
    obtain ⟨f0, f1, f2⟩ := HW2.out.f3
    rw [hlen] at hkl
    obtain ⟨hkl1, hkl2⟩ := hkl
    have HX := Lib.hid hX
    clear hX hlen
    have HLL := Lib.hid (show l.length = l.length from rfl)
    generalize hn : l.length = n at *
    generalize hn2 : m.length = n2 at *
    have HN := Lib.hid hn
    have HN2 := Lib.hid hn2
    clear hn hn2 HLL
    go_wp2_with fail
    with_reducible refine (HK.out _ HB2.out).mono ?_
    rintro e w3 ⟨rfl, hb3⟩
    have HW13 := Lib.hid (HW1.out.below hb3 HW1.out.lt)
    have HW23 := Lib.hid (HW2.out.below hb3 HW2.out.lt)
    have HB3 := Lib.hid (HB2.out.trans (hb3.mono HB2.out.size))
    have hz3 := HB3.out.size
    have hz4 := HW23.out.lt
    clear hb3 HW1 HW2 HB2 k0 k1 k2 f0 f1 f2 hs1
    obtain ⟨k0, k1, k2⟩ := HW13.out.c3
    by_cases hq : q = n2
    · subst hq
      obtain rfl : X = (((k : Int), t, l), 0) := by rw [HX.out, put_all HN2.out.symm]
      have e1 : ((q : Int) == (q : Int)) = true := by simp
      have HC := Lib.hid (clone_any _ l (by rw [HN.out]; omega) w3 B (Nat.le_trans hB hz3) (HV.out w3 HB3.out))
      clear HK HX HV HV2
      go_wp2_with fail
      with_reducible refine HC.out.mono ?_
      rintro e w4 ⟨A4, c4, rfl, ho4, hb4⟩
      rw [HN.out] at ho4 ⊢
      have hw1 := HW13.out.below hb4 HW13.out.lt
      have hw2 := HW23.out.below hb4 HW23.out.lt
      have HB4 := Lib.hid (HB3.out.trans (hb4.mono hz3))
      have HO4 := Lib.hid ho4
      have HW2 := Lib.hid hw2
      obtain ⟨k0, k1, k2⟩ := hw1.c3
      obtain ⟨-, -, f2⟩ := hw1.f3
      obtain ⟨f3, f4, f5⟩ := hw2.f3
      obtain ⟨k3, k4, k5⟩ := hw2.c3
      clear ho4 hb4 hw1 hw2 HC HW13 HW23 HB3
      go_wp2_with fail
      refine bodyPost_ret (results_log2 rfl rfl ((HW2.out.far (p := ⟨w.heap.size, 2, none⟩) (by simp) _).set3 _ _ _)) rfl ?_
      exact ⟨_, rfl, SlS.wide ((((HO4.out.set (p := ⟨w.heap.size, 2, none⟩) (by simp; omega) _).set (p := ⟨w.heap.size + 1, 0, none⟩) (by simp; omega) _).set (p := ⟨w.heap.size + 1, 1, none⟩) (by simp; omega) _).set (p := ⟨w.heap.size + 1, 2, none⟩) (by simp; omega) _).slS (fun _ h _ => Nat.le_trans (by first | exact hz3 | exact hz) h), below_set3 (HB4.out.setCell (Nat.le_refl _) _) (by omega) _ _ _⟩
    · have e1 : ((q : Int) == (n2 : Int)) = false := by simp; omega
      have hs2 := fun W => run_upto A n c (j - k + q) ((j : Int) - (k : Int) + (q : Int)) (by omega) (by omega) W
      have hs3 := fun W => run_from A2 n2 c2 q (q : Int) rfl (by omega) W
      have hd2 := Lib.hid (fun W (h : Below w.heap.size w W) => (HV.out W h).upto (j - k + q) (by omega))
      have hd3 := Lib.hid (fun W (h : Below w.heap.size w W) => (HV2.out W h).drop q hkl2)
      rw [show Rep.sz E = 7 from rfl] at hd3
      have hl2 : (l.take (j - k + q)).length = j - k + q := by rw [List.length_take, HN.out]; omega
      have hl3 : (m.drop q).length = n2 - q := by rw [List.length_drop, HN2.out]
      have HL2 := Lib.hid hl2
      have HL3 := Lib.hid hl3
      clear hl2 hl3 HK
      generalize (if c = 0 then A else A.map (·.add (0 * 7))) = A4 at *
      generalize (if c2 = q then A2 else A2.map (·.add (q * 7))) = A5 at *
      by_cases h64 : 64 < j - k + n2
      · obtain rfl : X = (Lg.zero, 7) := by rw [HX.out, put_full (by rw [HN2.out]; exact hq) (by rw [HN2.out]; exact h64)]
        obtain ⟨f3, f4, f5⟩ := HW23.out.f3
        obtain ⟨k3, k4, k5⟩ := HW23.out.c3
        go_wp2_with fail
        go_quiet (fail)
        go_wp2_with fail
        have hW := HW23.out.drewN nq
        refine bodyPost_ret (results_log2 rfl rfl (hW.set3 _ _ _)) rfl ?_
        exact ⟨_, rfl, SlS.nil _ _, below_set3 (below_drewN HB3.out nq) (by omega) _ _ _⟩
      · obtain rfl : X = (((k : Int), t, l.take (j - k + q) ++ m.drop q), 0) := by rw [HX.out, put_some (by rw [HN2.out]; exact hq) (by rw [HN2.out]; exact h64)]
        have HC := Lib.hid (fun x => clone_any _ (l.take (j - k + q)) (by rw [HL2.out]; omega) (w3.drewN x) B (Nat.le_trans hB hz3) (hd2.out _ (below_drewN HB3.out x)))
        have HD3 := Lib.hid (fun W h => hd3.out W h)
        clear hd2 hd3 HX HV HV2
        generalize l.take (j - k + q) = L1 at *
        generalize m.drop q = L2 at *
        go_wp2_with fail
        go_quiet (fail)
        go_wp2_with fail
        with_reducible refine (HC.out _).mono ?_
        rintro e w4 ⟨A6, c6, rfl, ho4, hb4⟩
        rw [HL2.out] at ho4 ⊢
        have hbb := below_drewN HB3.out nq
        have hw1 := (HW13.out.drewN nq).below hb4 HW13.out.lt
        have hw2 := (HW23.out.drewN nq).below hb4 HW23.out.lt
        have HB4 := Lib.hid (hbb.trans (hb4.mono hz3))
        have HO4 := Lib.hid ho4
        have HS5 := Lib.hid (HD3.out w4 HB4.out)
        have HW1 := Lib.hid hw1
        have HW2 := Lib.hid hw2
        have hz5 : w3.heap.size ≤ w4.heap.size := hb4.size
        obtain ⟨k0, k1, k2⟩ := hw1.c3
        obtain ⟨-, -, f2⟩ := hw1.f3
        obtain ⟨f3, f4, f5⟩ := hw2.f3
        obtain ⟨k3, k4, k5⟩ := hw2.c3
        clear ho4 hb4 hw1 hw2 hbb HC HW13 HW23 HB3 HD3
        go_wp2_with (at_builtin; refine wpList_append_sl rfl (.tmp 60) (.tmp 61) rfl rowE w3.heap.size _ L1 rfl HO4.out B _ L2 rfl HS5.out (by rw [HL2.out, HL3.out]; unfold maxLen; omega) (by rw [HL2.out, HL3.out]; omega) hz5 ?_; intro v7 w7 hown7 hg7 hat7; have hb7 := below_of_own (Below.refl w3.heap.size w4) HO4.out hg7 hz5; have hw1 := HW1.out.below hb7 (Nat.lt_of_succ_lt hz4); have hw2 := HW2.out.below hb7 hz4; obtain ⟨k0, k1, k2⟩ := hw1.c3; obtain ⟨-, -, f2⟩ := hw1.f3; obtain ⟨f3, f4, f5⟩ := hw2.f3; obtain ⟨k3, k4, k5⟩ := hw2.c3; have HB7 := Lib.hid (HB4.out.trans (hb7.mono hz3)); have HW7 := Lib.hid hw2; obtain ⟨A7, c7, hv7, -, -⟩ := hown7.sl.form; subst hv7; rw [List.length_append] at hown7; have HO7 := Lib.hid hown7; clear hown7 hg7 hat7 hb7 hw1 hw2)
        refine bodyPost_ret (results_log2 rfl rfl ((HW7.out.far (p := ⟨w.heap.size, 2, none⟩) (by simp) _).set3 _ _ _)) rfl ?_
        exact ⟨_, rfl, SlS.wide ((((HO7.out.set (p := ⟨w.heap.size, 2, none⟩) (by simp; omega) _).set (p := ⟨w.heap.size + 1, 0, none⟩) (by simp; omega) _).set (p := ⟨w.heap.size + 1, 1, none⟩) (by simp; omega) _).set (p := ⟨w.heap.size + 1, 2, none⟩) (by simp; omega) _).slS (fun _ h _ => Nat.le_trans (by first | exact hz3 | exact hz) h), below_set3 (HB7.out.setCell (Nat.le_refl _) _) (by omega) _ _ _⟩
  · have hX := hno.out hr
    subst hX
    clear hno hyes hzero HW1
    have e1 : (R != 0) = true := by simpa using hr
    obtain ⟨f0, f1, f2⟩ := HW2.out.f3
    obtain ⟨k0, k1, k2⟩ := HW2.out.c3
    go_wp2_with fail
    refine bodyPost_ret (results_log2 rfl rfl (HW2.out.set3 _ _ _)) rfl ?_
    exact ⟨_, rfl, SlS.nil _ _, below_set3 HB2.out (by omega) _ _ _⟩
end Go.Proofs.Ytjcljkbalpgfdaa

/-
  What was added may be.
-/


namespace Go.Proofs.Ytjcljkbalpgfdaa.Lg

/-- The term of the last one, or the one ahead. -/
def endT : Int → List E → Int
  | t, [] => t
  | _, e :: l => endT e.1 l
theorem rise_append : ∀ (t : Int) (l m : List E), rise t (l ++ m) = (rise t l && rise (endT t l) m)
  | t, [], m => by simp [rise, endT]
  | t, e :: l, m => by
    rw [List.cons_append, rise, rise, rise_append e.1 l m, endT]
    simp only [Bool.and_assoc]
theorem endT_take : ∀ (t : Int) (l : List E) (k : Nat), k ≤ l.length → endT t (l.take k) = if k = 0 then t else tm l (k - 1)
  | t, l, 0, _ => by simp [endT]
  | t, [], k + 1, h => by simp at h
  | t, e :: l, k + 1, h => by
    rw [List.take_succ_cons, endT, endT_take e.1 l k (by simpa using h)]
    cases k with
    | zero => rfl
    | succ k => rfl
theorem rise_take {t : Int} {l : List E} (k : Nat) (h : rise t l = true) : rise t (l.take k) = true ∧ rise (endT t (l.take k)) (l.drop k) = true := by
  rw [← List.take_append_drop k l, rise_append, Bool.and_eq_true] at h
  exact h
theorem add_may {b t i u : Int} {l m : List E} (h : (add (b, t, l) i u m).2 = 0) : may (add (b, t, l) i u m).1 = true := by
  by_cases hw : why (b, t, l) i u m = 0
  · obtain ⟨h1, h2, h3, h4, h5⟩ := why_zero hw
    rw [add_yes hw] at h ⊢
    simp only at h3 h4 h ⊢
    have hm := (may_iff _).1 h1
    simp only at hm
    obtain ⟨m1, m2, m3, m4, m5, m6, m7⟩ := hm
    obtain ⟨a, ha⟩ : ∃ a : Nat, i - b = (a : Int) := ⟨(i - b).toNat, by omega⟩
    rw [ha, Int.toNat_natCast] at h ⊢
    have hk := known_le (l.drop a) m
    rw [List.length_drop] at hk
    have hlt := known_lt (l.drop a) m
    generalize known (l.drop a) m = q at *
    by_cases hq : q = m.length
    · rw [put_all hq]
      exact h1
    · by_cases h64 : 64 < a + m.length
      · rw [put_full hq h64] at h
        cases h
      · rw [put_some hq h64]
        rw [may_iff]
        refine ⟨m1, m2, m3, m4, m5, ?_, ?_⟩
        · simp only [List.length_append, List.length_take, List.length_drop]; omega
        · simp only
          rw [rise_append, Bool.and_eq_true]
          refine ⟨(rise_take _ m7).1, ?_⟩
          have e : endT t (l.take (a + q)) = endT u (m.take q) := by
            rw [endT_take _ _ _ (by omega), endT_take _ _ _ hk.2]
            rcases Nat.eq_zero_or_pos q with h0 | h0
            · subst h0
              rw [if_pos rfl, Nat.add_zero]
              unfold term at h5
              rw [fair_of h1] at h5
              unfold term0 at h5
              simp only at h5
              by_cases hb : i = b
              · rw [if_pos hb] at h5
                rw [if_pos (by omega)]
                exact (Prod.mk.inj h5).1
              · rw [if_neg hb, if_neg (by omega), show (i - b - 1).toNat = a - 1 by omega] at h5
                rw [if_neg (by omega)]
                exact (Prod.mk.inj h5).1
            · rw [if_neg (by omega), if_neg (by omega), ← hlt (q - 1) (by omega), tm_drop]
              congr 1; omega
          rw [e]
          exact (rise_take q h2).2
  · rw [add_no hw] at h
    exact absurd h hw
end Go.Proofs.Ytjcljkbalpgfdaa.Lg

/-
  What an addition makes, as plain mathematics: what is ahead stays, what was added is there, and to add it again changes nothing.
-/

namespace Go.Proofs.Ytjcljkbalpgfdaa.Lg

theorem known_full : ∀ {l m : List E}, m.length ≤ l.length → (∀ k, k < m.length → tm l k = tm m k) → known l m = m.length
  | l, [], _, _ => by rcases l with _ | ⟨_, _⟩ <;> simp [known]
  | [], _ :: _, h, _ => by simp at h
  | a :: l, b :: m, h, h2 => by
    have h0 := h2 0 (by simp)
    have e : a.1 = b.1 := h0
    rw [known, if_pos e, known_full (by simpa using h) (fun k hk => h2 (k + 1) (by simpa using hk))]
    simp
theorem tm_append_left {l m : List E} {k : Nat} (h : k < l.length) : tm (l ++ m) k = tm l k := by unfold tm; rw [List.getElem?_append_left h]
theorem tm_append_right {l m : List E} {k : Nat} (h : l.length ≤ k) : tm (l ++ m) k = tm m (k - l.length) := by unfold tm; rw [List.getElem?_append_right h]
theorem tm_take {l : List E} {a k : Nat} (h : k < a) : tm (l.take a) k = tm l k := by unfold tm; rw [List.getElem?_take_of_lt h]

/-- What an addition that is not refused makes. -/
structure Added (b t i u : Int) (l m L : List E) (a : Nat) : Prop where
  eq : add (b, t, l) i u m = ((b, t, L), 0)
  at_ : i = b + a
  le : a ≤ l.length
  le2 : a ≤ L.length
  ahead : L.take a = l.take a
  there : known (L.drop a) m = m.length
  may1 : may (b, t, l) = true
  may2 : may (b, t, L) = true
  rise : rise u m = true
  term : term (b, t, l) i = (u, true)
theorem added {b t i u : Int} {l m : List E} (h : (add (b, t, l) i u m).2 = 0) : ∃ L a, Added b t i u l m L a := by
  have hmay := add_may h
  by_cases hw : why (b, t, l) i u m = 0
  · obtain ⟨h1, h2, h3, h4, h5⟩ := why_zero hw
    rw [add_yes hw] at h hmay
    have hadd := add_yes hw
    simp only at h3 h4 h hmay hadd
    obtain ⟨a, ha⟩ : ∃ a : Nat, i - b = (a : Int) := ⟨(i - b).toNat, by omega⟩
    rw [ha, Int.toNat_natCast] at h hmay hadd
    have hk := known_le (l.drop a) m
    rw [List.length_drop] at hk
    have hlt := known_lt (l.drop a) m
    by_cases hq : known (l.drop a) m = m.length
    · rw [put_all hq] at hmay hadd
      exact ⟨l, a, hadd, by omega, by omega, by omega, rfl, hq, h1, h1, h2, h5⟩
    · generalize known (l.drop a) m = q at *
      by_cases h64 : 64 < a + m.length
      · rw [put_full hq h64] at h
        cases h
      · rw [put_some hq h64] at hmay hadd
        have hlt' : (l.take (a + q)).length = a + q := by rw [List.length_take]; omega
        refine ⟨_, a, hadd, by omega, by omega, ?_, ?_, ?_, h1, hmay, h2, h5⟩
        · simp only [List.length_append, hlt', List.length_drop]; omega
        · simp only
          rw [List.take_append_of_le_length (by omega), List.take_take, Nat.min_eq_left (by omega)]
        · simp only
          refine known_full ?_ fun k hk' => ?_
          · simp only [List.length_drop, List.length_append, hlt']; omega
          · rw [tm_drop]
            by_cases hkq : k < q
            · rw [tm_append_left (by omega), tm_take (by omega), ← tm_drop]
              exact hlt k hkq
            · rw [tm_append_right (by omega), hlt', tm_drop]
              congr 1; omega
  · rw [add_no hw] at h
    exact absurd h hw

theorem term_eq {b t i : Int} {l : List E} (h : may (b, t, l) = true) : Lg.term (b, t, l) i = if i = b then (t, true) else if i < b ∨ b + l.length < i then (0, false) else (tm l (i - b - 1).toNat, true) := by
  unfold Lg.term
  rw [fair_of h]
  rfl
theorem from_eq {b t i m : Int} {l : List E} (h : may (b, t, l) = true) : from_ (b, t, l) i m = if m ≤ 0 ∨ i ≤ b ∨ b + l.length < i then [] else (l.drop (i - b - 1).toNat).take m.toNat := by
  unfold from_
  rw [fair_of h]
  rfl
theorem from_front {b t : Int} {l : List E} {a : Nat} (h : may (b, t, l) = true) (ha : a ≤ l.length) : from_ (b, t, l) (b + 1) (a : Int) = l.take a := by
  rw [from_eq h]
  by_cases h0 : a = 0
  · subst h0; rw [if_pos (.inl (by omega))]; rfl
  · rw [if_neg (by omega), show (b + 1 - b - 1).toNat = 0 by omega, List.drop_zero, Int.toNat_natCast]

section
variable {b t i u : Int} {l m L : List E} {a : Nat}
theorem Added.term2 (h : Added b t i u l m L a) : Lg.term (b, t, L) i = (u, true) := by
  have h1 := h.term
  rw [term_eq h.may1] at h1
  rw [term_eq h.may2]
  by_cases hb : i = b
  · rw [if_pos hb] at h1 ⊢
    exact h1
  · have := h.at_
    have := h.le
    have := h.le2
    rw [if_neg hb, if_neg (by omega), show (i - b - 1).toNat = a - 1 by omega] at h1 ⊢
    rw [← h1, ← tm_take (l := L) (a := a) (by omega), ← tm_take (l := l) (a := a) (by omega), h.ahead]
theorem Added.again (h : Added b t i u l m L a) : add (b, t, L) i u m = ((b, t, L), 0) := by
  have h1 := h.at_
  have hw : why (b, t, L) i u m = 0 := by
    unfold why
    rw [h.may2, h.rise, h.term2]
    simp only [Bool.true_eq_false, if_false]
    rw [if_neg (by omega)]
    simp
  rw [add_yes hw]
  simp only
  rw [show (i - b).toNat = a by omega, put_all h.there]
theorem known_len {l m : List E} (h : known l m = m.length) {x : Nat} (hx : x < m.length) : tm l x = tm m x := known_lt l m x (by omega)
theorem Added.len (h : Added b t i u l m L a) : a + m.length ≤ L.length := by
  have h1 := known_le (L.drop a) m
  have h2 := h.there
  have := h.le2
  rw [List.length_drop] at h1
  omega
theorem Added.has (h : Added b t i u l m L a) {x : Nat} (hx : x < m.length) : Lg.term (b, t, L) (i + 1 + x) = (tm m x, true) := by
  have h1 := h.at_
  have h2 := h.len
  rw [term_eq h.may2, if_neg (by omega), if_neg (by omega), show (i + 1 + (x : Int) - b - 1).toNat = a + x by omega, ← tm_drop, known_len h.there hx]
theorem Added.front (h : Added b t i u l m L a) : from_ (b, t, L) (b + 1) (i - b) = from_ (b, t, l) (b + 1) (i - b) := by
  have h1 := h.at_
  rw [show i - b = (a : Int) by omega, from_front h.may1 h.le, from_front h.may2 h.le2, h.ahead]
end

/-- To add what is there changes nothing. -/
theorem add_same {b t i u m : Int} {l : List E} (h : may (b, t, l) = true) (ht : Lg.term (b, t, l) i = (u, true)) : add (b, t, l) i u (from_ (b, t, l) (i + 1) m) = ((b, t, l), 0) := by
  have hin := ht
  rw [term_eq h] at hin
  have hib : b ≤ i ∧ i ≤ b + l.length := by
    by_cases h1 : i = b
    · omega
    · rw [if_neg h1] at hin
      by_cases h2 : i < b ∨ b + l.length < i
      · rw [if_pos h2] at hin; cases hin
      · omega
  obtain ⟨a, ha⟩ : ∃ a : Nat, i = b + (a : Int) := ⟨(i - b).toNat, by omega⟩
  have hm := (may_iff _).1 h
  simp only at hm
  obtain ⟨-, -, -, -, -, -, hr⟩ := hm
  -- what is read
  obtain ⟨j, hj⟩ : ∃ j : Nat, from_ (b, t, l) (i + 1) m = (l.drop a).take j := by
    rw [from_eq h]
    by_cases h1 : m ≤ 0 ∨ i + 1 ≤ b ∨ b + l.length < i + 1
    · rw [if_pos h1]; exact ⟨0, by simp⟩
    · rw [if_neg h1]
      exact ⟨m.toNat, by rw [show (i + 1 - b - 1).toNat = a by omega]⟩
  rw [hj]
  have he : endT t (l.take a) = u := by
    rw [endT_take _ _ _ (by omega)]
    by_cases h1 : i = b
    · rw [if_pos h1] at hin
      rw [if_pos (by omega)]
      exact (Prod.mk.inj hin).1
    · rw [if_neg h1, if_neg (by omega), show (i - b - 1).toNat = a - 1 by omega] at hin
      rw [if_neg (by omega)]
      exact (Prod.mk.inj hin).1
  have hrise : Lg.rise u ((l.drop a).take j) = true := by
    have := (rise_take a hr).2
    rw [he] at this
    exact (rise_take j this).1
  have hw : why (b, t, l) i u ((l.drop a).take j) = 0 := by
    unfold why
    rw [h, hrise, ht]
    simp only [Bool.true_eq_false, if_false]
    rw [if_neg (by omega)]
    simp
  rw [add_yes hw]
  simp only
  rw [show (i - b).toNat = a by omega, put_all]
  refine known_full (by rw [List.length_take]; omega) fun k hk => ?_
  rw [List.length_take] at hk
  rw [tm_take (by omega)]
end Go.Proofs.Ytjcljkbalpgfdaa.Lg

/-
  A member of a group, as plain mathematics: what it says and what it is then.
-/



namespace Go.Proofs.Ytjcljkbalpgfdaa.Rf

abbrev E := Lg.E
/-- A message: Kind, From, To, Term, Index, LogTerm, Commit, Yes, L. -/
abbrev Msg := Int × Int × Int × Int × Int × Int × Int × Bool × List E
abbrev Cmd := Int × Int × Int × Int × Int × Int
/-- What it is: its ballot, its log, its role, what is settled, who votes for it, Match and Next. -/
structure St where
  b : Int × Int
  l : List E
  is : Int
  upto : Int
  votes : List Bool
  mt : List Int
  nx : List Int

def lg (s : St) : Lg.L := (0, 0, s.l)
def last (s : St) : Int × Int := Lg.last (lg s)
/-- Its number and how many there are. -/
structure Id where
  id : Nat
  many : Nat

def new (id many : Int) (b : Int × Int) (l : Lg.L) : Option (Id × St) :=
  if many < 1 ∨ 16 < many ∨ id < 1 ∨ many < id ∨ Vt.may b = false ∨ Lg.may l = false ∨ l.1 ≠ 0 ∨ b.1 < (Lg.last l).2 then none
  else some (⟨id.toNat, many.toNat⟩, { b := b, l := l.2.2, is := 0, upto := 0, votes := List.replicate many.toNat false, mt := List.replicate many.toNat 0, nx := List.replicate many.toNat 0 })

def addition (n : Id) (s : St) (k : Nat) : Msg :=
  (2, (n.id : Int), (k : Int), s.b.1, s.nx[k - 1]?.getD 0 - 1, (Lg.term (lg s) (s.nx[k - 1]?.getD 0 - 1)).1, s.upto, false, Lg.from_ (lg s) (s.nx[k - 1]?.getD 0) 8)
/-- To each of the others of the first k. -/
def each (n : Id) (f : Nat → Msg) : Nat → List Msg
  | 0 => []
  | k + 1 => if k + 1 = n.id then each n f k else each n f k ++ [f (k + 1)]
def all (n : Id) (s : St) : List Msg := each n (addition n s) n.many
def settle (s : St) : St := { s with upto := Qr.commit (lg s) s.mt s.b.1 s.upto }
def put (s : St) (c : Cmd) : St := { s with l := s.l ++ [(s.b.1, c)] }
def own (n : Id) (s : St) : St := { s with mt := s.mt.set (n.id - 1) (last s).1 }
def begin_ (n : Id) (s : St) : St := { s with is := 2, nx := List.replicate n.many ((last s).1 + 1), mt := List.replicate n.many 0 }
def first (s : St) : St := if s.l.length < 64 then put s (0, 0, 0, 0, 0, 0) else s
def lead (n : Id) (s : St) : St × List Msg :=
  let t := settle (own n (first (begin_ n s)))
  (t, all n t)
def stand (n : Id) (s : St) : St := { s with b := (s.b.1 + 1, (n.id : Int)), is := 1, votes := (List.replicate n.many false).set (n.id - 1) true }
def ask (n : Id) (s : St) (k : Nat) : Msg := (0, (n.id : Int), (k : Int), s.b.1, (last s).1, (last s).2, 0, false, [])
def timeout (n : Id) (s : St) : St × List Msg :=
  if s.is = 2 ∨ 1073741824 ≤ s.b.1 then (s, []) else
    if n.many / 2 + 1 = 1 then lead n (stand n s) else (stand n s, each n (ask n (stand n s)) n.many)
def beat (n : Id) (s : St) : St × List Msg := if s.is = 2 then (s, all n s) else (s, [])
def propose (n : Id) (s : St) (c : Cmd) : St × Int × List Msg × Int :=
  if s.is ≠ 2 then (s, 0, [], 8) else if 64 ≤ s.l.length then (s, 0, [], 7) else
    let t := settle (own n (put s c))
    (t, (last t).1, all n t, 0)
def voted (n : Id) (s : St) (x : Msg) : St × List Msg :=
  if s.is ≠ 1 ∨ x.2.2.2.1 ≠ s.b.1 ∨ x.2.2.2.2.2.2.2.1 = false then (s, []) else
    let t := { s with votes := s.votes.set (x.2.1.toNat - 1) true }
    if t.votes.count true < n.many / 2 + 1 then (t, []) else lead n t
def fits (x : Msg) : Bool := x.2.2.2.2.2.2.2.2.all fun e => decide (e.1 ≤ x.2.2.2.1)
def say (n : Id) (s : St) (k x : Int) (i : Int) (y : Bool) : Msg := (k, (n.id : Int), x, s.b.1, i, 0, 0, y, [])
def add (n : Id) (s : St) (x : Msg) : St × List Msg :=
  if x.2.2.2.1 < s.b.1 then (s, [say n s 3 x.2.1 0 false]) else if s.is = 2 then (s, []) else
    let t := { s with is := 0 }
    let r := Lg.add (lg s) x.2.2.2.2.1 x.2.2.2.2.2.1 x.2.2.2.2.2.2.2.2
    if r.2 ≠ 0 ∨ fits x = false then (t, [say n t 3 x.2.1 (last s).1 false]) else
      let i := x.2.2.2.2.1 + x.2.2.2.2.2.2.2.2.length
      ({ t with l := r.1.2.2, upto := max s.upto (min x.2.2.2.2.2.2.1 i) }, [say n t 3 x.2.1 i true])
def added (n : Id) (s : St) (x : Msg) : St × List Msg :=
  if s.is ≠ 2 ∨ x.2.2.2.1 ≠ s.b.1 then (s, []) else
    let k := x.2.1.toNat - 1
    if x.2.2.2.2.2.2.2.1 = true then
      if x.2.2.2.2.1 < 0 ∨ (last s).1 < x.2.2.2.2.1 then (s, []) else
        let m := max (s.mt[k]?.getD 0) x.2.2.2.2.1
        let t := settle { s with mt := s.mt.set k m, nx := s.nx.set k (m + 1) }
        if (last s).1 < m + 1 then (t, []) else (t, [addition n t (k + 1)])
    else
      let t := { s with nx := s.nx.set k (max 1 (min (s.nx[k]?.getD 0 - 1) (x.2.2.2.2.1 + 1))) }
      (t, [addition n t (k + 1)])
/-- Is it for this one? -/
def mine (n : Id) (x : Msg) : Prop := x.2.2.1 = n.id ∧ x.2.1 ≠ n.id ∧ 1 ≤ x.2.1 ∧ x.2.1 ≤ n.many ∧ 1 ≤ x.2.2.2.1 ∧ x.2.2.2.1 ≤ 1073741824 ∧ 0 ≤ x.1 ∧ x.1 ≤ 3
instance (n : Id) (x : Msg) : Decidable (mine n x) := by unfold mine; exact inferInstance
def sees (s : St) (x : Msg) : St := if s.b.1 < x.2.2.2.1 then { s with b := Vt.see s.b x.2.2.2.1, is := 0 } else s
def asked (n : Id) (s : St) (x : Msg) : St × List Msg :=
  let r := Vt.grant s.b (last s) x.2.1 x.2.2.2.1 x.2.2.2.2.1 x.2.2.2.2.2.1
  let t := { s with b := r.1 }
  (t, [say n t 1 x.2.1 0 r.2])
def hear (n : Id) (s : St) (x : Msg) : St × List Msg :=
  if mine n x then
    let t := sees s x
    if x.1 = 0 then asked n t x else if x.1 = 1 then voted n t x else if x.1 = 2 then add n t x else added n t x
  else (s, [])

/-! What a member always is. -/
structure Good (n : Id) (s : St) : Prop where
  id1 : 1 ≤ n.id
  id2 : n.id ≤ n.many
  many : n.many ≤ 16
  b : 0 ≤ s.b.1 ∧ s.b.1 ≤ 1073741824 ∧ 0 ≤ s.b.2 ∧ s.b.2 ≤ 16
  l : Lg.may (lg s) = true
  t : (last s).2 ≤ s.b.1
  pos : s.is ≠ 0 → 1 ≤ s.b.1
  is : 0 ≤ s.is ∧ s.is ≤ 2
  upto : 0 ≤ s.upto ∧ s.upto ≤ 64
  votes : s.votes.length = n.many
  mt : s.mt.length = n.many
  nx : s.nx.length = n.many
  mts : ∀ x ∈ s.mt, 0 ≤ x ∧ x ≤ 64
  nxs : ∀ x ∈ s.nx, 0 ≤ x ∧ x ≤ 65

theorem last_eq {l : List E} (h : Lg.may (0, 0, l) = true) : Lg.last (0, 0, l) = ((l.length : Int), Lg.endT 0 l) := by
  unfold Lg.last
  rw [Lg.fair_of h]
  unfold Lg.last0
  simp only
  split
  · rename_i h0
    obtain rfl := List.eq_nil_of_length_eq_zero h0
    rfl
  · rename_i h0
    have := Lg.endT_take 0 l l.length (Nat.le_refl _)
    rw [List.take_length, if_neg h0] at this
    rw [this]
    simp
theorem may_lg {l : List E} : Lg.may (0, 0, l) = true ↔ l.length ≤ 64 ∧ Lg.rise 0 l = true := by
  rw [Lg.may_iff]
  simp
theorem endT_append (t : Int) (l m : List E) : Lg.endT t (l ++ m) = Lg.endT (Lg.endT t l) m := by
  induction l generalizing t with
  | nil => rfl
  | cons e l ih => exact ih e.1
theorem endT_le {T : Int} : ∀ (t : Int) (l : List E), t ≤ T → (∀ e ∈ l, e.1 ≤ T) → Lg.endT t l ≤ T
  | _, [], h, _ => h
  | _, e :: l, _, h => endT_le e.1 l (h e (by simp)) (fun e' he => h e' (by simp [he]))
theorem endT_last {T : Int} : ∀ (t : Int) (l : List E), l ≠ [] → (∀ e ∈ l, e.1 ≤ T) → Lg.endT t l ≤ T
  | _, [], h, _ => absurd rfl h
  | _, e :: l, _, h => endT_le e.1 l (h e (by simp)) (fun e' he => h e' (by simp [he]))
theorem add_end {l m : List E} {i u T : Int} (h : (Lg.add (0, 0, l) i u m).2 = 0) (hl : Lg.endT 0 l ≤ T) (hm : ∀ e ∈ m, e.1 ≤ T) : Lg.endT 0 (Lg.add (0, 0, l) i u m).1.2.2 ≤ T := by
  by_cases hw : Lg.why (0, 0, l) i u m = 0
  · rw [add_yes hw] at h ⊢
    simp only at h ⊢
    generalize hk : Lg.known (l.drop (i - 0).toNat) m = q at *
    by_cases hq : q = m.length
    · rw [put_all hq]; exact hl
    · by_cases h64 : 64 < (i - 0).toNat + m.length
      · rw [put_full hq h64] at h; cases h
      · rw [put_some hq h64, endT_append]
        have := (Lg.known_le (l.drop (i - 0).toNat) m).2
        refine endT_last _ _ ?_ (fun e he => hm e (List.mem_of_mem_drop he))
        intro hd
        have := congrArg List.length hd
        rw [List.length_drop, List.length_nil] at this
        omega
  · rw [add_no hw] at h
    exact absurd h hw
section
variable {n : Id} {s : St}
theorem Good.len (h : Good n s) : s.l.length ≤ 64 := (may_lg.1 h.l).1
theorem Good.last1 (h : Good n s) : (last s).1 = s.l.length := by unfold last; rw [show lg s = (0, 0, s.l) from rfl, last_eq h.l]
theorem Good.last2 (h : Good n s) : (last s).2 = Lg.endT 0 s.l := by unfold last; rw [show lg s = (0, 0, s.l) from rfl, last_eq h.l]
theorem commit_in {L : Lg.L} {m : List Int} {t u : Int} : Qr.commit L m t u = u ∨ (u < Qr.commit L m t u ∧ Qr.commit L m t u ≤ (Lg.last L).1 ∧ Lg.term L (Qr.commit L m t u) = (t, true)) := by
  have key : ∀ k i, i ≤ (Lg.last L).1 → Qr.down L t u k i = u ∨ (u < Qr.down L t u k i ∧ Qr.down L t u k i ≤ (Lg.last L).1 ∧ Lg.term L (Qr.down L t u k i) = (t, true)) := by
    intro k
    induction k with
    | zero => intro i _; exact .inl rfl
    | succ k ih =>
      intro i hi
      rw [Qr.down]
      split
      · exact .inl rfl
      · split
        · exact .inl rfl
        · split
          · rename_i h1 h2 h3
            refine .inr ⟨by omega, hi, ?_⟩
            have h2 : (Lg.term L i).2 = true := by simpa using h2
            rw [← h3, ← h2]
          · exact ih (i - 1) (by omega)
  exact key 66 _ (by omega)
theorem Good.settle (h : Good n s) : Good n (settle s) := by
  have hc := @commit_in (lg s) s.mt s.b.1 s.upto
  have h1 := h.last1
  have h2 := h.len
  unfold last at h1
  refine { h with upto := ?_ }
  have := h.upto
  show 0 ≤ Qr.commit (lg s) s.mt s.b.1 s.upto ∧ Qr.commit (lg s) s.mt s.b.1 s.upto ≤ 64
  rcases hc with hc | hc <;> omega
theorem settle_up : s.upto ≤ (settle s).upto := by
  have hc := @commit_in (lg s) s.mt s.b.1 s.upto
  show s.upto ≤ Qr.commit (lg s) s.mt s.b.1 s.upto
  rcases hc with hc | hc <;> omega
theorem Good.put (h : Good n s) (hl : s.l.length < 64) (hb : 1 ≤ s.b.1) (c : Cmd) : Good n (put s c) := by
  have h2 := h.last2
  have ht := h.t
  have hr := (may_lg.1 h.l).2
  have hm : Lg.may (0, 0, s.l ++ [(s.b.1, c)]) = true := by
    rw [may_lg, List.length_append]
    refine ⟨by simp; omega, ?_⟩
    rw [Lg.rise_append, hr]
    simp only [Bool.true_and]
    rw [Lg.rise_cons]
    exact ⟨hb, h.b.2.1, by rw [← h2]; exact ht, rfl⟩
  refine { h with l := hm, t := ?_ }
  show (Lg.last (0, 0, s.l ++ [(s.b.1, c)])).2 ≤ s.b.1
  rw [last_eq hm, endT_append]
  exact Int.le_refl _
theorem Good.own (h : Good n s) : Good n (own n s) := by
  have h1 := h.last1
  have h2 := h.len
  refine { h with mt := by show (s.mt.set _ _).length = _; rw [List.length_set]; exact h.mt, mts := ?_ }
  intro x hx
  rcases List.mem_or_eq_of_mem_set hx with hx | rfl
  · exact h.mts x hx
  · omega
theorem Good.begin_ (h : Good n s) (hb : 1 ≤ s.b.1) : Good n (begin_ n s) := by
  have h1 := h.last1
  have h2 := h.len
  refine { h with pos := fun _ => hb, is := ⟨by show (0 : Int) ≤ 2; omega, by show (2 : Int) ≤ 2; omega⟩, mt := List.length_replicate, nx := List.length_replicate, mts := ?_, nxs := ?_ }
  · intro x hx
    rw [(List.mem_replicate.1 hx).2]; omega
  · intro x hx
    rw [(List.mem_replicate.1 hx).2]; omega
theorem Good.first (h : Good n s) (hb : 1 ≤ s.b.1) : Good n (first s) := by
  unfold Rf.first
  split
  · rename_i hl; exact h.put hl hb _
  · exact h
theorem Good.lead (h : Good n s) (hb : 1 ≤ s.b.1) : Good n (lead n s).1 := (((h.begin_ hb).first hb).own).settle
theorem Good.stand (h : Good n s) (ht : s.b.1 < 1073741824) : Good n (stand n s) := by
  have := h.b
  have := h.id2
  have := h.many
  have := h.t
  refine { h with b := ⟨?_, ?_, ?_, ?_⟩, t := ?_, pos := fun _ => ?_, is := ⟨by show (0 : Int) ≤ 1; omega, by show (1 : Int) ≤ 2; omega⟩, votes := by show (List.set _ _ _).length = _; rw [List.length_set, List.length_replicate] }
  · show 0 ≤ s.b.1 + 1; omega
  · show s.b.1 + 1 ≤ 1073741824; omega
  · show (0 : Int) ≤ (n.id : Int); omega
  · show (n.id : Int) ≤ 16; omega
  · show (last s).2 ≤ s.b.1 + 1; omega
  · show 1 ≤ s.b.1 + 1; omega
theorem Good.timeout (h : Good n s) : Good n (timeout n s).1 := by
  have hb := h.b
  unfold Rf.timeout
  split
  · exact h
  · rename_i hc
    have hs := h.stand (by omega)
    split
    · exact hs.lead (by show 1 ≤ s.b.1 + 1; omega)
    · exact hs
theorem Good.beat (h : Good n s) : Good n (beat n s).1 := by unfold Rf.beat; split <;> exact h
theorem Good.propose (h : Good n s) (c : Cmd) : Good n (propose n s c).1 := by
  unfold Rf.propose
  split
  · exact h
  · rename_i hc
    split
    · exact h
    · exact ((h.put (by omega) (h.pos (by omega)) c).own).settle
theorem Good.voted (h : Good n s) (x : Msg) : Good n (voted n s x).1 := by
  unfold Rf.voted
  split
  · exact h
  · rename_i hc
    have ht : Good n { s with votes := s.votes.set (x.2.1.toNat - 1) true } := { h with votes := by show (List.set _ _ _).length = _; rw [List.length_set]; exact h.votes }
    simp only
    split
    · exact ht
    · exact ht.lead (h.pos (by omega))
theorem Good.add (h : Good n s) (x : Msg) (hx : x.2.2.2.1 ≤ s.b.1) : Good n (add n s x).1 := by
  unfold Rf.add
  split
  · exact h
  · split
    · exact h
    · have h0 : Good n { s with is := 0 } := { h with pos := fun hh => absurd rfl hh, is := ⟨Int.le_refl _, by show (0 : Int) ≤ 2; omega⟩ }
      simp only
      split
      · exact h0
      · rename_i h1 h2 h3
        have he : (Lg.add (0, 0, s.l) x.2.2.2.2.1 x.2.2.2.2.2.1 x.2.2.2.2.2.2.2.2).2 = 0 := by
          rcases Classical.em ((Lg.add (lg s) x.2.2.2.2.1 x.2.2.2.2.2.1 x.2.2.2.2.2.2.2.2).2 = 0) with hh | hh
          · exact hh
          · exact absurd (.inl hh) h3
        have hf : fits x = true := by
          rcases hh : fits x with _ | _
          · exact absurd (.inr hh) h3
          · rfl
        obtain ⟨L, a, hA⟩ := Lg.added he
        have hlen := hA.len
        have hm2 := hA.may2
        have h64 := (may_lg.1 hm2).1
        have hat := hA.at_
        have heq := hA.eq
        refine { h0 with l := ?_, t := ?_, upto := ?_ }
        · show Lg.may (0, 0, (Lg.add (0, 0, s.l) _ _ _).1.2.2) = true
          rw [heq]; exact hm2
        · show (Lg.last (0, 0, (Lg.add (0, 0, s.l) _ _ _).1.2.2)).2 ≤ s.b.1
          rw [heq]
          simp only
          rw [last_eq hm2]
          have := add_end (T := s.b.1) he (by have := h.t; rw [h.last2] at this; exact this) (fun e hm => by
            unfold fits at hf
            have := List.all_eq_true.1 hf e hm
            simp only [decide_eq_true_eq] at this
            omega)
          rw [heq] at this
          exact this
        · have := h.upto
          show 0 ≤ max s.upto (min x.2.2.2.2.2.2.1 (x.2.2.2.2.1 + x.2.2.2.2.2.2.2.2.length)) ∧ max s.upto (min x.2.2.2.2.2.2.1 (x.2.2.2.2.1 + x.2.2.2.2.2.2.2.2.length)) ≤ 64
          omega
theorem set_all {l : List Int} {k : Nat} {v a b : Int} (h : ∀ x ∈ l, a ≤ x ∧ x ≤ b) (hv : a ≤ v ∧ v ≤ b) : ∀ x ∈ l.set k v, a ≤ x ∧ x ≤ b := by
  intro x hx
  rcases List.mem_or_eq_of_mem_set hx with hx | rfl
  · exact h x hx
  · exact hv
theorem getD_all {l : List Int} {k : Nat} {a b : Int} (h : ∀ x ∈ l, a ≤ x ∧ x ≤ b) (h0 : a ≤ 0 ∧ 0 ≤ b) : a ≤ l[k]?.getD 0 ∧ l[k]?.getD 0 ≤ b := by
  rcases hk : l[k]? with _ | y
  · exact h0
  · exact h y (List.mem_of_getElem? hk)
theorem Good.added (h : Good n s) (x : Msg) : Good n (added n s x).1 := by
  have h1 := h.last1
  have h2 := h.len
  unfold Rf.added
  split
  · exact h
  · simp only
    split
    · split
      · exact h
      · rename_i hc
        have hm := getD_all (k := x.2.1.toNat - 1) h.mts (by omega)
        have ht : Good n { s with mt := s.mt.set (x.2.1.toNat - 1) (max (s.mt[x.2.1.toNat - 1]?.getD 0) x.2.2.2.2.1), nx := s.nx.set (x.2.1.toNat - 1) (max (s.mt[x.2.1.toNat - 1]?.getD 0) x.2.2.2.2.1 + 1) } :=
          { h with mt := by show (List.set _ _ _).length = _; rw [List.length_set]; exact h.mt, nx := by show (List.set _ _ _).length = _; rw [List.length_set]; exact h.nx, mts := set_all h.mts (by omega), nxs := set_all h.nxs (by omega) }
        split
        · exact ht.settle
        · exact ht.settle
    · have hm := getD_all (k := x.2.1.toNat - 1) h.nxs (by omega)
      exact { h with nx := by show (List.set _ _ _).length = _; rw [List.length_set]; exact h.nx, nxs := set_all h.nxs (by omega) }
theorem Good.asked (h : Good n s) (x : Msg) : Good n (asked n s x).1 := by
  obtain ⟨h1, _, _, h4⟩ := Vt.grant_once (b := s.b) (last s) x.2.1 x.2.2.2.1 x.2.2.2.2.1 x.2.2.2.2.2.1 ((Vt.may_iff _).2 h.b)
  have ht := h.t
  unfold Rf.asked
  exact { h with b := (Vt.may_iff _).1 h4, t := by show (last s).2 ≤ _; simp only; omega, pos := fun hh => by have := h.pos hh; simp only; omega }
theorem Good.sees (h : Good n s) (x : Msg) : Good n (sees s x) := by
  obtain ⟨h1, _⟩ := Vt.see_term s.b x.2.2.2.1
  have h4 := Vt.see_may x.2.2.2.1 ((Vt.may_iff _).2 h.b)
  have ht := h.t
  unfold Rf.sees
  split
  · exact { h with b := (Vt.may_iff _).1 h4, t := by show (last s).2 ≤ _; simp only; omega, pos := fun hh => absurd rfl hh, is := ⟨Int.le_refl _, by show (0 : Int) ≤ 2; omega⟩ }
  · exact h
theorem sees_term (x : Msg) (hx : x.2.2.2.1 ≤ 1073741824) : x.2.2.2.1 ≤ (sees s x).b.1 := by
  unfold sees
  split
  · rename_i h; simp only; rw [Vt.see_new h hx]
    exact Int.le_refl _
  · omega
theorem Good.hear (h : Good n s) (x : Msg) : Good n (hear n s x).1 := by
  unfold Rf.hear
  split
  · rename_i hm
    have hs := h.sees x
    have ht := sees_term (s := s) x hm.2.2.2.2.2.1
    simp only
    split
    · exact hs.asked x
    · split
      · exact hs.voted x
      · split
        · exact hs.add x ht
        · exact hs.added x
  · exact h
theorem Good.new {id many : Int} {b : Int × Int} {l : Lg.L} (h : new id many b l = some (n, s)) : Good n s ∧ id = n.id ∧ many = n.many ∧ l = lg s := by
  unfold Rf.new at h
  split at h
  · cases h
  · rename_i hc
    obtain ⟨h1, h2⟩ := Prod.mk.inj (Option.some.inj h)
    subst h1 h2
    simp only [not_or] at hc
    obtain ⟨c1, c2, c3, c4, c5, c6, c7, c8⟩ := hc
    have hb : Vt.may b = true := by simpa using c5
    have hl : Lg.may l = true := by simpa using c6
    obtain ⟨l1, l2, l3⟩ := l
    have e1 : l1 = 0 := by simpa using c7
    have hll := (Lg.may_iff _).1 hl
    simp only at hll
    have e2 : l2 = 0 := by omega
    subst e1 e2
    refine ⟨{ id1 := by simp only; omega, id2 := by simp only; omega, many := by simp only; omega, b := (Vt.may_iff _).1 hb, l := hl, t := by simp only; exact Int.not_lt.1 c8, pos := fun hh => absurd rfl hh, is := by simp only; omega, upto := by simp only; omega, votes := List.length_replicate, mt := List.length_replicate, nx := List.length_replicate, mts := ?_, nxs := ?_ }, by simp only; omega, by simp only; omega, rfl⟩
    · intro x hx; rw [(List.mem_replicate.1 hx).2]; omega
    · intro x hx; rw [(List.mem_replicate.1 hx).2]; omega
end
end Go.Proofs.Ytjcljkbalpgfdaa.Rf

/-
  A member in memory: its blocks, its struct's cells, its rows; what a call keeps.
-/




namespace Go.Proofs.Ytjcljkbalpgfdaa
open Go.RowKit

/-- But for the blocks of D nothing that was there has turned. -/
structure Kept (D : Nat → Prop) (w w' : World) : Prop where
  os : w'.os = w.os
  tape : w'.tape = w.tape
  output : w'.output = w.output
  size : w.heap.size ≤ w'.heap.size
  block : ∀ b, b < w.heap.size → ¬ D b → w'.heap[b]? = w.heap[b]?
section
variable {D : Nat → Prop} {w w' w'' : World}
theorem Kept.refl (D : Nat → Prop) (w : World) : Kept D w w := ⟨rfl, rfl, rfl, Nat.le_refl _, fun _ _ _ => rfl⟩
theorem Kept.trans (h : Kept D w w') (h2 : Kept D w' w'') : Kept D w w'' :=
  ⟨h2.os.trans h.os, h2.tape.trans h.tape, h2.output.trans h.output, Nat.le_trans h.size h2.size, fun b hb hD => (h2.block b (Nat.lt_of_lt_of_le hb h.size) hD).trans (h.block b hb hD)⟩
theorem Below.kept (h : Below w.heap.size w w') : Kept D w w' := ⟨h.os, h.tape, h.output, h.size, fun b hb _ => h.block b hb⟩
theorem Kept.set (h : Kept D w w') {p : Addr} (hp : D p.block ∨ w.heap.size ≤ p.block) (u : Value) : Kept D w (w'.setCell p u) :=
  ⟨h.os, h.tape, h.output, by simpa [World.setCell] using h.size, fun b hb hD => (Below.heap_setCell w' p u b (fun e => by
    subst e
    rcases hp with hp | hp
    · exact hD hp
    · omega)).trans (h.block b hb hD)⟩
theorem Kept.below (h : Kept D w w') {B : Nat} (hD : ∀ b, D b → B ≤ b) (hB : B ≤ w.heap.size) : Below B w w' := ⟨h.os, h.tape, h.output, h.size, fun b hb => h.block b (by omega) (fun hd => by have := hD b hd; omega)⟩
theorem Kept.mono {D' : Nat → Prop} (h : Kept D w w') (hD : ∀ b, b < w.heap.size → D b → D' b) : Kept D' w w' := ⟨h.os, h.tape, h.output, h.size, fun b hb hd => h.block b hb (fun x => hd (hD b hb x))⟩
theorem Kept.join {D' : Nat → Prop} (h : Kept D w w') (h2 : Kept D' w' w'') (hD : ∀ b, b < w.heap.size → D' b → D b) : Kept D w w'' :=
  ⟨h2.os.trans h.os, h2.tape.trans h.tape, h2.output.trans h.output, Nat.le_trans h.size h2.size, fun b hb hn => (h2.block b (Nat.lt_of_lt_of_le hb h.size) (fun hd => hn (hD b hb hd))).trans (h.block b hb hn)⟩
theorem Kept.whole (h : Kept D w w') {g : Nat} {t : TypeId} {cs : Array Value} (hw : Whole w g t cs) (hg : ¬ D g) : Whole w' g t cs := (h.block g hw.lt hg).trans hw
theorem Kept.sl (h : Kept D w w') {α : Type} [Rep α] {S : Nat → Prop} {v : Value} {l : List α} (hs : SlS w S v l) (hS : ∀ b, S b → ¬ D b) : SlS w' S v l := hs.stay fun b hb hlt => h.block b hlt (hS b hb)
end

/-- The blocks of a member. -/
structure Foot where
  g : Nat
  gv : Nat
  gm : Nat
  gn : Nat
def Foot.has (F : Foot) (b : Nat) : Prop := b = F.g ∨ b = F.gv ∨ b = F.gm ∨ b = F.gn
structure Foot.Ok (F : Foot) : Prop where
  gv : F.gv ≠ F.g
  gm : F.gm ≠ F.g
  gn : F.gn ≠ F.g
  vm : F.gm ≠ F.gv
  vn : F.gn ≠ F.gv
  mn : F.gn ≠ F.gm
abbrev rowB' (l : List Bool) : Array Value := (l.map Value.bool).toArray
abbrev rowN' (l : List Int) : Array Value := (l.map (Value.int .i64)).toArray
abbrev at0 (g n : Nat) : Value := .slice (some ⟨g, 0, none⟩) n n
/-- The struct's cells. -/
abbrev rmc (n : Rf.Id) (F : Foot) (s : Rf.St) (A : Option Addr) (c : Nat) : Array Value :=
  #[.int .i64 (n.id : Int), .int .i64 (n.many : Int), .int .i64 s.b.1, .int .i64 s.b.2, .int .i64 0, .int .i64 0, .slice A s.l.length c, .int .i64 s.is, .int .i64 s.upto, at0 F.gv n.many, at0 F.gm n.many, at0 F.gn n.many]
theorem Whole.c12 {w : World} {g : Nat} {t : TypeId} {x0 x1 x2 x3 x4 x5 x6 x7 x8 x9 x10 x11 : Value} (h : Whole w g t #[x0, x1, x2, x3, x4, x5, x6, x7, x8, x9, x10, x11]) :
    w.cell? ⟨g, 0, none⟩ = some x0 ∧ w.cell? ⟨g, 1, none⟩ = some x1 ∧ w.cell? ⟨g, 2, none⟩ = some x2 ∧ w.cell? ⟨g, 3, none⟩ = some x3 ∧ w.cell? ⟨g, 4, none⟩ = some x4 ∧ w.cell? ⟨g, 5, none⟩ = some x5 ∧
    w.cell? ⟨g, 6, none⟩ = some x6 ∧ w.cell? ⟨g, 7, none⟩ = some x7 ∧ w.cell? ⟨g, 8, none⟩ = some x8 ∧ w.cell? ⟨g, 9, none⟩ = some x9 ∧ w.cell? ⟨g, 10, none⟩ = some x10 ∧ w.cell? ⟨g, 11, none⟩ = some x11 :=
  ⟨h.cell 0, h.cell 1, h.cell 2, h.cell 3, h.cell 4, h.cell 5, h.cell 6, h.cell 7, h.cell 8, h.cell 9, h.cell 10, h.cell 11⟩
section
variable {S : Nat → Prop} {w : World}
theorem Whole.setTo {w : World} {g : Nat} {t : TypeId} {cs cs2 : Array Value} (h : Whole w g t cs) (i : Nat) (u : Value) (e : cs.setIfInBounds i u = cs2) : Whole (w.setCell ⟨g, i, none⟩ u) g t cs2 := e ▸ h.set i u
theorem Whole.rowN {g : Nat} {t : TypeId} {l : List Int} (h : Whole w g t (rowN' l)) (k : Nat) (hk : k < l.length) : w.cell? ⟨g, k, none⟩ = some (.int .i64 (l[k]?.getD 0)) := by
  rw [h.cell k]; simp [hk]
theorem Whole.rowB {g : Nat} {t : TypeId} {l : List Bool} (h : Whole w g t (rowB' l)) (k : Nat) (hk : k < l.length) : w.cell? ⟨g, k, none⟩ = some (.bool (l[k]?.getD false)) := by
  rw [h.cell k]; simp [hk]
theorem rowN_set (l : List Int) (k : Nat) (v : Int) : (rowN' l).setIfInBounds k (.int .i64 v) = rowN' (l.set k v) := by simp [rowN', List.map_set]
theorem rowB_set (l : List Bool) (k : Nat) (v : Bool) : (rowB' l).setIfInBounds k (.bool v) = rowB' (l.set k v) := by simp [rowB', List.map_set]
theorem sls_far {α : Type} [Rep α] {v : Value} {l : List α} (h : SlS w S v l) {p : Addr} (hp : ¬ S p.block) (u : Value) : SlS (w.setCell p u) S v l := h.stay fun b hb _ => Below.heap_setCell w p u b (fun e => hp (e ▸ hb))
theorem cells_ints (l : List Int) : cells l = l.map (Value.int .i64) := by
  induction l with
  | nil => rfl
  | cons x l ih => rw [List.map_cons, ← ih]; rfl
theorem Sl.rowN {g : Nat} {t : TypeId} {l : List Int} {k : Nat} (h : Whole w g t (rowN' l)) (hk : l.length = k) (hw : ∀ x ∈ l, 0 ≤ x ∧ x ≤ 65) (hm : k ≤ 16) : Sl w w.heap.size (at0 g k) l := by
  subst hk
  refine Sl.block (fr := (0, 0)) h ?_ (fun x hx => ?_) h.lt (Nat.le_refl _) (by unfold maxLen; omega)
  · rw [cells_ints]
  · have := hw x hx
    exact ⟨by omega, by omega⟩
theorem cells_bools (l : List Bool) : cells l = l.map Value.bool := by
  induction l with
  | nil => rfl
  | cons x l ih => rw [List.map_cons, ← ih]; rfl
theorem own_whole {base g k : Nat} {e : TypeId} {l : List Bool} (h : Own w base e (.slice (some ⟨g, 0, none⟩) k k) l) : Whole w g e (rowB' l) := by
  have hl := h.sl.room.1
  rcases h.1.2 with ⟨e0, _⟩ | ⟨g', cap, cur, e0, _, hg, _, _, hs, ht⟩
  · cases e0
  · injection e0 with e1 _ e3
    injection e1 with e1
    injection e1 with e1
    subst e1 e3
    have hsz : Rep.sz Bool = 1 := rfl
    rw [hsz, Nat.mul_one] at hs
    rw [hsz, Nat.mul_one, hl, ← hs, ← Array.length_toList, List.take_length] at ht
    rw [cells_bools] at ht
    have : cur = rowB' l := by apply Array.toList_inj.1; rw [ht]
    rw [← this]
    exact hg
end
theorem rep_set {l : List Int} {j : Nat} {v : Int} (h : j < l.length) : (List.replicate j v ++ l.drop j).set j v = List.replicate (j + 1) v ++ l.drop (j + 1) := by
  rw [List.set_append_right _ _ (by simp), List.length_replicate, Nat.sub_self, List.drop_eq_getElem_cons h, List.set_cons_zero, List.replicate_succ', List.append_assoc]
  rfl

theorem rowZI : RowZ Try.prog 63 3 8 (0 : Int) := by
  obtain ⟨i, hi, hz, hsz, hby⟩ := info_parts (show (Try.prog.info? 3).map (fun i => (i.zero, i.size, i.bytes)) = some (some (.int .i64 0), 1, 8) by kernel_rfl)
  exact ⟨Try.underlying63, i, _, hi, hz, hsz, hby, rfl⟩
theorem own_wholeN {w : World} {base g k : Nat} {e : TypeId} {l : List Int} (h : Own w base e (.slice (some ⟨g, 0, none⟩) k k) l) : Whole w g e (rowN' l) := by
  have hl := h.sl.room.1
  rcases h.1.2 with ⟨e0, _⟩ | ⟨g', cap, cur, e0, _, hg, _, _, hs, ht⟩
  · cases e0
  · injection e0 with e1 _ e3
    injection e1 with e1
    injection e1 with e1
    subst e1 e3
    have hsz : Rep.sz Int = 1 := rfl
    rw [hsz, Nat.mul_one] at hs
    rw [hsz, Nat.mul_one, hl, ← hs, ← Array.length_toList, List.take_length] at ht
    rw [cells_ints] at ht
    have : cur = rowN' l := by apply Array.toList_inj.1; rw [ht]
    rw [← this]
    exact hg
end Go.Proofs.Ytjcljkbalpgfdaa

/-
  What Grant answers.
-/




namespace Go.Proofs.Ytjcljkbalpgfdaa
open Go.RowKit

def GrantOut (w : World) (r : Vt.B × Bool) (e : Ending) (w' : World) : Prop := e = .returned (.tuple #[bv r.1.1 r.1.2, .bool r.2]) ∧ Below w.heap.size w w'

set_option maxRecDepth 100000 in
theorem grant_any (T V : Int) (b t : Int) (v : Value) (l : List E) (k f o m i u c : Int) (y : Bool) (A2 : Option Addr) (n2 c2 : Nat) (w : World) (B : Nat) (hB : B ≤ w.heap.size) (hv : Sl w B v l) :
    Calls Try.prog 47 #[bv T V, lv b t v, .agg (mc k f o m i u c y (.slice A2 n2 c2))] w (GrantOut w (Vt.grant (T, V) (Lg.last (b, t, l)) f m i u)) := by
  obtain ⟨A, d, rfl, hc, hm⟩ := hv.form
  unfold maxLen at hm
  have hb0 : Below w.heap.size w ((((w.alloc (.cells #[.int .i64 T, .int .i64 V] 23)).alloc (.cells #[.int .i64 b, .int .i64 t, .slice A l.length d] 26)).alloc (.cells (mc k f o m i u c y (.slice A2 n2 c2)) 41)).alloc (.cells #[.int .i64 0, .int .i64 0] 23)) :=
    ((((Below.refl _ _).alloc (Nat.le_refl _) _).alloc (by simp) _).alloc (by simp only [World.size_alloc]; omega) _).alloc (by simp only [World.size_alloc]; omega) _
  have HB := Lib.hid hb0
  have HL := Lib.hid (fun W (h : Below w.heap.size w W) => last_any b t _ l W B (Nat.le_trans hB h.size) (hv.below (h.mono hB)))
  have HW2 := Lib.hid (((Whole.new1 w (.cells #[.int .i64 T, .int .i64 V] 23) 26 #[.int .i64 b, .int .i64 t, .slice A l.length d]).alloc (.cells (mc k f o m i u c y (.slice A2 n2 c2)) 41)).alloc (.cells #[.int .i64 0, .int .i64 0] 23))
  have HW3 := Lib.hid ((Whole.new1 (w.alloc (.cells #[.int .i64 T, .int .i64 V] 23)) (.cells #[.int .i64 b, .int .i64 t, .slice A l.length d] 26) 41 (mc k f o m i u c y (.slice A2 n2 c2))).alloc (.cells #[.int .i64 0, .int .i64 0] 23))
  have HW4 := Lib.hid (Whole.new1 ((w.alloc (.cells #[.int .i64 T, .int .i64 V] 23)).alloc (.cells #[.int .i64 b, .int .i64 t, .slice A l.length d] 26)) (.cells (mc k f o m i u c y (.slice A2 n2 c2)) 41) 23 #[.int .i64 0, .int .i64 0])
  simp only [World.size_alloc] at HW3 HW4
  have HS := Lib.hid (fun W => see_any T V m W)
  have hyes := Lib.hid (@Vt.grant_yes (T, V) (Lg.last (b, t, l)) f m i u _ rfl)
  have hno := Lib.hid (@Vt.grant_no (T, V) (Lg.last (b, t, l)) f m i u _ rfl)
  have HN := Lib.hid (fun W => newer_any i u (Lg.last (b, t, l)).1 (Lg.last (b, t, l)).2 W)
  clear hv hb0
  generalize Vt.grant (T, V) (Lg.last (b, t, l)) f m i u = r at *
  generalize Vt.see (T, V) m = x at *
  obtain ⟨x1, x2⟩ := x
  unfold Vt.gives at hyes hno
  generalize Lg.newer i u (Lg.last (b, t, l)).1 (Lg.last (b, t, l)).2 = nw at *
  generalize Lg.last (b, t, l) = p at *
  obtain ⟨p1, p2⟩ := p
  generalize l.length = n at *
  simp only at hyes hno HN HS HL
  have hs0 : w.heap.size + 1 + 1 + 1 + 1 ≤ w.heap.size + 4 := by omega
  go_enter Try.func47, Try.ntmps47
  go_wp2_with fail
  refine wp_scope_goto 0 (fun a' w' => r = ((x1, x2), false) ∧ Below w.heap.size w w' ∧ ∃ (g : Nat), Whole w' g 23 #[.int .i64 x1, .int .i64 x2] ∧ Whole w' (w.heap.size + 1 + 1 + 1) 23 #[.int .i64 0, .int .i64 0] ∧ g ≠ w.heap.size + 1 + 1 + 1 ∧ ∃ (u7 u9 u10 u11 u12 u13 u14 u15 u16 u17 u18 u19 u20 u21 u22 u23 u24 u25 u26 u27 u28 u29 u30 u31 u32 u33 u34 u35 u36 u37 u38 u39 u40 u41 u42 u43 u44 u45 u46 u47 u48 u49 u50 u51 u52 u53 u54 u55 : Value), a' = { tmps := #[bv T V, lv b t (.slice A n d), .agg (mc k f o m i u c y (.slice A2 n2 c2)), .pointer (some ⟨w.heap.size, 0, none⟩), .pointer (some ⟨w.heap.size + 1, 0, none⟩), .pointer (some ⟨w.heap.size + 1 + 1, 0, none⟩), .pointer (some ⟨w.heap.size + 1 + 1 + 1, 0, none⟩), u7, .pointer (some ⟨g, 0, none⟩), u9, u10, u11, u12, u13, u14, u15, u16, u17, u18, u19, u20, u21, u22, u23, u24, u25, u26, u27, u28, u29, u30, u31, u32, u33, u34, u35, u36, u37, u38, u39, u40, u41, u42, u43, u44, u45, u46, u47, u48, u49, u50, u51, u52, u53, u54, u55], defers := [] }) (fun _ _ => 0) rfl ?_ ?_
  · rintro a' w' ⟨hr, hb, g, hg, hg6, hne, u7, u9, u10, u11, u12, u13, u14, u15, u16, u17, u18, u19, u20, u21, u22, u23, u24, u25, u26, u27, u28, u29, u30, u31, u32, u33, u34, u35, u36, u37, u38, u39, u40, u41, u42, u43, u44, u45, u46, u47, u48, u49, u50, u51, u52, u53, u54, u55, rfl⟩
    subst hr
    have HR := Lib.hid (hg6.set2 (.int .i64 x1) (.int .i64 x2))
    have HBB := Lib.hid (below_set2 hb (g := w.heap.size + 1 + 1 + 1) (by omega) (.int .i64 x1) (.int .i64 x2))
    obtain ⟨k0, k1⟩ := hg.c2
    obtain ⟨f0, f1⟩ := hg6.f2
    obtain ⟨k2, k3⟩ := hg6.c2
    clear hg hg6 hb
    go_wp2_with fail
    refine bodyPost_ret (results_ballot2 rfl rfl HR.out) rfl ?_
    exact ⟨rfl, HBB.out⟩
  · intro _
    go_wp2_with fail
    with_reducible refine (HS.out _).mono ?_
    rintro e w5 ⟨rfl, hb5⟩
    have hl2 := HW2.out.lt
    have hl3 := HW3.out.lt
    have hl4 := HW4.out.lt
    have hz5 := hb5.size
    have hbb := HB.out.trans (hb5.mono HB.out.size)
    have HB5 := Lib.hid (hbb.alloc hbb.size (.cells #[.int .i64 x1, .int .i64 x2] 23))
    have HW25 := Lib.hid ((HW2.out.below hb5 hl2).alloc (.cells #[.int .i64 x1, .int .i64 x2] 23))
    have HW35 := Lib.hid ((HW3.out.below hb5 hl3).alloc (.cells #[.int .i64 x1, .int .i64 x2] 23))
    have HW45 := Lib.hid ((HW4.out.below hb5 hl4).alloc (.cells #[.int .i64 x1, .int .i64 x2] 23))
    have HWx := Lib.hid (Whole.new w5 23 #[.int .i64 x1, .int .i64 x2])
    simp only [World.size_alloc] at hl2 hl3 hl4 hz5
    clear hb5 hbb HB HW2 HW3 HW4 HS
    obtain ⟨k0, k1, k2⟩ := HW25.out.c3
    go_wp2_with fail
    with_reducible refine (HL.out _ HB5.out).mono ?_
    rintro e w6 ⟨rfl, hb6⟩
    have HB6 := Lib.hid (HB5.out.trans (hb6.mono HB5.out.size))
    have HW36 := Lib.hid (HW35.out.below hb6 HW35.out.lt)
    have HW46 := Lib.hid (HW45.out.below hb6 HW45.out.lt)
    have HWx6 := Lib.hid (HWx.out.below hb6 HWx.out.lt)
    clear hb6 HB5 HW25 HW35 HW45 HWx HL k0 k1 k2
    obtain ⟨k0, k1, k2, k3, k4, k5, k6, k7, k8⟩ := HW36.out.c9
    obtain ⟨j0, j1⟩ := HWx6.out.c2
    by_cases d1 : m = x1
    · have e1 : (m != x1) = false := by simpa using d1
      have D1 := Lib.hid d1
      clear d1
      by_cases d2 : x2 = 0
      · have e2 : (x2 != 0) = false := by simpa using d2
        have D2 := Lib.hid d2
        clear d2
        by_cases d3 : f < 1
        · go_wp2_with fail
          go_step3
          exact ⟨rfl, hno.out (fun h => by omega), HB6.out, w5.heap.size, HWx6.out, HW46.out, by omega, _, _, _, _, _, _, _, _, _, _, _, _, _, _, _, _, _, _, _, _, _, _, _, _, _, _, _, _, _, _, _, _, _, _, _, _, _, _, _, _, _, _, _, _, _, _, _, _, rfl⟩
        have e3 : decide (f < 1) = false := by simp; omega
        by_cases d4 : 16 < f
        · go_wp2_with fail
          go_step3
          exact ⟨rfl, hno.out (fun h => by omega), HB6.out, w5.heap.size, HWx6.out, HW46.out, by omega, _, _, _, _, _, _, _, _, _, _, _, _, _, _, _, _, _, _, _, _, _, _, _, _, _, _, _, _, _, _, _, _, _, _, _, _, _, _, _, _, _, _, _, _, _, _, _, _, rfl⟩
        have e4 : decide (16 < f) = false := by simp; omega
        go_wp2_with fail
        with_reducible refine (HN.out _).mono ?_
        rintro e w7 ⟨rfl, hw7⟩
        subst hw7
        rcases nw with _ | _
        · go_wp2_with fail
          go_step3
          exact ⟨rfl, hno.out (fun h => Bool.false_ne_true h.2.2.2.2), HB6.out, w5.heap.size, HWx6.out, HW46.out, by omega, _, _, _, _, _, _, _, _, _, _, _, _, _, _, _, _, _, _, _, _, _, _, _, _, _, _, _, _, _, _, _, _, _, _, _, _, _, _, _, _, _, _, _, _, _, _, _, _, rfl⟩
        · have er := hyes.out ⟨D1.out, .inl D2.out, by omega, by omega, rfl⟩
          subst er
          have HR := Lib.hid ((HW46.out.far (p := ⟨w5.heap.size, 1, none⟩) (by simp only; omega) (.int .i64 f)).set2 (.int .i64 x1) (.int .i64 f))
          have HBB := Lib.hid (below_set2 (HB6.out.setCell (p := ⟨w5.heap.size, 1, none⟩) (by simp only; omega) (.int .i64 f)) (g := w.heap.size + 1 + 1 + 1) (by omega) (.int .i64 x1) (.int .i64 f))
          obtain ⟨g0, g1⟩ := HW46.out.f2
          obtain ⟨g2, g3⟩ := HWx6.out.f2
          obtain ⟨g4, g5⟩ := HW46.out.c2
          go_wp2_with fail
          refine bodyPost_ret (results_ballot2 rfl rfl HR.out) rfl ?_
          exact ⟨rfl, HBB.out⟩
      have e2 : (x2 != 0) = true := by simpa using d2
      by_cases d5 : x2 = f
      · have e5 : (x2 != f) = false := by simpa using d5
        have D5 := Lib.hid d5
        clear d5
        by_cases d3 : f < 1
        · go_wp2_with fail
          go_step3
          exact ⟨rfl, hno.out (fun h => by omega), HB6.out, w5.heap.size, HWx6.out, HW46.out, by omega, _, _, _, _, _, _, _, _, _, _, _, _, _, _, _, _, _, _, _, _, _, _, _, _, _, _, _, _, _, _, _, _, _, _, _, _, _, _, _, _, _, _, _, _, _, _, _, _, rfl⟩
        have e3 : decide (f < 1) = false := by simp; omega
        by_cases d4 : 16 < f
        · go_wp2_with fail
          go_step3
          exact ⟨rfl, hno.out (fun h => by omega), HB6.out, w5.heap.size, HWx6.out, HW46.out, by omega, _, _, _, _, _, _, _, _, _, _, _, _, _, _, _, _, _, _, _, _, _, _, _, _, _, _, _, _, _, _, _, _, _, _, _, _, _, _, _, _, _, _, _, _, _, _, _, _, rfl⟩
        have e4 : decide (16 < f) = false := by simp; omega
        go_wp2_with fail
        with_reducible refine (HN.out _).mono ?_
        rintro e w7 ⟨rfl, hw7⟩
        subst hw7
        rcases nw with _ | _
        · go_wp2_with fail
          go_step3
          exact ⟨rfl, hno.out (fun h => Bool.false_ne_true h.2.2.2.2), HB6.out, w5.heap.size, HWx6.out, HW46.out, by omega, _, _, _, _, _, _, _, _, _, _, _, _, _, _, _, _, _, _, _, _, _, _, _, _, _, _, _, _, _, _, _, _, _, _, _, _, _, _, _, _, _, _, _, _, _, _, _, _, rfl⟩
        · have er := hyes.out ⟨D1.out, .inr D5.out, by omega, by omega, rfl⟩
          subst er
          have HR := Lib.hid ((HW46.out.far (p := ⟨w5.heap.size, 1, none⟩) (by simp only; omega) (.int .i64 f)).set2 (.int .i64 x1) (.int .i64 f))
          have HBB := Lib.hid (below_set2 (HB6.out.setCell (p := ⟨w5.heap.size, 1, none⟩) (by simp only; omega) (.int .i64 f)) (g := w.heap.size + 1 + 1 + 1) (by omega) (.int .i64 x1) (.int .i64 f))
          obtain ⟨g0, g1⟩ := HW46.out.f2
          obtain ⟨g2, g3⟩ := HWx6.out.f2
          obtain ⟨g4, g5⟩ := HW46.out.c2
          go_wp2_with fail
          refine bodyPost_ret (results_ballot2 rfl rfl HR.out) rfl ?_
          exact ⟨rfl, HBB.out⟩
      · have e5 : (x2 != f) = true := by simpa using d5
        go_wp2_with fail
        go_step3
        exact ⟨rfl, hno.out (fun h => h.2.1.elim d2 d5), HB6.out, w5.heap.size, HWx6.out, HW46.out, by omega, _, _, _, _, _, _, _, _, _, _, _, _, _, _, _, _, _, _, _, _, _, _, _, _, _, _, _, _, _, _, _, _, _, _, _, _, _, _, _, _, _, _, _, _, _, _, _, _, rfl⟩
    · have e1 : (m != x1) = true := by simpa using d1
      go_wp2_with fail
      go_step3
      exact ⟨rfl, hno.out (fun h => d1 h.1), HB6.out, w5.heap.size, HWx6.out, HW46.out, by omega, _, _, _, _, _, _, _, _, _, _, _, _, _, _, _, _, _, _, _, _, _, _, _, _, _, _, _, _, _, _, _, _, _, _, _, _, _, _, _, _, _, _, _, _, _, _, _, _, rfl⟩
end Go.Proofs.Ytjcljkbalpgfdaa
