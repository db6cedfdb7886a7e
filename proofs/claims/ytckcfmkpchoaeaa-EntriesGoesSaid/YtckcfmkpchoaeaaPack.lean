/-
  What Pack answers.
-/
import Derived.Test.YtckcfmkpchoaeaaAdd
namespace Go.Proofs.Ytckcfmkpchoaeaa
open Go.RowKit

theorem pack_eq (b t i : Int) (l : List E) : Lg.pack (b, t, l) i = if Lg.may (b, t, l) = false then (Lg.zero, 1) else if 1099511627776 < i then (Lg.zero, 1) else if i < b then (Lg.zero, 9) else if (Lg.term (b, t, l) i).2 = false then (Lg.zero, 10) else ((i, (Lg.term (b, t, l) i).1, l.drop (i - b).toNat), 0) := rfl
/-- Where an index is told it is one of the log's. -/
theorem term_in {b t i : Int} {l : List E} (hm : Lg.may (b, t, l) = true) (h : (Lg.term (b, t, l) i).2 = true) : b ≤ i ∧ i ≤ b + l.length := by
  unfold Lg.term at h
  rw [Lg.fair_of hm] at h
  unfold Lg.term0 at h
  split at h
  · rename_i h1
    simp only at h1
    omega
  · split at h
    · cases h
    · rename_i h2
      simp only at h2
      omega
theorem term_out {b t i : Int} {l : List E} (hm : Lg.may (b, t, l) = true) (h : b ≤ i ∧ i ≤ b + l.length) : (Lg.term (b, t, l) i).2 = true := by
  unfold Lg.term
  rw [Lg.fair_of hm]
  unfold Lg.term0
  split
  · rfl
  · rw [if_neg (by simp only; omega)]
theorem last_fst {b t : Int} {l : List E} (hm : Lg.may (b, t, l) = true) : (Lg.last (b, t, l)).1 = b + l.length := by
  unfold Lg.last
  rw [Lg.fair_of hm]
  unfold Lg.last0
  split
  · rename_i h; simp only at h ⊢; omega
  · rfl

set_option maxRecDepth 100000 in
theorem pack_any (b t i : Int) (hi : -9223372036854775808 ≤ i ∧ i ≤ 9223372036854775807) (v : Value) (l : List E) (w : World) (B : Nat) (hB : B ≤ w.heap.size) (hv : Sl w B v l) :
    Calls Try.prog 18 #[lv b t v, .int .i64 i] w (AddOut w (Lg.pack (b, t, l) i)) := by
  obtain ⟨A, c, rfl, hc, hm⟩ := hv.form
  have hm' := hm
  unfold maxLen at hm'
  have hb0 : Below w.heap.size w (w.alloc (.cells #[.int .i64 b, .int .i64 t, .slice A l.length c] 24)) := (Below.refl _ _).alloc (Nat.le_refl _) _
  have hb1 : Below w.heap.size w ((w.alloc (.cells #[.int .i64 b, .int .i64 t, .slice A l.length c] 24)).alloc (.cells #[.int .i64 0, .int .i64 0, .slice none 0 0] 24)) := hb0.alloc hb0.size _
  have HV := Lib.hid (fun W (h : Below w.heap.size w W) => hv.below (h.mono hB))
  have HM := Lib.hid (may_any b t _ l _ B (Nat.le_trans hB hb1.size) (HV.out _ hb1))
  have HT := Lib.hid (fun W (h : Below w.heap.size w W) => term_any b t i hi _ l W B (Nat.le_trans hB h.size) (HV.out W h))
  have hW := Lib.hid ((Whole.new w 24 #[.int .i64 b, .int .i64 t, .slice A l.length c]).alloc (.cells #[.int .i64 0, .int .i64 0, .slice none 0 0] 24))
  have hW2 := Lib.hid (Whole.new (w.alloc (.cells #[.int .i64 b, .int .i64 t, .slice A l.length c] 24)) 24 #[.int .i64 0, .int .i64 0, .slice none 0 0])
  have HB := Lib.hid hb1
  have HX := Lib.hid (pack_eq b t i l)
  have hmi := Lib.hid (@Lg.may_iff (b, t, l))
  have hti := Lib.hid (@term_in b t i l)
  clear hv hb0 hb1
  generalize Lg.pack (b, t, l) i = X at *
  generalize Lg.may (b, t, l) = r at *
  generalize Lg.term (b, t, l) i = T at *
  obtain ⟨t1, t2⟩ := T
  go_enter Try.func18, Try.ntmps18
  go_wp2_with fail
  with_reducible refine HM.out.mono ?_
  rintro e w2 ⟨rfl, hb2⟩
  have hbb := HB.out.trans (hb2.mono HB.out.size)
  have hw1 := hW.out.below hb2 hW.out.lt
  have hw2 := hW2.out.below hb2 hW2.out.lt
  rw [World.size_alloc] at hw2
  have HW1 := Lib.hid hw1
  have HW2 := Lib.hid hw2
  have HB2 := Lib.hid hbb
  obtain ⟨k0, k1, k2⟩ := hw1.c3
  obtain ⟨k3, k4, k5⟩ := hw2.c3
  obtain ⟨f3, f4, f5⟩ := hw2.f3
  clear hw1 hw2 hbb hb2 HM hW hW2 HB
  rcases r with _ | _
  · obtain rfl : X = (Lg.zero, 1) := HX.out
    go_wp2_with fail
    refine bodyPost_ret (results_log2 rfl rfl (HW2.out.set3 _ _ _)) rfl ?_
    exact ⟨_, rfl, SlS.nil _ _, below_set3 HB2.out (by omega) _ _ _⟩
  have HX1 : Hid (X = if 1099511627776 < i then (Lg.zero, 1) else if i < b then (Lg.zero, 9) else if t2 = false then (Lg.zero, 10) else ((i, t1, l.drop (i - b).toNat), 0)) := HX.out
  clear HX
  by_cases c1 : 1099511627776 < i
  · obtain rfl : X = (Lg.zero, 1) := by rw [HX1.out, if_pos c1]
    go_wp2_with fail
    refine bodyPost_ret (results_log2 rfl rfl (HW2.out.set3 _ _ _)) rfl ?_
    exact ⟨_, rfl, SlS.nil _ _, below_set3 HB2.out (by omega) _ _ _⟩
  by_cases c2 : i < b
  · obtain rfl : X = (Lg.zero, 9) := by rw [HX1.out, if_neg c1, if_pos c2]
    go_wp2_with fail
    refine bodyPost_ret (results_log2 rfl rfl (HW2.out.set3 _ _ _)) rfl ?_
    exact ⟨_, rfl, SlS.nil _ _, below_set3 HB2.out (by omega) _ _ _⟩
  have HX2 : Hid (X = if t2 = false then (Lg.zero, 10) else ((i, t1, l.drop (i - b).toNat), 0)) := by show _ = _; rw [HX1.out, if_neg c1, if_neg c2]
  clear HX1
  clear k0 k1 k2 k3 k4 k5 f3 f4 f5
  obtain ⟨k0, k1, k2⟩ := HW1.out.c3
  go_wp2_with fail
  with_reducible refine (HT.out _ HB2.out).mono ?_
  rintro e w3 ⟨rfl, hb3⟩
  have HW13 := Lib.hid (HW1.out.below hb3 HW1.out.lt)
  have HW23 := Lib.hid (HW2.out.below hb3 HW2.out.lt)
  have HB3 := Lib.hid (HB2.out.trans (hb3.mono HB2.out.size))
  have hz3 := HB3.out.size
  have hz4 := HW23.out.lt
  clear hb3 HW1 HW2 HB2 HT k0 k1 k2
  obtain ⟨k0, k1, k2⟩ := HW13.out.c3
  obtain ⟨k3, k4, k5⟩ := HW23.out.c3
  obtain ⟨f3, f4, f5⟩ := HW23.out.f3
  rcases t2 with _ | _
  · obtain rfl : X = (Lg.zero, 10) := HX2.out
    go_wp2_with fail
    refine bodyPost_ret (results_log2 rfl rfl (HW23.out.set3 _ _ _)) rfl ?_
    exact ⟨_, rfl, SlS.nil _ _, below_set3 HB3.out (by omega) _ _ _⟩
  have hX : X = ((i, t1, l.drop (i - b).toNat), 0) := HX2.out
  have hmay := hmi.out.1 (by simp)
  obtain ⟨z1, z2⟩ := hti.out (by simp) (by simp)
  obtain ⟨q1, q2, -, -, -, q6, -⟩ := hmay
  obtain ⟨k, rfl⟩ := Int.eq_ofNat_of_zero_le q1
  obtain ⟨j, rfl⟩ := Int.eq_ofNat_of_zero_le (show 0 ≤ i by omega)
  have ejk : ((j : Int) - (k : Int)).toNat = j - k := by omega
  rw [ejk] at hX
  have hs1 := fun W => run_from A l.length c (j - k) ((j : Int) - (k : Int)) (by omega) (by omega) W
  have hd1 := (HV.out w3 HB3.out).drop (j - k) (by omega)
  have hlen : (l.drop (j - k)).length = l.length - (j - k) := List.length_drop
  rw [show Rep.sz E = 7 from rfl] at hd1
  have HC := Lib.hid (clone_any _ (l.drop (j - k)) (by omega) w3 B (Nat.le_trans hB hz3) hd1)
  clear hd1 HV HX2 hmi hti ejk
  generalize (if c = j - k then A else A.map (·.add ((j - k) * 7))) = A3 at *
  generalize l.drop (j - k) = L1 at *
  subst hX
  have HL1 := Lib.hid hlen
  clear hlen
  generalize l.length = n at *
  go_wp2_with fail
  with_reducible refine HC.out.mono ?_
  rintro e w4 ⟨A6, c6, rfl, ho4, hb4⟩
  rw [HL1.out] at ho4 ⊢
  have hw2 := HW23.out.below hb4 hz4
  have HB4 := Lib.hid (HB3.out.trans (hb4.mono hz3))
  have HO4 := Lib.hid ho4
  have HW4 := Lib.hid hw2
  obtain ⟨f3, f4, f5⟩ := hw2.f3
  obtain ⟨k3, k4, k5⟩ := hw2.c3
  clear ho4 hb4 hw2 HC HW13 HW23 HB3
  go_wp2_with fail
  refine bodyPost_ret (results_log2 rfl rfl (HW4.out.set3 _ _ _)) rfl ?_
  exact ⟨_, rfl, SlS.wide (((HO4.out.set (p := ⟨w.heap.size + 1, 0, none⟩) (by simp; omega) _).set (p := ⟨w.heap.size + 1, 1, none⟩) (by simp; omega) _).set (p := ⟨w.heap.size + 1, 2, none⟩) (by simp; omega) _).slS (fun _ h _ => Nat.le_trans (by first | exact hz3 | exact hz) h), below_set3 HB4.out (by omega) _ _ _⟩
end Go.Proofs.Ytckcfmkpchoaeaa
