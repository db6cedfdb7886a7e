/-
  What the reference's Add answers.
-/
import Derived.Test.YtckcfmkpchoaeaaRpack
import Derived.Test.YtckcfmkpchoaeaaStep
namespace Go.Proofs.Ytckcfmkpchoaeaa
open Go.RowKit

theorem add_eq (b t i u : Int) (l m : List E) : Lg.add (b, t, l) i u m = if Lg.why (b, t, l) i u m ≠ 0 then (Lg.zero, Lg.why (b, t, l) i u m) else Lg.put (b, t, l) (i - b).toNat (Lg.known (l.drop (i - b).toNat) m) m := rfl
theorem why_eq (b t i u : Int) (l m : List E) : Lg.why (b, t, l) i u m = if Lg.may (b, t, l) = false then 1 else if Lg.rise u m = false then 1 else if i < b then 9 else if (Lg.term (b, t, l) i).2 = false then 10 else if (Lg.term (b, t, l) i).1 ≠ u then 8 else 0 := rfl
theorem add_why {b t i u : Int} {l m : List E} {r : Int} (h : Lg.why (b, t, l) i u m = r) (hr : r ≠ 0) : Lg.add (b, t, l) i u m = (Lg.zero, r) := by rw [add_eq, h, if_pos hr]

set_option maxRecDepth 100000 in
set_option maxHeartbeats 800000 in
theorem radd_any (b t i u : Int) (hi : -9223372036854775808 ≤ i ∧ i ≤ 9223372036854775807) (v v2 : Value) (l m : List E) (hml : m.length ≤ 100000) (w : World) (B : Nat) (hB : B ≤ w.heap.size) (hv : Sl w B v l) (hv2 : Sl w B v2 m) :
    Calls Try.prog 26 #[lv b t v, .int .i64 i, .int .i64 u, v2] w (AddOut w (Lg.add (b, t, l) i u m)) := by
  obtain ⟨A, c, rfl, hc, hm⟩ := hv.form
  obtain ⟨A2, c2, rfl, hc2, hm2⟩ := hv2.form
  have hm' := hm
  have hm2' := hm2
  unfold maxLen at hm' hm2'
  have hb0 : Below w.heap.size w (w.alloc (.cells #[.int .i64 b, .int .i64 t, .slice A l.length c] 24)) := (Below.refl _ _).alloc (Nat.le_refl _) _
  have hb1 : Below w.heap.size w ((w.alloc (.cells #[.int .i64 b, .int .i64 t, .slice A l.length c] 24)).alloc (.cells #[.int .i64 0, .int .i64 0, .slice none 0 0] 24)) := hb0.alloc hb0.size _
  have HV := Lib.hid (fun W (h : Below w.heap.size w W) => hv.below (h.mono hB))
  have HV2 := Lib.hid (fun W (h : Below w.heap.size w W) => hv2.below (h.mono hB))
  have HM := Lib.hid (rmay_any b t _ l _ B (Nat.le_trans hB hb1.size) (HV.out _ hb1))
  have HF := Lib.hid (fun W (h : Below w.heap.size w W) => rising_any _ m u W B (Nat.le_trans hB h.size) (HV2.out W h))
  have HL := Lib.hid (fun W (h : Below w.heap.size w W) => rlast_any b t _ l W B (Nat.le_trans hB h.size) (HV.out W h))
  have HT := Lib.hid (fun W (h : Below w.heap.size w W) => rterm_any b t i hi _ l W B (Nat.le_trans hB h.size) (HV.out W h))
  have hW := Lib.hid ((Whole.new w 24 #[.int .i64 b, .int .i64 t, .slice A l.length c]).alloc (.cells #[.int .i64 0, .int .i64 0, .slice none 0 0] 24))
  have hW2 := Lib.hid (Whole.new (w.alloc (.cells #[.int .i64 b, .int .i64 t, .slice A l.length c] 24)) 24 #[.int .i64 0, .int .i64 0, .slice none 0 0])
  have HB := Lib.hid hb1
  have HWE := Lib.hid (why_eq b t i u l m)
  have HXE := Lib.hid (add_eq b t i u l m)
  have HXW := Lib.hid (fun r => @add_why b t i u l m r)
  have hmi := Lib.hid (@Lg.may_iff (b, t, l))
  have hti := Lib.hid (@term_in b t i l)
  have hto := Lib.hid (@term_out b t i l)
  have hlf := Lib.hid (@last_fst b t l)
  clear hv hv2 hb0 hb1
  generalize Lg.add (b, t, l) i u m = X at *
  generalize Lg.why (b, t, l) i u m = R at *
  generalize Lg.may (b, t, l) = r at *
  generalize Lg.rise u m = r2 at *
  generalize Lg.term (b, t, l) i = T at *
  obtain ⟨t1, t2⟩ := T
  generalize Lg.last (b, t, l) = LS at *
  obtain ⟨l1, l2⟩ := LS
  go_enter Try.func26, Try.ntmps26
  go_wp2_with fail
  with_reducible refine HM.out.mono ?_
  rintro e w2 ⟨rfl, hb2⟩
  have HW1 := Lib.hid (hW.out.below hb2 hW.out.lt)
  have hw2 := hW2.out.below hb2 hW2.out.lt
  rw [World.size_alloc] at hw2
  have HW2 := Lib.hid hw2
  have HB2 := Lib.hid (HB.out.trans (hb2.mono HB.out.size))
  clear hw2 hb2 HM hW hW2 HB
  go_wp2_with fail
  with_reducible refine (HF.out _ HB2.out).mono ?_
  rintro e w3 ⟨rfl, hb3⟩
  have HW13 := Lib.hid (HW1.out.below hb3 HW1.out.lt)
  have HW23 := Lib.hid (HW2.out.below hb3 HW2.out.lt)
  have HB3 := Lib.hid (HB2.out.trans (hb3.mono HB2.out.size))
  clear hb3 HF HW1 HW2 HB2
  obtain ⟨k0, k1, k2⟩ := HW13.out.c3
  obtain ⟨k3, k4, k5⟩ := HW23.out.c3
  obtain ⟨f3, f4, f5⟩ := HW23.out.f3
  rcases r with _ | _
  · obtain rfl : X = (Lg.zero, 1) := HXW.out 1 HWE.out (by decide)
    go_wp2_with fail
    refine bodyPost_ret (results_log2 rfl rfl (HW23.out.set3 _ _ _)) rfl ?_
    exact ⟨_, rfl, SlS.nil _ _, below_set3 HB3.out (by omega) _ _ _⟩
  rcases r2 with _ | _
  · obtain rfl : X = (Lg.zero, 1) := HXW.out 1 HWE.out (by decide)
    go_wp2_with fail
    refine bodyPost_ret (results_log2 rfl rfl (HW23.out.set3 _ _ _)) rfl ?_
    exact ⟨_, rfl, SlS.nil _ _, below_set3 HB3.out (by omega) _ _ _⟩
  have HWE1 : Hid (R = if i < b then 9 else if t2 = false then 10 else if t1 ≠ u then 8 else 0) := HWE.out
  clear HWE
  by_cases c1 : i < b
  · obtain rfl : X = (Lg.zero, 9) := HXW.out 9 (by rw [HWE1.out, if_pos c1]) (by decide)
    go_wp2_with fail
    refine bodyPost_ret (results_log2 rfl rfl (HW23.out.set3 _ _ _)) rfl ?_
    exact ⟨_, rfl, SlS.nil _ _, below_set3 HB3.out (by omega) _ _ _⟩
  have HWE2 : Hid (R = if t2 = false then 10 else if t1 ≠ u then 8 else 0) := by show _ = _; rw [HWE1.out, if_neg c1]
  clear HWE1
  have hl1 : l1 = b + l.length := hlf.out (by simp)
  have HL1 := Lib.hid hl1
  clear hl1
  go_wp2_with fail
  with_reducible refine (HL.out _ HB3.out).mono ?_
  rintro e w4 ⟨rfl, hb4⟩
  have HW14 := Lib.hid (HW13.out.below hb4 HW13.out.lt)
  have HW24 := Lib.hid (HW23.out.below hb4 HW23.out.lt)
  have HB4 := Lib.hid (HB3.out.trans (hb4.mono HB3.out.size))
  clear hb4 HL HW13 HW23 HB3 k0 k1 k2 k3 k4 k5 f3 f4 f5
  obtain ⟨k0, k1, k2⟩ := HW14.out.c3
  obtain ⟨k3, k4, k5⟩ := HW24.out.c3
  obtain ⟨f3, f4, f5⟩ := HW24.out.f3
  by_cases c3 : l1 < i
  · have ht2 : t2 = false := by
      rcases t2 with _ | _
      · rfl
      · have := (hti.out (by simp) (by simp)).2
        have := HL1.out
        omega
    obtain rfl : X = (Lg.zero, 10) := HXW.out 10 (by rw [HWE2.out, if_pos ht2]) (by decide)
    go_wp2_with fail
    refine bodyPost_ret (results_log2 rfl rfl (HW24.out.set3 _ _ _)) rfl ?_
    exact ⟨_, rfl, SlS.nil _ _, below_set3 HB4.out (by omega) _ _ _⟩
  obtain rfl : t2 = true := hto.out (by simp) ⟨by omega, by have := HL1.out; omega⟩
  have HWE3 : Hid (R = if t1 ≠ u then 8 else 0) := HWE2.out
  clear HWE2
  go_wp2_with fail
  with_reducible refine (HT.out _ HB4.out).mono ?_
  rintro e w5 ⟨rfl, hb5⟩
  have HW15 := Lib.hid (HW14.out.below hb5 HW14.out.lt)
  have HW25 := Lib.hid (HW24.out.below hb5 HW24.out.lt)
  have HB5 := Lib.hid (HB4.out.trans (hb5.mono HB4.out.size))
  clear hb5 HT HW14 HW24 HB4 k0 k1 k2 k3 k4 k5 f3 f4 f5
  obtain ⟨k0, k1, k2⟩ := HW15.out.c3
  obtain ⟨k3, k4, k5⟩ := HW25.out.c3
  obtain ⟨f3, f4, f5⟩ := HW25.out.f3
  by_cases c4 : t1 = u
  · subst c4
    have hR : R = 0 := by rw [HWE3.out, if_neg (by simp)]
    have e1 : (t1 != t1) = false := by simp
    have hX : X = Lg.put (b, t, l) (i - b).toNat (Lg.known (l.drop (i - b).toNat) m) m := by rw [HXE.out, if_neg (by rw [hR]; simp)]
    have hmay := hmi.out.1 (by simp)
    obtain ⟨z1, z2⟩ := hti.out (by simp) (by simp)
    obtain ⟨q1, q2, -, -, -, q6, -⟩ := hmay
    obtain ⟨k, rfl⟩ := Int.eq_ofNat_of_zero_le q1
    obtain ⟨j, rfl⟩ := Int.eq_ofNat_of_zero_le (show 0 ≤ i by omega)
    have ejk : ((j : Int) - (k : Int)).toNat = j - k := by omega
    rw [ejk, Lg.put_step (by omega) q6] at hX
    have hstl := fun x => @Lg.step_le (j - k) (Lg.known (l.drop (j - k)) m) l m x (by have := Lg.known_le (l.drop (j - k)) m; rw [List.length_drop] at this; omega)
    have hst := fun x => @Lg.step_true (j - k) l m x (by omega)
    have hsf := fun x y => @Lg.step_false (j - k) l m x y (by omega)
    have hs0 := Lg.step_zero (j - k) (Lg.known (l.drop (j - k)) m) l m
    clear hmi hti hto hlf HXE HXW HWE3 hR ejk HL1
    generalize Lg.step (j - k) (Lg.known (l.drop (j - k)) m) l m = P at *
    have HX := Lib.hid hX
    have HSTL := Lib.hid hstl
    have HST := Lib.hid hst
    have HSF := Lib.hid hsf
    have HS0 := Lib.hid hs0
    have HVW := Lib.hid (HV.out w5 HB5.out)
    clear hX hstl hst hsf hs0 HV
    generalize hn : l.length = n at *
    have HN := Lib.hid hn
    clear hn
    generalize hn2 : m.length = n2 at *
    have HN2 := Lib.hid hn2
    clear hn2
    have hz := HB5.out.size
    have hz5 := HW25.out.lt
    clear k0 k1 k2 k3 k4 k5 f3 f4 f5
    obtain ⟨k0, k1, k2⟩ := HW15.out.c3
    go_wp2_with (at_builtin; refine wpList_append_sl rfl _ (.tmp 56) rfl rowE w5.heap.size _ [] rfl (Own.nil _ _ _) B _ l rfl HVW.out (by rw [HN.out]; unfold maxLen; simp; omega) (by rw [HN.out]; simp; omega) (Nat.le_refl _) ?_; intro v7 w7 hown7 hg7 hat7; rw [List.nil_append] at hown7; have HB7 := Lib.hid (below_of_own (Below.refl w5.heap.size w5) (Own.nil w5 w5.heap.size 44 (α := E)) hg7 (Nat.le_refl _)); have HO7 := Lib.hid hown7; clear hown7 hg7 hat7)
    go_loopw [16, 17] (fun o i wr => ∃ (x : Nat), x ≤ n2 ∧ i = .int .i64 (x : Int) ∧ Own wr w5.heap.size 44 o (P x) ∧ Below w5.heap.size w5 wr) (fun _ i _ => n2 - (intOf i).toNat)
    case atStart => exact ⟨0, Nat.zero_le _, rfl, by rw [HS0.out]; exact HO7.out, HB7.out⟩
    case round =>
      obtain ⟨x, hx, rfl, hown, hb⟩ := hrel
      have HBR := Lib.hid hb
      have HB6 := Lib.hid (HB5.out.trans (hb.mono hz))
      have hz6 := hb.size
      clear k0 k1 k2 hb HB7 HO7
      obtain ⟨k0, k1, k2⟩ := (HW15.out.below HBR.out HW15.out.lt).c3
      obtain ⟨Ao, co, rfl, hco, hmo⟩ := hown.sl.form
      unfold maxLen at hmo
      have hPl := HSTL.out x hx
      by_cases hlt : x < n2
      · have hxm : x < m.length := by rw [HN2.out]; exact hlt
        have hent := fun W (h : Below w.heap.size w W) => (HV2.out W h).entry x hxm
        obtain ⟨b2, o2, rfl, -⟩ := hent w (Below.refl _ _)
        have hst := HST.out x hlt
        have hsf := HSF.out x m[x] hlt (List.getElem?_eq_getElem hxm)
        rw [Lg.tm_eq m x hxm] at hst hsf
        generalize m[x] = y at *
        generalize hP1 : P (x + 1) = Q1 at *
        have HP1 := Lib.hid hP1
        clear hP1
        generalize P x = Q at *
        have HENT : Hid (∀ W, Below w.heap.size w W → W.cell? ⟨b2, o2 + x * 7, none⟩ = some (.int .i64 y.1) ∧ W.cell? ⟨b2, o2 + x * 7 + 1, none⟩ = some (.int .i64 y.2.1) ∧ W.cell? ⟨b2, o2 + x * 7 + 2, none⟩ = some (.int .i64 y.2.2.1) ∧ W.cell? ⟨b2, o2 + x * 7 + 3, none⟩ = some (.int .i64 y.2.2.2.1) ∧
            W.cell? ⟨b2, o2 + x * 7 + 4, none⟩ = some (.int .i64 y.2.2.2.2.1) ∧ W.cell? ⟨b2, o2 + x * 7 + 5, none⟩ = some (.int .i64 y.2.2.2.2.2.1) ∧ W.cell? ⟨b2, o2 + x * 7 + 6, none⟩ = some (.int .i64 y.2.2.2.2.2.2) ∧ Flat.wf y) := by
          intro W h
          obtain ⟨b, o, e, -, h0, h1, h2, h3, h4, h5, h6, h7⟩ := hent W h
          injection e with e
          injection e with e1 e2
          subst e1 e2
          exact ⟨h0, h1, h2, h3, h4, h5, h6, h7⟩
        have hwf := (HENT.out w (Below.refl _ _)).2.2.2.2.2.2.2
        have HWF := Lib.hid hwf
        obtain ⟨j0, -⟩ := HENT.out wr HB6.out
        obtain ⟨y0, y1, y2, y3, y4, y5, y6⟩ := y
        dsimp only at HENT j0 hst hsf
        clear hent hwf hxm
        have hql : Q.length ≤ n + x := hPl
        clear hPl
        generalize hqn : Q.length = lo at *
        have HQN := Lib.hid hqn
        clear hqn
        by_cases c1 : j - k + x < lo
        · have hql' : j - k + x < Q.length := by rw [HQN.out]; exact c1
          obtain ⟨b1, o1, rfl, g0⟩ := hown.sl.term (j - k + x) hql'
          rw [Lg.tm_eq Q _ hql'] at hst hsf
          generalize (Q[j - k + x]'hql').1 = te at *
          clear hql'
          have i1 : (0 : Int) ≤ (j : Int) - (k : Int) + (x : Int) := by omega
          have i2 : (j : Int) - (k : Int) + (x : Int) < (lo : Int) := by omega
          by_cases c2 : te = y0
          · subst c2
            obtain rfl := hst c1 rfl
            have e2 : (te == te) = true := by simp
            have HO := Lib.hid hown
            clear hst hsf hown
            go_wp2_with fail
            go_quiet (fail)
            go_wp2_with fail
            go_roundw
            case rel => exact ⟨x + 1, by omega, by go_num, by rw [HP1.out]; exact HO.out.drewN nq, below_drewN HBR.out nq⟩
            case measure => simp [intOf]; omega
          · obtain ⟨hle, hE⟩ := hsf (fun h => c2 h.2)
            have e2 : (te == y0) = false := by simpa using c2
            have hs2 := fun W => run_upto (some ⟨b1, o1, none⟩) lo co (j - k + x) ((j : Int) - (k : Int) + (x : Int)) (by omega) (by omega) W
            have HUP := Lib.hid (fun q => (hown.sl.drewN q).upto (j - k + x) hle)
            have hltk : (Q.take (j - k + x)).length = j - k + x := by rw [List.length_take, HQN.out]; omega
            have HLT := Lib.hid hltk
            have HE := Lib.hid hE
            clear hltk hE hst hsf hown
            generalize (if co = 0 then some ⟨b1, o1, none⟩ else (some ⟨b1, o1, none⟩ : Option Addr).map (·.add (0 * 7))) = A6 at *
            generalize Q.take (j - k + x) = Q2 at *
            have tok : True := trivial
            go_wp2_with fail
            go_quiet (fail)
            go_wp2_with (first
              | (at_builtin; have _t := tok; refine wpList_append_sl rfl _ (.tmp 89) rfl rowE w5.heap.size _ [] rfl (Own.nil _ _ _) wr.heap.size _ Q2 rfl (HUP.out nq) (by rw [HLT.out]; unfold maxLen; simp; omega) (by rw [HLT.out]; simp; omega) hz6 ?_; intro v8 w8 hown8 hg8 hat8; rw [List.nil_append] at hown8; have hb8 := below_of_own (below_drewN HBR.out nq) (Own.nil (wr.drewN nq) w5.heap.size 44 (α := E)) hg8 hz6; have HB8 := Lib.hid hb8; have hz8 := hb8.size; obtain ⟨g0, g1, g2, g3, g4, g5, g6, -⟩ := HENT.out w8 (HB5.out.trans (hb8.mono hz)); have HO8 := Lib.hid hown8; have HOA := Lib.hid (hown8.alloc (.cells (ec (y0, y1, y2, y3, y4, y5, y6)) 44)); have HN8 := Lib.hid (Sl.new1 (α := E) w8 44 (y0, y1, y2, y3, y4, y5, y6) (ec (y0, y1, y2, y3, y4, y5, y6)) HWF.out rfl); have HBA := Lib.hid (hb8.alloc hz8 (.cells (ec (y0, y1, y2, y3, y4, y5, y6)) 44)); clear hown8 hg8 hat8 hb8 tok)
              | (at_builtin; refine wpList_append_sl rfl (.tmp 91) (.tmp 96) rfl rowE w5.heap.size _ Q2 (by rfl) HOA.out (w8.heap.size + 1) _ [(y0, y1, y2, y3, y4, y5, y6)] (by rfl) HN8.out (by rw [HLT.out]; unfold maxLen; simp; omega) (by rw [HLT.out]; simp; omega) (by simp; omega) ?_; intro v9 w9 hown9 hg9 hat9; have HB9 := Lib.hid (below_of_own HBA.out HOA.out hg9 (by simp; omega)); rw [← HE.out] at hown9; have HO9 := Lib.hid hown9; clear hg9 hat9 hown9))
            go_roundw
            case rel => exact ⟨x + 1, by omega, by go_num, by rw [HP1.out]; exact HO9.out, HB9.out⟩
            case measure => simp [intOf]; omega
        · obtain ⟨hle, hE⟩ := hsf (fun h => c1 h.1)
          have d1 : decide ((j : Int) - (k : Int) + (x : Int) < (lo : Int)) = false := by simp; omega
          have hs2 := fun W => run_upto Ao lo co (j - k + x) ((j : Int) - (k : Int) + (x : Int)) (by omega) (by omega) W
          have HUP := Lib.hid (fun q => (hown.sl.drewN q).upto (j - k + x) hle)
          have hltk : (Q.take (j - k + x)).length = j - k + x := by rw [List.length_take, HQN.out]; omega
          have HLT := Lib.hid hltk
          have HE := Lib.hid hE
          clear hltk hE hst hsf hown
          generalize (if co = 0 then Ao else Ao.map (·.add (0 * 7))) = A6 at *
          generalize Q.take (j - k + x) = Q2 at *
          have tok : True := trivial
          go_wp2_with fail
          go_quiet (fail)
          go_wp2_with (first
            | (at_builtin; have _t := tok; refine wpList_append_sl rfl _ (.tmp 89) rfl rowE w5.heap.size _ [] rfl (Own.nil _ _ _) wr.heap.size _ Q2 rfl (HUP.out nq) (by rw [HLT.out]; unfold maxLen; simp; omega) (by rw [HLT.out]; simp; omega) hz6 ?_; intro v8 w8 hown8 hg8 hat8; rw [List.nil_append] at hown8; have hb8 := below_of_own (below_drewN HBR.out nq) (Own.nil (wr.drewN nq) w5.heap.size 44 (α := E)) hg8 hz6; have HB8 := Lib.hid hb8; have hz8 := hb8.size; obtain ⟨g0, g1, g2, g3, g4, g5, g6, -⟩ := HENT.out w8 (HB5.out.trans (hb8.mono hz)); have HO8 := Lib.hid hown8; have HOA := Lib.hid (hown8.alloc (.cells (ec (y0, y1, y2, y3, y4, y5, y6)) 44)); have HN8 := Lib.hid (Sl.new1 (α := E) w8 44 (y0, y1, y2, y3, y4, y5, y6) (ec (y0, y1, y2, y3, y4, y5, y6)) HWF.out rfl); have HBA := Lib.hid (hb8.alloc hz8 (.cells (ec (y0, y1, y2, y3, y4, y5, y6)) 44)); clear hown8 hg8 hat8 hb8 tok)
            | (at_builtin; refine wpList_append_sl rfl (.tmp 91) (.tmp 96) rfl rowE w5.heap.size _ Q2 (by rfl) HOA.out (w8.heap.size + 1) _ [(y0, y1, y2, y3, y4, y5, y6)] (by rfl) HN8.out (by rw [HLT.out]; unfold maxLen; simp; omega) (by rw [HLT.out]; simp; omega) (by simp; omega) ?_; intro v9 w9 hown9 hg9 hat9; have HB9 := Lib.hid (below_of_own HBA.out HOA.out hg9 (by simp; omega)); rw [← HE.out] at hown9; have HO9 := Lib.hid hown9; clear hg9 hat9 hown9))
          go_roundw
          case rel => exact ⟨x + 1, by omega, by go_num, by rw [HP1.out]; exact HO9.out, HB9.out⟩
          case measure => simp [intOf]; omega
      · obtain rfl : x = n2 := by omega
        have hX := HX.out
        generalize P x = Q at *
        have hql : Q.length ≤ n + x := hPl
        clear hPl
        generalize hqn : Q.length = lo at *
        clear k0 k1 k2
        obtain ⟨k0, k1, k2⟩ := (HW15.out.below HBR.out HW15.out.lt).c3
        obtain ⟨k3, k4, k5⟩ := (HW25.out.below HBR.out hz5).c3
        obtain ⟨f3, f4, f5⟩ := (HW25.out.below HBR.out hz5).f3
        have HWR := Lib.hid (HW25.out.below HBR.out hz5)
        have HO := Lib.hid hown
        clear hown
        by_cases h64 : 64 < lo
        · rw [if_pos h64] at hX
          subst hX
          go_wp2_with fail
          refine bodyPost_ret (results_log2 rfl rfl (HWR.out.set3 _ _ _)) rfl ?_
          exact ⟨_, rfl, SlS.nil _ _, below_set3 HB6.out (by omega) _ _ _⟩
        · rw [if_neg h64] at hX
          subst hX
          go_wp2_with fail
          refine bodyPost_ret (results_log2 rfl rfl (HWR.out.set3 _ _ _)) rfl ?_
          exact ⟨_, rfl, SlS.wide (((HO.out.set (p := ⟨w.heap.size + 1, 0, none⟩) (by simp; omega) _).set (p := ⟨w.heap.size + 1, 1, none⟩) (by simp; omega) _).set (p := ⟨w.heap.size + 1, 2, none⟩) (by simp; omega) _).slS (fun _ h _ => Nat.le_trans (by first | exact hz3 | exact hz) h), below_set3 HB6.out (by omega) _ _ _⟩
  · obtain rfl : X = (Lg.zero, 8) := HXW.out 8 (by rw [HWE3.out, if_pos c4]) (by decide)
    have e1 : (t1 != u) = true := by simpa using c4
    go_wp2_with fail
    refine bodyPost_ret (results_log2 rfl rfl (HW25.out.set3 _ _ _)) rfl ?_
    exact ⟨_, rfl, SlS.nil _ _, below_set3 HB5.out (by omega) _ _ _⟩
end Go.Proofs.Ytckcfmkpchoaeaa
