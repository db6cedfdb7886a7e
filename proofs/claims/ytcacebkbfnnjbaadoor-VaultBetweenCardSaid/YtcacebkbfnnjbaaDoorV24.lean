/-
  Parts that the statement rests on, joined: Precord, Pgreat, Pmays, Pnew8, Rst, Rrecord.
-/
import Derived.Test.YtcacebkbfnnjbaaDoorV11
import Derived.Test.YtcacebkbfnnjbaaDoorV12
import Derived.Test.YtcacebkbfnnjbaaDoorV16
import Derived.Test.YtcacebkbfnnjbaaDoorV17
import Derived.Test.YtcacebkbfnnjbaaDoorV20
import Derived.Test.YtcacebkbfnnjbaaDoorV23
import Derived.Test.YtcacebkbfnnjbaaDoorV25
import Derived.Test.YtcacebkbfnnjbaaDoorV27
import Derived.LoopTactic
/-
  What record answers.
-/



namespace Go.Proofs.YtcacebkbfnnjbaaDoor
open Go.RowKit

/-- Bytes of the call's own, as its result. -/
def BytesOut (w : World) (l : List UInt8) (e : Ending) (w' : World) : Prop :=
  ∃ A c, e = .returned (.slice A l.length c) ∧ Own w' w.heap.size 5 (.slice A l.length c) l ∧ Below w.heap.size w w'
theorem pack_recd {k : Int} {N : List Int} (h : Vl.good (k, N)) : Fm.pack N [] = (Fm.bytes N [], 0) := Fm.pack_of h.2.2.1 (Nat.zero_le _) h.2.2.2
theorem put_recd {k : Int} {N : List Int} (h : Vl.good (k, N)) : Frm.put (k, Fm.bytes N []) = (Vl.recd k N, 0) := Frm.put_ok (Vl.recd_ok h)

set_option maxRecDepth 100000 in
theorem record_any (k : Int) (sN : Value) (N : List Int) (hg : Vl.good (k, N)) (w : World) (B : Nat) (hB : B ≤ w.heap.size) (hN : Sl w B sN N) (hT : Tab w) :
    Calls Tryd.prog 40 #[.int .i64 k, sN] w (BytesOut w (Vl.recd k N)) := by
  obtain ⟨A, c, rfl, _, _⟩ := hN.form
  have HP := Lib.hid (pack_any _ (.slice none 0 0) N [] w B hB hN (Sl.nil _ _))
  rw [pack_recd hg] at HP
  have HU := Lib.hid (fun W v (hb : Below w.heap.size w W) (hv : Sl W W.heap.size v (Fm.bytes N [])) => put_any k v (Fm.bytes N []) W W.heap.size (Nat.le_refl _) hv (hT.below hb hT.pos))
  rw [put_recd hg] at HU
  clear hN hT hg
  generalize Fm.bytes N [] = b at *
  generalize Vl.recd k N = R at *
  go_enter Tryd.func40, Tryd.ntmps40
  go_wp2_with fail
  refine HP.out.mono ?_
  rintro e w1 ⟨A1, c1, rfl, ho1, hb1⟩
  have HO1 := Lib.hid ho1
  have HB1 := Lib.hid hb1
  clear ho1 hb1
  simp only at HO1 ⊢
  go_wp2_with fail
  refine (HU.out _ _ HB1.out HO1.out.sl).mono ?_
  rintro e w2 ⟨A2, c2, rfl, ho2, hb2⟩
  have HO2 := Lib.hid (ho2.down HB1.out.size)
  have HB2 := Lib.hid (HB1.out.trans (hb2.mono HB1.out.size))
  clear ho2 hb2
  simp only at HO2 ⊢
  go_wp2_with fail
  go_ret
  exact ⟨A2, c2, rfl, HO2.out, HB2.out⟩
end Go.Proofs.YtcacebkbfnnjbaaDoor

/-
  What tooGreat, IndexFunc and ContainsFunc answer.
-/




namespace Go.Proofs.YtcacebkbfnnjbaaDoor
open Go.RowKit

theorem size_dec {n : Int} : decide (Fm.size n < 0) = !decide (Fm.may n) := by
  have := Fm.size_neg n
  by_cases h : Fm.may n
  · simp [h]
    rcases Int.lt_or_le (Fm.size n) 0 with hh | hh
    · exact absurd h (this.1 hh)
    · exact hh
  · simp [h]; exact this.2 h

/-- The first k of six are true. -/
def allTo (a b c d f g : Bool) (k : Nat) : Prop := (0 < k → a = true) ∧ (1 < k → b = true) ∧ (2 < k → c = true) ∧ (3 < k → d = true) ∧ (4 < k → f = true) ∧ (5 < k → g = true)
set_option maxRecDepth 100000 in
set_option maxHeartbeats 4000000 in
theorem tooGreat_any (e : E) (hw : Flat.wf e) (w : World) :
    Calls Tryd.prog 39 #[.agg (ec e)] w fun x w' => x = .returned (.bool (!Vl.cmdOk e)) ∧ Below w.heap.size w w' := by
  obtain ⟨t, a, b, c, d, f, g⟩ := e
  obtain ⟨-, ha, hb, hc, hd, hf, hg⟩ := hw
  have hb0 : Below w.heap.size w (w.alloc (.cells #[.int .i64 t, .int .i64 a, .int .i64 b, .int .i64 c, .int .i64 d, .int .i64 f, .int .i64 g] 57)) := (Below.refl _ _).alloc (Nat.le_refl _) _
  have HB := Lib.hid (hb0.alloc hb0.size (.cells #[.int .i64 a, .int .i64 b, .int .i64 c, .int .i64 d, .int .i64 f, .int .i64 g] 55))
  have Sa := Lib.hid (fun W => size_any a ha.1 ha.2 W)
  have Sb := Lib.hid (fun W => size_any b hb.1 hb.2 W)
  have Sc := Lib.hid (fun W => size_any c hc.1 hc.2 W)
  have Sd := Lib.hid (fun W => size_any d hd.1 hd.2 W)
  have Sf := Lib.hid (fun W => size_any f hf.1 hf.2 W)
  have Sg := Lib.hid (fun W => size_any g hg.1 hg.2 W)
  have da := @size_dec a
  have db := @size_dec b
  have dc := @size_dec c
  have dd := @size_dec d
  have df := @size_dec f
  have dg := @size_dec g
  have hR : Vl.cmdOk (t, a, b, c, d, f, g) = (decide (Fm.may a) && decide (Fm.may b) && decide (Fm.may c) && decide (Fm.may d) && decide (Fm.may f) && decide (Fm.may g)) := rfl
  rw [hR]
  clear hR hb0 ha hb hc hd hf hg
  generalize decide (Fm.may a) = ma at *
  generalize decide (Fm.may b) = mb at *
  generalize decide (Fm.may c) = mc at *
  generalize decide (Fm.may d) = md at *
  generalize decide (Fm.may f) = mf at *
  generalize decide (Fm.may g) = mg at *
  generalize Fm.size a = sa at *
  generalize Fm.size b = sb at *
  generalize Fm.size c = sc at *
  generalize Fm.size d = sd at *
  generalize Fm.size f = sf at *
  generalize Fm.size g = sg at *
  generalize hR : (!(ma && mb && mc && md && mf && mg)) = R at *
  have HR := Lib.hid hR
  clear hR
  have hi0 : ∀ W, (Instr.index 96 (.agg #[.int .i64 a, .int .i64 b, .int .i64 c, .int .i64 d, .int .i64 f, .int .i64 g]) (.int .i64 0)).run Tryd.prog W = .ok (.int .i64 a) W := fun W => by kernel_rfl
  have hi1 : ∀ W, (Instr.index 96 (.agg #[.int .i64 a, .int .i64 b, .int .i64 c, .int .i64 d, .int .i64 f, .int .i64 g]) (.int .i64 1)).run Tryd.prog W = .ok (.int .i64 b) W := fun W => by kernel_rfl
  have hi2 : ∀ W, (Instr.index 96 (.agg #[.int .i64 a, .int .i64 b, .int .i64 c, .int .i64 d, .int .i64 f, .int .i64 g]) (.int .i64 2)).run Tryd.prog W = .ok (.int .i64 c) W := fun W => by kernel_rfl
  have hi3 : ∀ W, (Instr.index 96 (.agg #[.int .i64 a, .int .i64 b, .int .i64 c, .int .i64 d, .int .i64 f, .int .i64 g]) (.int .i64 3)).run Tryd.prog W = .ok (.int .i64 d) W := fun W => by kernel_rfl
  have hi4 : ∀ W, (Instr.index 96 (.agg #[.int .i64 a, .int .i64 b, .int .i64 c, .int .i64 d, .int .i64 f, .int .i64 g]) (.int .i64 4)).run Tryd.prog W = .ok (.int .i64 f) W := fun W => by kernel_rfl
  have hi5 : ∀ W, (Instr.index 96 (.agg #[.int .i64 a, .int .i64 b, .int .i64 c, .int .i64 d, .int .i64 f, .int .i64 g]) (.int .i64 5)).run Tryd.prog W = .ok (.int .i64 g) W := fun W => by kernel_rfl
  go_enter Tryd.func39, Tryd.ntmps39
  go_wp2_with fail
  go_loop [21] (fun i => ∃ k : Nat, i = .int .i64 k ∧ k ≤ 6 ∧ allTo ma mb mc md mf mg k) (fun i => 6 - (intOf i).toNat)
  case atStart => exact ⟨0, rfl, by omega, by unfold allTo; simp⟩
  case round =>
    obtain ⟨k, rfl, hk, hto⟩ := hrel
    have HTO := Lib.hid hto
    clear hto
    rcases (show k = 0 ∨ k = 1 ∨ k = 2 ∨ k = 3 ∨ k = 4 ∨ k = 5 ∨ k = 6 by omega) with rfl | rfl | rfl | rfl | rfl | rfl | rfl
    · clear hk
      rcases ma with _ | _
      · go_wp2_with fail
        refine (Sa.out _).mono ?_
        rintro e w' ⟨rfl, hw⟩
        subst hw
        go_wp2_with fail
        go_ret
        refine ⟨ret_bool ?_, HB.out⟩
        rw [← HR.out]; simp
      · go_wp2_with fail
        refine (Sa.out _).mono ?_
        rintro e w' ⟨rfl, hw⟩
        subst hw
        go_wp2_with fail
        go_round
        case rel => exact ⟨1, rfl, by omega, by unfold allTo; simp⟩
        case measure => simp [intOf]
    · clear hk
      rcases mb with _ | _
      · go_wp2_with fail
        refine (Sb.out _).mono ?_
        rintro e w' ⟨rfl, hw⟩
        subst hw
        go_wp2_with fail
        go_ret
        refine ⟨ret_bool ?_, HB.out⟩
        rw [← HR.out]; simp
      · go_wp2_with fail
        refine (Sb.out _).mono ?_
        rintro e w' ⟨rfl, hw⟩
        subst hw
        go_wp2_with fail
        go_round
        case rel => exact ⟨2, rfl, by omega, by have := HTO.out; unfold allTo at this ⊢; simpa using this⟩
        case measure => simp [intOf]
    · clear hk
      rcases mc with _ | _
      · go_wp2_with fail
        refine (Sc.out _).mono ?_
        rintro e w' ⟨rfl, hw⟩
        subst hw
        go_wp2_with fail
        go_ret
        refine ⟨ret_bool ?_, HB.out⟩
        rw [← HR.out]; simp
      · go_wp2_with fail
        refine (Sc.out _).mono ?_
        rintro e w' ⟨rfl, hw⟩
        subst hw
        go_wp2_with fail
        go_round
        case rel => exact ⟨3, rfl, by omega, by have := HTO.out; unfold allTo at this ⊢; simpa using this⟩
        case measure => simp [intOf]
    · clear hk
      rcases md with _ | _
      · go_wp2_with fail
        refine (Sd.out _).mono ?_
        rintro e w' ⟨rfl, hw⟩
        subst hw
        go_wp2_with fail
        go_ret
        refine ⟨ret_bool ?_, HB.out⟩
        rw [← HR.out]; simp
      · go_wp2_with fail
        refine (Sd.out _).mono ?_
        rintro e w' ⟨rfl, hw⟩
        subst hw
        go_wp2_with fail
        go_round
        case rel => exact ⟨4, rfl, by omega, by have := HTO.out; unfold allTo at this ⊢; simpa using this⟩
        case measure => simp [intOf]
    · clear hk
      rcases mf with _ | _
      · go_wp2_with fail
        refine (Sf.out _).mono ?_
        rintro e w' ⟨rfl, hw⟩
        subst hw
        go_wp2_with fail
        go_ret
        refine ⟨ret_bool ?_, HB.out⟩
        rw [← HR.out]; simp
      · go_wp2_with fail
        refine (Sf.out _).mono ?_
        rintro e w' ⟨rfl, hw⟩
        subst hw
        go_wp2_with fail
        go_round
        case rel => exact ⟨5, rfl, by omega, by have := HTO.out; unfold allTo at this ⊢; simpa using this⟩
        case measure => simp [intOf]
    · clear hk
      rcases mg with _ | _
      · go_wp2_with fail
        refine (Sg.out _).mono ?_
        rintro e w' ⟨rfl, hw⟩
        subst hw
        go_wp2_with fail
        go_ret
        refine ⟨ret_bool ?_, HB.out⟩
        rw [← HR.out]; simp
      · go_wp2_with fail
        refine (Sg.out _).mono ?_
        rintro e w' ⟨rfl, hw⟩
        subst hw
        go_wp2_with fail
        go_round
        case rel => exact ⟨6, rfl, by omega, by have := HTO.out; unfold allTo at this ⊢; simpa using this⟩
        case measure => simp [intOf]
    · obtain ⟨h0, h1, h2, h3, h4, h5⟩ := HTO.out
      obtain rfl := h0 (by omega)
      obtain rfl := h1 (by omega)
      obtain rfl := h2 (by omega)
      obtain rfl := h3 (by omega)
      obtain rfl := h4 (by omega)
      obtain rfl := h5 (by omega)
      clear h0 h1 h2 h3 h4 h5
      go_wp2_with fail
      go_ret
      refine ⟨ret_bool ?_, HB.out⟩
      rw [← HR.out]; simp

/-- The first k are good. -/
def bTo (l : List E) (k : Nat) : Prop := k ≤ l.length ∧ (l.take k).all Vl.cmdOk = true
theorem bTo_zero (l : List E) : bTo l 0 := ⟨Nat.zero_le _, rfl⟩
theorem bTo_step {l : List E} {k : Nat} (h : bTo l k) (hk : k < l.length) (hc : Vl.cmdOk l[k] = true) : bTo l (k + 1) := by
  refine ⟨hk, ?_⟩
  rw [List.take_succ_eq_append_getElem hk, List.all_append, h.2]
  simpa using hc
theorem bTo_end {l : List E} {k : Nat} (h : bTo l k) (hk : l.length ≤ k) : l.all Vl.cmdOk = true := by
  have := h.2
  rwa [List.take_of_length_le hk] at this
theorem bTo_stop {l : List E} {k : Nat} (hk : k < l.length) (hc : Vl.cmdOk l[k] = false) : l.all Vl.cmdOk = false := by
  rw [List.all_eq_false]
  exact ⟨l[k], List.getElem_mem hk, by simp [hc]⟩

set_option maxRecDepth 100000 in
theorem indexFunc_any (v : Value) (l : List E) (w : World) (B : Nat) (hB : B ≤ w.heap.size) (hv : Sl w B v l) :
    Calls Tryd.prog 52 #[v, .func (.func 39) #[] #[]] w fun e w' => ∃ r : Int, e = .returned (.int .i64 r) ∧ decide (0 ≤ r) = !(l.all Vl.cmdOk) ∧ Below w.heap.size w w' := by
  obtain ⟨A, c, rfl, hc, hm⟩ := hv.form
  unfold maxLen at hm
  have HV := Lib.hid (fun W (h : Below w.heap.size w W) => hv.below (h.mono hB))
  have HZ := Lib.hid (bTo_zero l)
  clear hv
  generalize hR : (!(l.all Vl.cmdOk)) = R at *
  have HR := Lib.hid hR
  generalize hn : l.length = n at *
  have HN := Lib.hid hn
  clear hn hR
  go_enter Tryd.func52, Tryd.ntmps52
  go_wp2_with fail
  go_loopw [8] (fun i wr => ∃ k : Nat, bTo l k ∧ i = .int .i64 (k : Int) ∧ Below w.heap.size w wr) (fun i _ => n - (intOf i).toNat)
  case atStart => exact ⟨0, HZ.out, rfl, Below.refl _ _⟩
  case round =>
    obtain ⟨k, hat, rfl, hb⟩ := hrel
    have HAT := Lib.hid hat
    have hk1 : k ≤ n := by have := hat.1; rw [HN.out] at this; exact this
    clear hat
    have i1 : (0 : Int) ≤ (k : Int) := by omega
    have HB := Lib.hid hb
    have hv1 := HV.out wr hb
    clear hb
    by_cases hlt : k < n
    · have i2 : (k : Int) < (n : Int) := by omega
      have hkl : k < l.length := by rw [HN.out]; exact hlt
      obtain ⟨b1, o1, rfl, -, g0, g1, g2, g3, g4, g5, g6, hwf⟩ := hv1.entry k hkl
      have HSTEP := Lib.hid (fun h => bTo_step HAT.out hkl h)
      have HSTOP := Lib.hid (fun h => bTo_stop hkl h)
      clear hv1
      generalize l[k] = x at *
      have HT := Lib.hid (fun W => tooGreat_any x hwf W)
      clear hwf
      generalize Vl.cmdOk x = q at *
      obtain ⟨x0, x1, x2, x3, x4, x5, x6⟩ := x
      dsimp only [ec] at *
      clear hkl
      rcases q with _ | _
      · have hall := HSTOP.out rfl
        have HAL := Lib.hid hall
        clear hall
        go_wp2_with fail
        refine (HT.out _).mono ?_
        rintro e w2 ⟨rfl, hb2⟩
        have HB2 := Lib.hid (HB.out.trans (hb2.mono HB.out.size))
        clear hb2
        go_wp2_with fail
        go_ret
        refine ⟨_, rfl, ?_, HB2.out⟩
        rw [← HR.out, HAL.out]
        simp
      · have HA2 := Lib.hid (HSTEP.out rfl)
        go_wp2_with fail
        refine (HT.out _).mono ?_
        rintro e w2 ⟨rfl, hb2⟩
        have HB2 := Lib.hid (HB.out.trans (hb2.mono HB.out.size))
        clear hb2
        go_wp2_with fail
        go_roundw
        case rel => exact ⟨k + 1, HA2.out, by go_num, HB2.out⟩
        case measure => simp [intOf]; omega
    · have HA2 := Lib.hid (bTo_end HAT.out (by rw [HN.out]; omega))
      clear hv1
      go_wp2_with fail
      go_ret
      refine ⟨-1, rfl, ?_, HB.out⟩
      rw [← HR.out, HA2.out]
      rfl
set_option maxRecDepth 100000 in
theorem containsFunc_any (v : Value) (l : List E) (w : World) (B : Nat) (hB : B ≤ w.heap.size) (hv : Sl w B v l) :
    Calls Tryd.prog 38 #[v, .func (.func 39) #[] #[]] w fun e w' => e = .returned (.bool (!(l.all Vl.cmdOk))) ∧ Below w.heap.size w w' := by
  have HI := Lib.hid (indexFunc_any v l w B hB hv)
  clear hv
  go_enter Tryd.func38, Tryd.ntmps38
  go_wp2_with fail
  refine HI.out.mono ?_
  rintro e w2 ⟨r, rfl, hr, hb2⟩
  have HR := Lib.hid hr
  have HB2 := Lib.hid hb2
  clear hr hb2
  go_wp2_with fail
  go_ret
  refine ⟨?_, HB2.out⟩
  rw [← HR.out]
  rfl
end Go.Proofs.YtcacebkbfnnjbaaDoor

/-
  What maySave answers.
-/



namespace Go.Proofs.YtcacebkbfnnjbaaDoor
open Go.RowKit

set_option maxRecDepth 100000 in
theorem maySave_any (b1 b2 l1 l2 : Int) (v : Value) (l : List E) (w : World) (B : Nat) (hB : B ≤ w.heap.size) (hv : Sl w B v l) :
    Calls Tryd.prog 25 #[bv b1 b2, lv l1 l2 v] w fun e w' => e = .returned (.bool (Vl.mayS (b1, b2) (l1, l2, l))) ∧ Below w.heap.size w w' := by
  obtain ⟨A, c, rfl, _, hm⟩ := hv.form
  have hb0 : Below w.heap.size w (w.alloc (.cells #[.int .i64 b1, .int .i64 b2] 30)) := (Below.refl _ _).alloc (Nat.le_refl _) _
  have HB := Lib.hid (hb0.alloc hb0.size (.cells #[.int .i64 l1, .int .i64 l2, .slice A l.length c] 38))
  have HW1 := Lib.hid ((Whole.new w 30 #[.int .i64 b1, .int .i64 b2]).alloc (.cells #[.int .i64 l1, .int .i64 l2, .slice A l.length c] 38))
  have HW2 := Lib.hid (Whole.new1 w (.cells #[.int .i64 b1, .int .i64 b2] 30) 38 #[.int .i64 l1, .int .i64 l2, .slice A l.length c])
  have HM1 := Lib.hid (fun W => bmay_any b1 b2 W)
  have HM2 := Lib.hid (fun W (h : Below w.heap.size w W) => may_any l1 l2 _ l W B (Nat.le_trans hB h.size) (hv.below (h.mono hB)))
  have HCF := Lib.hid (fun W (h : Below w.heap.size w W) => containsFunc_any _ l W B (Nat.le_trans hB h.size) (hv.below (h.mono hB)))
  have hR : Vl.mayS (b1, b2) (l1, l2, l) = (Vt.may (b1, b2) && Lg.may (l1, l2, l) && decide (l1 = 0) && l.all Vl.cmdOk) := rfl
  rw [hR]
  clear hR hv hb0
  generalize Vt.may (b1, b2) = mb at *
  generalize Lg.may (l1, l2, l) = ml at *
  generalize l.all Vl.cmdOk = mc at *
  generalize l.length = n at *
  obtain ⟨p0, p1⟩ := HW1.out.c2
  obtain ⟨r0, r1, r2⟩ := HW2.out.c3
  go_enter Tryd.func25, Tryd.ntmps25
  go_wp2_with fail
  refine (HM1.out _).mono ?_
  rintro e w1 ⟨rfl, hb⟩
  replace HB := Lib.hid (HB.out.trans (hb.mono HB.out.size))
  replace HW2 := Lib.hid (HW2.out.below hb HW2.out.lt)
  clear hb p0 p1 r0 r1 r2
  obtain ⟨r0, r1, r2⟩ := HW2.out.c3
  rcases mb with _ | _
  · go_wp2_with fail
    go_ret
    exact ⟨rfl, HB.out⟩
  · go_wp2_with fail
    refine (HM2.out _ HB.out).mono ?_
    rintro e w2 ⟨rfl, hb⟩
    replace HB := Lib.hid (HB.out.trans (hb.mono HB.out.size))
    replace HW2 := Lib.hid (HW2.out.below hb HW2.out.lt)
    clear hb r0 r1 r2
    obtain ⟨r0, r1, r2⟩ := HW2.out.c3
    rcases ml with _ | _
    · go_wp2_with fail
      go_ret
      exact ⟨rfl, HB.out⟩
    · by_cases h0 : l1 = 0
      · subst h0
        have d0 : ((0 : Int) != 0) = false := by simp
        go_wp2_with fail
        refine (HCF.out _ HB.out).mono ?_
        rintro e w3 ⟨rfl, hb⟩
        replace HB := Lib.hid (HB.out.trans (hb.mono HB.out.size))
        clear hb
        go_wp2_with fail
        go_ret
        exact ⟨by simp, HB.out⟩
      · have d0 : (l1 != 0) = true := by simpa using h0
        have d1 : decide (l1 = 0) = false := by simpa using h0
        go_wp2_with fail
        go_ret
        rw [d1]
        exact ⟨by simp, HB.out⟩
end Go.Proofs.YtcacebkbfnnjbaaDoor

/-
  What New, Sync and Bytes answer and leave.
-/



namespace Go.Proofs.YtcacebkbfnnjbaaDoor
open Go.RowKit

set_option maxRecDepth 100000 in
theorem new_any (w : World) :
    Calls Tryd.prog 11 #[] w fun e w' => e = .returned (.pointer (some ⟨w.heap.size, 0, none⟩)) ∧ VMem w.heap.size w' Vl.new none 0 none 0 ∧ Below w.heap.size w w' := by
  have HV := Lib.hid (show VMem w.heap.size (w.alloc (.cells #[.slice none 0 0, .int .i64 0, .int .i64 0, .int .i64 0, .slice none 0 0] 63)) Vl.new none 0 none 0 from ⟨Whole.new w _ _, Own.nil _ _ _, Own.nil _ _ _, (fun h => by cases h), (fun h => by cases h), (fun b h => by cases h)⟩)
  have HB := Lib.hid ((Below.refl w.heap.size w).alloc (Nat.le_refl _) (.cells #[.slice none 0 0, .int .i64 0, .int .i64 0, .int .i64 0, .slice none 0 0] 63))
  go_enter Tryd.func11, Tryd.ntmps11
  go_wp2_with fail
  go_ret
  exact ⟨rfl, HV.out, HB.out⟩

theorem VMem.setSync {g : Nat} {w : World} {v : Vl.V} {A A2 : Option Addr} {c c2 : Nat} (h : VMem g w v A c A2 c2) (n : Nat) : VMem g (w.setCell ⟨g, 1, none⟩ (.int .i64 (n : Int))) ⟨v.disk, n, v.s⟩ A c A2 c2 :=
  ⟨h.st.setTo 1 _ rfl, own_far h.d (by rw [own_lbk]; exact h.offd) _, own_far h.l (by rw [own_lbk]; exact h.offl) _, h.offd, h.offl, h.apart⟩
set_option maxRecDepth 100000 in
theorem sync_any (g : Nat) (v : Vl.V) (A : Option Addr) (c : Nat) (A2 : Option Addr) (c2 : Nat) (w : World) (h : VMem g w v A c A2 c2) :
    Calls Tryd.prog 14 #[.pointer (some ⟨g, 0, none⟩)] w fun e w' => e = .returned (.tuple #[]) ∧ VMem g w' (Vl.sync v) A c A2 c2 ∧ Kept (fun b => b = g) w w' := by
  have HR := Lib.hid (h.setSync v.disk.length)
  have HK := Lib.hid ((Kept.refl (fun b => b = g) w).set (p := ⟨g, 1, none⟩) (.inl rfl) (.int .i64 (v.disk.length : Int)))
  have hst := h.st
  obtain ⟨k0, k1, k2, k3, k4⟩ := hst.c5
  obtain ⟨f0, f1, f2, f3, f4⟩ := hst.f5
  unfold Vl.sync
  clear hst h
  go_enter Tryd.func14, Tryd.ntmps14
  go_wp2_with fail
  go_end0
  exact ⟨rfl, HR.out, HK.out⟩

set_option maxRecDepth 100000 in
theorem cloneb_nil (w : World) : Calls Tryd.prog 33 #[.slice none 0 0] w (BytesOut w []) := by
  have hnil := fun (w : World) (a : Option Addr) (n c : Nat) => Lib.run_eql_slice_nil (P := Tryd.prog) w 28 5 a n c 0 0 Tryd.underlying28
  go_enter Tryd.func33, Tryd.ntmps33
  go_wp2_with fail
  go_ret
  exact ⟨none, 0, rfl, Own.nil _ _ _, Below.refl _ _⟩
theorem cloneb_all (A : Option Addr) (c : Nat) (l : List UInt8) (hl : l.length ≤ 1000000) (w : World) (hv : Own w 0 5 (.slice A l.length c) l) : Calls Tryd.prog 33 #[.slice A l.length c] w (BytesOut w l) := by
  rcases hv.1.2 with ⟨h1, h2⟩ | ⟨g, cap, cur, h1, -⟩
  · obtain ⟨rfl, -, rfl⟩ := Value.slice.inj h1
    obtain rfl : l = [] := List.eq_nil_of_length_eq_zero h2
    exact cloneb_nil w
  · obtain ⟨rfl, -, rfl⟩ := Value.slice.inj h1
    refine (cloneb_any ⟨g, 0, none⟩ l.length c l hl w w.heap.size (Nat.le_refl _) hv.sl).mono ?_
    rintro e w' ⟨A3, c3, rfl, ho, hb⟩
    exact ⟨A3, c3, rfl, ho, hb⟩
set_option maxRecDepth 100000 in
theorem bytes_any (g : Nat) (v : Vl.V) (hl : v.disk.length ≤ 65536) (A : Option Addr) (c : Nat) (A2 : Option Addr) (c2 : Nat) (w : World) (h : VMem g w v A c A2 c2) :
    Calls Tryd.prog 20 #[.pointer (some ⟨g, 0, none⟩)] w (BytesOut w v.disk) := by
  have HC := Lib.hid (cloneb_all A c v.disk (by omega) w h.d)
  have hst := h.st
  obtain ⟨k0, k1, k2, k3, k4⟩ := hst.c5
  clear hst h
  go_enter Tryd.func20, Tryd.ntmps20
  go_wp2_with fail
  refine HC.out.mono ?_
  rintro e w1 ⟨A3, c3, rfl, ho, hb⟩
  have HO := Lib.hid ho
  have HB := Lib.hid hb
  clear ho hb
  go_wp2_with fail
  go_ret
  exact ⟨A3, c3, rfl, HO.out, HB.out⟩
end Go.Proofs.YtcacebkbfnnjbaaDoor

/-
  The reference's vault in memory; what its Sync leaves.
-/



namespace Go.Proofs.YtcacebkbfnnjbaaDoor
open Go.RowKit

structure RVMem (g : Nat) (S : Nat → Prop) (w : World) (v : Vl.V) (A : Option Addr) (c : Nat) (A2 : Option Addr) (c2 : Nat) : Prop where
  st : Whole w g 35 #[.slice A v.disk.length c, .int .i64 (v.synced : Int), .int .i64 v.s.1.1, .int .i64 v.s.1.2, .slice A2 v.s.2.length c2]
  d : SlS w S (.slice A v.disk.length c) v.disk
  l : SlS w S (.slice A2 v.s.2.length c2) v.s.2
  off : ¬ S g
section
variable {g : Nat} {S : Nat → Prop} {w w' : World} {v : Vl.V} {A A2 : Option Addr} {c c2 : Nat}
theorem RVMem.keep {D : Nat → Prop} (h : RVMem g S w v A c A2 c2) (hk : Kept D w w') (hg : ¬ D g) (hS : ∀ b, S b → ¬ D b) : RVMem g S w' v A c A2 c2 :=
  ⟨hk.whole h.st hg, hk.sl h.d hS, hk.sl h.l hS, h.off⟩
theorem RVMem.wide {T : Nat → Prop} (h : RVMem g S w v A c A2 c2) (hT : ∀ b, S b → b < w.heap.size → T b) (hg : ¬ T g) : RVMem g T w v A c A2 c2 := ⟨h.st, h.d.wide hT, h.l.wide hT, hg⟩
theorem RVMem.stay (h : RVMem g S w v A c A2 c2) (hb : Below w.heap.size w w') : RVMem g S w' v A c A2 c2 :=
  ⟨h.st.below hb h.st.lt, h.d.stay (fun b _ hlt => hb.block b hlt), h.l.stay (fun b _ hlt => hb.block b hlt), h.off⟩
theorem RVMem.glt (h : RVMem g S w v A c A2 c2) : g < w.heap.size := h.st.lt
end
/-- What a step of it leaves. -/
def RVTo (g : Nat) (S : Nat → Prop) (w : World) (v : Vl.V) (w' : World) : Prop :=
  ∃ A c A2 c2, RVMem g (fun b => S b ∨ w.heap.size ≤ b) w' v A c A2 c2 ∧ Kept (fun b => b = g) w w'
theorem rvto_same {g : Nat} {S : Nat → Prop} {w w' : World} {v : Vl.V} {A A2 : Option Addr} {c c2 : Nat} (h : RVMem g S w v A c A2 c2) (hb : Below w.heap.size w w') : RVTo g S w v w' :=
  ⟨A, c, A2, c2, (h.stay hb).wide (fun b hb _ => .inl hb) (fun e => e.elim h.off (fun e => by have := h.glt; omega)), Below.kept hb⟩

set_option maxRecDepth 100000 in
theorem rsync_any (g : Nat) (S : Nat → Prop) (v : Vl.V) (A : Option Addr) (c : Nat) (A2 : Option Addr) (c2 : Nat) (w : World) (h : RVMem g S w v A c A2 c2) :
    Calls Tryd.prog 15 #[.pointer (some ⟨g, 0, none⟩)] w fun e w' => e = .returned (.tuple #[]) ∧ RVMem g S w' (Vl.sync v) A c A2 c2 ∧ Kept (fun b => b = g) w w' := by
  have HR := Lib.hid (show RVMem g S (w.setCell ⟨g, 1, none⟩ (.int .i64 (v.disk.length : Int))) (Vl.sync v) A c A2 c2 from ⟨h.st.setTo 1 _ rfl, sls_far h.d h.off _, sls_far h.l h.off _, h.off⟩)
  have HK := Lib.hid ((Kept.refl (fun b => b = g) w).set (p := ⟨g, 1, none⟩) (.inl rfl) (.int .i64 (v.disk.length : Int)))
  have hst := h.st
  obtain ⟨k0, k1, k2, k3, k4⟩ := hst.c5
  obtain ⟨f0, f1, f2, f3, f4⟩ := hst.f5
  generalize Vl.sync v = R at *
  clear hst h
  go_enter Tryd.func15, Tryd.ntmps15
  go_wp2_with fail
  go_end0
  exact ⟨rfl, HR.out, HK.out⟩
/-- s[:k] of bytes. -/
theorem SlS.uptoB {w : World} {S : Nat → Prop} {n c : Nat} {A : Option Addr} {l : List UInt8} (h : SlS w S (.slice A n c) l) (k : Nat) (hk : k ≤ n) : SlS w S (.slice (if c = 0 then A else A.map (·.add (0 * 1))) k c) (l.take k) := by
  have hr := SlS.room h
  have h2 := SlS.take h k c hk (by omega) hr.2.2
  split
  · exact h2
  · rcases Nat.eq_zero_or_pos k with h0 | h0
    · subst h0
      rw [List.take_zero]
      exact ⟨_, c, rfl, Nat.zero_le _, hr.2.2, fun h => absurd h (by simp)⟩
    · obtain ⟨b, off, e, -, -⟩ := SlS.inside h (by omega)
      subst e
      rw [Option.map_some, add_at]
      exact h2
end Go.Proofs.YtcacebkbfnnjbaaDoor

/-
  What the reference's record answers.
-/



namespace Go.Proofs.YtcacebkbfnnjbaaDoor
open Go.RowKit

/-- Bytes of the call's own, and whether they may be. -/
def RecOut (w : World) (l : List UInt8) (ok : Bool) (e : Ending) (w' : World) : Prop :=
  ∃ A c, e = .returned (.tuple #[.slice A l.length c, .bool ok]) ∧ Own w' w.heap.size 5 (.slice A l.length c) l ∧ Below w.heap.size w w'

set_option maxRecDepth 100000 in
theorem rrecord_any (k : Int) (sN : Value) (N : List Int) (hg : Vl.good (k, N)) (w : World) (B : Nat) (hB : B ≤ w.heap.size) (hN : Sl w B sN N) :
    Calls Tryd.prog 30 #[.int .i64 k, sN] w (RecOut w (Vl.recd k N) true) := by
  obtain ⟨A, c, rfl, _, _⟩ := hN.form
  have HP := Lib.hid (refPack_any _ (.slice none 0 0) N [] w B hB hN (Sl.nil _ _))
  rw [pack_recd hg] at HP
  have HU := Lib.hid (fun W v (hv : Sl W W.heap.size v (Fm.bytes N [])) => refPut_any k v (Fm.bytes N []) W W.heap.size (Nat.le_refl _) hv)
  rw [put_recd hg] at HU
  clear hN hg
  generalize Fm.bytes N [] = b at *
  generalize Vl.recd k N = R at *
  go_enter Tryd.func30, Tryd.ntmps30
  go_wp2_with fail
  refine HP.out.mono ?_
  rintro e w1 ⟨A1, c1, rfl, ho1, hb1⟩
  have HO1 := Lib.hid ho1
  have HB1 := Lib.hid hb1
  clear ho1 hb1
  simp only at HO1 ⊢
  go_wp2_with fail
  refine (HU.out _ _ HO1.out.sl).mono ?_
  rintro e w2 ⟨A2, c2, rfl, ho2, hb2⟩
  have HO2 := Lib.hid (ho2.down HB1.out.size)
  have HB2 := Lib.hid (HB1.out.trans (hb2.mono HB1.out.size))
  clear ho2 hb2
  simp only at HO2 ⊢
  go_wp2_with fail
  go_ret2
  exact ⟨A2, c2, rfl, HO2.out, HB2.out⟩
set_option maxRecDepth 100000 in
theorem rrecord_no (k : Int) (sN : Value) (N : List Int) (h255 : N.length ≤ 255) (hg : ¬ ∀ n ∈ N, Fm.may n) (w : World) (B : Nat) (hB : B ≤ w.heap.size) (hN : Sl w B sN N) :
    Calls Tryd.prog 30 #[.int .i64 k, sN] w (RecOut w [] false) := by
  obtain ⟨A, c, rfl, _, _⟩ := hN.form
  have HP := Lib.hid (refPack_any _ (.slice none 0 0) N [] w B hB hN (Sl.nil _ _))
  rw [pack_arg (by simp; omega) hg] at HP
  clear hN hg
  go_enter Tryd.func30, Tryd.ntmps30
  go_wp2_with fail
  refine HP.out.mono ?_
  rintro e w1 ⟨A1, c1, rfl, ho1, hb1⟩
  have HB1 := Lib.hid hb1
  clear ho1 hb1
  simp only
  go_wp2_with fail
  go_ret2
  exact ⟨none, 0, rfl, Own.nil _ _ _, HB1.out⟩
end Go.Proofs.YtcacebkbfnnjbaaDoor
