/-
  Parts that the statement rests on, joined: Psteps, Psave.
-/
import Derived.Test.YtcacebkbfnnjbaaDoorV14
import Derived.Test.YtcacebkbfnnjbaaDoorV15
import Derived.Test.YtcacebkbfnnjbaaDoorV17
import Derived.Test.YtcacebkbfnnjbaaDoorV18
import Derived.Test.YtcacebkbfnnjbaaDoorV24
import Derived.Test.YtcacebkbfnnjbaaDoorV25
import Derived.Deep.CutRange
import Derived.LoopTactic
/-
  What steps answers.
-/






namespace Go.Proofs.YtcacebkbfnnjbaaDoor
open Go.RowKit

/-- The bytes of the records up to so many entries. -/
def stepsTo (s : Vl.S) (b : Vt.B) (l : List E) (i : Nat) : List UInt8 := Vl.bytesOf (Vl.balR s b ++ (Vl.cutR s l ++ (Vl.ents (Vl.agreed s.2 l) (l.drop (Vl.agreed s.2 l))).take i))
theorem stepsTo_zero (s : Vl.S) (b : Vt.B) (l : List E) : stepsTo s b l 0 = Vl.bytesOf (Vl.balR s b) ++ Vl.bytesOf (Vl.cutR s l) := by
  unfold stepsTo
  rw [List.take_zero, List.append_nil, Vl.bytesOf_app]
theorem ents_get : ∀ (l : List E) (i k : Nat) (h : k < l.length), (Vl.ents i l)[k]'(by rw [Vl.ents_len]; exact h) = (2, Vl.en8 ((i + k : Nat) + 1) l[k])
  | [], _, _, h => absurd h (by simp)
  | e :: l, i, 0, _ => rfl
  | e :: l, i, k + 1, h => by
    have := ents_get l (i + 1) k (by simpa using h)
    simp only [Vl.ents, List.getElem_cons_succ]
    rw [this, show i + 1 + k = i + (k + 1) by omega]
theorem stepsTo_succ {s : Vl.S} {b : Vt.B} {l : List E} {i : Nat} (h : Vl.agreed s.2 l + i < l.length) : stepsTo s b l (i + 1) = stepsTo s b l i ++ Vl.recd 2 (Vl.en8 ((Vl.agreed s.2 l + i : Nat) + 1) (l[Vl.agreed s.2 l + i])) := by
  have hlt : i < (l.drop (Vl.agreed s.2 l)).length := by rw [List.length_drop]; omega
  have hg := ents_get (l.drop (Vl.agreed s.2 l)) (Vl.agreed s.2 l) i hlt
  rw [List.getElem_drop] at hg
  unfold stepsTo
  rw [List.take_succ_eq_append_getElem (by rw [Vl.ents_len]; exact hlt), hg, ← List.append_assoc, ← List.append_assoc, Vl.bytesOf_app, ← List.append_assoc]
  simp [Vl.bytesOf]
theorem stepsTo_all {s : Vl.S} {b : Vt.B} {l : List E} {i : Nat} (h : l.length ≤ Vl.agreed s.2 l + i) : stepsTo s b l i = Vl.bytesOf (Vl.steps s b l) := by
  unfold stepsTo Vl.steps
  rw [List.take_of_length_le (by rw [Vl.ents_len, List.length_drop]; omega)]
theorem recd_small {k : Int} {N : List Int} (h : Vl.good (k, N)) (h8 : N.length ≤ 8) : (Vl.recd k N).length ≤ 75 := by
  have := Fm.sum_le h.2.2.2
  simp only at this
  rw [Vl.recd_len]
  omega
theorem bytesOf_len : ∀ (l : List Vl.Rc), (∀ r ∈ l, Vl.good r ∧ r.2.length ≤ 8) → (Vl.bytesOf l).length ≤ l.length * 75
  | [], _ => by simp [Vl.bytesOf]
  | r :: l, h => by
    have h1 := bytesOf_len l (fun x hx => h x (by simp [hx]))
    have h2 := recd_small (k := r.1) (N := r.2) (h r (by simp)).1 (h r (by simp)).2
    rw [Vl.bytesOf_cons, List.length_append, List.length_cons]
    omega
theorem ents_eight : ∀ (l : List E) (i : Nat), ∀ r ∈ Vl.ents i l, r.2.length ≤ 8
  | [], _, r, h => by simp [Vl.ents] at h
  | e :: l, i, r, h => by
    rcases List.mem_cons.1 h with rfl | h
    · exact Nat.le_refl _
    · exact ents_eight l (i + 1) r h
theorem steps_eight {s : Vl.S} {b : Vt.B} {l : List E} : ∀ r ∈ Vl.steps s b l, r.2.length ≤ 8 := by
  intro r hr
  unfold Vl.steps at hr
  rcases List.mem_append.1 hr with hr | hr
  · unfold Vl.balR at hr
    split at hr
    · simp at hr
    · obtain rfl := List.mem_singleton.1 hr; simp
  · rcases List.mem_append.1 hr with hr | hr
    · unfold Vl.cutR at hr
      split at hr
      · obtain rfl := List.mem_singleton.1 hr; simp
      · simp at hr
    · exact ents_eight _ _ r hr
theorem stepsTo_len {s : Vl.S} {b : Vt.B} {l : List E} (hb : Vt.may b = true) (hm : Lg.may (0, 0, l) = true) (hc : ∀ e ∈ l, Vl.cmdOk e = true) (i : Nat) : (stepsTo s b l i).length ≤ 10000 := by
  have hl := ((Lg.may_iff _).1 hm).2.2.2.2.2.1
  simp only at hl
  have hg := Vl.steps_good (s := s) hb hm hc
  have hmem : ∀ r ∈ Vl.balR s b ++ (Vl.cutR s l ++ (Vl.ents (Vl.agreed s.2 l) (l.drop (Vl.agreed s.2 l))).take i), r ∈ Vl.steps s b l := by
    intro r hr
    unfold Vl.steps
    rcases List.mem_append.1 hr with hr | hr
    · exact List.mem_append_left _ hr
    · rcases List.mem_append.1 hr with hr | hr
      · exact List.mem_append_right _ (List.mem_append_left _ hr)
      · exact List.mem_append_right _ (List.mem_append_right _ (List.mem_of_mem_take hr))
  have h := bytesOf_len _ (fun r hr => ⟨hg r (hmem r hr), steps_eight r (hmem r hr)⟩)
  have h1 := Vl.bal_len s b
  have h2 := Vl.cut_len s l
  have h3 : ((Vl.ents (Vl.agreed s.2 l) (l.drop (Vl.agreed s.2 l))).take i).length ≤ l.length := by
    rw [List.length_take, Vl.ents_len, List.length_drop]; omega
  rw [List.length_append, List.length_append] at h
  unfold stepsTo
  omega
theorem cells_ints2 (l : List Int) : (cells l : List Value) = l.map (Value.int .i64) := by
  induction l with
  | nil => rfl
  | cons x l ih => rw [List.map_cons, ← ih]; rfl
/-- Numbers in a block of their own. -/
theorem ints_new (w : World) (l : List Int) (hw : ∀ x ∈ l, Fm.may x) (hl : l.length ≤ 100) : Sl (w.alloc (.cells (l.map (Value.int .i64)).toArray 3)) (w.alloc (.cells (l.map (Value.int .i64)).toArray 3)).heap.size (.slice (some ⟨w.heap.size, 0, none⟩) l.length l.length) l :=
  (Own.newL w w.heap.size 3 l _ (fun x hx => by have := hw x hx; unfold Fm.may at this; exact ⟨by omega, by omega⟩) (by rw [cells_ints2]) (by unfold maxLen; omega) (Nat.le_refl _)).sl

set_option maxRecDepth 100000 in
set_option maxHeartbeats 4000000 in
theorem steps_any (s : Vl.S) (b : Vt.B) (l : List E) (hs : Vl.Good s) (hb : Vt.may b = true) (hm : Lg.may (0, 0, l) = true) (hc : ∀ e ∈ l, Vl.cmdOk e = true) (v1 v2 : Value) (w : World) (h1 : Sl w w.heap.size v1 s.2) (h2 : Sl w w.heap.size v2 l) (hT : Tab w) :
    Calls Tryd.prog 26 #[.agg (stc s.1.1 s.1.2 v1), bv b.1 b.2, v2] w (BytesOut w (Vl.bytesOf (Vl.steps s b l))) := by
  obtain ⟨A1, c1, rfl, hc1, hm1⟩ := h1.form
  obtain ⟨A2, c2, rfl, hc2, hm2⟩ := h2.form
  unfold maxLen at hm1 hm2
  have hG := Lib.hid (Vl.steps_good (s := s) hb hm hc)
  have HLEN := Lib.hid (fun i => stepsTo_len (s := s) hb hm hc i)
  have HALL := Lib.hid (fun i (h : l.length ≤ Vl.agreed s.2 l + i) => stepsTo_all (b := b) h)
  have HZERO := Lib.hid (stepsTo_zero s b l)
  have hsl := hs.len
  have hll := ((Lg.may_iff _).1 hm).2.2.2.2.2.1
  simp only at hll
  have hag := Vl.agreed_le s.2 l
  have hbm := (Vt.may_iff _).1 hb
  have hb0 : Below w.heap.size w (w.alloc (.cells (stc s.1.1 s.1.2 (.slice A1 s.2.length c1)) 61)) := (Below.refl _ _).alloc (Nat.le_refl _) _
  have hb1 := hb0.alloc hb0.size (.cells #[.int .i64 b.1, .int .i64 b.2] 30)
  have HW1 := Lib.hid ((Whole.new w 61 (stc s.1.1 s.1.2 (.slice A1 s.2.length c1))).alloc (.cells #[.int .i64 b.1, .int .i64 b.2] 30))
  have HW2 := Lib.hid (Whole.new1 w (.cells (stc s.1.1 s.1.2 (.slice A1 s.2.length c1)) 61) 30 #[.int .i64 b.1, .int .i64 b.2])
  have HV1 := Lib.hid (fun W (h : Below w.heap.size w W) => h1.below h)
  have HV2 := Lib.hid (fun W (h : Below w.heap.size w W) => h2.below h)
  have HAG := Lib.hid (fun W (h : Below w.heap.size w W) => agreed_any _ _ s.2 l W w.heap.size h.size (h1.below h) (h2.below h))
  have HT := Lib.hid (fun W (h : Below w.heap.size w W) => hT.below h hT.pos)
  have HB1 := Lib.hid hb1
  have hsz2 : (((w.alloc (.cells (stc s.1.1 s.1.2 (.slice A1 s.2.length c1)) 61)).alloc (.cells #[.int .i64 b.1, .int .i64 b.2] 30))).heap.size = w.heap.size + 2 := by simp
  have HBAL : Hid (b = s.1 → Vl.bytesOf (Vl.balR s b) = []) := Lib.hid (fun h => by unfold Vl.balR; rw [if_pos h]; rfl)
  have HBAL2 : Hid (b ≠ s.1 → Vl.bytesOf (Vl.balR s b) = Vl.recd 1 [b.1, b.2] ∧ Vl.good (1, [b.1, b.2])) := Lib.hid (fun h => by
    have hr : Vl.balR s b = [(1, [b.1, b.2])] := by unfold Vl.balR; rw [if_neg h]
    refine ⟨by rw [hr]; simp [Vl.bytesOf], hG.out _ ?_⟩
    unfold Vl.steps
    rw [hr]
    simp)
  have HCUT : Hid (¬ Vl.agreed s.2 l < s.2.length → Vl.bytesOf (Vl.cutR s l) = []) := Lib.hid (fun h => by unfold Vl.cutR; rw [if_neg h]; rfl)
  have HCUT2 : Hid (Vl.agreed s.2 l < s.2.length → Vl.bytesOf (Vl.cutR s l) = Vl.recd 3 [(Vl.agreed s.2 l : Int)] ∧ Vl.good (3, [(Vl.agreed s.2 l : Int)])) := Lib.hid (fun h => by
    have hr : Vl.cutR s l = [(3, [(Vl.agreed s.2 l : Int)])] := by unfold Vl.cutR; rw [if_pos h]
    refine ⟨by rw [hr]; simp [Vl.bytesOf], hG.out _ ?_⟩
    unfold Vl.steps
    rw [hr]
    simp)
  have HENT : Hid (∀ i e, l[Vl.agreed s.2 l + i]? = some e → Vl.good (2, Vl.en8 ((Vl.agreed s.2 l + i : Nat) + 1) e) ∧ stepsTo s b l (i + 1) = stepsTo s b l i ++ Vl.recd 2 (Vl.en8 ((Vl.agreed s.2 l + i : Nat) + 1) e)) := Lib.hid (fun i e he => by
    obtain ⟨h, rfl⟩ := List.getElem?_eq_some_iff.1 he
    refine ⟨?_, stepsTo_succ h⟩
    have hlt : i < (l.drop (Vl.agreed s.2 l)).length := by rw [List.length_drop]; omega
    have hg := ents_get (l.drop (Vl.agreed s.2 l)) (Vl.agreed s.2 l) i hlt
    rw [List.getElem_drop] at hg
    rw [← hg]
    refine hG.out _ ?_
    unfold Vl.steps
    exact List.mem_append_right _ (List.mem_append_right _ (List.getElem_mem _)))
  clear h1 h2 hT hb0 hb1 hs hb hm hc hG
  generalize Vl.bytesOf (Vl.balR s b) = rb at *
  generalize Vl.bytesOf (Vl.cutR s l) = rc at *
  generalize Vl.bytesOf (Vl.steps s b l) = R at *
  generalize stepsTo s b l = T at *
  generalize Vl.agreed s.2 l = ag at *
  obtain ⟨⟨sb, sv⟩, sl⟩ := s
  obtain ⟨bb, bw⟩ := b
  simp only at *
  generalize hn1 : sl.length = n1 at *
  generalize hn2 : l.length = n2 at *
  have HN1 := Lib.hid hn1
  have HN2 := Lib.hid hn2
  clear hn1 hn2
  go_enter Tryd.func26, Tryd.ntmps26
  have hcase : (bb = sb ∧ bw = sv) ∨ ¬ bb = sb ∨ (bb = sb ∧ ¬ bw = sv) := by omega
  have hcase : (bb = sb ∧ bw = sv) ∨ ¬ bb = sb ∨ (bb = sb ∧ ¬ bw = sv) := by omega
  have HR1 := Lib.hid (fun W (h : Below w.heap.size w W) (hg : Vl.good (1, [bb, bw])) => record_any 1 _ [bb, bw] hg _ _ (Nat.le_refl _) (ints_new W [bb, bw] (fun x hx => hg.2.2.2 x hx) (by simp)) (HT.out _ (h.alloc h.size _)))
  have hQ1 := HW1.out
  have hQ2 := HW2.out
  obtain ⟨k0, k1, k2⟩ := hQ1.c3
  obtain ⟨j0, j1⟩ := hQ2.c2
  clear hQ1 hQ2
  rcases hcase with ⟨rfl, rfl⟩ | h | ⟨rfl, h⟩
  · obtain rfl : rb = [] := HBAL.out rfl
    clear HBAL HBAL2 HR1
    have HX := Lib.hid (Own.nil (α := UInt8) ((w.alloc (.cells (stc bb bw (.slice A1 n1 c1)) 61)).alloc (.cells #[.int .i64 bb, .int .i64 bw] 30)) (w.heap.size + 2) 5)
    have HW1x := HW1
    have HBX := HB1
    clear HW1 HB1
    go_wp2_with fail
    with_reducible refine (HAG.out _ HBX.out).mono ?_
    rintro e wa ⟨rfl, hb⟩
    have HXa := Lib.hid (HX.out.below hb)
    have HW1a := Lib.hid (HW1x.out.below hb HW1x.out.lt)
    have HBa := Lib.hid (HBX.out.trans (hb.mono HBX.out.size))
    have hwsz : w.heap.size + 2 ≤ wa.heap.size := by have := hb.size; have := hsz2; omega
    clear hb HX HW1x HBX HAG
    obtain ⟨r0, r1, r2⟩ := HW1a.out.c3
    go_upto_if 32 with fail
    go_cut [7] from 32 to 37 (fun x wx => Own wx (w.heap.size + 2) 5 x (T 0) ∧ Whole wx w.heap.size 61 (stc bb bw (.slice A1 n1 c1)) ∧ Below w.heap.size w wx ∧ w.heap.size + 2 ≤ wx.heap.size)
    case first =>
      by_cases hag2 : ag < n1
      · have d2 : decide (ag < n1) = true := by simpa using hag2
        obtain ⟨hrc, hg3⟩ := HCUT2.out hag2
        have hR3 := record_any 3 _ [(ag : Int)] hg3 _ _ (Nat.le_refl _) (ints_new wa [(ag : Int)] (fun x hx => hg3.2.2.2 x hx) (by simp)) (HT.out _ (HBa.out.alloc HBa.out.size _))
        simp only [List.map_cons, List.map_nil, List.length_cons, List.length_nil, Nat.zero_add] at hR3
        have hlr : (Vl.recd 3 [(ag : Int)]).length ≤ 75 := recd_small hg3 (by simp)
        have hlb : ([] : List UInt8).length ≤ 75 := by simp
        have HRR := Lib.hid hR3
        have HLR := Lib.hid hlr
        have HRC := Lib.hid hrc
        clear hR3 hlr hrc hg3
        generalize Vl.recd 3 [(ag : Int)] = r3 at *
        go_wp2_with fail
        with_reducible refine HRR.out.mono ?_
        rintro e wb ⟨A3, c3, rfl, ho3, hb3⟩
        have hz3 := hb3.size
        rw [World.size_alloc] at hz3
        have HO3 := Lib.hid ho3
        have HBB3 := Lib.hid (((Below.refl wa.heap.size wa).alloc (Nat.le_refl _) _).trans (hb3.mono (by simp)))
        clear ho3 hb3 HRR
        have HXb := Lib.hid (HXa.out.below HBB3.out)
        go_wp2_with (at_builtin; refine wpList_append_sl rfl _ (.tmp 36) rfl rowB (w.heap.size + 2) _ _ rfl HXb.out wb.heap.size _ r3 rfl HO3.out.sl (by have := HLR.out; unfold maxLen; simp at hlb ⊢; omega) (by have := HLR.out; simp at hlb ⊢; omega) (by omega) ?_; intro vy wy howny hgy haty; have hby := below_of_own (Below.refl (w.heap.size + 2) wb) HXb.out hgy (by omega); have HXy := Lib.hid howny; have HW1y := Lib.hid ((HW1a.out.below HBB3.out (by have := HW1a.out.lt; omega)).below hby (by omega)); have HBy := Lib.hid ((HBa.out.trans (HBB3.out.mono (by omega))).trans (hby.mono (by omega))); have hzy := hby.size; clear hgy haty howny hby)
        go_meet
        exact ⟨by rw [HZERO.out, HRC.out]; exact HXy.out, HW1y.out, HBy.out, by omega⟩
      · have d2 : decide (ag < n1) = false := by simpa using hag2
        have hrc := HCUT.out hag2
        go_wp2_with fail
        go_meet
        exact ⟨by rw [HZERO.out, hrc, List.append_nil]; exact HXa.out, HW1a.out, HBa.out, hwsz⟩
    case rest =>
      obtain ⟨hx0, -, hbc, hszc⟩ := hcut
      have HXc := Lib.hid hx0
      have HBc := Lib.hid hbc
      clear hx0 hbc HCUT HCUT2
      have hs1 := fun W => run_from A2 n2 c2 ag (ag : Int) rfl hag.2 W
      have hdr := fun W (h : Below w.heap.size w W) => (HV2.out W h).drop ag hag.2
      rw [show Rep.sz E = 7 from rfl] at hdr
      generalize (if c2 = ag then A2 else A2.map (·.add (ag * 7))) = A4 at *
      have HDR := Lib.hid hdr
      clear hdr
      have hsub : (n2 : Int) - (ag : Int) = ((n2 - ag : Nat) : Int) := by omega
      have HNL := Lib.hid (show (l.drop ag).length = n2 - ag by rw [List.length_drop, HN2.out])
      have hn64 : n2 ≤ 64 := by omega
      have ha64 : ag + (n2 - ag) = n2 := by omega
      have HAG2 := Lib.hid ha64
      clear hsub ha64
      generalize hnr : n2 - ag = nr at *
      have HNR := Lib.hid hnr
      clear hnr
      go_wp2_with fail
      go_loopw [7, 42] (fun x i wr => ∃ k : Nat, k ≤ nr ∧ i = .int .i64 (k : Int) ∧ Own wr (w.heap.size + 2) 5 x (T k) ∧ Below w.heap.size w wr ∧ w.heap.size + 2 ≤ wr.heap.size) (fun _ i _ => nr - (intOf i).toNat)
      case atStart => exact ⟨0, Nat.zero_le _, rfl, HXc.out, HBc.out, hszc⟩
      case round =>
        obtain ⟨k, hk, rfl, hx, hb, hsz⟩ := hrel
        have HX := Lib.hid hx
        have HB := Lib.hid hb
        clear hx hb
        by_cases hlt : k < nr
        · have hkl : k < (l.drop ag).length := by rw [HNL.out]; exact hlt
          obtain ⟨b1, o1, rfl, -, g0, g1, g2, g3, g4, g5, g6, hwf⟩ := (HDR.out _ HB.out).entry k hkl
          have hent := HENT.out k (l.drop ag)[k] (by rw [List.getElem_drop, List.getElem?_eq_getElem])
          generalize (l.drop ag)[k] = e at *
          obtain ⟨hg2, ht2⟩ := hent
          have hTl := HLEN.out k
          have HT2 := Lib.hid ht2
          clear ht2 hkl
          have hlr : (Vl.recd 2 (Vl.en8 ((ag + k : Nat) + 1) e)).length ≤ 75 := recd_small hg2 (by simp [Vl.en8])
          obtain ⟨e0, e1, e2, e3, e4, e5, e6⟩ := e
          dsimp only [ec] at *
          have i1 : (0 : Int) ≤ (k : Int) := by omega
          have i2 : (k : Int) < (nr : Int) := by omega
          have hag64 : ag ≤ 64 := by have := HAG2.out; omega
          have hk64 : k ≤ 64 := by have := HAG2.out; omega
          have hw1 : IntKind.i64.wrap ((ag : Int) + (k : Int)) = (ag : Int) + (k : Int) := by rw [IntKind.wrap_i64]; omega
          have hw2 : IntKind.i64.wrap ((ag : Int) + (k : Int) + 1) = (ag : Int) + (k : Int) + 1 := by rw [IntKind.wrap_i64]; omega
          have hbw : Below wr.heap.size wr ((wr.alloc (.cells #[.int .i64 e0, .int .i64 e1, .int .i64 e2, .int .i64 e3, .int .i64 e4, .int .i64 e5, .int .i64 e6] 57)).alloc (.cells #[.int .i64 e1, .int .i64 e2, .int .i64 e3, .int .i64 e4, .int .i64 e5, .int .i64 e6] 55)) := ((Below.refl _ _).alloc (Nat.le_refl _) _).alloc (by simp) _
          have hR3 := record_any 2 _ _ hg2 _ _ (Nat.le_refl _) (ints_new ((wr.alloc (.cells #[.int .i64 e0, .int .i64 e1, .int .i64 e2, .int .i64 e3, .int .i64 e4, .int .i64 e5, .int .i64 e6] 57)).alloc (.cells #[.int .i64 e1, .int .i64 e2, .int .i64 e3, .int .i64 e4, .int .i64 e5, .int .i64 e6] 55)) _ (fun x hx => hg2.2.2.2 x hx) (by simp [Vl.en8])) (HT.out _ (HB.out.trans ((hbw.alloc hbw.size _).mono HB.out.size)))
          clear hg2
          generalize hrr : Vl.recd 2 (Vl.en8 ((ag + k : Nat) + 1) (e0, e1, e2, e3, e4, e5, e6)) = r3 at *
          simp only [Vl.en8, List.map_cons, List.map_nil, List.length_cons, List.length_nil, Nat.zero_add, Nat.reduceAdd, World.size_alloc, Nat.add_assoc, Int.natCast_add] at hR3
          have HRR := Lib.hid hR3
          have HLR := Lib.hid hlr
          have HBW := Lib.hid hbw
          clear hR3 hlr hrr hbw hwf
          go_wp2_with fail
          with_reducible refine HRR.out.mono ?_
          rintro e wb ⟨A3, c3, rfl, ho3, hb3⟩
          have hz3 := hb3.size
          simp only [World.size_alloc, Nat.add_assoc, Nat.reduceAdd] at hz3
          have HO3 := Lib.hid ho3
          have HBB3 := Lib.hid ((HBW.out.alloc HBW.out.size _).trans (hb3.mono (by simp; omega)))
          clear ho3 hb3 HRR
          have HXb := Lib.hid (HX.out.below HBB3.out)
          go_wp2_with (at_builtin; refine wpList_append_sl rfl _ (.tmp 69) rfl rowB (w.heap.size + 2) _ _ rfl HXb.out wb.heap.size _ r3 rfl HO3.out.sl (by have := HLR.out; unfold maxLen; simp at hTl ⊢; omega) (by have := HLR.out; simp at hTl ⊢; omega) (by omega) ?_; intro vy wy howny hgy haty; have hby := below_of_own (Below.refl (w.heap.size + 2) wb) HXb.out hgy (by omega); have HXy := Lib.hid howny; have HBy := Lib.hid ((HB.out.trans (HBB3.out.mono (by omega))).trans (hby.mono (by omega))); have hzy := hby.size; clear hgy haty howny hby)
          go_roundw
          case rel => exact ⟨k + 1, hlt, by go_num, by rw [HT2.out]; exact HXy.out, HBy.out, by omega⟩
          case measure => simp [intOf]; omega
        · have hend := HALL.out k (by have := HAG2.out; omega)
          have HE := Lib.hid hend
          clear hend
          obtain ⟨Ax, cx, rfl, _, _⟩ := HX.out.sl.form
          go_wp2_with fail
          go_ret
          have h := HE.out
          subst h
          exact ⟨Ax, cx, rfl, HX.out.down (by omega), HB.out⟩
  · obtain ⟨rfl, hg1⟩ := HBAL2.out (fun e => h (by injection e))
    have HRR := Lib.hid (HR1.out _ HB1.out hg1)
    have hlr : (Vl.recd 1 [bb, bw]).length ≤ 75 := recd_small hg1 (by simp)
    clear HBAL HBAL2 HR1 hg1
    have HLR := Lib.hid hlr
    generalize Vl.recd 1 [bb, bw] = rb at *
    simp only [List.map_cons, List.map_nil, List.length_cons, List.length_nil, Nat.zero_add, Nat.reduceAdd, World.size_alloc, Nat.add_assoc] at HRR
    go_wp2_with fail
    with_reducible refine HRR.out.mono ?_
    rintro e w3 ⟨A3, c3, rfl, ho3, hb3⟩
    have hz3 := hb3.size
    rw [World.size_alloc, hsz2] at hz3
    have HO3 := Lib.hid ho3
    have HBB3 := Lib.hid (((Below.refl _ _).alloc (Nat.le_refl _) _).trans (hb3.mono (by simp)))
    clear ho3 hb3 HRR
    go_wp2_with (at_builtin; refine wpList_append_sl rfl _ (.tmp 22) rfl rowB (w.heap.size + 2) _ [] rfl (Own.nil _ _ _) w3.heap.size _ rb rfl HO3.out.sl (by have := HLR.out; unfold maxLen; simp; omega) (by have := HLR.out; simp; omega) (by omega) ?_; intro vx wx hownx hgx hatx; rw [List.nil_append] at hownx; have hbx := HBB3.out.mono (show w.heap.size + 2 ≤ _ by rw [hsz2]; exact Nat.le_refl _) |>.grown hgx (by omega) (by intro k h; cases h); have HX := Lib.hid hownx; have HW1x := Lib.hid (HW1.out.below hbx (by omega)); have HBX := Lib.hid (HB1.out.trans (hbx.mono (by omega))); obtain ⟨p0, p1, p2⟩ := HW1x.out.c3; have hzx : w.heap.size + 2 ≤ wx.heap.size := Nat.le_trans (by omega) hgx.size; clear hgx hatx hownx hbx HW1 HB1 HO3)
    with_reducible refine (HAG.out _ HBX.out).mono ?_
    rintro e wa ⟨rfl, hb⟩
    have HXa := Lib.hid (HX.out.below hb)
    have HW1a := Lib.hid (HW1x.out.below hb HW1x.out.lt)
    have HBa := Lib.hid (HBX.out.trans (hb.mono HBX.out.size))
    have hwsz : w.heap.size + 2 ≤ wa.heap.size := by have := hb.size; have := hzx; omega
    clear hb HX HW1x HBX HAG
    obtain ⟨r0, r1, r2⟩ := HW1a.out.c3
    go_upto_if 32 with fail
    go_cut [7] from 32 to 37 (fun x wx => Own wx (w.heap.size + 2) 5 x (T 0) ∧ Whole wx w.heap.size 61 (stc sb sv (.slice A1 n1 c1)) ∧ Below w.heap.size w wx ∧ w.heap.size + 2 ≤ wx.heap.size)
    case first =>
      by_cases hag2 : ag < n1
      · have d2 : decide (ag < n1) = true := by simpa using hag2
        obtain ⟨hrc, hg3⟩ := HCUT2.out hag2
        have hR3 := record_any 3 _ [(ag : Int)] hg3 _ _ (Nat.le_refl _) (ints_new wa [(ag : Int)] (fun x hx => hg3.2.2.2 x hx) (by simp)) (HT.out _ (HBa.out.alloc HBa.out.size _))
        simp only [List.map_cons, List.map_nil, List.length_cons, List.length_nil, Nat.zero_add] at hR3
        have hlr : (Vl.recd 3 [(ag : Int)]).length ≤ 75 := recd_small hg3 (by simp)
        have hlb : rb.length ≤ 75 := by assumption
        have HRR := Lib.hid hR3
        have HLR := Lib.hid hlr
        have HRC := Lib.hid hrc
        clear hR3 hlr hrc hg3
        generalize Vl.recd 3 [(ag : Int)] = r3 at *
        go_wp2_with fail
        with_reducible refine HRR.out.mono ?_
        rintro e wb ⟨A3, c3, rfl, ho3, hb3⟩
        have hz3 := hb3.size
        rw [World.size_alloc] at hz3
        have HO3 := Lib.hid ho3
        have HBB3 := Lib.hid (((Below.refl wa.heap.size wa).alloc (Nat.le_refl _) _).trans (hb3.mono (by simp)))
        clear ho3 hb3 HRR
        have HXb := Lib.hid (HXa.out.below HBB3.out)
        go_wp2_with (at_builtin; refine wpList_append_sl rfl _ (.tmp 36) rfl rowB (w.heap.size + 2) _ _ rfl HXb.out wb.heap.size _ r3 rfl HO3.out.sl (by have := HLR.out; unfold maxLen; simp at hlb ⊢; omega) (by have := HLR.out; simp at hlb ⊢; omega) (by omega) ?_; intro vy wy howny hgy haty; have hby := below_of_own (Below.refl (w.heap.size + 2) wb) HXb.out hgy (by omega); have HXy := Lib.hid howny; have HW1y := Lib.hid ((HW1a.out.below HBB3.out (by have := HW1a.out.lt; omega)).below hby (by omega)); have HBy := Lib.hid ((HBa.out.trans (HBB3.out.mono (by omega))).trans (hby.mono (by omega))); have hzy := hby.size; clear hgy haty howny hby)
        go_meet
        exact ⟨by rw [HZERO.out, HRC.out]; exact HXy.out, HW1y.out, HBy.out, by omega⟩
      · have d2 : decide (ag < n1) = false := by simpa using hag2
        have hrc := HCUT.out hag2
        go_wp2_with fail
        go_meet
        exact ⟨by rw [HZERO.out, hrc, List.append_nil]; exact HXa.out, HW1a.out, HBa.out, hwsz⟩
    case rest =>
      obtain ⟨hx0, -, hbc, hszc⟩ := hcut
      have HXc := Lib.hid hx0
      have HBc := Lib.hid hbc
      clear hx0 hbc HCUT HCUT2
      have hs1 := fun W => run_from A2 n2 c2 ag (ag : Int) rfl hag.2 W
      have hdr := fun W (h : Below w.heap.size w W) => (HV2.out W h).drop ag hag.2
      rw [show Rep.sz E = 7 from rfl] at hdr
      generalize (if c2 = ag then A2 else A2.map (·.add (ag * 7))) = A4 at *
      have HDR := Lib.hid hdr
      clear hdr
      have hsub : (n2 : Int) - (ag : Int) = ((n2 - ag : Nat) : Int) := by omega
      have HNL := Lib.hid (show (l.drop ag).length = n2 - ag by rw [List.length_drop, HN2.out])
      have hn64 : n2 ≤ 64 := by omega
      have ha64 : ag + (n2 - ag) = n2 := by omega
      have HAG2 := Lib.hid ha64
      clear hsub ha64
      generalize hnr : n2 - ag = nr at *
      have HNR := Lib.hid hnr
      clear hnr
      go_wp2_with fail
      go_loopw [7, 42] (fun x i wr => ∃ k : Nat, k ≤ nr ∧ i = .int .i64 (k : Int) ∧ Own wr (w.heap.size + 2) 5 x (T k) ∧ Below w.heap.size w wr ∧ w.heap.size + 2 ≤ wr.heap.size) (fun _ i _ => nr - (intOf i).toNat)
      case atStart => exact ⟨0, Nat.zero_le _, rfl, HXc.out, HBc.out, hszc⟩
      case round =>
        obtain ⟨k, hk, rfl, hx, hb, hsz⟩ := hrel
        have HX := Lib.hid hx
        have HB := Lib.hid hb
        clear hx hb
        by_cases hlt : k < nr
        · have hkl : k < (l.drop ag).length := by rw [HNL.out]; exact hlt
          obtain ⟨b1, o1, rfl, -, g0, g1, g2, g3, g4, g5, g6, hwf⟩ := (HDR.out _ HB.out).entry k hkl
          have hent := HENT.out k (l.drop ag)[k] (by rw [List.getElem_drop, List.getElem?_eq_getElem])
          generalize (l.drop ag)[k] = e at *
          obtain ⟨hg2, ht2⟩ := hent
          have hTl := HLEN.out k
          have HT2 := Lib.hid ht2
          clear ht2 hkl
          have hlr : (Vl.recd 2 (Vl.en8 ((ag + k : Nat) + 1) e)).length ≤ 75 := recd_small hg2 (by simp [Vl.en8])
          obtain ⟨e0, e1, e2, e3, e4, e5, e6⟩ := e
          dsimp only [ec] at *
          have i1 : (0 : Int) ≤ (k : Int) := by omega
          have i2 : (k : Int) < (nr : Int) := by omega
          have hag64 : ag ≤ 64 := by have := HAG2.out; omega
          have hk64 : k ≤ 64 := by have := HAG2.out; omega
          have hw1 : IntKind.i64.wrap ((ag : Int) + (k : Int)) = (ag : Int) + (k : Int) := by rw [IntKind.wrap_i64]; omega
          have hw2 : IntKind.i64.wrap ((ag : Int) + (k : Int) + 1) = (ag : Int) + (k : Int) + 1 := by rw [IntKind.wrap_i64]; omega
          have hbw : Below wr.heap.size wr ((wr.alloc (.cells #[.int .i64 e0, .int .i64 e1, .int .i64 e2, .int .i64 e3, .int .i64 e4, .int .i64 e5, .int .i64 e6] 57)).alloc (.cells #[.int .i64 e1, .int .i64 e2, .int .i64 e3, .int .i64 e4, .int .i64 e5, .int .i64 e6] 55)) := ((Below.refl _ _).alloc (Nat.le_refl _) _).alloc (by simp) _
          have hR3 := record_any 2 _ _ hg2 _ _ (Nat.le_refl _) (ints_new ((wr.alloc (.cells #[.int .i64 e0, .int .i64 e1, .int .i64 e2, .int .i64 e3, .int .i64 e4, .int .i64 e5, .int .i64 e6] 57)).alloc (.cells #[.int .i64 e1, .int .i64 e2, .int .i64 e3, .int .i64 e4, .int .i64 e5, .int .i64 e6] 55)) _ (fun x hx => hg2.2.2.2 x hx) (by simp [Vl.en8])) (HT.out _ (HB.out.trans ((hbw.alloc hbw.size _).mono HB.out.size)))
          clear hg2
          generalize hrr : Vl.recd 2 (Vl.en8 ((ag + k : Nat) + 1) (e0, e1, e2, e3, e4, e5, e6)) = r3 at *
          simp only [Vl.en8, List.map_cons, List.map_nil, List.length_cons, List.length_nil, Nat.zero_add, Nat.reduceAdd, World.size_alloc, Nat.add_assoc, Int.natCast_add] at hR3
          have HRR := Lib.hid hR3
          have HLR := Lib.hid hlr
          have HBW := Lib.hid hbw
          clear hR3 hlr hrr hbw hwf
          go_wp2_with fail
          with_reducible refine HRR.out.mono ?_
          rintro e wb ⟨A3, c3, rfl, ho3, hb3⟩
          have hz3 := hb3.size
          simp only [World.size_alloc, Nat.add_assoc, Nat.reduceAdd] at hz3
          have HO3 := Lib.hid ho3
          have HBB3 := Lib.hid ((HBW.out.alloc HBW.out.size _).trans (hb3.mono (by simp; omega)))
          clear ho3 hb3 HRR
          have HXb := Lib.hid (HX.out.below HBB3.out)
          go_wp2_with (at_builtin; refine wpList_append_sl rfl _ (.tmp 69) rfl rowB (w.heap.size + 2) _ _ rfl HXb.out wb.heap.size _ r3 rfl HO3.out.sl (by have := HLR.out; unfold maxLen; simp at hTl ⊢; omega) (by have := HLR.out; simp at hTl ⊢; omega) (by omega) ?_; intro vy wy howny hgy haty; have hby := below_of_own (Below.refl (w.heap.size + 2) wb) HXb.out hgy (by omega); have HXy := Lib.hid howny; have HBy := Lib.hid ((HB.out.trans (HBB3.out.mono (by omega))).trans (hby.mono (by omega))); have hzy := hby.size; clear hgy haty howny hby)
          go_roundw
          case rel => exact ⟨k + 1, hlt, by go_num, by rw [HT2.out]; exact HXy.out, HBy.out, by omega⟩
          case measure => simp [intOf]; omega
        · have hend := HALL.out k (by have := HAG2.out; omega)
          have HE := Lib.hid hend
          clear hend
          obtain ⟨Ax, cx, rfl, _, _⟩ := HX.out.sl.form
          go_wp2_with fail
          go_ret
          have h := HE.out
          subst h
          exact ⟨Ax, cx, rfl, HX.out.down (by omega), HB.out⟩
  · obtain ⟨rfl, hg1⟩ := HBAL2.out (fun e => h (by injection e))
    have HRR := Lib.hid (HR1.out _ HB1.out hg1)
    have hlr : (Vl.recd 1 [bb, bw]).length ≤ 75 := recd_small hg1 (by simp)
    clear HBAL HBAL2 HR1 hg1
    have HLR := Lib.hid hlr
    generalize Vl.recd 1 [bb, bw] = rb at *
    simp only [List.map_cons, List.map_nil, List.length_cons, List.length_nil, Nat.zero_add, Nat.reduceAdd, World.size_alloc, Nat.add_assoc] at HRR
    go_wp2_with fail
    with_reducible refine HRR.out.mono ?_
    rintro e w3 ⟨A3, c3, rfl, ho3, hb3⟩
    have hz3 := hb3.size
    rw [World.size_alloc, hsz2] at hz3
    have HO3 := Lib.hid ho3
    have HBB3 := Lib.hid (((Below.refl _ _).alloc (Nat.le_refl _) _).trans (hb3.mono (by simp)))
    clear ho3 hb3 HRR
    go_wp2_with (at_builtin; refine wpList_append_sl rfl _ (.tmp 22) rfl rowB (w.heap.size + 2) _ [] rfl (Own.nil _ _ _) w3.heap.size _ rb rfl HO3.out.sl (by have := HLR.out; unfold maxLen; simp; omega) (by have := HLR.out; simp; omega) (by omega) ?_; intro vx wx hownx hgx hatx; rw [List.nil_append] at hownx; have hbx := HBB3.out.mono (show w.heap.size + 2 ≤ _ by rw [hsz2]; exact Nat.le_refl _) |>.grown hgx (by omega) (by intro k h; cases h); have HX := Lib.hid hownx; have HW1x := Lib.hid (HW1.out.below hbx (by omega)); have HBX := Lib.hid (HB1.out.trans (hbx.mono (by omega))); obtain ⟨p0, p1, p2⟩ := HW1x.out.c3; have hzx : w.heap.size + 2 ≤ wx.heap.size := Nat.le_trans (by omega) hgx.size; clear hgx hatx hownx hbx HW1 HB1 HO3)
    with_reducible refine (HAG.out _ HBX.out).mono ?_
    rintro e wa ⟨rfl, hb⟩
    have HXa := Lib.hid (HX.out.below hb)
    have HW1a := Lib.hid (HW1x.out.below hb HW1x.out.lt)
    have HBa := Lib.hid (HBX.out.trans (hb.mono HBX.out.size))
    have hwsz : w.heap.size + 2 ≤ wa.heap.size := by have := hb.size; have := hzx; omega
    clear hb HX HW1x HBX HAG
    obtain ⟨r0, r1, r2⟩ := HW1a.out.c3
    go_upto_if 32 with fail
    go_cut [7] from 32 to 37 (fun x wx => Own wx (w.heap.size + 2) 5 x (T 0) ∧ Whole wx w.heap.size 61 (stc bb sv (.slice A1 n1 c1)) ∧ Below w.heap.size w wx ∧ w.heap.size + 2 ≤ wx.heap.size)
    case first =>
      by_cases hag2 : ag < n1
      · have d2 : decide (ag < n1) = true := by simpa using hag2
        obtain ⟨hrc, hg3⟩ := HCUT2.out hag2
        have hR3 := record_any 3 _ [(ag : Int)] hg3 _ _ (Nat.le_refl _) (ints_new wa [(ag : Int)] (fun x hx => hg3.2.2.2 x hx) (by simp)) (HT.out _ (HBa.out.alloc HBa.out.size _))
        simp only [List.map_cons, List.map_nil, List.length_cons, List.length_nil, Nat.zero_add] at hR3
        have hlr : (Vl.recd 3 [(ag : Int)]).length ≤ 75 := recd_small hg3 (by simp)
        have hlb : rb.length ≤ 75 := by assumption
        have HRR := Lib.hid hR3
        have HLR := Lib.hid hlr
        have HRC := Lib.hid hrc
        clear hR3 hlr hrc hg3
        generalize Vl.recd 3 [(ag : Int)] = r3 at *
        go_wp2_with fail
        with_reducible refine HRR.out.mono ?_
        rintro e wb ⟨A3, c3, rfl, ho3, hb3⟩
        have hz3 := hb3.size
        rw [World.size_alloc] at hz3
        have HO3 := Lib.hid ho3
        have HBB3 := Lib.hid (((Below.refl wa.heap.size wa).alloc (Nat.le_refl _) _).trans (hb3.mono (by simp)))
        clear ho3 hb3 HRR
        have HXb := Lib.hid (HXa.out.below HBB3.out)
        go_wp2_with (at_builtin; refine wpList_append_sl rfl _ (.tmp 36) rfl rowB (w.heap.size + 2) _ _ rfl HXb.out wb.heap.size _ r3 rfl HO3.out.sl (by have := HLR.out; unfold maxLen; simp at hlb ⊢; omega) (by have := HLR.out; simp at hlb ⊢; omega) (by omega) ?_; intro vy wy howny hgy haty; have hby := below_of_own (Below.refl (w.heap.size + 2) wb) HXb.out hgy (by omega); have HXy := Lib.hid howny; have HW1y := Lib.hid ((HW1a.out.below HBB3.out (by have := HW1a.out.lt; omega)).below hby (by omega)); have HBy := Lib.hid ((HBa.out.trans (HBB3.out.mono (by omega))).trans (hby.mono (by omega))); have hzy := hby.size; clear hgy haty howny hby)
        go_meet
        exact ⟨by rw [HZERO.out, HRC.out]; exact HXy.out, HW1y.out, HBy.out, by omega⟩
      · have d2 : decide (ag < n1) = false := by simpa using hag2
        have hrc := HCUT.out hag2
        go_wp2_with fail
        go_meet
        exact ⟨by rw [HZERO.out, hrc, List.append_nil]; exact HXa.out, HW1a.out, HBa.out, hwsz⟩
    case rest =>
      obtain ⟨hx0, -, hbc, hszc⟩ := hcut
      have HXc := Lib.hid hx0
      have HBc := Lib.hid hbc
      clear hx0 hbc HCUT HCUT2
      have hs1 := fun W => run_from A2 n2 c2 ag (ag : Int) rfl hag.2 W
      have hdr := fun W (h : Below w.heap.size w W) => (HV2.out W h).drop ag hag.2
      rw [show Rep.sz E = 7 from rfl] at hdr
      generalize (if c2 = ag then A2 else A2.map (·.add (ag * 7))) = A4 at *
      have HDR := Lib.hid hdr
      clear hdr
      have hsub : (n2 : Int) - (ag : Int) = ((n2 - ag : Nat) : Int) := by omega
      have HNL := Lib.hid (show (l.drop ag).length = n2 - ag by rw [List.length_drop, HN2.out])
      have hn64 : n2 ≤ 64 := by omega
      have ha64 : ag + (n2 - ag) = n2 := by omega
      have HAG2 := Lib.hid ha64
      clear hsub ha64
      generalize hnr : n2 - ag = nr at *
      have HNR := Lib.hid hnr
      clear hnr
      go_wp2_with fail
      go_loopw [7, 42] (fun x i wr => ∃ k : Nat, k ≤ nr ∧ i = .int .i64 (k : Int) ∧ Own wr (w.heap.size + 2) 5 x (T k) ∧ Below w.heap.size w wr ∧ w.heap.size + 2 ≤ wr.heap.size) (fun _ i _ => nr - (intOf i).toNat)
      case atStart => exact ⟨0, Nat.zero_le _, rfl, HXc.out, HBc.out, hszc⟩
      case round =>
        obtain ⟨k, hk, rfl, hx, hb, hsz⟩ := hrel
        have HX := Lib.hid hx
        have HB := Lib.hid hb
        clear hx hb
        by_cases hlt : k < nr
        · have hkl : k < (l.drop ag).length := by rw [HNL.out]; exact hlt
          obtain ⟨b1, o1, rfl, -, g0, g1, g2, g3, g4, g5, g6, hwf⟩ := (HDR.out _ HB.out).entry k hkl
          have hent := HENT.out k (l.drop ag)[k] (by rw [List.getElem_drop, List.getElem?_eq_getElem])
          generalize (l.drop ag)[k] = e at *
          obtain ⟨hg2, ht2⟩ := hent
          have hTl := HLEN.out k
          have HT2 := Lib.hid ht2
          clear ht2 hkl
          have hlr : (Vl.recd 2 (Vl.en8 ((ag + k : Nat) + 1) e)).length ≤ 75 := recd_small hg2 (by simp [Vl.en8])
          obtain ⟨e0, e1, e2, e3, e4, e5, e6⟩ := e
          dsimp only [ec] at *
          have i1 : (0 : Int) ≤ (k : Int) := by omega
          have i2 : (k : Int) < (nr : Int) := by omega
          have hag64 : ag ≤ 64 := by have := HAG2.out; omega
          have hk64 : k ≤ 64 := by have := HAG2.out; omega
          have hw1 : IntKind.i64.wrap ((ag : Int) + (k : Int)) = (ag : Int) + (k : Int) := by rw [IntKind.wrap_i64]; omega
          have hw2 : IntKind.i64.wrap ((ag : Int) + (k : Int) + 1) = (ag : Int) + (k : Int) + 1 := by rw [IntKind.wrap_i64]; omega
          have hbw : Below wr.heap.size wr ((wr.alloc (.cells #[.int .i64 e0, .int .i64 e1, .int .i64 e2, .int .i64 e3, .int .i64 e4, .int .i64 e5, .int .i64 e6] 57)).alloc (.cells #[.int .i64 e1, .int .i64 e2, .int .i64 e3, .int .i64 e4, .int .i64 e5, .int .i64 e6] 55)) := ((Below.refl _ _).alloc (Nat.le_refl _) _).alloc (by simp) _
          have hR3 := record_any 2 _ _ hg2 _ _ (Nat.le_refl _) (ints_new ((wr.alloc (.cells #[.int .i64 e0, .int .i64 e1, .int .i64 e2, .int .i64 e3, .int .i64 e4, .int .i64 e5, .int .i64 e6] 57)).alloc (.cells #[.int .i64 e1, .int .i64 e2, .int .i64 e3, .int .i64 e4, .int .i64 e5, .int .i64 e6] 55)) _ (fun x hx => hg2.2.2.2 x hx) (by simp [Vl.en8])) (HT.out _ (HB.out.trans ((hbw.alloc hbw.size _).mono HB.out.size)))
          clear hg2
          generalize hrr : Vl.recd 2 (Vl.en8 ((ag + k : Nat) + 1) (e0, e1, e2, e3, e4, e5, e6)) = r3 at *
          simp only [Vl.en8, List.map_cons, List.map_nil, List.length_cons, List.length_nil, Nat.zero_add, Nat.reduceAdd, World.size_alloc, Nat.add_assoc, Int.natCast_add] at hR3
          have HRR := Lib.hid hR3
          have HLR := Lib.hid hlr
          have HBW := Lib.hid hbw
          clear hR3 hlr hrr hbw hwf
          go_wp2_with fail
          with_reducible refine HRR.out.mono ?_
          rintro e wb ⟨A3, c3, rfl, ho3, hb3⟩
          have hz3 := hb3.size
          simp only [World.size_alloc, Nat.add_assoc, Nat.reduceAdd] at hz3
          have HO3 := Lib.hid ho3
          have HBB3 := Lib.hid ((HBW.out.alloc HBW.out.size _).trans (hb3.mono (by simp; omega)))
          clear ho3 hb3 HRR
          have HXb := Lib.hid (HX.out.below HBB3.out)
          go_wp2_with (at_builtin; refine wpList_append_sl rfl _ (.tmp 69) rfl rowB (w.heap.size + 2) _ _ rfl HXb.out wb.heap.size _ r3 rfl HO3.out.sl (by have := HLR.out; unfold maxLen; simp at hTl ⊢; omega) (by have := HLR.out; simp at hTl ⊢; omega) (by omega) ?_; intro vy wy howny hgy haty; have hby := below_of_own (Below.refl (w.heap.size + 2) wb) HXb.out hgy (by omega); have HXy := Lib.hid howny; have HBy := Lib.hid ((HB.out.trans (HBB3.out.mono (by omega))).trans (hby.mono (by omega))); have hzy := hby.size; clear hgy haty howny hby)
          go_roundw
          case rel => exact ⟨k + 1, hlt, by go_num, by rw [HT2.out]; exact HXy.out, HBy.out, by omega⟩
          case measure => simp [intOf]; omega
        · have hend := HALL.out k (by have := HAG2.out; omega)
          have HE := Lib.hid hend
          clear hend
          obtain ⟨Ax, cx, rfl, _, _⟩ := HX.out.sl.form
          go_wp2_with fail
          go_ret
          have h := HE.out
          subst h
          exact ⟨Ax, cx, rfl, HX.out.down (by omega), HB.out⟩
end Go.Proofs.YtcacebkbfnnjbaaDoor

/-
  What Save answers and leaves.
-/




namespace Go.Proofs.YtcacebkbfnnjbaaDoor
open Go.RowKit

theorem save_no {v : Vl.V} {b : Vt.B} {l : Lg.L} (h : Vl.mayS b l = false) : Vl.save v b l = (v, 1) := by unfold Vl.save; rw [if_pos h]
theorem save_full {v : Vl.V} {b : Vt.B} {l : Lg.L} (h : Vl.mayS b l = true) (h2 : 65536 < v.disk.length + (Vl.more v b l.2.2).length) : Vl.save v b l = (v, 7) := by unfold Vl.save; rw [if_neg (by rw [h]; simp), if_pos h2]
theorem save_yes {v : Vl.V} {b : Vt.B} {l : Lg.L} (h : Vl.mayS b l = true) (h2 : ¬ 65536 < v.disk.length + (Vl.more v b l.2.2).length) : Vl.save v b l = (⟨v.disk ++ Vl.more v b l.2.2, v.synced, (b, l.2.2)⟩, 0) := by unfold Vl.save; rw [if_neg (by rw [h]; simp), if_neg h2]
theorem more_len {v : Vl.V} {b : Vt.B} {l : Lg.L} (h : Vl.mayS b l = true) : (Vl.more v b l.2.2).length ≤ 10000 := by
  rw [Vl.mayS_iff] at h
  have := stepsTo_len (s := v.s) h.1 (Vl.may0 h.2.1 h.2.2.1).2 h.2.2.2 l.2.2.length
  rw [stepsTo_all (by omega)] at this
  exact this

set_option maxRecDepth 100000 in
set_option maxHeartbeats 4000000 in
theorem save_any (g : Nat) (v : Vl.V) (hok : Vl.Ok v) (A : Option Addr) (c : Nat) (A2 : Option Addr) (c2 : Nat) (b1 b2 l1 l2 : Int) (vl : Value) (l : List E) (w : World) (h : VMem g w v A c A2 c2) (hL : SlS w (fun b => ¬ Vof g A A2 b) vl l) (hT : Tab w) (hg0 : ¬ Vof g A A2 0) :
    Calls Tryd.prog 12 #[.pointer (some ⟨g, 0, none⟩), bv b1 b2, lv l1 l2 vl] w fun e w' => e = .returned (.int .i64 (Vl.save v (b1, b2) (l1, l2, l)).2) ∧ VTo g A A2 w (Vl.save v (b1, b2) (l1, l2, l)).1 w' := by
  obtain ⟨Al, cl, rfl, hcl, hml⟩ := hL.form
  have hg := h.glt
  have hb0 : Below w.heap.size w (w.alloc (.cells #[.int .i64 b1, .int .i64 b2] 30)) := (Below.refl _ _).alloc (Nat.le_refl _) _
  have hb1 := hb0.alloc hb0.size (.cells #[.int .i64 l1, .int .i64 l2, .slice Al l.length cl] 38)
  have HW1 := Lib.hid ((Whole.new w 30 #[.int .i64 b1, .int .i64 b2]).alloc (.cells #[.int .i64 l1, .int .i64 l2, .slice Al l.length cl] 38))
  have HW2 := Lib.hid (Whole.new1 w (.cells #[.int .i64 b1, .int .i64 b2] 30) 38 #[.int .i64 l1, .int .i64 l2, .slice Al l.length cl])
  have HM := Lib.hid (maySave_any b1 b2 l1 l2 _ l _ w.heap.size hb1.size (hL.here.below hb1))
  have HB := Lib.hid hb1
  have HV := Lib.hid (h.stay hb1)
  have hd := hok.len
  have hs64 := hok.good.len
  have hszw : w.heap.size + 2 ≤ ((w.alloc (.cells #[.int .i64 b1, .int .i64 b2] 30)).alloc (.cells #[.int .i64 l1, .int .i64 l2, .slice Al l.length cl] 38)).heap.size := by simp
  have HNO := Lib.hid (@save_no v (b1, b2) (l1, l2, l))
  have HFULL := Lib.hid (@save_full v (b1, b2) (l1, l2, l))
  have HYES := Lib.hid (@save_yes v (b1, b2) (l1, l2, l))
  have HML := Lib.hid (@more_len v (b1, b2) (l1, l2, l))
  have HSTP := Lib.hid (fun (hm : Vl.mayS (b1, b2) (l1, l2, l) = true) W (hW : Below w.heap.size w W) => steps_any v.s (b1, b2) l hok.good ((Vl.mayS_iff _ _).1 hm).1 (Vl.may0 ((Vl.mayS_iff _ _).1 hm).2.1 ((Vl.mayS_iff _ _).1 hm).2.2.1).2 ((Vl.mayS_iff _ _).1 hm).2.2.2 _ _ W (h.stay hW).l.sl ((hL.here.below hW).mono hW.size) (hT.below hW hT.pos))
  have hl64 : Vl.mayS (b1, b2) (l1, l2, l) = true → l.length ≤ 64 := fun hm => ((Lg.may_iff _).1 ((Vl.mayS_iff _ _).1 hm).2.1).2.2.2.2.2.1
  have HLL := Lib.hid (fun W (hW : Kept (Vof g A A2) w W) => hW.sl hL (fun b hb => hb))
  clear h hb0 hb1 hL hok hT
  generalize Vl.mayS (b1, b2) (l1, l2, l) = ms at *
  simp only at HFULL HYES HML
  change Hid (ms = true → ∀ W, Below w.heap.size w W → Calls _ _ _ W (BytesOut W (Vl.more v (b1, b2) l))) at HSTP
  generalize Vl.save v (b1, b2) (l1, l2, l) = R at *
  generalize Vl.more v (b1, b2) l = M at *
  obtain ⟨d, sy, ⟨⟨t, vo⟩, sl⟩⟩ := v
  simp only at *
  have hq1 := HW1.out
  have hq2 := HW2.out
  obtain ⟨p0, p1⟩ := hq1.c2
  obtain ⟨r0, r1, r2⟩ := hq2.c3
  clear hq1 hq2
  go_enter Tryd.func12, Tryd.ntmps12
  go_wp2_with fail
  with_reducible refine HM.out.mono ?_
  rintro e w1 ⟨rfl, hb⟩
  replace HW1 := Lib.hid (HW1.out.below hb HW1.out.lt)
  replace HW2 := Lib.hid (HW2.out.below hb HW2.out.lt)
  replace HV := Lib.hid (HV.out.stay hb)
  replace hszw : w.heap.size + 2 ≤ w1.heap.size := Nat.le_trans hszw hb.size
  replace HB := Lib.hid (HB.out.trans (hb.mono HB.out.size))
  clear hb HM p0 p1 r0 r1 r2
  rcases ms with _ | _
  · obtain rfl := HNO.out rfl
    go_wp2_with fail
    go_ret
    exact ⟨rfl, A, c, A2, c2, HV.out, fun _ h => .inl h, Below.kept HB.out⟩
  · have hml2 := HML.out rfl
    have hl2 := hl64 rfl
    have HST := Lib.hid (HSTP.out rfl)
    clear HNO HSTP HML hl64
    have hgne : ¬ (g = w.heap.size) ∧ ¬ (g = w.heap.size + 1) := by have := hg g (.inl rfl); omega
    have hdn : d.length = d.length := rfl
    generalize hdl : d.length = dn at *
    have HDN := Lib.hid hdl
    generalize hln : l.length = ln at *
    have HLN := Lib.hid hln
    generalize hsn : sl.length = sn at *
    have HSN := Lib.hid hsn
    clear hdn hdl hln hsn
    go_wp2_with fail
    refine s_start (fun W => Kept (fun _ => False) (w1).drew W) [] (by kernel_rfl) ?_
    have HC := Lib.hid (Kept.refl (fun _ => False) (w1).drew)
    have HX := Lib.hid (fun W (hW : Kept (fun _ => False) w1.drew W) => by
      have h := (HV.out.drew.keep hW (fun _ _ h => h)).st
      dsimp only at h
      rw [HDN.out, HSN.out] at h
      exact (⟨h.c5.1, h.c5.2.1, h.c5.2.2.1, h.c5.2.2.2.1, h.c5.2.2.2.2, (hW.whole (show Whole w1.drew _ _ _ from HW1.out) (fun h => h)).c2.1, (hW.whole (show Whole w1.drew _ _ _ from HW1.out) (fun h => h)).c2.2, (hW.whole (show Whole w1.drew _ _ _ from HW2.out) (fun h => h)).c3⟩ : _ ∧ _ ∧ _ ∧ _ ∧ _ ∧ _ ∧ _ ∧ _))
    replace HV := Lib.hid HV.out.drew
    replace HB := Lib.hid HB.out.drew
    replace HW1 := Lib.hid (show Whole w1.drew _ _ _ from HW1.out)
    replace HW2 := Lib.hid (show Whole w1.drew _ _ _ from HW2.out)
    replace hszw : w.heap.size + 2 ≤ w1.drew.heap.size := hszw
    generalize (w1).drew = z1 at *
    refine s_take (i := 0) (v := ?_) rfl (by kernel_rfl) (by kernel_rfl) (by kernel_rfl) (k0 := 0) (by kernel_rfl) (by kernel_rfl) (.inl rfl) (fun _ _ _ h => h) (by rfl) HC.out ?_ ?_
    rotate_left
    · intro W hW
      go_simp
      first | done | rfl
    simp only [Act.put, List.setIfInBounds_toArray, List.set_cons_zero, List.set_cons_succ, List.getElem_toArray, List.getElem_cons_zero]
    refine s_take (i := 1) (v := ?_) rfl (by kernel_rfl) (by kernel_rfl) (by kernel_rfl) (k0 := 1) (by kernel_rfl) (by kernel_rfl) (.inl rfl) (fun _ _ _ h => h) (by rfl) HC.out ?_ ?_
    rotate_left
    · intro W hW
      go_simp
      first | done | rfl
    simp only [Act.put, List.setIfInBounds_toArray, List.set_cons_zero, List.set_cons_succ, List.getElem_toArray, List.getElem_cons_zero, List.getElem_cons_succ]
    refine s_take (i := 2) (v := ?_) rfl (by kernel_rfl) (by kernel_rfl) (by kernel_rfl) (k0 := 2) (by kernel_rfl) (by kernel_rfl) (.inl rfl) (fun _ _ _ h => h) (by rfl) HC.out ?_ ?_
    rotate_left
    · intro W hW
      go_simp
      first | done | rfl
    simp only [Act.put, List.setIfInBounds_toArray, List.set_cons_zero, List.set_cons_succ, List.getElem_toArray, List.getElem_cons_zero, List.getElem_cons_succ]
    refine s_take (i := 3) (v := ?_) rfl (by kernel_rfl) (by kernel_rfl) (by kernel_rfl) (k0 := 3) (by kernel_rfl) (by kernel_rfl) (.inl rfl) (fun _ _ _ h => h) (by rfl) HC.out ?_ ?_
    rotate_left
    · intro W hW
      obtain ⟨k0, k1, k2, k3, k4, p0, p1, r0, r1, r2⟩ := HX.out _ hW
      go_simp
      first | done | rfl
    simp only [Act.put, List.setIfInBounds_toArray, List.set_cons_zero, List.set_cons_succ, List.getElem_toArray, List.getElem_cons_zero, List.getElem_cons_succ]
    refine s_take (i := 4) (v := ?_) rfl (by kernel_rfl) (by kernel_rfl) (by kernel_rfl) (k0 := 4) (by kernel_rfl) (by kernel_rfl) (.inl rfl) (fun _ _ _ h => h) (by rfl) HC.out ?_ ?_
    rotate_left
    · intro W hW
      obtain ⟨k0, k1, k2, k3, k4, p0, p1, r0, r1, r2⟩ := HX.out _ hW
      go_simp
      first | done | rfl
    simp only [Act.put, List.setIfInBounds_toArray, List.set_cons_zero, List.set_cons_succ, List.getElem_toArray, List.getElem_cons_zero, List.getElem_cons_succ]
    refine s_take (i := 5) (v := ?_) rfl (by kernel_rfl) (by kernel_rfl) (by kernel_rfl) (k0 := 5) (by kernel_rfl) (by kernel_rfl) (.inl rfl) (fun _ _ _ h => h) (by rfl) HC.out ?_ ?_
    rotate_left
    · intro W hW
      go_simp
      first | done | rfl
    simp only [Act.put, List.setIfInBounds_toArray, List.set_cons_zero, List.set_cons_succ, List.getElem_toArray, List.getElem_cons_zero, List.getElem_cons_succ]
    refine s_take (i := 6) (v := ?_) rfl (by kernel_rfl) (by kernel_rfl) (by kernel_rfl) (k0 := 6) (by kernel_rfl) (by kernel_rfl) (.inl rfl) (fun _ _ _ h => h) (by rfl) HC.out ?_ ?_
    rotate_left
    · intro W hW
      obtain ⟨k0, k1, k2, k3, k4, p0, p1, r0, r1, r2⟩ := HX.out _ hW
      go_simp
      first | done | rfl
    simp only [Act.put, List.setIfInBounds_toArray, List.set_cons_zero, List.set_cons_succ, List.getElem_toArray, List.getElem_cons_zero, List.getElem_cons_succ]
    refine s_one (i := 7) (by kernel_rfl) ?_
    refine ones_call (i := 7) (f := 26) (args := ?_) rfl (by rfl) ?_ ?_
    rotate_left
    · go_simp
      first | done | rfl
    with_reducible refine (HST.out _ (HB.out.trans (HC.out.below (B := w.heap.size) (fun _ h => h.elim) (by have := HB.out.size; omega)))).mono ?_
    rintro e z2 ⟨A5, c5, rfl, ho, hb⟩
    refine ⟨_, rfl, fun _ => HC.out.trans (Below.kept hb), ?_⟩
    replace HC := Lib.hid (HC.out.trans (Below.kept hb))
    have HOM := Lib.hid ho
    clear ho
    clear hb
    simp only [Act.put, List.setIfInBounds_toArray, List.set_cons_zero, List.set_cons_succ, List.getElem_toArray, List.getElem_cons_zero, List.getElem_cons_succ]
    refine s_take (i := 8) (v := ?_) rfl (by kernel_rfl) (by kernel_rfl) (by kernel_rfl) (k0 := 8) (by kernel_rfl) (by kernel_rfl) (.inl rfl) (fun _ _ _ h => h) (by rfl) HC.out ?_ ?_
    rotate_left
    · intro W hW
      go_simp
      first | done | rfl
    simp only [Act.put, List.setIfInBounds_toArray, List.set_cons_zero, List.set_cons_succ, List.getElem_toArray, List.getElem_cons_zero, List.getElem_cons_succ]
    refine s_done (by kernel_rfl) ?_
    have HKz := Lib.hid (HC.out)
    replace HB := Lib.hid (HB.out.trans (HC.out.below (B := w.heap.size) (fun _ h => h.elim) (by have := HB.out.size; omega)))
    replace HV := Lib.hid (HV.out.keep HC.out (fun _ _ h => h))
    replace HW1 := Lib.hid (HC.out.whole HW1.out (fun h => h))
    replace HW2 := Lib.hid (HC.out.whole HW2.out (fun h => h))
    replace hszw : w.heap.size + 2 ≤ z2.heap.size := by have := HC.out.size; omega
    clear HKz HC HX HST
    generalize hw3 : z2 = w3 at *
    clear hw3
    have hst := HV.out.st
    dsimp only at hst
    rw [HDN.out, HSN.out] at hst
    have HSW := Lib.hid hst
    obtain ⟨k0, k1, k2, k3, k4⟩ := hst.c5
    clear hst
    generalize hmn : M.length = mn at *
    have HMN := Lib.hid hmn
    clear hmn
    go_simp
    have hwr1 : IntKind.i64.wrap ((dn : Int) + (mn : Int)) = (dn : Int) + (mn : Int) := by rw [IntKind.wrap_i64]; omega
    by_cases hfull : 65536 < dn + mn
    · obtain rfl := HFULL.out (by simp) hfull
      have df : decide ((65536 : Int) < (dn : Int) + (mn : Int)) = true := by simp; omega
      clear HYES
      go_wp2_with fail
      go_ret
      exact ⟨rfl, A, c, A2, c2, HV.out, fun _ h => .inl h, Below.kept HB.out⟩
    · have hry := HYES.out (by simp) hfull
      have HRY := Lib.hid hry
      have df : decide ((65536 : Int) < (dn : Int) + (mn : Int)) = false := by simp; omega
      clear HFULL HYES hry
      have hod := HV.out.d
      dsimp only at hod
      rw [HDN.out] at hod
      have HOD := Lib.hid hod
      clear hod
      have hAg := HV.out.offd
      have hAlt := fun b hb => HV.out.glt b (.inr (.inl hb))
      have hKA : Kept (fun b => lbk A = some b) w3 w3 := Kept.refl _ _
      go_wp2_with (at_builtin; refine wpList_append_sl rfl _ (.tmp 34) rfl rowB 0 (.slice A dn c) d rfl HOD.out w3.heap.size _ M rfl HOM.out.sl (by rw [HDN.out, HMN.out]; unfold maxLen; omega) (by rw [HDN.out, HMN.out]; omega) (Nat.zero_le _) ?_; intro v4 w4 hown4 hg4 hat4; rw [own_lbk] at hg4 hat4; have hk4 := grown_kept hg4; obtain ⟨A6, c6, rfl, -, -⟩ := hown4.sl.form; rw [own_lbk] at hat4; have hl6 : (d ++ M).length = dn + mn := (by rw [List.length_append, HDN.out, HMN.out]); rw [hl6] at hown4 ⊢; have HST4 := Lib.hid (hk4.whole HSW.out (fun e => hAg e)); have HO4 := Lib.hid hown4; have HAT := Lib.hid hat4; have HK4 := Lib.hid hk4; have HL6 := Lib.hid hl6; obtain ⟨c_0, c_1, c_2, c_3, c_4⟩ := HST4.out.c5; obtain ⟨f_0, f_1, f_2, f_3, f_4⟩ := HST4.out.f5; clear hown4 hg4 hat4 hk4 hl6)
      have hg3 := hg g (.inl rfl)
      have hz34 := HK4.out.size
      have hoff6 : lbk A6 ≠ some g ∧ (∀ b, lbk A6 = some b → lbk A = some b ∨ w.heap.size ≤ b) ∧ ∀ b, lbk A6 = some b → b < w4.heap.size := by
        have h1 : ∀ b, lbk A6 = some b → b < w4.heap.size := fun b hb => (HO4.out.lt b (by rw [own_lbk]; exact hb)).2
        refine ⟨fun e => ?_, fun b hb => ?_, h1⟩
        · rcases HAT.out with h | h
          · exact hAg (h.symm.trans e)
          · have := h.symm.trans e
            injection this with this
            omega
        · rcases HAT.out with h | h
          · exact .inl (h.symm.trans hb)
          · have := h.symm.trans hb
            injection this with this
            exact .inr (by omega)
      have HST5 := Lib.hid (HST4.out.setTo 0 (.slice A6 (dn + mn) c6) (cs2 := #[.slice A6 (dn + mn) c6, .int .i64 (sy : Int), .int .i64 t, .int .i64 vo, .slice A2 sn c2]) rfl)
      have HO6 := Lib.hid (own_far HO4.out (p := ⟨g, 0, none⟩) (by rw [own_lbk]; exact hoff6.1) (.slice A6 (dn + mn) c6))
      have HK := Lib.hid (((Below.kept (D := Vof g A A2) HB.out).trans (HK4.out.mono (fun b _ h => .inr (.inl h)))).set (p := ⟨g, 0, none⟩) (.inl (.inl rfl)) (.slice A6 (dn + mn) c6))
      replace HW1 := Lib.hid ((HK4.out.whole HW1.out (fun e => by have := hg _ (.inr (.inl e)); omega)).far (p := ⟨g, 0, none⟩) (fun e => hgne.1 e.symm) (.slice A6 (dn + mn) c6))
      replace HW2 := Lib.hid ((HK4.out.whole HW2.out (fun e => by have := hg _ (.inr (.inl e)); omega)).far (p := ⟨g, 0, none⟩) (fun e => hgne.2 e.symm) (.slice A6 (dn + mn) c6))
      obtain ⟨z5, hz5⟩ : ∃ z5, z5 = w4.heap.size := ⟨_, rfl⟩
      have HZ5 := Lib.hid (show z5 = (w4.setCell ⟨g, 0, none⟩ (.slice A6 (dn + mn) c6)).heap.size by simpa [World.setCell] using hz5)
      have hz5g : g < (w4.setCell ⟨g, 0, none⟩ (.slice A6 (dn + mn) c6)).heap.size := HST5.out.lt
      have HOF := Lib.hid (show lbk A6 ≠ some g ∧ (∀ b, lbk A6 = some b → lbk A = some b ∨ w.heap.size ≤ b) ∧ ∀ b, lbk A6 = some b → b < z5 from ⟨hoff6.1, hoff6.2.1, fun b hb => by have := hoff6.2.2 b hb; omega⟩)
      have hz5w : w.heap.size ≤ z5 := by omega
      have hz5g2 : g < z5 := by omega
      clear hz5 hoff6 HST4 HO4 HAT HK4 c_0 c_1 c_2 c_3 c_4 f_0 f_1 f_2 f_3 f_4 k0 k1 k2 k3 k4 HSW HOD hKA HB HV HOM hAlt hz34 df hwr1
      generalize hw5 : World.setCell w4 _ _ = w5 at *
      clear hw5
      generalize hn6 : dn + mn = n6 at *
      have HN6 := HL6
      clear HL6 hn6
      refine s_start (fun W => Kept (fun b => b = g) (w5).drew W) [] (by kernel_rfl) ?_
      have HC := Lib.hid (Kept.refl (fun b => b = g) (w5).drew)
      have HX7 := Lib.hid (fun W (hW : Kept (fun b => b = g) w5.drew W) => (⟨(hW.whole (show Whole w5.drew _ _ _ from HW1.out) (fun e => hgne.1 e.symm)).c2.1, (hW.whole (show Whole w5.drew _ _ _ from HW1.out) (fun e => hgne.1 e.symm)).c2.2, (hW.whole (show Whole w5.drew _ _ _ from HW2.out) (fun e => hgne.2 e.symm)).c3⟩ : _ ∧ _ ∧ _))
      have HCL := Lib.hid (fun W (hW : Kept (fun b => b = g) w5.drew W) => clone_any (.slice Al ln cl) l (by rw [HLN.out]; omega) W W.heap.size (Nat.le_refl _) ((HLL.out W ((HK.out.trans (Below.kept (Below.refl _ _).drew)).trans (hW.mono (fun b _ e => .inl e)))).here))
      replace HST5 := Lib.hid (show Whole w5.drew _ _ _ from HST5.out)
      replace HO6 := Lib.hid HO6.out.drew
      replace HK := Lib.hid (HK.out.trans (Below.kept (Below.refl _ _).drew))
      replace HZ5 := Lib.hid (show z5 = w5.drew.heap.size from HZ5.out)
      replace hz5g : g < w5.drew.heap.size := hz5g
      clear HLL HW1 HW2
      generalize (w5).drew = x1 at *
      refine s_take (i := 0) (v := ?_) rfl (by kernel_rfl) (by kernel_rfl) (by kernel_rfl) (k0 := 0) (by kernel_rfl) (by kernel_rfl) (.inl rfl) (fun _ _ _ h => h) (by rfl) HC.out ?_ ?_
      rotate_left
      · intro W hW
        go_simp
        first | done | rfl
      simp only [Act.put, List.setIfInBounds_toArray, List.set_cons_zero, List.set_cons_succ, List.getElem_toArray, List.getElem_cons_zero]
      refine s_take (i := 1) (v := ?_) rfl (by kernel_rfl) (by kernel_rfl) (by kernel_rfl) (k0 := 1) (by kernel_rfl) (by kernel_rfl) (.inl rfl) (fun _ _ _ h => h) (by rfl) HC.out ?_ ?_
      rotate_left
      · intro W hW
        obtain ⟨p0, p1, r0, r1, r2⟩ := HX7.out _ hW
        go_simp
        first | done | rfl
      simp only [Act.put, List.setIfInBounds_toArray, List.set_cons_zero, List.set_cons_succ, List.getElem_toArray, List.getElem_cons_zero, List.getElem_cons_succ]
      refine s_take (i := 2) (v := ?_) rfl (by kernel_rfl) (by kernel_rfl) (by kernel_rfl) (k0 := 2) (by kernel_rfl) (by kernel_rfl) (.inl rfl) (fun _ _ _ h => h) (by rfl) HC.out ?_ ?_
      rotate_left
      · intro W hW
        go_simp
        first | done | rfl
      simp only [Act.put, List.setIfInBounds_toArray, List.set_cons_zero, List.set_cons_succ, List.getElem_toArray, List.getElem_cons_zero, List.getElem_cons_succ]
      refine s_take (i := 3) (v := ?_) rfl (by kernel_rfl) (by kernel_rfl) (by kernel_rfl) (k0 := 3) (by kernel_rfl) (by kernel_rfl) (.inl rfl) (fun _ _ _ h => h) (by rfl) HC.out ?_ ?_
      rotate_left
      · intro W hW
        obtain ⟨p0, p1, r0, r1, r2⟩ := HX7.out _ hW
        go_simp
        first | done | rfl
      simp only [Act.put, List.setIfInBounds_toArray, List.set_cons_zero, List.set_cons_succ, List.getElem_toArray, List.getElem_cons_zero, List.getElem_cons_succ]
      refine s_one (i := 4) (by kernel_rfl) ?_
      refine ones_call (i := 4) (f := 27) (args := ?_) rfl (by rfl) ?_ ?_
      rotate_left
      · go_simp
        first | done | rfl
      with_reducible refine (HCL.out _ HC.out).mono ?_
      rintro e x2 ⟨A7, c7, rfl, ho, hb⟩
      refine ⟨_, rfl, fun _ => HC.out.trans (Below.kept hb), ?_⟩
      replace HC := Lib.hid (HC.out.trans (Below.kept hb))
      rw [HLN.out] at ho ⊢
      have hA7 : ∀ b, lbk A7 = some b → z5 ≤ b := fun b hb2 => by
        have h1 := (ho.lt b (by rw [own_lbk]; exact hb2)).1
        have h2 := HC.out.size
        have h3 := HZ5.out
        omega
      have HA7 := Lib.hid hA7
      have HO7 := Lib.hid (ho.down (Nat.zero_le _))
      replace HST5 := Lib.hid (HST5.out.below hb HST5.out.lt)
      replace HO6 := Lib.hid (HO6.out.below hb)
      clear ho hA7
      clear hb
      simp only [Act.put, List.setIfInBounds_toArray, List.set_cons_zero, List.set_cons_succ, List.getElem_toArray, List.getElem_cons_zero, List.getElem_cons_succ]
      refine s_take (i := 5) (v := ?_) rfl (by kernel_rfl) (by kernel_rfl) (by kernel_rfl) (k0 := 5) (by kernel_rfl) (by kernel_rfl) (.inl rfl) (fun _ _ _ h => h) (by rfl) HC.out ?_ ?_
      rotate_left
      · intro W hW
        go_simp
        first | done | rfl
      simp only [Act.put, List.setIfInBounds_toArray, List.set_cons_zero, List.set_cons_succ, List.getElem_toArray, List.getElem_cons_zero, List.getElem_cons_succ]
      refine s_take (i := 6) (v := ?_) rfl (by kernel_rfl) (by kernel_rfl) (by kernel_rfl) (k0 := 6) (by kernel_rfl) (by kernel_rfl) (.inl rfl) (fun _ _ _ h => h) (by rfl) HC.out ?_ ?_
      rotate_left
      · intro W hW
        go_simp
        first | done | rfl
      simp only [Act.put, List.setIfInBounds_toArray, List.set_cons_zero, List.set_cons_succ, List.getElem_toArray, List.getElem_cons_zero, List.getElem_cons_succ]
      refine s_take (i := 7) (v := ?_) rfl (by kernel_rfl) (by kernel_rfl) (by kernel_rfl) (k0 := 7) (by kernel_rfl) (by kernel_rfl) (.inl rfl) (fun _ _ _ h => h) (by rfl) HC.out ?_ ?_
      rotate_left
      · intro W hW
        go_simp
        first | done | rfl
      simp only [Act.put, List.setIfInBounds_toArray, List.set_cons_zero, List.set_cons_succ, List.getElem_toArray, List.getElem_cons_zero, List.getElem_cons_succ]
      refine s_one (i := 8) (by kernel_rfl) ?_
      obtain ⟨c_0, c_1, c_2, c_3, c_4⟩ := HST5.out.c5
      obtain ⟨f_0, f_1, f_2, f_3, f_4⟩ := HST5.out.f5
      refine ones_skip (i := 8) (w' := ?_) rfl (by rfl) ?_ ?_ ?_
      rotate_left 1
      · go_simp
        first | done | rfl
      · exact fun _ => (((HC.out.set (p := ⟨g, 2, none⟩) (.inl rfl) (.int .i64 b1)).set (p := ⟨g, 3, none⟩) (.inl rfl) (.int .i64 b2)).set (p := ⟨g, 4, none⟩) (.inl rfl) (.slice A7 ln c7))
      simp only [Act.put, List.getElem_toArray, List.getElem_cons_zero, List.getElem_cons_succ]
      clear c_0 c_1 c_2 c_3 c_4 f_0 f_1 f_2 f_3 f_4
      replace HST5 := Lib.hid (show Whole _ _ _ #[.slice A6 n6 c6, .int .i64 (sy : Int), .int .i64 b1, .int .i64 b2, .slice A7 ln c7] from (((HST5.out.set 2 (.int .i64 b1)).set 3 (.int .i64 b2)).set 4 (.slice A7 ln c7)))
      replace HC := Lib.hid (((HC.out.set (p := ⟨g, 2, none⟩) (.inl rfl) (.int .i64 b1)).set (p := ⟨g, 3, none⟩) (.inl rfl) (.int .i64 b2)).set (p := ⟨g, 4, none⟩) (.inl rfl) (.slice A7 ln c7))
      replace HO6 := Lib.hid (own_far HO6.out (p := ⟨g, 2, none⟩) (by rw [own_lbk]; exact HOF.out.1) (.int .i64 b1))
      replace HO7 := Lib.hid (own_far HO7.out (p := ⟨g, 2, none⟩) (by rw [own_lbk]; exact fun e => by have := HA7.out g e; omega) (.int .i64 b1))
      replace HO6 := Lib.hid (own_far HO6.out (p := ⟨g, 3, none⟩) (by rw [own_lbk]; exact HOF.out.1) (.int .i64 b2))
      replace HO7 := Lib.hid (own_far HO7.out (p := ⟨g, 3, none⟩) (by rw [own_lbk]; exact fun e => by have := HA7.out g e; omega) (.int .i64 b2))
      replace HO6 := Lib.hid (own_far HO6.out (p := ⟨g, 4, none⟩) (by rw [own_lbk]; exact HOF.out.1) (.slice A7 ln c7))
      replace HO7 := Lib.hid (own_far HO7.out (p := ⟨g, 4, none⟩) (by rw [own_lbk]; exact fun e => by have := HA7.out g e; omega) (.slice A7 ln c7))
      generalize hw6 : (World.setCell (World.setCell (World.setCell x2 ⟨g, 2, none⟩ (.int .i64 b1)) ⟨g, 3, none⟩ (.int .i64 b2)) ⟨g, 4, none⟩ (.slice A7 ln c7)) = x3 at *
      clear hw6
      refine s_done (by kernel_rfl) ?_
      have HKK := Lib.hid (HK.out.trans (HC.out.mono (D' := Vof g A A2) (fun b _ h => .inl h)))
      have hzz := HK.out.size
      go_simp
      go_wp2_with fail
      go_ret
      obtain rfl := HRY.out
      refine ⟨rfl, A6, c6, A7, c7, ⟨?_, ?_, ?_, HOF.out.1, ?_, ?_⟩, ?_, HKK.out⟩
      · have h := HST5.out
        rw [← HN6.out, ← HLN.out] at h
        exact h
      · have h := HO6.out
        rw [← HN6.out] at h
        exact h
      · have h := HO7.out
        rw [← HLN.out] at h
        exact h
      · intro e
        have := HA7.out g e
        omega
      · intro b hb e
        have := HA7.out b e
        have := HOF.out.2.2 b hb
        omega
      · rintro b (rfl | hb | hb)
        · exact .inl (.inl rfl)
        · exact (HOF.out.2.1 b hb).imp (fun h => .inr (.inl h)) (fun h => by omega)
        · have := HA7.out b hb
          exact .inr (by omega)
end Go.Proofs.YtcacebkbfnnjbaaDoor
