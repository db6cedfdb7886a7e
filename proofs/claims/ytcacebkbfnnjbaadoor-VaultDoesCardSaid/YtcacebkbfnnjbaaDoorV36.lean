/-
  Parts that the statement rests on, joined: Rsave.
-/
import Derived.Test.YtcacebkbfnnjbaaDoorV14
import Derived.Test.YtcacebkbfnnjbaaDoorV16
import Derived.Test.YtcacebkbfnnjbaaDoorV17
import Derived.Test.YtcacebkbfnnjbaaDoorV18
import Derived.Test.YtcacebkbfnnjbaaDoorV24
import Derived.Test.YtcacebkbfnnjbaaDoorV26
import Derived.Test.YtcacebkbfnnjbaaDoorV27
import Derived.Deep.CutRange
import Derived.LoopTactic
/-
  What the reference's Save answers and leaves.
-/












namespace Go.Proofs.YtcacebkbfnnjbaaDoor
open Go.RowKit

/-- What the call's boxes and the vault's struct hold, all along. -/
structure RS (g : Nat) (w : World) (cs : Array Value) (b1 b2 l1 l2 : Int) (vl : Value) (W : World) : Prop where
  st : Whole W g 35 cs
  b : Whole W w.heap.size 30 #[.int .i64 b1, .int .i64 b2]
  l : Whole W (w.heap.size + 1) 38 #[.int .i64 l1, .int .i64 l2, vl]
  bw : Below w.heap.size w W
  sz : w.heap.size + 2 ≤ W.heap.size
  gw : g < w.heap.size
theorem RS.below {g : Nat} {w : World} {cs : Array Value} {b1 b2 l1 l2 : Int} {vl : Value} {W W' : World} (h : RS g w cs b1 b2 l1 l2 vl W) (hb : Below (w.heap.size + 2) W W') : RS g w cs b1 b2 l1 l2 vl W' :=
  ⟨h.st.below hb (by have := h.gw; omega), h.b.below hb (by omega), h.l.below hb (by omega), h.bw.trans (hb.mono (by omega)), Nat.le_trans h.sz hb.size, h.gw⟩
theorem ints_new2 (w : World) (l : List Int) (hw : ∀ x ∈ l, -9223372036854775808 ≤ x ∧ x ≤ 9223372036854775807) (hl : l.length ≤ 100) : Sl (w.alloc (.cells (l.map (Value.int .i64)).toArray 3)) (w.alloc (.cells (l.map (Value.int .i64)).toArray 3)).heap.size (.slice (some ⟨w.heap.size, 0, none⟩) l.length l.length) l :=
  (Own.newL w w.heap.size 3 l _ (fun x hx => hw x hx) (by rw [cells_ints2]) (by unfold maxLen; omega) (Nat.le_refl _)).sl
theorem cmd_good {a b c d e f : Int} (h : Vl.cmdOk (0, a, b, c, d, e, f) = true) : Vl.good (2, [a, b, c, d, e, f]) := by
  obtain ⟨h1, h2, h3, h4, h5, h6⟩ := (Vl.cmdOk_iff _).1 h
  refine ⟨by show (0 : Int) ≤ 2; decide, by show (2 : Int) ≤ 255; decide, by show (6 : Nat) ≤ 255; decide, fun n hn => ?_⟩
  simp only [List.mem_cons, List.not_mem_nil, or_false] at hn
  rcases hn with rfl | rfl | rfl | rfl | rfl | rfl <;> assumption
theorem cmd_bad {a b c d e f : Int} (h : Vl.cmdOk (0, a, b, c, d, e, f) = false) : ¬ ∀ n ∈ [a, b, c, d, e, f], Fm.may n := by
  intro hh
  have : Vl.cmdOk (0, a, b, c, d, e, f) = true := (Vl.cmdOk_iff _).2 ⟨hh a (by simp), hh b (by simp), hh c (by simp), hh d (by simp), hh e (by simp), hh f (by simp)⟩
  rw [h] at this
  cases this

set_option maxRecDepth 100000 in
set_option maxHeartbeats 8000000 in
theorem rsave_any (g : Nat) (S S2 : Nat → Prop) (v : Vl.V) (hok : Vl.Ok v) (A : Option Addr) (c : Nat) (A2 : Option Addr) (c2 : Nat) (b1 b2 l1 l2 : Int) (vl : Value) (l : List E) (hll : l.length ≤ 100000) (w : World) (h : RVMem g S w v A c A2 c2) (hL : SlS w S2 vl l) (hS2 : ¬ S2 g) :
    Calls Tryd.prog 13 #[.pointer (some ⟨g, 0, none⟩), bv b1 b2, lv l1 l2 vl] w fun e w' => e = .returned (.int .i64 (Vl.save v (b1, b2) (l1, l2, l)).2) ∧ RVTo g (fun b => S b ∨ S2 b) w (Vl.save v (b1, b2) (l1, l2, l)).1 w' := by
  obtain ⟨Al, cl, rfl, hcl, hml⟩ := hL.form
  unfold maxLen at hml
  have hb0 : Below w.heap.size w (w.alloc (.cells #[.int .i64 b1, .int .i64 b2] 30)) := (Below.refl _ _).alloc (Nat.le_refl _) _
  have hb1 := hb0.alloc hb0.size (.cells #[.int .i64 l1, .int .i64 l2, .slice Al l.length cl] 38)
  have HRS := Lib.hid (show RS g w #[.slice A v.disk.length c, .int .i64 (v.synced : Int), .int .i64 v.s.1.1, .int .i64 v.s.1.2, .slice A2 v.s.2.length c2] b1 b2 l1 l2 (.slice Al l.length cl) _ from ⟨h.st.below hb1 h.st.lt, (Whole.new w 30 #[.int .i64 b1, .int .i64 b2]).alloc (.cells #[.int .i64 l1, .int .i64 l2, .slice Al l.length cl] 38), Whole.new1 w (.cells #[.int .i64 b1, .int .i64 b2] 30) 38 #[.int .i64 l1, .int .i64 l2, .slice Al l.length cl], hb1, by simp, h.glt⟩)
  have HM1 := Lib.hid (fun W => rbmay_any b1 b2 W)
  have HM2 := Lib.hid (fun W (hW : Below w.heap.size w W) => rmay_any l1 l2 _ l W w.heap.size hW.size (hL.here.below hW))
  have HSAME := Lib.hid (fun W (hW : Below w.heap.size w W) => (show RVTo g (fun b => S b ∨ S2 b) w v W from rvto_same (h.wide (fun b hb _ => .inl hb) (fun e => e.elim h.off hS2)) hW))
  have HLL := Lib.hid (fun W (hW : Below w.heap.size w W) => hL.here.below hW)
  have HDD := Lib.hid (fun W (hW : Below w.heap.size w W) => h.d.here.below hW)
  have HSL := Lib.hid (fun W (hW : Below w.heap.size w W) => h.l.here.below hW)
  have HL2 := Lib.hid (fun W (hk : Kept (fun b => b = g) w W) => hk.sl hL (fun b hb e => hS2 (e ▸ hb)))
  have hSg := h.off
  have hd := hok.len
  have hs64 := hok.good.len
  have hgw := h.glt
  have HNO := Lib.hid (@save_no v (b1, b2) (l1, l2, l))
  have HFULL := Lib.hid (@save_full v (b1, b2) (l1, l2, l))
  have HYES := Lib.hid (@save_yes v (b1, b2) (l1, l2, l))
  have HML := Lib.hid (@more_len v (b1, b2) (l1, l2, l))
  have hl64 : Vl.mayS (b1, b2) (l1, l2, l) = true → l.length ≤ 64 := fun hm => ((Lg.may_iff _).1 ((Vl.mayS_iff _ _).1 hm).2.1).2.2.2.2.2.1
  have hG := fun (hm : Vl.mayS (b1, b2) (l1, l2, l) = true) => Vl.steps_good (s := v.s) ((Vl.mayS_iff _ _).1 hm).1 (Vl.may0 ((Vl.mayS_iff _ _).1 hm).2.1 ((Vl.mayS_iff _ _).1 hm).2.2.1).2 ((Vl.mayS_iff _ _).1 hm).2.2.2
  have HLEN := Lib.hid (fun (hm : Vl.mayS (b1, b2) (l1, l2, l) = true) i => stepsTo_len (s := v.s) ((Vl.mayS_iff _ _).1 hm).1 (Vl.may0 ((Vl.mayS_iff _ _).1 hm).2.1 ((Vl.mayS_iff _ _).1 hm).2.2.1).2 ((Vl.mayS_iff _ _).1 hm).2.2.2 i)
  have HALL := Lib.hid (fun i (h : l.length ≤ Vl.agreed v.s.2 l + i) => stepsTo_all (s := v.s) (b := (b1, b2)) h)
  have HZERO := Lib.hid (stepsTo_zero v.s (b1, b2) l)
  have hag := Vl.agreed_le v.s.2 l
  have HAG := Lib.hid (fun W (h2 : Below w.heap.size w W) => common_any _ _ v.s.2 l W w.heap.size h2.size (h.l.here.below h2) (hL.here.below h2))
  have HBAL : Hid ((b1, b2) = v.s.1 → Vl.bytesOf (Vl.balR v.s (b1, b2)) = []) := Lib.hid (fun h => by unfold Vl.balR; rw [if_pos h]; rfl)
  have HBAL2 : Hid (Vl.mayS (b1, b2) (l1, l2, l) = true → (b1, b2) ≠ v.s.1 → Vl.bytesOf (Vl.balR v.s (b1, b2)) = Vl.recd 1 [b1, b2] ∧ Vl.good (1, [b1, b2])) := Lib.hid (fun hm h => by
    have hr : Vl.balR v.s (b1, b2) = [(1, [b1, b2])] := by unfold Vl.balR; rw [if_neg h]
    refine ⟨by rw [hr]; simp [Vl.bytesOf], hG hm _ ?_⟩
    unfold Vl.steps
    rw [hr]
    simp)
  have HCUT : Hid (¬ Vl.agreed v.s.2 l < v.s.2.length → Vl.bytesOf (Vl.cutR v.s l) = []) := Lib.hid (fun h => by unfold Vl.cutR; rw [if_neg h]; rfl)
  have HCUT2 : Hid (Vl.mayS (b1, b2) (l1, l2, l) = true → Vl.agreed v.s.2 l < v.s.2.length → Vl.bytesOf (Vl.cutR v.s l) = Vl.recd 3 [(Vl.agreed v.s.2 l : Int)] ∧ Vl.good (3, [(Vl.agreed v.s.2 l : Int)])) := Lib.hid (fun hm h => by
    have hr : Vl.cutR v.s l = [(3, [(Vl.agreed v.s.2 l : Int)])] := by unfold Vl.cutR; rw [if_pos h]
    refine ⟨by rw [hr]; simp [Vl.bytesOf], hG hm _ ?_⟩
    unfold Vl.steps
    rw [hr]
    simp)
  have HENT : Hid (Vl.mayS (b1, b2) (l1, l2, l) = true → ∀ i e, l[Vl.agreed v.s.2 l + i]? = some e → Vl.good (2, Vl.en8 ((Vl.agreed v.s.2 l + i : Nat) + 1) e) ∧ stepsTo v.s (b1, b2) l (i + 1) = stepsTo v.s (b1, b2) l i ++ Vl.recd 2 (Vl.en8 ((Vl.agreed v.s.2 l + i : Nat) + 1) e)) := Lib.hid (fun hm i e he => by
    obtain ⟨h, rfl⟩ := List.getElem?_eq_some_iff.1 he
    refine ⟨?_, stepsTo_succ h⟩
    have hlt : i < (l.drop (Vl.agreed v.s.2 l)).length := by rw [List.length_drop]; omega
    have hg := ents_get (l.drop (Vl.agreed v.s.2 l)) (Vl.agreed v.s.2 l) i hlt
    rw [List.getElem_drop] at hg
    rw [← hg]
    refine hG hm _ ?_
    unfold Vl.steps
    exact List.mem_append_right _ (List.mem_append_right _ (List.getElem_mem _)))
  have hmo : Vl.more v (b1, b2) l = Vl.bytesOf (Vl.steps v.s (b1, b2) l) := rfl
  have hMS : Vl.mayS (b1, b2) (l1, l2, l) = (Vt.may (b1, b2) && Lg.may (l1, l2, l) && decide (l1 = 0) && l.all Vl.cmdOk) := rfl
  have HZ := Lib.hid (bTo_zero l)
  simp only [hmo] at HFULL HYES HML
  clear h hb0 hb1 hL hok hG hmo
  generalize Vl.save v (b1, b2) (l1, l2, l) = R at *
  generalize Vl.mayS (b1, b2) (l1, l2, l) = ms at *
  generalize Vl.bytesOf (Vl.balR v.s (b1, b2)) = rb at *
  generalize Vl.bytesOf (Vl.cutR v.s l) = rc at *
  generalize Vl.bytesOf (Vl.steps v.s (b1, b2) l) = M at *
  generalize stepsTo v.s (b1, b2) l = T at *
  generalize Vl.agreed v.s.2 l = ag at *
  generalize Vt.may (b1, b2) = mb at *
  generalize Lg.may (l1, l2, l) = ml at *
  generalize hal : l.all Vl.cmdOk = ma at *
  have HAL := Lib.hid hal
  clear hal
  have HMS := Lib.hid hMS
  clear hMS
  obtain ⟨d, sy, ⟨⟨t, vo⟩, sl⟩⟩ := v
  simp only at *
  generalize hdn : d.length = dn at *
  have HDN := Lib.hid hdn
  generalize hln : l.length = ln at *
  have HLN := Lib.hid hln
  generalize hsn : sl.length = sn at *
  have HSN := Lib.hid hsn
  clear hdn hln hsn
  obtain ⟨p0, p1⟩ := HRS.out.b.c2
  obtain ⟨r0, r1, r2⟩ := HRS.out.l.c3
  go_enter Tryd.func13, Tryd.ntmps13
  go_wp2_with fail
  with_reducible refine (HM1.out _).mono ?_
  rintro e w1 ⟨rfl, hb⟩
  replace HRS := Lib.hid (HRS.out.below (hb.mono HRS.out.sz))
  clear hb p0 p1 r0 r1 r2
  obtain ⟨r0, r1, r2⟩ := HRS.out.l.c3
  go_wp2_with fail
  with_reducible refine (HM2.out _ HRS.out.bw).mono ?_
  rintro e w2 ⟨rfl, hb⟩
  replace HRS := Lib.hid (HRS.out.below (hb.mono HRS.out.sz))
  clear hb r0 r1 r2
  obtain ⟨r0, r1, r2⟩ := HRS.out.l.c3
  rcases mb with _ | _
  · obtain rfl := HNO.out (by rw [HMS.out]; rfl)
    go_wp2_with fail
    go_ret
    exact ⟨rfl, HSAME.out _ HRS.out.bw⟩
  rcases ml with _ | _
  · obtain rfl := HNO.out (by rw [HMS.out]; rfl)
    go_wp2_with fail
    go_ret
    exact ⟨rfl, HSAME.out _ HRS.out.bw⟩
  by_cases h0 : l1 = 0
  rotate_left
  · obtain rfl := HNO.out (by rw [HMS.out]; simp [h0])
    have d0 : (l1 != 0) = true := by simpa using h0
    go_wp2_with fail
    go_ret
    exact ⟨rfl, HSAME.out _ HRS.out.bw⟩
  subst h0
  have d0 : ((0 : Int) != 0) = false := by simp
  go_wp2_with fail
  clear r0 r1 r2
  go_loopw [9] (fun i wr => ∃ k : Nat, bTo l k ∧ i = .int .i64 (k : Int) ∧ RS g w #[.slice A dn c, .int .i64 (sy : Int), .int .i64 t, .int .i64 vo, .slice A2 sn c2] b1 b2 0 l2 (.slice Al ln cl) wr) (fun i _ => ln - (intOf i).toNat)
  case atStart => exact ⟨0, HZ.out, rfl, HRS.out⟩
  case round =>
    obtain ⟨k, hat, rfl, hrs⟩ := hrel
    have HAT := Lib.hid hat
    have HRR := Lib.hid hrs
    have hk1 : k ≤ ln := by have := hat.1; rw [HLN.out] at this; exact this
    clear hat hrs HRS
    have i1 : (0 : Int) ≤ (k : Int) := by omega
    obtain ⟨r0, r1, r2⟩ := HRR.out.l.c3
    by_cases hlt : k < ln
    · have i2 : (k : Int) < (ln : Int) := by omega
      have i3 : decide (k < ln) = true := by simpa using hlt
      have hkl : k < l.length := by rw [HLN.out]; exact hlt
      have hent := (HLL.out _ HRR.out.bw).entry k hkl
      have hST := fun h => bTo_step HAT.out hkl h
      have hSP := fun h => bTo_stop hkl h
      generalize l[k] = e at *
      obtain ⟨e0, e1, e2, e3, e4, e5, e6⟩ := e
      obtain ⟨g1, o1, rfl, -, g0', g1', g2, g3, g4, g5, g6, hwf⟩ := hent
      dsimp only [ec] at *
      have HST := Lib.hid hST
      have HSP := Lib.hid hSP
      clear hST hSP hkl
      have hbw : Below wr.heap.size wr (wr.alloc (.cells #[.int .i64 e1, .int .i64 e2, .int .i64 e3, .int .i64 e4, .int .i64 e5, .int .i64 e6] 55)) := (Below.refl _ _).alloc (Nat.le_refl _) _
      have hin := ints_new2 (wr.alloc (.cells #[.int .i64 e1, .int .i64 e2, .int .i64 e3, .int .i64 e4, .int .i64 e5, .int .i64 e6] 55)) [e1, e2, e3, e4, e5, e6] (fun x hx => by
        obtain ⟨-, w1, w2, w3, w4, w5, w6⟩ := hwf
        simp only [List.mem_cons, List.not_mem_nil, or_false] at hx
        rcases hx with rfl | rfl | rfl | rfl | rfl | rfl <;> assumption) (by simp)
      have hcmd : Vl.cmdOk (e0, e1, e2, e3, e4, e5, e6) = Vl.cmdOk (0, e1, e2, e3, e4, e5, e6) := rfl
      rcases hq : Vl.cmdOk (0, e1, e2, e3, e4, e5, e6) with _ | _
      · have hR3 := rrecord_no 2 _ _ (by simp) (cmd_bad hq) _ _ (Nat.le_refl _) hin
        obtain rfl : ma = false := by rw [← HAL.out]; exact HSP.out (hcmd.trans hq)
        obtain rfl := HNO.out (by rw [HMS.out]; rfl)
        simp only [List.map_cons, List.map_nil, List.length_cons, List.length_nil, Nat.zero_add, Nat.reduceAdd, World.size_alloc] at hR3
        have HR3 := Lib.hid hR3
        have HBW := Lib.hid hbw
        clear hR3 hq hcmd hbw hin hwf
        go_wp2_with fail
        with_reducible refine HR3.out.mono ?_
        rintro e wb ⟨A3, c3, rfl, ho3, hb3⟩
        replace HRR := Lib.hid (HRR.out.below ((((HBW.out.alloc HBW.out.size _).trans (hb3.mono (by simp; omega))).mono HRR.out.sz)))
        clear ho3 hb3 r0 r1 r2
        go_wp2_with fail
        go_ret
        exact ⟨rfl, HSAME.out _ HRR.out.bw⟩
      · have hR3 := rrecord_any 2 _ _ (cmd_good hq) _ _ (Nat.le_refl _) hin
        have HA2 := Lib.hid (HST.out (hcmd.trans hq))
        simp only [List.map_cons, List.map_nil, List.length_cons, List.length_nil, Nat.zero_add, Nat.reduceAdd, World.size_alloc] at hR3
        have HR3 := Lib.hid hR3
        have HBW := Lib.hid hbw
        clear hR3 hq hcmd hbw hin hwf
        generalize Vl.recd 2 [e1, e2, e3, e4, e5, e6] = r3 at *
        go_wp2_with fail
        with_reducible refine HR3.out.mono ?_
        rintro e wb ⟨A3, c3, rfl, ho3, hb3⟩
        replace HRR := Lib.hid (HRR.out.below ((((HBW.out.alloc HBW.out.size _).trans (hb3.mono (by simp; omega))).mono HRR.out.sz)))
        clear ho3 hb3 r0 r1 r2
        generalize r3.length = r3l at *
        go_wp2_with fail
        go_roundw
        case rel => exact ⟨k + 1, HA2.out, by go_num, HRR.out⟩
        case measure => simp [intOf]; omega
    · have i3 : decide (k < ln) = false := by simpa using hlt
      obtain rfl : ma = true := by rw [← HAL.out]; exact bTo_end HAT.out (by rw [HLN.out]; omega)
      obtain rfl : ms = true := by rw [HMS.out]; rfl
      have hln64 := hl64 rfl
      have hML := HML.out rfl
      clear HAT HAL HMS HML HNO hl64
      obtain ⟨k0, k1, k2, k3, k4⟩ := HRR.out.st.c5
      have HD0 := Lib.hid (HDD.out _ HRR.out.bw)
      have hsz := HRR.out.sz
      go_wp2_with (at_builtin; refine wpList_append_sl rfl _ (.tmp 73) rfl rowB (w.heap.size + 2) _ [] rfl (Own.nil _ _ _) w.heap.size _ d rfl HD0.out (by rw [HDN.out]; unfold maxLen; simp; omega) (by rw [HDN.out]; simp; omega) (by omega) ?_; intro vx wx hownx hgx hatx; rw [List.nil_append] at hownx; have hbx := (Below.refl (w.heap.size + 2) wr).grown hgx (by omega) (by intro k h; cases h); have HX := Lib.hid hownx; replace HRR := Lib.hid (HRR.out.below hbx); clear hgx hatx hownx hbx k0 k1 k2 k3 k4 r0 r1 r2)
      have hcase : (b1 = t ∧ b2 = vo) ∨ ¬ b1 = t ∨ (b1 = t ∧ ¬ b2 = vo) := by omega
      obtain ⟨q, hq⟩ : ∃ q : Bool, q = decide ((b1, b2) ≠ (t, vo)) := ⟨_, rfl⟩
      have HQ := Lib.hid hq
      clear hq
      go_cut [81] from 75 to 81 (fun x81 wy => x81 = .bool q ∧ Own wy (w.heap.size + 2) 5 vx (d) ∧ RS g w #[.slice A dn c, .int .i64 (sy : Int), .int .i64 t, .int .i64 vo, .slice A2 sn c2] b1 b2 0 l2 (.slice Al ln cl) wy)
      case first =>
        obtain ⟨k0, k1, k2, k3, k4⟩ := HRR.out.st.c5
        obtain ⟨p0, p1⟩ := HRR.out.b.c2
        rcases hcase with ⟨rfl, rfl⟩ | h | ⟨rfl, h⟩
        · obtain rfl : q = false := by rw [HQ.out]; simp
          go_quiet (fail)
          go_wp2_with fail
          go_meet
          exact ⟨rfl, HX.out.drewN nq, HRR.out.below (below_drewN (Below.refl _ _) nq)⟩
        · obtain rfl : q = true := by rw [HQ.out]; simp [h]
          go_quiet (fail)
          go_wp2_with fail
          go_meet
          exact ⟨rfl, HX.out.drewN nq, HRR.out.below (below_drewN (Below.refl _ _) nq)⟩
        · obtain rfl : q = true := by rw [HQ.out]; simp [h]
          go_quiet (fail)
          go_wp2_with fail
          go_meet
          exact ⟨rfl, HX.out.drewN nq, HRR.out.below (below_drewN (Below.refl _ _) nq)⟩
      case rest =>
        obtain ⟨rfl, hx, hrs⟩ := hcut
        replace HX := Lib.hid hx
        replace HRR := Lib.hid hrs
        clear hx hrs
        go_upto_if 81 with fail
        go_cut [13, 14, 15] from 82 to 93 (fun x13 x14 x15 wx => Own wx (w.heap.size + 2) 5 x13 (d ++ rb) ∧ RS g w #[.slice A dn c, .int .i64 (sy : Int), .int .i64 t, .int .i64 vo, .slice A2 sn c2] b1 b2 0 l2 (.slice Al ln cl) wx)
        case first =>
          obtain ⟨p0, p1⟩ := HRR.out.b.c2
          rcases q with _ | _
          · obtain rfl := HBAL.out (by have := HQ.out; simpa using this)
            go_wp2_with fail
            go_meet
            exact ⟨by rw [List.append_nil]; exact HX.out, HRR.out⟩
          · obtain ⟨rfl, hg1⟩ := HBAL2.out (by simp) (of_decide_eq_true HQ.out.symm)
            have hR3 := rrecord_any 1 _ [b1, b2] hg1 _ _ (Nat.le_refl _) (ints_new wc [b1, b2] (fun x hx => hg1.2.2.2 x hx) (by simp))
            simp only [List.map_cons, List.map_nil, List.length_cons, List.length_nil, Nat.zero_add, Nat.reduceAdd] at hR3
            have HLR := Lib.hid (show (Vl.recd 1 [b1, b2]).length ≤ 75 from recd_small hg1 (by simp))
            have HR3 := Lib.hid hR3
            clear hR3 hg1
            generalize Vl.recd 1 [b1, b2] = r3 at *
            go_wp2_with fail
            with_reducible refine HR3.out.mono ?_
            rintro e wb ⟨A3, c3, rfl, ho3, hb3⟩
            have hbz := ((Below.refl wc.heap.size wc).alloc (Nat.le_refl _) (.cells #[.int .i64 b1, .int .i64 b2] 3)).trans (hb3.mono (by simp))
            replace HRR := Lib.hid (HRR.out.below (hbz.mono HRR.out.sz))
            have HXw := Lib.hid (HX.out.below hbz)
            have HO3 := Lib.hid ho3
            clear ho3 hb3 hbz HX HR3 p0 p1
            have HBN0 := Lib.hid (show d.length ≤ 65536 by rw [HDN.out]; exact hd)
            go_wp2_with (at_builtin; refine wpList_append_sl rfl _ (.tmp 92) rfl rowB (w.heap.size + 2) _ _ rfl HXw.out wb.heap.size _ r3 rfl HO3.out.sl (by have := HLR.out; have := HBN0.out; unfold maxLen; omega) (by have := HLR.out; have := HBN0.out; omega) (by have := HRR.out.sz; omega) ?_; intro vy wy howny hgy haty; have hby := below_of_own (Below.refl (w.heap.size + 2) wb) HXw.out hgy (by have := HRR.out.sz; omega); have HXy := Lib.hid howny; have HRY := Lib.hid (HRR.out.below hby); clear hgy haty howny hby)
            go_meet
            exact ⟨HXy.out, HRY.out⟩
        case rest =>
          obtain ⟨hx, hrs⟩ := hcut
          replace HX := Lib.hid hx
          replace HRR := Lib.hid hrs
          clear hx hrs
          have hTl0 := HLEN.out (by simp) 0
          rw [HZERO.out, List.length_append] at hTl0
          have HBND := Lib.hid (show (d ++ rb).length ≤ 75536 by rw [List.length_append, HDN.out]; omega)
          clear hTl0
          go_upto_region 16 with fail
          refine s_start (fun W => Kept (fun _ => False) (wc).drew W) [] (by kernel_rfl) ?_
          have HC := Lib.hid (Kept.refl (fun _ => False) (wc).drew)
          have HX16 := Lib.hid (fun W (hW : Kept (fun _ => False) wc.drew W) => by
            have hbl := hW.below (B := wc.heap.size) (fun _ h => h.elim) (Nat.le_refl _)
            have hb0 : Below wc.heap.size wc W := (Below.refl _ _).drew.trans hbl
            have hr := HRR.out.below (hb0.mono HRR.out.sz)
            have h5 := hr.st.c5
            exact (⟨h5.1, h5.2.1, h5.2.2.1, h5.2.2.2.1, h5.2.2.2.2, hr.l.c3⟩ : _ ∧ _ ∧ _ ∧ _ ∧ _ ∧ _))
          have hDc : Below wc.heap.size wc wc.drew := (Below.refl _ _).drew
          have hs1 := HRR.out.sz
          have hs2 : w.heap.size + 2 ≤ wc.drew.heap.size := hs1
          generalize (wc).drew = y1 at *
          refine s_take (i := 0) (v := ?_) rfl (by kernel_rfl) (by kernel_rfl) (by kernel_rfl) (k0 := 0) (by kernel_rfl) (by kernel_rfl) (.inl rfl) (fun _ _ _ h => h) (by rfl) HC.out ?_ ?_
          rotate_left
          · intro W hW
            go_simp
            first | done | rfl
          simp only [Act.put, List.setIfInBounds_toArray, List.set_cons_zero, List.set_cons_succ, List.getElem_toArray, List.getElem_cons_zero]
          refine s_take (i := 1) (v := ?_) rfl (by kernel_rfl) (by kernel_rfl) (by kernel_rfl) (k0 := 1) (by kernel_rfl) (by kernel_rfl) (.inl rfl) (fun _ _ _ h => h) (by rfl) HC.out ?_ ?_
          rotate_left
          · intro W hW
            go_simp
            first | done | rfl
          simp only [Act.put, List.setIfInBounds_toArray, List.set_cons_zero, List.set_cons_succ, List.getElem_toArray, List.getElem_cons_zero, List.getElem_cons_succ]
          refine s_take (i := 2) (v := ?_) rfl (by kernel_rfl) (by kernel_rfl) (by kernel_rfl) (k0 := 2) (by kernel_rfl) (by kernel_rfl) (.inl rfl) (fun _ _ _ h => h) (by rfl) HC.out ?_ ?_
          rotate_left
          · intro W hW
            go_simp
            first | done | rfl
          simp only [Act.put, List.setIfInBounds_toArray, List.set_cons_zero, List.set_cons_succ, List.getElem_toArray, List.getElem_cons_zero, List.getElem_cons_succ]
          refine s_take (i := 3) (v := ?_) rfl (by kernel_rfl) (by kernel_rfl) (by kernel_rfl) (k0 := 3) (by kernel_rfl) (by kernel_rfl) (.inl rfl) (fun _ _ _ h => h) (by rfl) HC.out ?_ ?_
          rotate_left
          · intro W hW
            go_simp
            first | done | rfl
          simp only [Act.put, List.setIfInBounds_toArray, List.set_cons_zero, List.set_cons_succ, List.getElem_toArray, List.getElem_cons_zero, List.getElem_cons_succ]
          refine s_take (i := 4) (v := ?_) rfl (by kernel_rfl) (by kernel_rfl) (by kernel_rfl) (k0 := 4) (by kernel_rfl) (by kernel_rfl) (.inl rfl) (fun _ _ _ h => h) (by rfl) HC.out ?_ ?_
          rotate_left
          · intro W hW
            obtain ⟨k0, k1, k2, k3, k4, r0, r1, r2⟩ := HX16.out _ hW
            go_simp
            first | done | rfl
          simp only [Act.put, List.setIfInBounds_toArray, List.set_cons_zero, List.set_cons_succ, List.getElem_toArray, List.getElem_cons_zero, List.getElem_cons_succ]
          refine s_take (i := 5) (v := ?_) rfl (by kernel_rfl) (by kernel_rfl) (by kernel_rfl) (k0 := 5) (by kernel_rfl) (by kernel_rfl) (.inl rfl) (fun _ _ _ h => h) (by rfl) HC.out ?_ ?_
          rotate_left
          · intro W hW
            go_simp
            first | done | rfl
          simp only [Act.put, List.setIfInBounds_toArray, List.set_cons_zero, List.set_cons_succ, List.getElem_toArray, List.getElem_cons_zero, List.getElem_cons_succ]
          refine s_take (i := 6) (v := ?_) rfl (by kernel_rfl) (by kernel_rfl) (by kernel_rfl) (k0 := 6) (by kernel_rfl) (by kernel_rfl) (.inl rfl) (fun _ _ _ h => h) (by rfl) HC.out ?_ ?_
          rotate_left
          · intro W hW
            obtain ⟨k0, k1, k2, k3, k4, r0, r1, r2⟩ := HX16.out _ hW
            go_simp
            first | done | rfl
          simp only [Act.put, List.setIfInBounds_toArray, List.set_cons_zero, List.set_cons_succ, List.getElem_toArray, List.getElem_cons_zero, List.getElem_cons_succ]
          refine s_one (i := 7) (by kernel_rfl) ?_
          refine ones_call (i := 7) (f := 31) (args := ?_) rfl (by rfl) ?_ ?_
          rotate_left
          · go_simp
            first | done | rfl
          with_reducible refine (HAG.out _ ((HRR.out.bw.trans ((hDc.mono (by omega)).trans (HC.out.below (B := w.heap.size) (fun _ h => h.elim) (by omega)))))).mono ?_
          rintro e y2 ⟨rfl, hb⟩
          refine ⟨_, rfl, fun _ => HC.out.trans (Below.kept hb), ?_⟩
          replace HC := Lib.hid (HC.out.trans (Below.kept hb))
          clear hb
          simp only [Act.put, List.setIfInBounds_toArray, List.set_cons_zero, List.set_cons_succ, List.getElem_toArray, List.getElem_cons_zero, List.getElem_cons_succ]
          refine s_take (i := 8) (v := ?_) rfl (by kernel_rfl) (by kernel_rfl) (by kernel_rfl) (k0 := 8) (by kernel_rfl) (by kernel_rfl) (.inl rfl) (fun _ _ _ h => h) (by rfl) HC.out ?_ ?_
          rotate_left
          · intro W hW
            go_simp
            first | done | rfl
          simp only [Act.put, List.setIfInBounds_toArray, List.set_cons_zero, List.set_cons_succ, List.getElem_toArray, List.getElem_cons_zero, List.getElem_cons_succ]
          refine s_done (by kernel_rfl) ?_
          have hbz : Below (w.heap.size + 2) wc y2 := (hDc.mono hs1).trans (HC.out.below (B := w.heap.size + 2) (fun _ h => h.elim) hs2)
          replace HRR := Lib.hid (HRR.out.below hbz)
          replace HX := Lib.hid ((HX.out.keep (Below.kept hDc) (fun _ _ h => h)).keep HC.out (fun _ _ h => h))
          clear HC HX16 hbz hDc
          generalize hw8 : y2 = w8 at *
          clear hw8
          go_simp
          obtain ⟨k0, k1, k2, k3, k4⟩ := HRR.out.st.c5
          go_upto_if 109 with fail
          go_cut [13, 17, 18] from 109 to 118 (fun x13 x17 x18 wx => Own wx (w.heap.size + 2) 5 x13 (d ++ T 0) ∧ RS g w #[.slice A dn c, .int .i64 (sy : Int), .int .i64 t, .int .i64 vo, .slice A2 sn c2] b1 b2 0 l2 (.slice Al ln cl) wx)
          case first =>
            by_cases hag2 : ag < sn
            · have d2 : decide (ag < sn) = true := by simpa using hag2
              obtain ⟨hrc, hg3⟩ := HCUT2.out (by simp) hag2
              have hR3 := rrecord_any 3 _ [(ag : Int)] hg3 _ _ (Nat.le_refl _) (ints_new w8 [(ag : Int)] (fun x hx => hg3.2.2.2 x hx) (by simp))
              simp only [List.map_cons, List.map_nil, List.length_cons, List.length_nil, Nat.zero_add] at hR3
              have HLR := Lib.hid (show (Vl.recd 3 [(ag : Int)]).length ≤ 75 from recd_small hg3 (by simp))
              have HRC := Lib.hid hrc
              have HR3 := Lib.hid hR3
              clear hR3 hrc hg3
              generalize Vl.recd 3 [(ag : Int)] = r3 at *
              go_wp2_with fail
              with_reducible refine HR3.out.mono ?_
              rintro e wb ⟨A3, c3, rfl, ho3, hb3⟩
              have hbz := ((Below.refl w8.heap.size w8).alloc (Nat.le_refl _) (.cells #[.int .i64 (ag : Int)] 3)).trans (hb3.mono (by simp))
              replace HRR := Lib.hid (HRR.out.below (hbz.mono HRR.out.sz))
              have HXw := Lib.hid (HX.out.below hbz)
              have HO3 := Lib.hid ho3
              clear ho3 hb3 hbz HX HR3
              go_wp2_with (at_builtin; refine wpList_append_sl rfl _ (.tmp 117) rfl rowB (w.heap.size + 2) _ _ rfl HXw.out wb.heap.size _ r3 rfl HO3.out.sl (by have := HLR.out; have := HBND.out; unfold maxLen; omega) (by have := HLR.out; have := HBND.out; omega) (by have := HRR.out.sz; omega) ?_; intro vy wy howny hgy haty; have hby := below_of_own (Below.refl (w.heap.size + 2) wb) HXw.out hgy (by have := HRR.out.sz; omega); have HXy := Lib.hid howny; have HRY := Lib.hid (HRR.out.below hby); clear hgy haty howny hby)
              go_meet
              exact ⟨by rw [HZERO.out, HRC.out, ← List.append_assoc]; exact HXy.out, HRY.out⟩
            · have d2 : decide (ag < sn) = false := by simpa using hag2
              have hrc := HCUT.out hag2
              go_wp2_with fail
              go_meet
              exact ⟨by rw [HZERO.out, hrc, List.append_nil]; exact HX.out, HRR.out⟩
          case rest =>
            obtain ⟨hx, hrs⟩ := hcut
            have HXc := Lib.hid hx
            have HRS := Lib.hid hrs
            clear hx hrs HRR HX HZERO
            clear HAG HSL HCUT HCUT2 HBAL HBAL2
            go_wp2_with fail
            go_loopw [13, 19] (fun x i wr => ∃ k : Nat, k ≤ ln - ag ∧ i = .int .i64 ((ag : Int) + (k : Int)) ∧ Own wr (w.heap.size + 2) 5 x (d ++ T k) ∧ RS g w #[.slice A dn c, .int .i64 (sy : Int), .int .i64 t, .int .i64 vo, .slice A2 sn c2] b1 b2 0 l2 (.slice Al ln cl) wr) (fun _ i _ => ln - (intOf i).toNat)
            case atStart => exact ⟨0, Nat.zero_le _, by simp, HXc.out, HRS.out⟩
            case round =>
              obtain ⟨k, hk, rfl, hx, hrs⟩ := hrel
              have HXk := Lib.hid hx
              have HRR := Lib.hid hrs
              clear hx hrs HXc HRS
              have hTl := HLEN.out (by simp) k
              have HTB := Lib.hid (show (d ++ T k).length ≤ 75536 by rw [List.length_append, HDN.out]; omega)
              clear hTl
              obtain ⟨r0, r1, r2⟩ := HRR.out.l.c3
              have i1 : (0 : Int) ≤ (ag : Int) + (k : Int) := by omega
              by_cases hlt : ag + k < ln
              · have i2 : (ag : Int) + (k : Int) < (ln : Int) := by omega
                have i3 : decide ((ag : Int) + (k : Int) < (ln : Int)) = true := by simp; omega
                have i4 : ((ag : Int) + (k : Int)).toNat = ag + k := by omega
                have hkl : ag + k < l.length := by rw [HLN.out]; exact hlt
                have hent := HENT.out (by simp) k l[ag + k] (List.getElem?_eq_getElem hkl)
                have HKF := Lib.hid (fun W (hW : Below w.heap.size w W) => (HLL.out W hW).entry (ag + k) hkl)
                generalize l[ag + k] = e at *
                obtain ⟨e0, e1, e2, e3, e4, e5, e6⟩ := e
                obtain ⟨hg2, ht2⟩ := hent
                have HT2 := Lib.hid ht2
                have hlr : (Vl.recd 2 (Vl.en8 ((ag + k : Nat) + 1) (e0, e1, e2, e3, e4, e5, e6))).length ≤ 75 := recd_small hg2 (by simp [Vl.en8])
                have HLR := Lib.hid hlr
                have hRC := fun W (v : Value) (hv : Sl W W.heap.size v (Vl.en8 ((ag + k : Nat) + 1) (e0, e1, e2, e3, e4, e5, e6))) => rrecord_any 2 v _ hg2 W W.heap.size (Nat.le_refl _) hv
                have hwf8 := fun x (hx : x ∈ Vl.en8 ((ag + k : Nat) + 1) (e0, e1, e2, e3, e4, e5, e6)) => may_fit (hg2.2.2.2 x hx)
                have HRC := Lib.hid hRC
                have HW8 := Lib.hid hwf8
                clear ht2 hkl hlr hg2 hRC hwf8
                generalize Vl.recd 2 (Vl.en8 ((ag + k : Nat) + 1) (e0, e1, e2, e3, e4, e5, e6)) = r3 at *
                have hagl : ag ≤ 64 ∧ k ≤ 64 := by omega
                have hw2 : IntKind.i64.wrap ((ag : Int) + (k : Int) + 1) = (ag : Int) + (k : Int) + 1 := by rw [IntKind.wrap_i64]; omega
                obtain ⟨g1, o1, rfl, -, a0, a1, a2, a3, a4, a5, a6, -⟩ := HKF.out _ HRR.out.bw
                dsimp only at a0 a1 a2 a3 a4 a5 a6
                have hbw : Below wr.heap.size wr (wr.alloc (.cells #[.int .i64 e1, .int .i64 e2, .int .i64 e3, .int .i64 e4, .int .i64 e5, .int .i64 e6] 55)) := (Below.refl _ _).alloc (Nat.le_refl _) _
                have HC6 := Lib.hid (Whole.new wr 55 #[.int .i64 e1, .int .i64 e2, .int .i64 e3, .int .i64 e4, .int .i64 e5, .int .i64 e6])
                have hszr := HRR.out.sz
                replace HRR := Lib.hid (HRR.out.below (hbw.mono hszr))
                have HXw := Lib.hid (HXk.out.below hbw)
                clear hbw HXk
                go_wp2_with fail
                clear a0 a1 a2 a3 a4 a5 a6 r0 r1 r2
                generalize hgc : wr.heap.size = gc at *
                generalize hw1 : World.alloc wr _ = w1 at *
                clear hw1 hgc
                refine s_start (fun W => Kept (fun _ => False) (w1).drew W) [] (by kernel_rfl) ?_
                have HC := Lib.hid (Kept.refl (fun _ => False) (w1).drew)
                have HX24 := Lib.hid (fun W (hW : Kept (fun _ => False) w1.drew W) => by
                  have hbl := hW.below (B := w1.heap.size) (fun _ h => h.elim) (Nat.le_refl _)
                  have hb0 : Below w1.heap.size w1 W := (Below.refl _ _).drew.trans hbl
                  have h3 := (HRR.out.below (hb0.mono HRR.out.sz)).l.c3
                  obtain ⟨g1_, o1_, e1_, -, x0, -⟩ := HKF.out _ (HRR.out.below (hb0.mono HRR.out.sz)).bw
                  obtain ⟨h1_, h2_⟩ : g1 = g1_ ∧ o1 = o1_ := by simpa using e1_
                  subst h1_ h2_
                  have h6 := (hW.whole (show Whole w1.drew _ _ _ from HC6.out) (fun h => h)).c6
                  exact (⟨h3.1, h3.2.1, h3.2.2, x0, h6⟩ : _ ∧ _ ∧ _ ∧ _ ∧ _))
                have hD1 : Below w1.heap.size w1 w1.drew := (Below.refl _ _).drew
                have hs1 := HRR.out.sz
                replace hs1 : w.heap.size + 2 ≤ w1.drew.heap.size := hs1
                generalize (w1).drew = q1 at *
                refine s_take (i := 0) (v := ?_) rfl (by kernel_rfl) (by kernel_rfl) (by kernel_rfl) (k0 := 0) (by kernel_rfl) (by kernel_rfl) (.inl rfl) (fun _ _ _ h => h) (by rfl) HC.out ?_ ?_
                rotate_left
                · intro W hW
                  go_simp
                  first | done | rfl
                simp only [Act.put, List.setIfInBounds_toArray, List.set_cons_zero, List.set_cons_succ, List.getElem_toArray, List.getElem_cons_zero]
                refine s_take (i := 1) (v := ?_) rfl (by kernel_rfl) (by kernel_rfl) (by kernel_rfl) (k0 := 1) (by kernel_rfl) (by kernel_rfl) (.inl rfl) (fun _ _ _ h => h) (by rfl) HC.out ?_ ?_
                rotate_left
                · intro W hW
                  go_simp
                  first | done | rfl
                simp only [Act.put, List.setIfInBounds_toArray, List.set_cons_zero, List.set_cons_succ, List.getElem_toArray, List.getElem_cons_zero, List.getElem_cons_succ]
                refine s_take (i := 2) (v := ?_) rfl (by kernel_rfl) (by kernel_rfl) (by kernel_rfl) (k0 := 2) (by kernel_rfl) (by kernel_rfl) (.inl rfl) (fun _ _ _ h => h) (by rfl) HC.out ?_ ?_
                rotate_left
                · intro W hW
                  go_simp
                  first | done | rfl
                simp only [Act.put, List.setIfInBounds_toArray, List.set_cons_zero, List.set_cons_succ, List.getElem_toArray, List.getElem_cons_zero, List.getElem_cons_succ]
                refine s_take (i := 3) (v := ?_) rfl (by kernel_rfl) (by kernel_rfl) (by kernel_rfl) (k0 := 3) (by kernel_rfl) (by kernel_rfl) (.inl rfl) (fun _ _ _ h => h) (by rfl) HC.out ?_ ?_
                rotate_left
                · intro W hW
                  obtain ⟨r0, r1, r2, a0, c0, c1_, c2_, c3_, c4_, c5_⟩ := HX24.out _ hW
                  go_simp
                  first | done | rfl
                simp only [Act.put, List.setIfInBounds_toArray, List.set_cons_zero, List.set_cons_succ, List.getElem_toArray, List.getElem_cons_zero, List.getElem_cons_succ]
                refine s_take (i := 4) (v := ?_) rfl (by kernel_rfl) (by kernel_rfl) (by kernel_rfl) (k0 := 4) (by kernel_rfl) (by kernel_rfl) (.inl rfl) (fun _ _ _ h => h) (by rfl) HC.out ?_ ?_
                rotate_left
                · intro W hW
                  go_simp
                  first | done | rfl
                simp only [Act.put, List.setIfInBounds_toArray, List.set_cons_zero, List.set_cons_succ, List.getElem_toArray, List.getElem_cons_zero, List.getElem_cons_succ]
                refine s_take (i := 5) (v := ?_) rfl (by kernel_rfl) (by kernel_rfl) (by kernel_rfl) (k0 := 5) (by kernel_rfl) (by kernel_rfl) (.inl rfl) (fun _ _ _ h => h) (by rfl) HC.out ?_ ?_
                rotate_left
                · intro W hW
                  go_simp
                  first | done | rfl
                simp only [Act.put, List.setIfInBounds_toArray, List.set_cons_zero, List.set_cons_succ, List.getElem_toArray, List.getElem_cons_zero, List.getElem_cons_succ]
                refine s_take (i := 6) (v := ?_) rfl (by kernel_rfl) (by kernel_rfl) (by kernel_rfl) (k0 := 6) (by kernel_rfl) (by kernel_rfl) (.inl rfl) (fun _ _ _ h => h) (by rfl) HC.out ?_ ?_
                rotate_left
                · intro W hW
                  go_simp
                  first | done | rfl
                simp only [Act.put, List.setIfInBounds_toArray, List.set_cons_zero, List.set_cons_succ, List.getElem_toArray, List.getElem_cons_zero, List.getElem_cons_succ]
                refine s_take (i := 7) (v := ?_) rfl (by kernel_rfl) (by kernel_rfl) (by kernel_rfl) (k0 := 7) (by kernel_rfl) (by kernel_rfl) (.inl rfl) (fun _ _ _ h => h) (by rfl) HC.out ?_ ?_
                rotate_left
                · intro W hW
                  obtain ⟨r0, r1, r2, a0, c0, c1_, c2_, c3_, c4_, c5_⟩ := HX24.out _ hW
                  go_simp
                  first | done | rfl
                simp only [Act.put, List.setIfInBounds_toArray, List.set_cons_zero, List.set_cons_succ, List.getElem_toArray, List.getElem_cons_zero, List.getElem_cons_succ]
                refine s_take (i := 8) (v := ?_) rfl (by kernel_rfl) (by kernel_rfl) (by kernel_rfl) (k0 := 8) (by kernel_rfl) (by kernel_rfl) (.inl rfl) (fun _ _ _ h => h) (by rfl) HC.out ?_ ?_
                rotate_left
                · intro W hW
                  go_simp
                  first | done | rfl
                simp only [Act.put, List.setIfInBounds_toArray, List.set_cons_zero, List.set_cons_succ, List.getElem_toArray, List.getElem_cons_zero, List.getElem_cons_succ]
                refine s_take (i := 9) (v := ?_) rfl (by kernel_rfl) (by kernel_rfl) (by kernel_rfl) (k0 := 9) (by kernel_rfl) (by kernel_rfl) (.inl rfl) (fun _ _ _ h => h) (by rfl) HC.out ?_ ?_
                rotate_left
                · intro W hW
                  obtain ⟨r0, r1, r2, a0, c0, c1_, c2_, c3_, c4_, c5_⟩ := HX24.out _ hW
                  go_simp
                  first | done | rfl
                simp only [Act.put, List.setIfInBounds_toArray, List.set_cons_zero, List.set_cons_succ, List.getElem_toArray, List.getElem_cons_zero, List.getElem_cons_succ]
                refine s_take (i := 10) (v := ?_) rfl (by kernel_rfl) (by kernel_rfl) (by kernel_rfl) (k0 := 10) (by kernel_rfl) (by kernel_rfl) (.inl rfl) (fun _ _ _ h => h) (by rfl) HC.out ?_ ?_
                rotate_left
                · intro W hW
                  go_simp
                  first | done | rfl
                simp only [Act.put, List.setIfInBounds_toArray, List.set_cons_zero, List.set_cons_succ, List.getElem_toArray, List.getElem_cons_zero, List.getElem_cons_succ]
                refine s_take (i := 11) (v := ?_) rfl (by kernel_rfl) (by kernel_rfl) (by kernel_rfl) (k0 := 11) (by kernel_rfl) (by kernel_rfl) (.inl rfl) (fun _ _ _ h => h) (by rfl) HC.out ?_ ?_
                rotate_left
                · intro W hW
                  obtain ⟨r0, r1, r2, a0, c0, c1_, c2_, c3_, c4_, c5_⟩ := HX24.out _ hW
                  go_simp
                  first | done | rfl
                simp only [Act.put, List.setIfInBounds_toArray, List.set_cons_zero, List.set_cons_succ, List.getElem_toArray, List.getElem_cons_zero, List.getElem_cons_succ]
                refine s_take (i := 12) (v := ?_) rfl (by kernel_rfl) (by kernel_rfl) (by kernel_rfl) (k0 := 12) (by kernel_rfl) (by kernel_rfl) (.inl rfl) (fun _ _ _ h => h) (by rfl) HC.out ?_ ?_
                rotate_left
                · intro W hW
                  go_simp
                  first | done | rfl
                simp only [Act.put, List.setIfInBounds_toArray, List.set_cons_zero, List.set_cons_succ, List.getElem_toArray, List.getElem_cons_zero, List.getElem_cons_succ]
                refine s_take (i := 13) (v := ?_) rfl (by kernel_rfl) (by kernel_rfl) (by kernel_rfl) (k0 := 13) (by kernel_rfl) (by kernel_rfl) (.inl rfl) (fun _ _ _ h => h) (by rfl) HC.out ?_ ?_
                rotate_left
                · intro W hW
                  obtain ⟨r0, r1, r2, a0, c0, c1_, c2_, c3_, c4_, c5_⟩ := HX24.out _ hW
                  go_simp
                  first | done | rfl
                simp only [Act.put, List.setIfInBounds_toArray, List.set_cons_zero, List.set_cons_succ, List.getElem_toArray, List.getElem_cons_zero, List.getElem_cons_succ]
                refine s_take (i := 14) (v := ?_) rfl (by kernel_rfl) (by kernel_rfl) (by kernel_rfl) (k0 := 14) (by kernel_rfl) (by kernel_rfl) (.inl rfl) (fun _ _ _ h => h) (by rfl) HC.out ?_ ?_
                rotate_left
                · intro W hW
                  go_simp
                  first | done | rfl
                simp only [Act.put, List.setIfInBounds_toArray, List.set_cons_zero, List.set_cons_succ, List.getElem_toArray, List.getElem_cons_zero, List.getElem_cons_succ]
                refine s_take (i := 15) (v := ?_) rfl (by kernel_rfl) (by kernel_rfl) (by kernel_rfl) (k0 := 15) (by kernel_rfl) (by kernel_rfl) (.inl rfl) (fun _ _ _ h => h) (by rfl) HC.out ?_ ?_
                rotate_left
                · intro W hW
                  obtain ⟨r0, r1, r2, a0, c0, c1_, c2_, c3_, c4_, c5_⟩ := HX24.out _ hW
                  go_simp
                  first | done | rfl
                simp only [Act.put, List.setIfInBounds_toArray, List.set_cons_zero, List.set_cons_succ, List.getElem_toArray, List.getElem_cons_zero, List.getElem_cons_succ]
                refine s_take (i := 16) (v := ?_) rfl (by kernel_rfl) (by kernel_rfl) (by kernel_rfl) (k0 := 16) (by kernel_rfl) (by kernel_rfl) (.inl rfl) (fun _ _ _ h => h) (by rfl) HC.out ?_ ?_
                rotate_left
                · intro W hW
                  go_simp
                  first | done | rfl
                simp only [Act.put, List.setIfInBounds_toArray, List.set_cons_zero, List.set_cons_succ, List.getElem_toArray, List.getElem_cons_zero, List.getElem_cons_succ]
                refine s_take (i := 17) (v := ?_) rfl (by kernel_rfl) (by kernel_rfl) (by kernel_rfl) (k0 := 17) (by kernel_rfl) (by kernel_rfl) (.inl rfl) (fun _ _ _ h => h) (by rfl) HC.out ?_ ?_
                rotate_left
                · intro W hW
                  obtain ⟨r0, r1, r2, a0, c0, c1_, c2_, c3_, c4_, c5_⟩ := HX24.out _ hW
                  go_simp
                  first | done | rfl
                simp only [Act.put, List.setIfInBounds_toArray, List.set_cons_zero, List.set_cons_succ, List.getElem_toArray, List.getElem_cons_zero, List.getElem_cons_succ]
                refine s_take (i := 18) (v := ?_) rfl (by kernel_rfl) (by kernel_rfl) (by kernel_rfl) (k0 := 18) (by kernel_rfl) (by kernel_rfl) (.inl rfl) (fun _ _ _ h => h) (by rfl) HC.out ?_ ?_
                rotate_left
                · intro W hW
                  go_simp
                  first | done | rfl
                simp only [Act.put, List.setIfInBounds_toArray, List.set_cons_zero, List.set_cons_succ, List.getElem_toArray, List.getElem_cons_zero, List.getElem_cons_succ]
                refine s_take (i := 19) (v := ?_) rfl (by kernel_rfl) (by kernel_rfl) (by kernel_rfl) (k0 := 19) (by kernel_rfl) (by kernel_rfl) (.inl rfl) (fun _ _ _ h => h) (by rfl) HC.out ?_ ?_
                rotate_left
                · intro W hW
                  obtain ⟨r0, r1, r2, a0, c0, c1_, c2_, c3_, c4_, c5_⟩ := HX24.out _ hW
                  go_simp
                  first | done | rfl
                simp only [Act.put, List.setIfInBounds_toArray, List.set_cons_zero, List.set_cons_succ, List.getElem_toArray, List.getElem_cons_zero, List.getElem_cons_succ]
                refine s_one (i := 20) (by kernel_rfl) ?_
                refine ones_run (i := 20) (v := ?_) (w' := World.alloc (q1) (.cells ([(ag : Int) + (k : Int) + 1, e0, e1, e2, e3, e4, e5, e6].map (Value.int .i64)).toArray 3)) rfl (by rfl) ?_ ?_ ?_
                rotate_left 1
                · go_simp
                  first | done | rfl | (constructor <;> rfl)
                · exact fun _ => HC.out.trans (Below.kept ((Below.refl _ _).alloc (Nat.le_refl _) _))
                simp only [Act.put, List.setIfInBounds_toArray, List.set_cons_zero, List.set_cons_succ, List.getElem_toArray, List.getElem_cons_zero, List.getElem_cons_succ]
                have hN := ints_new2 (q1) (Vl.en8 ((ag + k : Nat) + 1) (e0, e1, e2, e3, e4, e5, e6)) HW8.out (by simp [Vl.en8])
                have HN := Lib.hid hN
                clear hN
                replace HC := Lib.hid (HC.out.trans (Below.kept ((Below.refl _ _).alloc (Nat.le_refl _) (.cells ([(ag : Int) + (k : Int) + 1, e0, e1, e2, e3, e4, e5, e6].map (Value.int .i64)).toArray 3))))
                simp only [Vl.en8, Int.natCast_add, List.length_cons, List.length_nil, Nat.zero_add, Nat.reduceAdd] at HN HRC
                generalize hw6 : World.alloc (q1) (.cells ([(ag : Int) + (k : Int) + 1, e0, e1, e2, e3, e4, e5, e6].map (Value.int .i64)).toArray 3) = q2 at *
                clear hw6
                generalize hgN : (q1).heap.size = gN at *
                have HGN := Lib.hid hgN
                clear hgN
                refine s_one (i := 21) (by kernel_rfl) ?_
                refine ones_call (i := 21) (f := 30) (args := ?_) rfl (by rfl) ?_ ?_
                rotate_left
                · go_simp
                  first | done | rfl
                with_reducible refine (HRC.out _ _ (by exact HN.out)).mono ?_
                rintro e q3 ⟨A3, c3, rfl, ho3, hb⟩
                refine ⟨_, rfl, fun _ => HC.out.trans (Below.kept hb), ?_⟩
                replace HC := Lib.hid (HC.out.trans (Below.kept hb))
                clear hb
                simp only [Act.put, List.setIfInBounds_toArray, List.set_cons_zero, List.set_cons_succ, List.getElem_toArray, List.getElem_cons_zero, List.getElem_cons_succ]
                refine s_take (i := 22) (v := ?_) rfl (by kernel_rfl) (by kernel_rfl) (by kernel_rfl) (k0 := 22) (by kernel_rfl) (by kernel_rfl) (.inl rfl) (fun _ _ _ h => h) (by rfl) HC.out ?_ ?_
                rotate_left
                · intro W hW
                  go_simp
                  first | done | rfl
                simp only [Act.put, List.setIfInBounds_toArray, List.set_cons_zero, List.set_cons_succ, List.getElem_toArray, List.getElem_cons_zero, List.getElem_cons_succ]
                refine s_take (i := 23) (v := ?_) rfl (by kernel_rfl) (by kernel_rfl) (by kernel_rfl) (k0 := 23) (by kernel_rfl) (by kernel_rfl) (.inl rfl) (fun _ _ _ h => h) (by rfl) HC.out ?_ ?_
                rotate_left
                · intro W hW
                  go_simp
                  first | done | rfl
                simp only [Act.put, List.setIfInBounds_toArray, List.set_cons_zero, List.set_cons_succ, List.getElem_toArray, List.getElem_cons_zero, List.getElem_cons_succ]
                refine s_take (i := 24) (v := ?_) rfl (by kernel_rfl) (by kernel_rfl) (by kernel_rfl) (k0 := 24) (by kernel_rfl) (by kernel_rfl) (.inl rfl) (fun _ _ _ h => h) (by rfl) HC.out ?_ ?_
                rotate_left
                · intro W hW
                  go_simp
                  first | done | rfl
                simp only [Act.put, List.setIfInBounds_toArray, List.set_cons_zero, List.set_cons_succ, List.getElem_toArray, List.getElem_cons_zero, List.getElem_cons_succ]
                refine s_take (i := 25) (v := ?_) rfl (by kernel_rfl) (by kernel_rfl) (by kernel_rfl) (k0 := 25) (by kernel_rfl) (by kernel_rfl) (.inl rfl) (fun _ _ _ h => h) (by rfl) HC.out ?_ ?_
                rotate_left
                · intro W hW
                  go_simp
                  first | done | rfl
                simp only [Act.put, List.setIfInBounds_toArray, List.set_cons_zero, List.set_cons_succ, List.getElem_toArray, List.getElem_cons_zero, List.getElem_cons_succ]
                refine s_take (i := 26) (v := ?_) rfl (by kernel_rfl) (by kernel_rfl) (by kernel_rfl) (k0 := 26) (by kernel_rfl) (by kernel_rfl) (.inl rfl) (fun _ _ _ h => h) (by rfl) HC.out ?_ ?_
                rotate_left
                · intro W hW
                  go_simp
                  first | done | rfl
                simp only [Act.put, List.setIfInBounds_toArray, List.set_cons_zero, List.set_cons_succ, List.getElem_toArray, List.getElem_cons_zero, List.getElem_cons_succ]
                refine s_done (by kernel_rfl) ?_
                have hbz : Below (w.heap.size + 2) w1 q3 := (hD1.mono HRR.out.sz).trans (HC.out.below (B := w.heap.size + 2) (fun _ h => h.elim) (by have := HGN.out; omega))
                replace HRR := Lib.hid (HRR.out.below hbz)
                replace HXw := Lib.hid (HXw.out.keep (Below.kept (hD1)) (fun _ _ h => h) |>.keep HC.out (fun _ _ h => h))
                have HO3 := Lib.hid ho3
                clear ho3 hbz HC HX24 HC6 HN HGN HKF HRC HW8 hD1
                generalize hwb : q3 = wb at *
                clear hwb
                generalize hr3 : r3.length = r3l at *
                have HR3L := Lib.hid hr3
                clear hr3
                go_simp
                go_wp2_with (at_builtin; refine wpList_append_sl rfl _ (.tmp 159) rfl rowB (w.heap.size + 2) _ _ rfl HXw.out wb.heap.size _ r3 rfl (by have h := HO3.out; rw [← HR3L.out] at h ⊢; exact h.sl) (by have := HLR.out; have := HTB.out; have := HR3L.out; unfold maxLen; omega) (by have := HLR.out; have := HTB.out; have := HR3L.out; omega) (by have := HRR.out.sz; omega) ?_; intro vy wy howny hgy haty; have hby := below_of_own (Below.refl (w.heap.size + 2) wb) HXw.out hgy (by have := HRR.out.sz; omega); have HXy := Lib.hid howny; have HRY := Lib.hid (HRR.out.below hby); clear hgy haty howny hby)
                have hw3 : IntKind.i64.wrap ((ag : Int) + (k : Int) + 1) = (ag : Int) + (k : Int) + 1 := hw2
                go_roundw
                case rel => exact ⟨k + 1, by omega, by congr 1 <;> omega, by rw [HT2.out, ← List.append_assoc]; exact HXy.out, HRY.out⟩
                case measure => simp [intOf]; omega
              · have i3 : decide ((ag : Int) + (k : Int) < (ln : Int)) = false := by simp; omega
                have hM := HALL.out k (by omega)
                have HXM := Lib.hid HXk.out
                rw [hM] at HXM
                obtain ⟨AX, cX, rfl, -, -⟩ := HXM.out.sl.form
                have hlx : (d ++ M).length = dn + M.length := by rw [List.length_append, HDN.out]
                have HLX := Lib.hid hlx
                rw [hlx] at HXM ⊢
                clear hM hlx HXk HTB HALL HENT HLEN
                generalize hmn : M.length = mn at *
                have HMN := Lib.hid hmn
                clear hmn
                by_cases hfull : 65536 < dn + mn
                · obtain rfl := HFULL.out (by simp) hfull
                  have df : decide ((65536 : Int) < ((dn + mn : Nat) : Int)) = true := by simp; omega
                  have df2 : decide (65536 < dn + mn) = true := by simpa using hfull
                  go_wp2_with fail
                  go_ret
                  exact ⟨rfl, HSAME.out _ HRR.out.bw⟩
                · have hry := HYES.out (by simp) hfull
                  have HRYS := Lib.hid hry
                  have df : decide ((65536 : Int) < ((dn + mn : Nat) : Int)) = false := by simp; omega
                  have df2 : decide (65536 < dn + mn) = false := by simpa using hfull
                  clear hry HFULL HYES
                  obtain ⟨k0, k1, k2, k3, k4⟩ := HRR.out.st.c5
                  obtain ⟨f0, f1, f2, f3, f4⟩ := HRR.out.st.f5
                  obtain ⟨p0, p1⟩ := HRR.out.b.c2
                  have hgw0 := HRR.out.gw
                  have hne0 : w.heap.size ≠ g := by omega
                  have hne1 : w.heap.size + 1 ≠ g := by omega
                  have hq := HRR.out.b.far (p := ⟨g, 0, none⟩) hne0 (.slice AX (dn + mn) cX)
                  obtain ⟨p2, p3⟩ := hq.c2
                  have hq2 := HRR.out.l.far (p := ⟨g, 0, none⟩) hne1 (.slice AX (dn + mn) cX)
                  obtain ⟨r3, r4, r5⟩ := hq2.c3
                  have hst1 := HRR.out.st.set 0 (.slice AX (dn + mn) cX)
                  have HST1 := Lib.hid (show Whole _ _ _ #[.slice AX (dn + mn) cX, .int .i64 (sy : Int), .int .i64 t, .int .i64 vo, .slice A2 sn c2] from hst1)
                  obtain ⟨k5, k6, k7, k8, k9⟩ := HST1.out.c5
                  obtain ⟨f5, f6, f7, f8, f9⟩ := HST1.out.f5
                  clear hq hq2 hst1
                  have HSTF := Lib.hid (show Whole _ _ _ #[.slice AX (dn + mn) cX, .int .i64 (sy : Int), .int .i64 b1, .int .i64 b2, .slice Al ln cl] from ((HST1.out.set 2 (.int .i64 b1)).set 3 (.int .i64 b2)).set 4 (.slice Al ln cl))
                  have HK := Lib.hid (((((Below.kept (D := fun b => b = g) HRR.out.bw).set (p := ⟨g, 0, none⟩) (.inl rfl) (.slice AX (dn + mn) cX)).set (p := ⟨g, 2, none⟩) (.inl rfl) (.int .i64 b1)).set (p := ⟨g, 3, none⟩) (.inl rfl) (.int .i64 b2)).set (p := ⟨g, 4, none⟩) (.inl rfl) (.slice Al ln cl))
                  have HDF := Lib.hid ((((HXM.out.set (p := ⟨g, 0, none⟩) (by simp; omega) (.slice AX (dn + mn) cX)).set (p := ⟨g, 2, none⟩) (by simp; omega) (.int .i64 b1)).set (p := ⟨g, 3, none⟩) (by simp; omega) (.int .i64 b2)).set (p := ⟨g, 4, none⟩) (by simp; omega) (.slice Al ln cl))
                  clear HST1
                  go_wp2_with fail
                  go_ret
                  obtain rfl := HRYS.out
                  refine ⟨rfl, AX, cX, Al, cl, ⟨?_, ?_, ?_, ?_⟩, HK.out⟩
                  · dsimp only
                    rw [HLX.out, HLN.out]
                    exact HSTF.out
                  · dsimp only
                    rw [HLX.out]
                    exact HDF.out.slS.wide (fun b hb _ => .inr (by omega))
                  · dsimp only
                    rw [HLN.out]
                    exact (HL2.out _ HK.out).wide (fun b hb _ => .inl (.inr hb))
                  · rintro ((h | h) | h)
                    · exact hSg h
                    · exact hS2 h
                    · omega
end Go.Proofs.YtcacebkbfnnjbaaDoor
