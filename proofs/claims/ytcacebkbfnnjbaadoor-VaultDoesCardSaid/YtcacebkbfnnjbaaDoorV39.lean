/-
  Parts that the statement rests on, joined: Rread.
-/
import Derived.Test.YtcacebkbfnnjbaaDoorV13
import Derived.Test.YtcacebkbfnnjbaaDoorV17
import Derived.Test.YtcacebkbfnnjbaaDoorV30
import Derived.Test.YtcacebkbfnnjbaaDoorV38
/-
  What the reference's Read answers.
-/




namespace Go.Proofs.YtcacebkbfnnjbaaDoor
open Go.RowKit

/-- What the reference's Read answers: its log lies in memory made anew. -/
def RRdOut (w : World) (r : Vl.S × Nat) (e : Ending) (w' : World) : Prop :=
  ∃ A c, e = .returned (.tuple #[bv r.1.1.1 r.1.1.2, lv 0 0 (.slice A r.1.2.length c), .int .i64 (r.2 : Int)]) ∧ SlS w' (w.heap.size ≤ ·) (.slice A r.1.2.length c) r.1.2 ∧ Below w.heap.size w w'
theorem readAt_end {b : List UInt8} {u : Nat} {s : Vl.S} (h : ReadAt b u s) (hu : b.length ≤ u) : Vl.read b = (s, u) := by
  refine readAt_stop h ?_
  rw [List.drop_eq_nil_of_le hu]
  rfl

set_option maxRecDepth 100000 in
set_option maxHeartbeats 4000000 in
theorem rrd_any (v : Value) (l : List UInt8) (hl : l.length ≤ 1000000) (w : World) (B : Nat) (hB : B ≤ w.heap.size) (hv : Sl w B v l) :
    Calls Tryd.prog 22 #[v] w (RRdOut w (Vl.read l)) := by
  obtain ⟨A, c, rfl, hc, hm⟩ := hv.form
  unfold maxLen at hm
  have hV := Lib.hid (fun W (h : Below w.heap.size w W) => hv.below (h.mono hB))
  have H0 := Lib.hid (readAt_zero l)
  have hb1 : Below w.heap.size w (w.alloc (.cells #[.int .i64 0, .int .i64 0] 30)) := (Below.refl _ _).alloc (Nat.le_refl _) _
  have hb2 := hb1.alloc hb1.size (.cells #[.int .i64 0, .int .i64 0, .slice none 0 0] 38)
  have HG1 := Lib.hid (((Whole.new w 30 #[.int .i64 0, .int .i64 0]).alloc (.cells #[.int .i64 0, .int .i64 0, .slice none 0 0] 38)).alloc (.cells #[.int .i64 0, .int .i64 0, .slice none 0 0] 33))
  have HG2 := Lib.hid ((Whole.new1 w (.cells #[.int .i64 0, .int .i64 0] 30) 38 #[.int .i64 0, .int .i64 0, .slice none 0 0]).alloc (.cells #[.int .i64 0, .int .i64 0, .slice none 0 0] 33))
  have hG3 := Whole.new ((w.alloc (.cells #[.int .i64 0, .int .i64 0] 30)).alloc (.cells #[.int .i64 0, .int .i64 0, .slice none 0 0] 38)) 33 #[.int .i64 0, .int .i64 0, .slice none 0 0]
  simp only [World.size_alloc, Nat.add_assoc, Nat.reduceAdd] at hG3
  have HG3 := Lib.hid hG3
  have HB0 := Lib.hid (hb2.alloc hb2.size (.cells #[.int .i64 0, .int .i64 0, .slice none 0 0] 33))
  have hsz0 : w.heap.size + 3 ≤ (((w.alloc (.cells #[.int .i64 0, .int .i64 0] 30)).alloc (.cells #[.int .i64 0, .int .i64 0, .slice none 0 0] 38)).alloc (.cells #[.int .i64 0, .int .i64 0, .slice none 0 0] 33)).heap.size := by simp
  clear hv hb1 hb2 hG3
  have HL : Hid (l.length ≤ 1000000) := hl
  generalize hnl : l.length = m at *
  have HN := Lib.hid hnl
  clear hnl
  generalize hR : Vl.read l = R at *
  have HR := Lib.hid hR
  clear hR
  go_enter Tryd.func22, Tryd.ntmps22
  go_wp2_with fail
  go_loopw [6] (fun i wr => ∃ (u : Nat) (s : Vl.S) (As : Option Addr) (cs : Nat), ReadAt l u s ∧ i = .int .i64 (u : Int) ∧ Whole wr (w.heap.size + 2) 33 (stc s.1.1 s.1.2 (.slice As s.2.length cs)) ∧ SlS wr (w.heap.size + 3 ≤ ·) (.slice As s.2.length cs) s.2 ∧ Whole wr w.heap.size 30 #[.int .i64 0, .int .i64 0] ∧ Whole wr (w.heap.size + 1) 38 #[.int .i64 0, .int .i64 0, .slice none 0 0] ∧ Below w.heap.size w wr ∧ w.heap.size + 3 ≤ wr.heap.size) (fun i _ => m - (intOf i).toNat)
  case atStart => exact ⟨0, Vl.zero, none, 0, H0.out, rfl, HG3.out, SlS.nil _ _, HG1.out, HG2.out, HB0.out, hsz0⟩
  case round =>
    obtain ⟨u, s, As, cs, hat, rfl, hst, hsl, hg1, hg2, hb, hszr⟩ := hrel
    have hum : u ≤ m := by have := hat.1; rw [HN.out] at this; exact this
    have hs64 := hat.2.1.len
    clear HG1 HG2 HG3 HB0 hsz0
    have HST := Lib.hid hst
    have HSL := Lib.hid hsl
    have HG1 := Lib.hid hg1
    have HG2 := Lib.hid hg2
    have HB := Lib.hid hb
    clear hst hsl hg1 hg2 hb
    generalize hsn : s.2.length = sn at *
    have HSN := Lib.hid hsn
    clear hsn
    by_cases hlt : u < m
    · have HSTOP := Lib.hid (fun h => (HR.out.symm.trans (readAt_stop hat h)))
      have HSTEP := Lib.hid (fun t h => readAt_step (t := t) hat h)
      have HNO := Lib.hid (@next_none s (l.drop u))
      have HYES := Lib.hid (@next_some s (l.drop u))
      have hlen := Frm.get_len (l.drop u)
      have hfn := @Frm.get_fn (l.drop u)
      have hdr := fun W (h : Below w.heap.size w W) => (hV.out W h).drop u hum
      have hs1 := fun W => run_fromB A m c u (u : Int) rfl hum W
      rw [show Rep.sz UInt8 = 1 from rfl] at hdr
      generalize (if c = u then A else A.map (·.add (u * 1))) = A3 at *
      have hG := Lib.hid (fun W (h : Below w.heap.size w W) => refGet_any _ (l.drop u) (by rw [List.length_drop, HN.out]; omega) W B (Nat.le_trans hB h.size) (hdr W h))
      clear hat hdr
      generalize Vl.next s (l.drop u) = nx at *
      generalize Frm.get (l.drop u) = gg at *
      obtain ⟨⟨gk, gb⟩, gn, ge⟩ := gg
      simp only at HNO HYES HSTEP hlen hfn
      have p0 : decide (u < m) = true := by simpa using hlt
      have p1 : (0 : Int) ≤ (u : Int) := by omega
      have p2 : (u : Int) ≤ (m : Int) := by omega
      go_wp2_with fail
      refine (hG.out _ HB.out).mono ?_
      rintro e w1 ⟨A2, c2, rfl, ho2, hb2⟩
      have hz := HB.out.size
      have hb3 : Below wr.heap.size wr (w1.alloc (.cells #[.int .i64 gk, .slice A2 gb.length c2] 75)) := hb2.alloc hb2.size _
      have HO2 := Lib.hid (SlS.here (ho2.stay (fun b _ hlt => ((Below.refl w1.heap.size w1).alloc (Nat.le_refl _) (.cells #[.int .i64 gk, .slice A2 gb.length c2] 75)).block b hlt)))
      replace HST := Lib.hid (HST.out.below hb3 HST.out.lt)
      replace HSL := Lib.hid (HSL.out.stay (fun b _ hlt => hb3.block b hlt))
      replace HG1 := Lib.hid (HG1.out.below hb3 HG1.out.lt)
      replace HG2 := Lib.hid (HG2.out.below hb3 HG2.out.lt)
      replace HB := Lib.hid (HB.out.trans (hb3.mono hz))
      have hszx := Nat.le_trans hszr hb3.size
      clear ho2 hb2 hb3 hG
      have hgbl := hlen.2.2
      by_cases hge : ge = 0
      · subst hge
        have hnx := HYES.out rfl
        have HNX := Lib.hid hnx
        clear hnx hfn hlen HNO HYES
        have HSP := Lib.hid (rstep_any (w.heap.size + 3 ≤ ·) s (by rw [HSN.out]; exact hs64) (.slice As sn cs) gk (.slice A2 gb.length c2) gb hgbl _ HSL.out HO2.out)
        generalize Vl.step s gk (Vl.nums gb) = P at *
        generalize gb.length = gl at *
        obtain ⟨k0, k1, k2⟩ := HST.out.c3
        go_wp2_with fail
        with_reducible refine HSP.out.mono ?_
        rintro e w3 ⟨v5, rfl, hsl5, hb5⟩
        obtain ⟨A5, c5, rfl, -, -⟩ := hsl5.form
        replace HST := Lib.hid (HST.out.below hb5 HST.out.lt)
        replace HSL := Lib.hid (HSL.out.stay (fun b _ hlt => hb5.block b hlt))
        replace HG1 := Lib.hid (HG1.out.below hb5 HG1.out.lt)
        replace HG2 := Lib.hid (HG2.out.below hb5 HG2.out.lt)
        replace HB := Lib.hid (HB.out.trans (hb5.mono HB.out.size))
        have HS5 := Lib.hid (hsl5.wide (T := fun b => w.heap.size + 3 ≤ b) (fun b hb _ => by omega))
        have hsz3 := Nat.le_trans hszx hb5.size
        clear hsl5 hb5 HSP k0 k1 k2
        cases P with
        | none =>
          have hres := HSTOP.out HNX.out
          have HRES := Lib.hid hres
          clear HNX HSTOP HSTEP hres HS5
          simp only [Option.getD_none, Option.isSome_none, HSN.out]
          replace HST := Lib.hid (HST.out.alloc (.cells (stc s.1.1 s.1.2 (.slice A5 sn c5)) 33))
          replace HSL := Lib.hid (HSL.out.stay (fun b _ hlt => ((Below.refl w3.heap.size w3).alloc (Nat.le_refl _) (.cells (stc s.1.1 s.1.2 (.slice A5 sn c5)) 33)).block b hlt))
          replace HG1 := Lib.hid (HG1.out.alloc (.cells (stc s.1.1 s.1.2 (.slice A5 sn c5)) 33))
          replace HG2 := Lib.hid (HG2.out.alloc (.cells (stc s.1.1 s.1.2 (.slice A5 sn c5)) 33))
          replace HB := Lib.hid (HB.out.alloc HB.out.size (.cells (stc s.1.1 s.1.2 (.slice A5 sn c5)) 33))
          have hszy : w.heap.size + 3 ≤ (w3.alloc (.cells (stc s.1.1 s.1.2 (.slice A5 sn c5)) 33)).heap.size := by simp; omega
          go_wp2_with fail
          generalize hwx : World.alloc w3 _ = wx at *
          clear hwx
          refine s_start (fun W => Kept (fun b => b = w.heap.size ∨ b = w.heap.size + 1) (wx).drew W) [] (by kernel_rfl) ?_
          have HC := Lib.hid (Kept.refl (fun b => b = w.heap.size ∨ b = w.heap.size + 1) (wx).drew)
          have HX := Lib.hid (fun W (hW : Kept (fun b => b = w.heap.size ∨ b = w.heap.size + 1) wx.drew W) => (hW.whole (show Whole wx.drew _ _ _ from HST.out) (by omega)).c3)
          replace HSL := Lib.hid HSL.out.drew
          replace HG1 := Lib.hid (show Whole wx.drew _ _ _ from HG1.out)
          replace HG2 := Lib.hid (show Whole wx.drew _ _ _ from HG2.out)
          replace HB := Lib.hid HB.out.drew
          have hszz : w.heap.size + 3 ≤ wx.drew.heap.size := hszy
          clear HST
          generalize (wx).drew = z1 at *
          refine s_take (i := 0) (v := ?_) rfl (by kernel_rfl) (by kernel_rfl) (by kernel_rfl) (k0 := 0) (by kernel_rfl) (by kernel_rfl) (.inl rfl) (fun _ _ _ h => h) (by rfl) HC.out ?_ ?_
          rotate_left
          · intro W hW
            go_simp
            first | done | rfl
          simp only [Act.put, List.setIfInBounds_toArray, List.set_cons_zero, List.set_cons_succ, List.getElem_toArray, List.getElem_cons_zero]
          refine s_take (i := 1) (v := ?_) rfl (by kernel_rfl) (by kernel_rfl) (by kernel_rfl) (k0 := 1) (by kernel_rfl) (by kernel_rfl) (.inl rfl) (fun _ _ _ h => h) (by rfl) HC.out ?_ ?_
          rotate_left
          · intro W hW
            obtain ⟨k0, k1, k2⟩ := HX.out _ hW
            go_simp
            first | done | rfl
          simp only [Act.put, List.setIfInBounds_toArray, List.set_cons_zero, List.set_cons_succ, List.getElem_toArray, List.getElem_cons_zero, List.getElem_cons_succ]
          refine s_take (i := 2) (v := ?_) rfl (by kernel_rfl) (by kernel_rfl) (by kernel_rfl) (k0 := 2) (by kernel_rfl) (by kernel_rfl) (.inl rfl) (fun _ _ _ h => h) (by rfl) HC.out ?_ ?_
          rotate_left
          · intro W hW
            go_simp
            first | done | rfl
          simp only [Act.put, List.setIfInBounds_toArray, List.set_cons_zero, List.set_cons_succ, List.getElem_toArray, List.getElem_cons_zero, List.getElem_cons_succ]
          refine s_take (i := 3) (v := ?_) rfl (by kernel_rfl) (by kernel_rfl) (by kernel_rfl) (k0 := 3) (by kernel_rfl) (by kernel_rfl) (.inl rfl) (fun _ _ _ h => h) (by rfl) HC.out ?_ ?_
          rotate_left
          · intro W hW
            obtain ⟨k0, k1, k2⟩ := HX.out _ hW
            go_simp
            first | done | rfl
          simp only [Act.put, List.setIfInBounds_toArray, List.set_cons_zero, List.set_cons_succ, List.getElem_toArray, List.getElem_cons_zero, List.getElem_cons_succ]
          refine s_take (i := 4) (v := ?_) rfl (by kernel_rfl) (by kernel_rfl) (by kernel_rfl) (k0 := 4) (by kernel_rfl) (by kernel_rfl) (.inl rfl) (fun _ _ _ h => h) (by rfl) HC.out ?_ ?_
          rotate_left
          · intro W hW
            go_simp
            first | done | rfl
          simp only [Act.put, List.setIfInBounds_toArray, List.set_cons_zero, List.set_cons_succ, List.getElem_toArray, List.getElem_cons_zero, List.getElem_cons_succ]
          refine s_take (i := 5) (v := ?_) rfl (by kernel_rfl) (by kernel_rfl) (by kernel_rfl) (k0 := 5) (by kernel_rfl) (by kernel_rfl) (.inl rfl) (fun _ _ _ h => h) (by rfl) HC.out ?_ ?_
          rotate_left
          · intro W hW
            go_simp
            first | done | rfl
          simp only [Act.put, List.setIfInBounds_toArray, List.set_cons_zero, List.set_cons_succ, List.getElem_toArray, List.getElem_cons_zero, List.getElem_cons_succ]
          refine s_one (i := 6) (by kernel_rfl) ?_
          obtain ⟨c_0, c_1⟩ := HG1.out.c2
          obtain ⟨f_0, f_1⟩ := HG1.out.f2
          refine ones_skip (i := 6) (w' := ?_) rfl (by rfl) ?_ ?_ ?_
          rotate_left 1
          · go_simp
            first | done | rfl
          · exact fun _ => ((HC.out.set (p := ⟨w.heap.size, 0, none⟩) (.inl (.inl rfl)) (.int .i64 s.1.1)).set (p := ⟨w.heap.size, 1, none⟩) (.inl (.inl rfl)) (.int .i64 s.1.2))
          simp only [Act.put, List.getElem_toArray, List.getElem_cons_zero, List.getElem_cons_succ]
          clear c_0 f_0 c_1 f_1
          replace HG1 := Lib.hid (show Whole _ _ _ #[.int .i64 s.1.1, .int .i64 s.1.2] from ((HG1.out.set 0 (.int .i64 s.1.1)).set 1 (.int .i64 s.1.2)))
          replace HC := Lib.hid ((HC.out.set (p := ⟨w.heap.size, 0, none⟩) (.inl (.inl rfl)) (.int .i64 s.1.1)).set (p := ⟨w.heap.size, 1, none⟩) (.inl (.inl rfl)) (.int .i64 s.1.2))
          replace HG2 := Lib.hid (HG2.out.far (p := ⟨w.heap.size, 0, none⟩) (by simp) (.int .i64 s.1.1))
          replace HSL := Lib.hid (sls_far HSL.out (p := ⟨w.heap.size, 0, none⟩) (by simp) (.int .i64 s.1.1))
          replace HG2 := Lib.hid (HG2.out.far (p := ⟨w.heap.size, 1, none⟩) (by simp) (.int .i64 s.1.2))
          replace HSL := Lib.hid (sls_far HSL.out (p := ⟨w.heap.size, 1, none⟩) (by simp) (.int .i64 s.1.2))
          generalize hw6 : (World.setCell (World.setCell z1 ⟨w.heap.size, 0, none⟩ (.int .i64 s.1.1)) ⟨w.heap.size, 1, none⟩ (.int .i64 s.1.2)) = z2 at *
          clear hw6
          refine s_one (i := 7) (by kernel_rfl) ?_
          obtain ⟨c_0, c_1, c_2⟩ := HG2.out.c3
          obtain ⟨f_0, f_1, f_2⟩ := HG2.out.f3
          refine ones_skip (i := 7) (w' := ?_) rfl (by rfl) ?_ ?_ ?_
          rotate_left 1
          · go_simp
            first | done | rfl
          · exact fun _ => (((HC.out.set (p := ⟨w.heap.size + 1, 0, none⟩) (.inl (.inr rfl)) (.int .i64 0)).set (p := ⟨w.heap.size + 1, 1, none⟩) (.inl (.inr rfl)) (.int .i64 0)).set (p := ⟨w.heap.size + 1, 2, none⟩) (.inl (.inr rfl)) (.slice As sn cs))
          simp only [Act.put, List.getElem_toArray, List.getElem_cons_zero, List.getElem_cons_succ]
          clear c_0 f_0 c_1 f_1 c_2 f_2
          replace HG2 := Lib.hid (show Whole _ _ _ #[.int .i64 0, .int .i64 0, .slice As sn cs] from (((HG2.out.set 0 (.int .i64 0)).set 1 (.int .i64 0)).set 2 (.slice As sn cs)))
          replace HC := Lib.hid (((HC.out.set (p := ⟨w.heap.size + 1, 0, none⟩) (.inl (.inr rfl)) (.int .i64 0)).set (p := ⟨w.heap.size + 1, 1, none⟩) (.inl (.inr rfl)) (.int .i64 0)).set (p := ⟨w.heap.size + 1, 2, none⟩) (.inl (.inr rfl)) (.slice As sn cs))
          replace HG1 := Lib.hid (HG1.out.far (p := ⟨w.heap.size + 1, 0, none⟩) (by simp) (.int .i64 0))
          replace HSL := Lib.hid (sls_far HSL.out (p := ⟨w.heap.size + 1, 0, none⟩) (by simp) (.int .i64 0))
          replace HG1 := Lib.hid (HG1.out.far (p := ⟨w.heap.size + 1, 1, none⟩) (by simp) (.int .i64 0))
          replace HSL := Lib.hid (sls_far HSL.out (p := ⟨w.heap.size + 1, 1, none⟩) (by simp) (.int .i64 0))
          replace HG1 := Lib.hid (HG1.out.far (p := ⟨w.heap.size + 1, 2, none⟩) (by simp) (.slice As sn cs))
          replace HSL := Lib.hid (sls_far HSL.out (p := ⟨w.heap.size + 1, 2, none⟩) (by simp) (.slice As sn cs))
          generalize hw6 : (World.setCell (World.setCell (World.setCell z2 ⟨w.heap.size + 1, 0, none⟩ (.int .i64 0)) ⟨w.heap.size + 1, 1, none⟩ (.int .i64 0)) ⟨w.heap.size + 1, 2, none⟩ (.slice As sn cs)) = z3 at *
          clear hw6
          refine s_take (i := 8) (v := ?_) rfl (by kernel_rfl) (by kernel_rfl) (by kernel_rfl) (k0 := 8) (by kernel_rfl) (by kernel_rfl) (.inl rfl) (fun _ _ _ h => h) (by rfl) HC.out ?_ ?_
          rotate_left
          · intro W hW
            go_simp
            first | done | rfl
          simp only [Act.put, List.setIfInBounds_toArray, List.set_cons_zero, List.set_cons_succ, List.getElem_toArray, List.getElem_cons_zero, List.getElem_cons_succ]
          refine s_done (by kernel_rfl) ?_
          have HBB := Lib.hid (HB.out.trans (HC.out.below (B := w.heap.size) (fun b hb => by omega) (by omega)))
          go_simp
          go_wp2_with fail
          refine bodyPost_ret (results_bln rfl rfl rfl HG1.out HG2.out) rfl ?_
          have hn := HSN.out
          subst hn
          have hr := HRES.out
          subst hr
          exact ⟨As, cs, rfl, HSL.out.wide (fun b hb _ => by omega), HBB.out⟩
        | some t =>
          simp only [Option.getD_some, Option.isSome_some] at HS5 ⊢
          obtain ⟨n, en, hn0, hun, hat2⟩ := HSTEP.out t HNX.out
          rw [HN.out] at hun
          have HAT := Lib.hid hat2
          clear hat2 HNX HSTOP HSTEP
          subst en
          have hwr : IntKind.i64.wrap ((u : Int) + (n : Int)) = (u : Int) + (n : Int) := by rw [IntKind.wrap_i64]; omega
          replace HST := Lib.hid (HST.out.alloc (.cells (stc t.1.1 t.1.2 (.slice A5 t.2.length c5)) 33))
          obtain ⟨q0, q1, q2⟩ := HST.out.c3
          obtain ⟨f0, f1, f2⟩ := HST.out.f3
          have HST2 := Lib.hid (HST.out.set3 (.int .i64 t.1.1) (.int .i64 t.1.2) (.slice A5 t.2.length c5))
          have hal := (Below.refl w3.heap.size w3).alloc (Nat.le_refl _) (.cells (stc t.1.1 t.1.2 (.slice A5 t.2.length c5)) 33)
          have HS6 := Lib.hid (sls_far (sls_far (sls_far (HS5.out.stay (fun b _ hlt => hal.block b hlt)) (p := ⟨w.heap.size + 2, 0, none⟩) (by simp) (.int .i64 t.1.1)) (p := ⟨w.heap.size + 2, 1, none⟩) (by simp) (.int .i64 t.1.2)) (p := ⟨w.heap.size + 2, 2, none⟩) (by simp) (.slice A5 t.2.length c5))
          replace HG1 := Lib.hid ((((HG1.out.below hal HG1.out.lt).far (p := ⟨w.heap.size + 2, 0, none⟩) (by simp) (.int .i64 t.1.1)).far (p := ⟨w.heap.size + 2, 1, none⟩) (by simp) (.int .i64 t.1.2)).far (p := ⟨w.heap.size + 2, 2, none⟩) (by simp) (.slice A5 t.2.length c5))
          replace HG2 := Lib.hid ((((HG2.out.below hal HG2.out.lt).far (p := ⟨w.heap.size + 2, 0, none⟩) (by simp) (.int .i64 t.1.1)).far (p := ⟨w.heap.size + 2, 1, none⟩) (by simp) (.int .i64 t.1.2)).far (p := ⟨w.heap.size + 2, 2, none⟩) (by simp) (.slice A5 t.2.length c5))
          have HB6 := Lib.hid (below_set3 (HB.out.trans (hal.mono HB.out.size)) (g := w.heap.size + 2) (by omega) (.int .i64 t.1.1) (.int .i64 t.1.2) (.slice A5 t.2.length c5))
          have hszf : w.heap.size + 3 ≤ ((((w3.alloc (.cells (stc t.1.1 t.1.2 (.slice A5 t.2.length c5)) 33)).setCell ⟨w.heap.size + 2, 0, none⟩ (.int .i64 t.1.1)).setCell ⟨w.heap.size + 2, 1, none⟩ (.int .i64 t.1.2)).setCell ⟨w.heap.size + 2, 2, none⟩ (.slice A5 t.2.length c5)).heap.size := by simp [World.setCell]; omega
          clear hal HS5 HB HSL HST
          go_wp2_with fail
          go_roundw
          case rel => exact ⟨u + n, t, A5, c5, HAT.out, by go_num, HST2.out, HS6.out, HG1.out, HG2.out, HB6.out, hszf⟩
          case measure => simp [intOf]; omega
      · have hne : (ge != 0) = true := by simpa using hge
        have hres := HSTOP.out (HNO.out hge)
        have HRES := Lib.hid hres
        clear hge hfn hlen HYES HNO HSTOP HSTEP hres
        generalize gb.length = gl at *
        obtain ⟨k0, k1, k2⟩ := HST.out.c3
        go_wp2_with fail
        clear k0 k1 k2
        generalize hwx : World.alloc w1 _ = wx at *
        clear hwx
        have hszy := hszx
        refine s_start (fun W => Kept (fun b => b = w.heap.size ∨ b = w.heap.size + 1) (wx).drew W) [] (by kernel_rfl) ?_
        have HC := Lib.hid (Kept.refl (fun b => b = w.heap.size ∨ b = w.heap.size + 1) (wx).drew)
        have HX := Lib.hid (fun W (hW : Kept (fun b => b = w.heap.size ∨ b = w.heap.size + 1) wx.drew W) => (hW.whole (show Whole wx.drew _ _ _ from HST.out) (by omega)).c3)
        replace HSL := Lib.hid HSL.out.drew
        replace HG1 := Lib.hid (show Whole wx.drew _ _ _ from HG1.out)
        replace HG2 := Lib.hid (show Whole wx.drew _ _ _ from HG2.out)
        replace HB := Lib.hid HB.out.drew
        have hszz : w.heap.size + 3 ≤ wx.drew.heap.size := hszy
        clear HST
        generalize (wx).drew = z1 at *
        refine s_take (i := 0) (v := ?_) rfl (by kernel_rfl) (by kernel_rfl) (by kernel_rfl) (k0 := 0) (by kernel_rfl) (by kernel_rfl) (.inl rfl) (fun _ _ _ h => h) (by rfl) HC.out ?_ ?_
        rotate_left
        · intro W hW
          go_simp
          first | done | rfl
        simp only [Act.put, List.setIfInBounds_toArray, List.set_cons_zero, List.set_cons_succ, List.getElem_toArray, List.getElem_cons_zero]
        refine s_take (i := 1) (v := ?_) rfl (by kernel_rfl) (by kernel_rfl) (by kernel_rfl) (k0 := 1) (by kernel_rfl) (by kernel_rfl) (.inl rfl) (fun _ _ _ h => h) (by rfl) HC.out ?_ ?_
        rotate_left
        · intro W hW
          obtain ⟨k0, k1, k2⟩ := HX.out _ hW
          go_simp
          first | done | rfl
        simp only [Act.put, List.setIfInBounds_toArray, List.set_cons_zero, List.set_cons_succ, List.getElem_toArray, List.getElem_cons_zero, List.getElem_cons_succ]
        refine s_take (i := 2) (v := ?_) rfl (by kernel_rfl) (by kernel_rfl) (by kernel_rfl) (k0 := 2) (by kernel_rfl) (by kernel_rfl) (.inl rfl) (fun _ _ _ h => h) (by rfl) HC.out ?_ ?_
        rotate_left
        · intro W hW
          go_simp
          first | done | rfl
        simp only [Act.put, List.setIfInBounds_toArray, List.set_cons_zero, List.set_cons_succ, List.getElem_toArray, List.getElem_cons_zero, List.getElem_cons_succ]
        refine s_take (i := 3) (v := ?_) rfl (by kernel_rfl) (by kernel_rfl) (by kernel_rfl) (k0 := 3) (by kernel_rfl) (by kernel_rfl) (.inl rfl) (fun _ _ _ h => h) (by rfl) HC.out ?_ ?_
        rotate_left
        · intro W hW
          obtain ⟨k0, k1, k2⟩ := HX.out _ hW
          go_simp
          first | done | rfl
        simp only [Act.put, List.setIfInBounds_toArray, List.set_cons_zero, List.set_cons_succ, List.getElem_toArray, List.getElem_cons_zero, List.getElem_cons_succ]
        refine s_take (i := 4) (v := ?_) rfl (by kernel_rfl) (by kernel_rfl) (by kernel_rfl) (k0 := 4) (by kernel_rfl) (by kernel_rfl) (.inl rfl) (fun _ _ _ h => h) (by rfl) HC.out ?_ ?_
        rotate_left
        · intro W hW
          go_simp
          first | done | rfl
        simp only [Act.put, List.setIfInBounds_toArray, List.set_cons_zero, List.set_cons_succ, List.getElem_toArray, List.getElem_cons_zero, List.getElem_cons_succ]
        refine s_take (i := 5) (v := ?_) rfl (by kernel_rfl) (by kernel_rfl) (by kernel_rfl) (k0 := 5) (by kernel_rfl) (by kernel_rfl) (.inl rfl) (fun _ _ _ h => h) (by rfl) HC.out ?_ ?_
        rotate_left
        · intro W hW
          go_simp
          first | done | rfl
        simp only [Act.put, List.setIfInBounds_toArray, List.set_cons_zero, List.set_cons_succ, List.getElem_toArray, List.getElem_cons_zero, List.getElem_cons_succ]
        refine s_one (i := 6) (by kernel_rfl) ?_
        obtain ⟨c_0, c_1⟩ := HG1.out.c2
        obtain ⟨f_0, f_1⟩ := HG1.out.f2
        refine ones_skip (i := 6) (w' := ?_) rfl (by rfl) ?_ ?_ ?_
        rotate_left 1
        · go_simp
          first | done | rfl
        · exact fun _ => ((HC.out.set (p := ⟨w.heap.size, 0, none⟩) (.inl (.inl rfl)) (.int .i64 s.1.1)).set (p := ⟨w.heap.size, 1, none⟩) (.inl (.inl rfl)) (.int .i64 s.1.2))
        simp only [Act.put, List.getElem_toArray, List.getElem_cons_zero, List.getElem_cons_succ]
        clear c_0 f_0 c_1 f_1
        replace HG1 := Lib.hid (show Whole _ _ _ #[.int .i64 s.1.1, .int .i64 s.1.2] from ((HG1.out.set 0 (.int .i64 s.1.1)).set 1 (.int .i64 s.1.2)))
        replace HC := Lib.hid ((HC.out.set (p := ⟨w.heap.size, 0, none⟩) (.inl (.inl rfl)) (.int .i64 s.1.1)).set (p := ⟨w.heap.size, 1, none⟩) (.inl (.inl rfl)) (.int .i64 s.1.2))
        replace HG2 := Lib.hid (HG2.out.far (p := ⟨w.heap.size, 0, none⟩) (by simp) (.int .i64 s.1.1))
        replace HSL := Lib.hid (sls_far HSL.out (p := ⟨w.heap.size, 0, none⟩) (by simp) (.int .i64 s.1.1))
        replace HG2 := Lib.hid (HG2.out.far (p := ⟨w.heap.size, 1, none⟩) (by simp) (.int .i64 s.1.2))
        replace HSL := Lib.hid (sls_far HSL.out (p := ⟨w.heap.size, 1, none⟩) (by simp) (.int .i64 s.1.2))
        generalize hw6 : (World.setCell (World.setCell z1 ⟨w.heap.size, 0, none⟩ (.int .i64 s.1.1)) ⟨w.heap.size, 1, none⟩ (.int .i64 s.1.2)) = z2 at *
        clear hw6
        refine s_one (i := 7) (by kernel_rfl) ?_
        obtain ⟨c_0, c_1, c_2⟩ := HG2.out.c3
        obtain ⟨f_0, f_1, f_2⟩ := HG2.out.f3
        refine ones_skip (i := 7) (w' := ?_) rfl (by rfl) ?_ ?_ ?_
        rotate_left 1
        · go_simp
          first | done | rfl
        · exact fun _ => (((HC.out.set (p := ⟨w.heap.size + 1, 0, none⟩) (.inl (.inr rfl)) (.int .i64 0)).set (p := ⟨w.heap.size + 1, 1, none⟩) (.inl (.inr rfl)) (.int .i64 0)).set (p := ⟨w.heap.size + 1, 2, none⟩) (.inl (.inr rfl)) (.slice As sn cs))
        simp only [Act.put, List.getElem_toArray, List.getElem_cons_zero, List.getElem_cons_succ]
        clear c_0 f_0 c_1 f_1 c_2 f_2
        replace HG2 := Lib.hid (show Whole _ _ _ #[.int .i64 0, .int .i64 0, .slice As sn cs] from (((HG2.out.set 0 (.int .i64 0)).set 1 (.int .i64 0)).set 2 (.slice As sn cs)))
        replace HC := Lib.hid (((HC.out.set (p := ⟨w.heap.size + 1, 0, none⟩) (.inl (.inr rfl)) (.int .i64 0)).set (p := ⟨w.heap.size + 1, 1, none⟩) (.inl (.inr rfl)) (.int .i64 0)).set (p := ⟨w.heap.size + 1, 2, none⟩) (.inl (.inr rfl)) (.slice As sn cs))
        replace HG1 := Lib.hid (HG1.out.far (p := ⟨w.heap.size + 1, 0, none⟩) (by simp) (.int .i64 0))
        replace HSL := Lib.hid (sls_far HSL.out (p := ⟨w.heap.size + 1, 0, none⟩) (by simp) (.int .i64 0))
        replace HG1 := Lib.hid (HG1.out.far (p := ⟨w.heap.size + 1, 1, none⟩) (by simp) (.int .i64 0))
        replace HSL := Lib.hid (sls_far HSL.out (p := ⟨w.heap.size + 1, 1, none⟩) (by simp) (.int .i64 0))
        replace HG1 := Lib.hid (HG1.out.far (p := ⟨w.heap.size + 1, 2, none⟩) (by simp) (.slice As sn cs))
        replace HSL := Lib.hid (sls_far HSL.out (p := ⟨w.heap.size + 1, 2, none⟩) (by simp) (.slice As sn cs))
        generalize hw6 : (World.setCell (World.setCell (World.setCell z2 ⟨w.heap.size + 1, 0, none⟩ (.int .i64 0)) ⟨w.heap.size + 1, 1, none⟩ (.int .i64 0)) ⟨w.heap.size + 1, 2, none⟩ (.slice As sn cs)) = z3 at *
        clear hw6
        refine s_take (i := 8) (v := ?_) rfl (by kernel_rfl) (by kernel_rfl) (by kernel_rfl) (k0 := 8) (by kernel_rfl) (by kernel_rfl) (.inl rfl) (fun _ _ _ h => h) (by rfl) HC.out ?_ ?_
        rotate_left
        · intro W hW
          go_simp
          first | done | rfl
        simp only [Act.put, List.setIfInBounds_toArray, List.set_cons_zero, List.set_cons_succ, List.getElem_toArray, List.getElem_cons_zero, List.getElem_cons_succ]
        refine s_done (by kernel_rfl) ?_
        have HBB := Lib.hid (HB.out.trans (HC.out.below (B := w.heap.size) (fun b hb => by omega) (by omega)))
        go_simp
        go_wp2_with fail
        refine bodyPost_ret (results_bln rfl rfl rfl HG1.out HG2.out) rfl ?_
        have hn := HSN.out
        subst hn
        have hr := HRES.out
        subst hr
        exact ⟨As, cs, rfl, HSL.out.wide (fun b hb _ => by omega), HBB.out⟩
    · have hres := HR.out.symm.trans (readAt_end hat (by rw [HN.out]; omega))
      have HRES := Lib.hid hres
      have p0 : decide (u < m) = false := by simpa using hlt
      clear hat hres
      obtain ⟨k0, k1, k2⟩ := HST.out.c3
      go_wp2_with fail
      clear k0 k1 k2
      generalize hwx : wr = wx at *
      clear hwx
      have hszy := hszr
      refine s_start (fun W => Kept (fun b => b = w.heap.size ∨ b = w.heap.size + 1) (wx).drew W) [] (by kernel_rfl) ?_
      have HC := Lib.hid (Kept.refl (fun b => b = w.heap.size ∨ b = w.heap.size + 1) (wx).drew)
      have HX := Lib.hid (fun W (hW : Kept (fun b => b = w.heap.size ∨ b = w.heap.size + 1) wx.drew W) => (hW.whole (show Whole wx.drew _ _ _ from HST.out) (by omega)).c3)
      replace HSL := Lib.hid HSL.out.drew
      replace HG1 := Lib.hid (show Whole wx.drew _ _ _ from HG1.out)
      replace HG2 := Lib.hid (show Whole wx.drew _ _ _ from HG2.out)
      replace HB := Lib.hid HB.out.drew
      have hszz : w.heap.size + 3 ≤ wx.drew.heap.size := hszy
      clear HST
      generalize (wx).drew = z1 at *
      refine s_take (i := 0) (v := ?_) rfl (by kernel_rfl) (by kernel_rfl) (by kernel_rfl) (k0 := 0) (by kernel_rfl) (by kernel_rfl) (.inl rfl) (fun _ _ _ h => h) (by rfl) HC.out ?_ ?_
      rotate_left
      · intro W hW
        go_simp
        first | done | rfl
      simp only [Act.put, List.setIfInBounds_toArray, List.set_cons_zero, List.set_cons_succ, List.getElem_toArray, List.getElem_cons_zero]
      refine s_take (i := 1) (v := ?_) rfl (by kernel_rfl) (by kernel_rfl) (by kernel_rfl) (k0 := 1) (by kernel_rfl) (by kernel_rfl) (.inl rfl) (fun _ _ _ h => h) (by rfl) HC.out ?_ ?_
      rotate_left
      · intro W hW
        obtain ⟨k0, k1, k2⟩ := HX.out _ hW
        go_simp
        first | done | rfl
      simp only [Act.put, List.setIfInBounds_toArray, List.set_cons_zero, List.set_cons_succ, List.getElem_toArray, List.getElem_cons_zero, List.getElem_cons_succ]
      refine s_take (i := 2) (v := ?_) rfl (by kernel_rfl) (by kernel_rfl) (by kernel_rfl) (k0 := 2) (by kernel_rfl) (by kernel_rfl) (.inl rfl) (fun _ _ _ h => h) (by rfl) HC.out ?_ ?_
      rotate_left
      · intro W hW
        go_simp
        first | done | rfl
      simp only [Act.put, List.setIfInBounds_toArray, List.set_cons_zero, List.set_cons_succ, List.getElem_toArray, List.getElem_cons_zero, List.getElem_cons_succ]
      refine s_take (i := 3) (v := ?_) rfl (by kernel_rfl) (by kernel_rfl) (by kernel_rfl) (k0 := 3) (by kernel_rfl) (by kernel_rfl) (.inl rfl) (fun _ _ _ h => h) (by rfl) HC.out ?_ ?_
      rotate_left
      · intro W hW
        obtain ⟨k0, k1, k2⟩ := HX.out _ hW
        go_simp
        first | done | rfl
      simp only [Act.put, List.setIfInBounds_toArray, List.set_cons_zero, List.set_cons_succ, List.getElem_toArray, List.getElem_cons_zero, List.getElem_cons_succ]
      refine s_take (i := 4) (v := ?_) rfl (by kernel_rfl) (by kernel_rfl) (by kernel_rfl) (k0 := 4) (by kernel_rfl) (by kernel_rfl) (.inl rfl) (fun _ _ _ h => h) (by rfl) HC.out ?_ ?_
      rotate_left
      · intro W hW
        go_simp
        first | done | rfl
      simp only [Act.put, List.setIfInBounds_toArray, List.set_cons_zero, List.set_cons_succ, List.getElem_toArray, List.getElem_cons_zero, List.getElem_cons_succ]
      refine s_take (i := 5) (v := ?_) rfl (by kernel_rfl) (by kernel_rfl) (by kernel_rfl) (k0 := 5) (by kernel_rfl) (by kernel_rfl) (.inl rfl) (fun _ _ _ h => h) (by rfl) HC.out ?_ ?_
      rotate_left
      · intro W hW
        go_simp
        first | done | rfl
      simp only [Act.put, List.setIfInBounds_toArray, List.set_cons_zero, List.set_cons_succ, List.getElem_toArray, List.getElem_cons_zero, List.getElem_cons_succ]
      refine s_one (i := 6) (by kernel_rfl) ?_
      obtain ⟨c_0, c_1⟩ := HG1.out.c2
      obtain ⟨f_0, f_1⟩ := HG1.out.f2
      refine ones_skip (i := 6) (w' := ?_) rfl (by rfl) ?_ ?_ ?_
      rotate_left 1
      · go_simp
        first | done | rfl
      · exact fun _ => ((HC.out.set (p := ⟨w.heap.size, 0, none⟩) (.inl (.inl rfl)) (.int .i64 s.1.1)).set (p := ⟨w.heap.size, 1, none⟩) (.inl (.inl rfl)) (.int .i64 s.1.2))
      simp only [Act.put, List.getElem_toArray, List.getElem_cons_zero, List.getElem_cons_succ]
      clear c_0 f_0 c_1 f_1
      replace HG1 := Lib.hid (show Whole _ _ _ #[.int .i64 s.1.1, .int .i64 s.1.2] from ((HG1.out.set 0 (.int .i64 s.1.1)).set 1 (.int .i64 s.1.2)))
      replace HC := Lib.hid ((HC.out.set (p := ⟨w.heap.size, 0, none⟩) (.inl (.inl rfl)) (.int .i64 s.1.1)).set (p := ⟨w.heap.size, 1, none⟩) (.inl (.inl rfl)) (.int .i64 s.1.2))
      replace HG2 := Lib.hid (HG2.out.far (p := ⟨w.heap.size, 0, none⟩) (by simp) (.int .i64 s.1.1))
      replace HSL := Lib.hid (sls_far HSL.out (p := ⟨w.heap.size, 0, none⟩) (by simp) (.int .i64 s.1.1))
      replace HG2 := Lib.hid (HG2.out.far (p := ⟨w.heap.size, 1, none⟩) (by simp) (.int .i64 s.1.2))
      replace HSL := Lib.hid (sls_far HSL.out (p := ⟨w.heap.size, 1, none⟩) (by simp) (.int .i64 s.1.2))
      generalize hw6 : (World.setCell (World.setCell z1 ⟨w.heap.size, 0, none⟩ (.int .i64 s.1.1)) ⟨w.heap.size, 1, none⟩ (.int .i64 s.1.2)) = z2 at *
      clear hw6
      refine s_one (i := 7) (by kernel_rfl) ?_
      obtain ⟨c_0, c_1, c_2⟩ := HG2.out.c3
      obtain ⟨f_0, f_1, f_2⟩ := HG2.out.f3
      refine ones_skip (i := 7) (w' := ?_) rfl (by rfl) ?_ ?_ ?_
      rotate_left 1
      · go_simp
        first | done | rfl
      · exact fun _ => (((HC.out.set (p := ⟨w.heap.size + 1, 0, none⟩) (.inl (.inr rfl)) (.int .i64 0)).set (p := ⟨w.heap.size + 1, 1, none⟩) (.inl (.inr rfl)) (.int .i64 0)).set (p := ⟨w.heap.size + 1, 2, none⟩) (.inl (.inr rfl)) (.slice As sn cs))
      simp only [Act.put, List.getElem_toArray, List.getElem_cons_zero, List.getElem_cons_succ]
      clear c_0 f_0 c_1 f_1 c_2 f_2
      replace HG2 := Lib.hid (show Whole _ _ _ #[.int .i64 0, .int .i64 0, .slice As sn cs] from (((HG2.out.set 0 (.int .i64 0)).set 1 (.int .i64 0)).set 2 (.slice As sn cs)))
      replace HC := Lib.hid (((HC.out.set (p := ⟨w.heap.size + 1, 0, none⟩) (.inl (.inr rfl)) (.int .i64 0)).set (p := ⟨w.heap.size + 1, 1, none⟩) (.inl (.inr rfl)) (.int .i64 0)).set (p := ⟨w.heap.size + 1, 2, none⟩) (.inl (.inr rfl)) (.slice As sn cs))
      replace HG1 := Lib.hid (HG1.out.far (p := ⟨w.heap.size + 1, 0, none⟩) (by simp) (.int .i64 0))
      replace HSL := Lib.hid (sls_far HSL.out (p := ⟨w.heap.size + 1, 0, none⟩) (by simp) (.int .i64 0))
      replace HG1 := Lib.hid (HG1.out.far (p := ⟨w.heap.size + 1, 1, none⟩) (by simp) (.int .i64 0))
      replace HSL := Lib.hid (sls_far HSL.out (p := ⟨w.heap.size + 1, 1, none⟩) (by simp) (.int .i64 0))
      replace HG1 := Lib.hid (HG1.out.far (p := ⟨w.heap.size + 1, 2, none⟩) (by simp) (.slice As sn cs))
      replace HSL := Lib.hid (sls_far HSL.out (p := ⟨w.heap.size + 1, 2, none⟩) (by simp) (.slice As sn cs))
      generalize hw6 : (World.setCell (World.setCell (World.setCell z2 ⟨w.heap.size + 1, 0, none⟩ (.int .i64 0)) ⟨w.heap.size + 1, 1, none⟩ (.int .i64 0)) ⟨w.heap.size + 1, 2, none⟩ (.slice As sn cs)) = z3 at *
      clear hw6
      refine s_take (i := 8) (v := ?_) rfl (by kernel_rfl) (by kernel_rfl) (by kernel_rfl) (k0 := 8) (by kernel_rfl) (by kernel_rfl) (.inl rfl) (fun _ _ _ h => h) (by rfl) HC.out ?_ ?_
      rotate_left
      · intro W hW
        go_simp
        first | done | rfl
      simp only [Act.put, List.setIfInBounds_toArray, List.set_cons_zero, List.set_cons_succ, List.getElem_toArray, List.getElem_cons_zero, List.getElem_cons_succ]
      refine s_done (by kernel_rfl) ?_
      have HBB := Lib.hid (HB.out.trans (HC.out.below (B := w.heap.size) (fun b hb => by omega) (by omega)))
      go_simp
      go_wp2_with fail
      refine bodyPost_ret (results_bln rfl rfl rfl HG1.out HG2.out) rfl ?_
      have hn := HSN.out
      subst hn
      have hr := HRES.out
      subst hr
      exact ⟨As, cs, rfl, HSL.out.wide (fun b hb _ => by omega), HBB.out⟩
end Go.Proofs.YtcacebkbfnnjbaaDoor
