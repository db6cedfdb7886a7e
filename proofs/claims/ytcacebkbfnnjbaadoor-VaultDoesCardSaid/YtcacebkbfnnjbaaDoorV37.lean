/-
  Parts that the statement rests on, joined: Rcut, Runpack.
-/
import Derived.Test.YtcacebkbfnnjbaaDoorV22
import Derived.Test.YtcacebkbfnnjbaaDoorV29
import Derived.StillTailTactics
import Derived.IntWalk
/-
  What the reference's Cut answers.
-/




namespace Go.Proofs.YtcacebkbfnnjbaaDoor
open Go.RowKit

/-- The error's ending: the empty fields are stored into the result. -/
abbrev nn : Array Value := #[.slice none 0 0, .slice none 0 0]

theorem val_at (l : List UInt8) (i : Nat) (h : i + 1 < l.length) : Fm.val ((l.drop i).take 2) = (l[i]).toNat * 256 + (l[i + 1]).toNat := by
  rw [List.drop_eq_getElem_cons (by omega), List.drop_eq_getElem_cons h, List.take_succ_cons, List.take_succ_cons, List.take_zero]
  simp only [Fm.val, List.foldl]
  omega
set_option maxRecDepth 100000 in
set_option maxHeartbeats 1000000 in
theorem refCut_any (v : Value) (l : List UInt8) (hl : l.length ≤ 1000000) (w : World) (B : Nat) (hB : B ≤ w.heap.size) (hv : Sl w B v l) :
    Calls Tryd.prog 62 #[v] w (CutOut w l (Fm.cut l)) := by
  obtain ⟨A, c, rfl, hlc, _⟩ := hv.form
  match l with
  | [] =>
    clear hv
    go_enter Tryd.func62, Tryd.ntmps62
    go_wp2_with fail
    refine bodyPost_ret (v := .tuple #[.agg #[.slice none 0 0, .slice none 0 0], .int .i64 0, .int .i64 3]) (by simp [results, Tryd.results62, go_sem]) rfl ⟨rfl, ?_⟩
    exact ((Below.refl _ _).alloc (Nat.le_refl _) _).alloc (by simp) _
  | k :: r =>
    obtain ⟨b, off, rfl, _, h0⟩ := hv.byte 0 (by simp)
    have hbw : b < w.heap.size := block_lt_of_cell h0
    have hk : k.toNat < 256 := k.toNat_lt
    simp only [List.getElem_cons_zero, Nat.add_zero] at h0
    have hV := Lib.hid (fun W (h : Below w.heap.size w W) => hv.below (h.mono hB))
    have H0 := Lib.hid (fun W (h : Below w.heap.size w W) => (h.cell (p := ⟨b, off, none⟩) hbw).trans h0)
    have hcut : Fm.cut (k :: r) = match Fm.cutNs k.toNat r with
      | .err e => .err e
      | .ok N r => match Fm.cutD r with
        | .err e => .err e
        | .ok D r => .ok (N, D) r := rfl
    have hb0 : Below w.heap.size w (((w.alloc (.cells nn 88)).alloc (.cells nn 88)).alloc (.cells nn 88)) := (((Below.refl _ _).alloc (Nat.le_refl _) _).alloc (by simp) _).alloc (by simp; omega) _
    have hw0 := (((Whole.new w 88 nn).alloc (.cells nn 88)).alloc (.cells nn 88))
    have hw1 := ((Whole.new (w.alloc (.cells nn 88)) 88 nn).alloc (.cells nn 88))
    have hw2 := (Whole.new ((w.alloc (.cells nn 88)).alloc (.cells nn 88)) 88 nn)
    simp only [World.size_alloc] at hw1 hw2
    have HB0 := Lib.hid hb0
    have HW0 := Lib.hid hw0
    have HW1 := Lib.hid hw1
    have HW2 := Lib.hid hw2
    have HCUT := Lib.hid hcut
    have hnum := Lib.hid (fun W v rr (h : Sl W B v rr) (hrr : rr.length ≤ 1000000) => refNumber_any v rr hrr W B h)
    have hc0 := H0.out _ hb0
    clear hb0 hw0 hw1 hw2 hcut hv h0
    generalize hres : Fm.cut (k :: r) = res at *
    have HRES := Lib.hid hres
    clear hres
    have hL0 : 0 < (k :: r).length := by simp
    have hLe : (((k :: r).length : Int) == 0) = false := by rw [beq_eq_false_iff_ne]; simp; omega
    generalize hLn : (k :: r).length = n at *
    have HLN := Lib.hid hLn
    clear hLn
    generalize k.toNat = kk at *
    go_enter Tryd.func62, Tryd.ntmps62
    go_wp2_with fail
    go_loopw [7, 8] (fun x i wr => ∃ (j at_ : Nat) (N : List Int) (sN : Value), j ≤ kk ∧ i = .int .i64 (j : Int) ∧ x = .int .i64 (at_ : Int) ∧ 1 ≤ at_ ∧ at_ ≤ n ∧ Fm.cutNs j r = .ok N ((k :: r).drop at_) ∧ N.length = j ∧ Own wr (w.heap.size + 3) 3 sN N ∧ Whole wr w.heap.size 88 nn ∧ Whole wr (w.heap.size + 1) 88 nn ∧ Whole wr (w.heap.size + 2) 88 #[sN, .slice none 0 0] ∧ Below w.heap.size w wr) (fun _ i _ => kk - (intOf i).toNat)
    case atStart => exact ⟨0, 1, [], .slice none 0 0, Nat.zero_le _, rfl, rfl, Nat.le_refl _, hL0, rfl, rfl, Own.nil _ _ _, HW0.out, HW1.out, HW2.out, HB0.out⟩
    case round =>
      obtain ⟨j, at_, N, sN, hj, rfl, rfl, ha1, han, hns, hNl, hown, hw0, hw1, hw2, hb⟩ := hrel
      have hc1 := H0.out wr hb
      by_cases hlt : j < kk
      · have hz := hb.size
        have hsl := (hV.out wr hb).drop at_ han
        rw [show Rep.sz UInt8 = 1 from rfl, Nat.mul_one, Option.map_some, add_at] at hsl
        have hrl : ((k :: r).drop at_).length = n - at_ := by rw [List.length_drop, HLN.out]
        have hstop := Lib.hid (fun e (he : Fm.cutN ((k :: r).drop at_) = .err e) => Fm.cutNs_stop hns he hlt)
        have hsnoc := Lib.hid (Fm.cutNs_snoc hns)
        have hdd := Lib.hid (fun i => List.drop_drop (i := i) (j := at_) (l := k :: r))
        generalize (k :: r).drop at_ = rr at *
        have HN : ∃ A' n' c', Hid (Calls Tryd.prog 70 #[.slice A' n' c'] wr (RNumOut wr rr (Fm.cutN rr))) ∧ ((c = at_ ∧ n = at_ ∧ A' = some ⟨b, off, none⟩ ∧ n' = 0 ∧ c' = 0) ∨ (c ≠ at_ ∧ A' = some ⟨b, off + at_, none⟩ ∧ n' = n - at_ ∧ c' = c - at_)) := by
          by_cases hca : c = at_
          · rw [if_pos hca] at hsl
            exact ⟨_, _, _, hnum.out _ _ _ hsl (by omega), .inl ⟨hca, by omega, rfl, by omega, by omega⟩⟩
          · rw [if_neg hca] at hsl
            exact ⟨_, _, _, hnum.out _ _ _ hsl (by omega), .inr ⟨hca, rfl, rfl, rfl⟩⟩
        obtain ⟨A', n', c', HN, hways⟩ := HN
        obtain ⟨As, cs, rfl, _, _⟩ := hown.sl.form
        have hq0 : wr.cell? ⟨w.heap.size, 0, none⟩ = some (.slice none 0 0) := hw0.cell 0
        have hq1 : wr.cell? ⟨w.heap.size, 1, none⟩ = some (.slice none 0 0) := hw0.cell 1
        have hp0 : wr.cell? ⟨w.heap.size + 1, 0, none⟩ = some (.slice none 0 0) := hw1.cell 0
        have hp1 : wr.cell? ⟨w.heap.size + 1, 1, none⟩ = some (.slice none 0 0) := hw1.cell 1
        have hf0 : wr.cell? ⟨w.heap.size + 1 + 1, 0, none⟩ = some (.slice As N.length cs) := hw2.cell 0
        have hg0 := hw0.free 0
        have hg1 := hw0.free 1
        have HOWN := Lib.hid hown
        have HWA := Lib.hid hw0
        have HWB := Lib.hid hw1
        have HWC := Lib.hid hw2
        generalize hnl : N.length = nl at *
        have hnl255 : nl ≤ 255 := by omega
        have HNJ := Lib.hid hNl
        have HNL := Lib.hid hnl
        clear hsl hns hown hw0 hw1 hw2 hNl hnl
        cases hcN : Fm.cutN rr with
        | err er =>
          have hf := hstop.out er hcN
          have her := Fm.cutN_err hcN
          have hfin : res = .err er := by have h := HCUT.out; rw [hf] at h; rw [← HRES.out]; exact HRES.out.trans h
          have HF := Lib.hid hfin
          rw [hcN] at HN
          clear hf hfin hcN hstop hsnoc
          rcases hways with ⟨rfl, rfl, rfl, rfl, rfl⟩ | ⟨hca, rfl, rfl, rfl⟩
          all_goals
            rcases her with rfl | rfl
          all_goals
            go_wp2_with fail
            with_reducible refine HN.out.mono ?_
            rintro e w' ⟨rfl, hw⟩
            subst hw
            go_wp2_with fail
            rw [HF.out]
            refine bodyPost_ret (v := .tuple #[.agg #[.slice none 0 0, .slice none 0 0], .int .i64 0, _]) (by simp [results, Tryd.results62, go_sem, hq0, hq1]) rfl ⟨rfl, (hb.setCell (by simp) _).setCell (by simp) _⟩
        | ok m r2 =>
          have hmay := (Fm.cutN_ok hcN).1
          unfold Fm.may at hmay
          have hsn := hsnoc.out
          rw [hcN] at HN hsn
          have HSN := Lib.hid hsn
          clear hsn hcN hstop hsnoc
          rcases hways with ⟨rfl, rfl, rfl, rfl, rfl⟩ | ⟨hca, rfl, rfl, rfl⟩
          all_goals
            go_wp2_with fail
            with_reducible refine HN.out.mono ?_
            rintro e w' ⟨kN, rfl, hk8, hr2, hkl, hw⟩
            subst hw
            have HR2 := Lib.hid hr2
            clear hr2
            go_wp2_with (at_builtin; refine wpList_append_sl rfl _ (.tmp 42) rfl rowI (w.heap.size + 3) _ N rfl (HOWN.out.alloc _) (wr.heap.size + 1) _ [m] rfl (Sl.new1 wr _ m _ ⟨by omega, by omega⟩ rfl) (by rw [HNL.out]; unfold maxLen; simp; omega) (by rw [HNL.out]; simp; omega) (by have := HWC.out.lt; simp; omega) ?_; intro v3 w3 hown3 hg3 hat3; have hb3 := below_of_own ((Below.refl _ _).alloc (by have := HWC.out.lt; omega) _) (HOWN.out.alloc _) hg3 (by have := HWC.out.lt; simp; omega); have hx0 : w3.cell? ⟨w.heap.size + 1 + 1, 0, none⟩ = some (.slice As nl cs) := (hb3.cell (by simp)).trans hf0; have hy0 : w3.frozen? ⟨w.heap.size + 1 + 1, 0, none⟩ = false := (HWC.out.below hb3 (by omega)).free 0; obtain ⟨A5, c5, rfl, _, _⟩ := hown3.sl.form; have HO3 := Lib.hid hown3; clear hg3 hat3 hown3; generalize (N ++ [m]).length = n5 at *)
            go_roundw
            case rel =>
              have hnj := HNJ.out
              have hd := HR2.out
              refine ⟨j + 1, _, N ++ [m], _, hlt, by go_num, by rw [← Int.natCast_add], by omega, ?_, ?_, by rw [List.length_append, HNL.out, hnj]; rfl, HO3.out.set (by simp) _, ?_, ?_, ?_, (hb.trans (hb3.mono (by omega))).setCell (by simp; omega) _⟩
              · have h2 : kN ≤ rr.length := hkl
                omega
              · have h := HSN.out
                rw [hd, hdd.out] at h
                exact h
              · exact (HWA.out.below hb3 (by omega)).far (by show w.heap.size ≠ w.heap.size + 1 + 1; omega) _
              · exact (HWB.out.below hb3 (by omega)).far (by show w.heap.size + 1 ≠ w.heap.size + 1 + 1; omega) _
              · exact (HWC.out.below hb3 (by omega)).set 0 _
            case measure => simp [intOf]; omega
      · obtain rfl : j = kk := by omega
        have hz := hb.size
        obtain ⟨As, cs, rfl, _, _⟩ := hown.sl.form
        have hq0 : wr.cell? ⟨w.heap.size, 0, none⟩ = some (.slice none 0 0) := hw0.cell 0
        have hq1 : wr.cell? ⟨w.heap.size, 1, none⟩ = some (.slice none 0 0) := hw0.cell 1
        have hp0 : wr.cell? ⟨w.heap.size + 1, 0, none⟩ = some (.slice none 0 0) := hw1.cell 0
        have hp1 : wr.cell? ⟨w.heap.size + 1, 1, none⟩ = some (.slice none 0 0) := hw1.cell 1
        have hf0 : wr.cell? ⟨w.heap.size + 1 + 1, 0, none⟩ = some (.slice As N.length cs) := hw2.cell 0
        have hf1 : wr.cell? ⟨w.heap.size + 1 + 1, 1, none⟩ = some (.slice none 0 0) := hw2.cell 1
        have hg0 := hw0.free 0
        have hg1 := hw0.free 1
        have hfin : res = match Fm.cutD ((k :: r).drop at_) with
          | .err e => .err e
          | .ok D r => .ok (N, D) r := by have h := HCUT.out; rw [hns] at h; exact h
        have hrl : ((k :: r).drop at_).length = n - at_ := by rw [List.length_drop, HLN.out]
        have HOWN := Lib.hid hown
        have HWA := Lib.hid hw0
        have HWB := Lib.hid hw1
        have HWC := Lib.hid hw2
        clear hown hw0 hw1 hw2 hns HCUT HRES hnum
        generalize hnl : N.length = nl at *
        have HNL := Lib.hid hnl
        clear hnl
        by_cases hm : n - at_ < 2
        · have he : Fm.cutD ((k :: r).drop at_) = .err 3 := by unfold Fm.cutD; rw [if_pos (by omega)]
          rw [he] at hfin
          have HF := Lib.hid hfin
          clear he hfin
          have hd2 : decide ((n : Int) - (at_ : Int) < 2) = true := by simp; omega
          go_wp2_with fail
          rw [HF.out]
          refine bodyPost_ret (v := .tuple #[.agg #[.slice none 0 0, .slice none 0 0], .int .i64 0, _]) (by simp [results, Tryd.results62, go_sem, hq0, hq1]) rfl ⟨rfl, (hb.setCell (by simp) _).setCell (by simp) _⟩
        · obtain ⟨b', off', e, _, hx⟩ := (hV.out wr hb).byte at_ (by rw [HLN.out]; omega)
          injection e with e
          injection e with e1 e2
          subst e1 e2
          obtain ⟨b', off', e, _, hy⟩ := (hV.out wr hb).byte (at_ + 1) (by rw [HLN.out]; omega)
          injection e with e
          injection e with e1 e2
          subst e1 e2
          have hsv : Fm.val (((k :: r).drop at_).take 2) = ((k :: r)[at_]'(by rw [HLN.out]; omega)).toNat * 256 + ((k :: r)[at_ + 1]'(by rw [HLN.out]; omega)).toNat := val_at _ _ (by rw [HLN.out]; omega)
          have hxb : ((k :: r)[at_]'(by rw [HLN.out]; omega)).toNat < 256 := UInt8.toNat_lt _
          have hyb : ((k :: r)[at_ + 1]'(by rw [HLN.out]; omega)).toNat < 256 := UInt8.toNat_lt _
          have hcd : Fm.cutD ((k :: r).drop at_) = if 4096 < Fm.val (((k :: r).drop at_).take 2) then .err 7 else if n - at_ - 2 < Fm.val (((k :: r).drop at_).take 2) then .err 3 else .ok (((k :: r).drop (at_ + 2)).take (Fm.val (((k :: r).drop at_).take 2))) (((k :: r).drop (at_ + 2)).drop (Fm.val (((k :: r).drop at_).take 2))) := by
            unfold Fm.cutD
            rw [if_neg (by omega), List.length_drop, hrl, List.drop_drop]
          have hm1 : ¬ ((n : Int) - (at_ : Int) < 2) := by omega
          generalize ((k :: r)[at_]'(by rw [HLN.out]; omega)).toNat = x at *
          generalize ((k :: r)[at_ + 1]'(by rw [HLN.out]; omega)).toNat = y at *
          generalize Fm.val (((k :: r).drop at_).take 2) = s at *
          rw [hcd] at hfin
          have hd2 : decide ((n : Int) - (at_ : Int) < 2) = false := by simp; omega
          have w1 : IntKind.i64.wrap ((x : Int) * 256) = ((x * 256 : Nat) : Int) := by rw [IntKind.wrap_i64]; omega
          have w2 : IntKind.i64.wrap (((x * 256 : Nat) : Int) + (y : Int)) = (s : Int) := by rw [IntKind.wrap_i64]; omega
          have w3 : IntKind.i64.wrap ((at_ : Int) + 1) = ((at_ + 1 : Nat) : Int) := by rw [IntKind.wrap_i64]; omega
          have i1 : (0 : Int) ≤ (at_ : Int) := by omega
          have i2 : (at_ : Int) < (n : Int) := by omega
          have i3 : (0 : Int) ≤ ((at_ + 1 : Nat) : Int) := by omega
          have i4 : ((at_ + 1 : Nat) : Int) < (n : Int) := by omega
          have i5 : at_ < n := by omega
          have i6 : at_ + 1 < n := by omega
          have HFIN := Lib.hid hfin
          have HS := Lib.hid hsv
          clear hfin hsv hcd hrl
          generalize hq : at_ + 1 = q at *
          generalize hp : x * 256 = p at *
          have HQ := Lib.hid hq
          have HP := Lib.hid hp
          clear hq hp
          go_wp2_with fail
          go_quiet (fail)
          clear w1 w2 w3
          have hbd := below_drewN hb nq
          have hz2 : w.heap.size ≤ (wr.drewN nq).heap.size := hz
          have HO2 := Lib.hid (HOWN.out.drewN nq)
          have HW2A := Lib.hid (show Whole (wr.drewN nq) w.heap.size 88 nn from HWA.out)
          have HW2C := Lib.hid (show Whole (wr.drewN nq) (w.heap.size + 1 + 1) 88 #[.slice As nl cs, .slice none 0 0] from HWC.out)
          have hq0' : (wr.drewN nq).cell? ⟨w.heap.size, 0, none⟩ = some (.slice none 0 0) := hq0
          have hq1' : (wr.drewN nq).cell? ⟨w.heap.size, 1, none⟩ = some (.slice none 0 0) := hq1
          have hp0' : (wr.drewN nq).cell? ⟨w.heap.size + 1, 0, none⟩ = some (.slice none 0 0) := hp0
          have hp1' : (wr.drewN nq).cell? ⟨w.heap.size + 1, 1, none⟩ = some (.slice none 0 0) := hp1
          have hf0' : (wr.drewN nq).cell? ⟨w.heap.size + 1 + 1, 0, none⟩ = some (.slice As nl cs) := hf0
          have hf1' : (wr.drewN nq).cell? ⟨w.heap.size + 1 + 1, 1, none⟩ = some (.slice none 0 0) := hf1
          have hg0' : (wr.drewN nq).frozen? ⟨w.heap.size, 0, none⟩ = false := hg0
          have hg1' : (wr.drewN nq).frozen? ⟨w.heap.size, 1, none⟩ = false := hg1
          clear hb hz HOWN HWA HWB HWC hq0 hq1 hp0 hp1 hf0 hf1 hg0 hg1 hx hy hc1 hd2
          generalize wr.drewN nq = w1 at *
          by_cases h4 : 4096 < s
          · have hF := HFIN.out
            rw [if_pos h4] at hF
            have HF := Lib.hid hF
            have h4d : decide ((4096 : Int) < (s : Int)) = true := by simp; omega
            clear hF HFIN
            go_wp2_with fail
            rw [HF.out]
            refine bodyPost_ret (v := .tuple #[.agg #[.slice none 0 0, .slice none 0 0], .int .i64 0, _]) (by simp [results, Tryd.results62, go_sem, hq0', hq1']) rfl ⟨rfl, (hbd.setCell (by simp) _).setCell (by simp) _⟩
          · have h4d : decide ((4096 : Int) < (s : Int)) = false := by simp; omega
            by_cases h5 : n - at_ - 2 < s
            · have hF := HFIN.out
              rw [if_neg h4, if_pos h5] at hF
              have HF := Lib.hid hF
              have h5d : decide ((n : Int) - ((at_ : Int) + 2) < (s : Int)) = true := by simp; omega
              clear hF HFIN
              go_wp2_with fail
              rw [HF.out]
              refine bodyPost_ret (v := .tuple #[.agg #[.slice none 0 0, .slice none 0 0], .int .i64 0, _]) (by simp [results, Tryd.results62, go_sem, hq0', hq1']) rfl ⟨rfl, (hbd.setCell (by simp) _).setCell (by simp) _⟩
            · have hF := HFIN.out
              rw [if_neg h4, if_neg h5] at hF
              have HF := Lib.hid hF
              have h5d : decide ((n : Int) - ((at_ : Int) + 2) < (s : Int)) = false := by simp; omega
              clear hF HFIN
              go_wp2_with fail
              have hle : at_ + 2 + s ≤ n := by omega
              have hsl := (hV.out w1 hbd).drop (at_ + 2) (by omega)
              rw [show Rep.sz UInt8 = 1 from rfl, Nat.mul_one, Option.map_some, add_at] at hsl
              have hpc := hsl.take s (c - (at_ + 2)) (by omega) (by omega) (by have := hsl.room; omega)
              have w4 : IntKind.i64.wrap ((at_ : Int) + 2 + (s : Int)) = ((at_ + 2 + s : Nat) : Int) := by rw [IntKind.wrap_i64]; omega
              have j1 : (0 : Int) ≤ (at_ : Int) + 2 := by omega
              have j2 : (at_ : Int) + 2 ≤ ((at_ + 2 + s : Nat) : Int) := by omega
              have j3 : ((at_ + 2 + s : Nat) : Int) ≤ (c : Int) := by omega
              have hsub : ((k :: r).drop (at_ + 2)).length = n - (at_ + 2) := by rw [List.length_drop, HLN.out]
              have htk : (((k :: r).drop (at_ + 2)).take s).length = s := by rw [List.length_take, hsub]; omega
              have hdl : (((k :: r).drop (at_ + 2)).drop s).length + s + at_ + 2 = n := by rw [List.length_drop, hsub]; omega
              have HTK := Lib.hid htk
              have HDL := Lib.hid hdl
              have hB1 : B ≤ w1.heap.size := Nat.le_trans hB hz2
              clear hsub htk hdl hsl
              have k7 : ((at_ : Int) + 2).toNat = at_ + 2 := by omega
              generalize hD : ((k :: r).drop (at_ + 2)).take s = D at *
              generalize hR : ((k :: r).drop (at_ + 2)).drop s = R at *
              have HPC : ∃ A' s' c', Hid (Sl w1 B (.slice A' s' c') D) ∧ ((c = at_ + 2 ∧ A' = some ⟨b, off, none⟩ ∧ s' = 0 ∧ c' = 0) ∨ (c ≠ at_ + 2 ∧ A' = some ⟨b, off + (at_ + 2), none⟩ ∧ s' = at_ + 2 + s - (at_ + 2) ∧ c' = c - (at_ + 2))) := by
                by_cases hca : c = at_ + 2
                · rw [if_pos hca] at hpc
                  have hs0 : s = 0 := by omega
                  rw [hs0, hca, Nat.sub_self] at hpc
                  exact ⟨_, _, _, hpc, .inl ⟨hca, rfl, rfl, rfl⟩⟩
                · rw [if_neg hca] at hpc
                  exact ⟨_, _, _, hpc, .inr ⟨hca, rfl, by omega, rfl⟩⟩
              obtain ⟨A', s', c', HPC, hways⟩ := HPC
              clear hpc hD hR
              generalize ht : at_ + 2 + s = t at *
              have HT := Lib.hid ht
              have j6 : at_ + 2 ≤ t := by omega
              have j7 : t ≤ n := by omega
              have hl1 : IntKind.i64.wrap ((at_ : Int) + 2) = (at_ : Int) + 2 := by rw [IntKind.wrap_i64]; omega
              clear ht hle
              obtain rfl := hNl
              rcases hways with ⟨hca, rfl, rfl, rfl⟩ | ⟨hca, rfl, rfl, rfl⟩
              · subst hca
                have j4 : ((t : Nat) : Int) ≤ (at_ : Int) + 2 := by omega
                have j5 : t ≤ at_ + 2 := by omega
                go_still_tail 8, (by kernel_rfl)
                clear w4 k7 hl1
                change wpList _ _ _ _ _ w1.drew
                have hbe := hbd.drew
                have hze : w.heap.size ≤ w1.drew.heap.size := hz2
                have HO3 := Lib.hid (HO2.out.drew)
                have HW3A := Lib.hid (show Whole w1.drew w.heap.size 88 nn from HW2A.out)
                have HW3C := Lib.hid (show Whole w1.drew (w.heap.size + 1 + 1) 88 #[.slice As nl cs, .slice none 0 0] from HW2C.out)
                have HPC3 := Lib.hid (HPC.out.below ((Below.refl B w1).drew))
                clear hbd hz2 HO2 HW2A HW2C HPC hq0' hq1' hp0' hp1' hf0' hf1' hg0' hg1'
                generalize w1.drew = w2 at *
                go_wp2_with (at_builtin; refine wpList_append_sl rfl _ (.tmp 86) rfl rowB (w.heap.size + 3) _ [] rfl (Own.nil _ _ _) B _ D rfl HPC3.out (by rw [HTK.out]; unfold maxLen; simp; omega) (by rw [HTK.out]; simp; omega) (by have := HW3C.out.lt; omega) ?_; intro v3 w3 hown3 hg3 hat3; rw [List.nil_append] at hown3; have HON := Lib.hid (HO3.out.kept hg3 (Classical.em _)); have hb3 := (Below.refl (w.heap.size + 3) w2).grown hg3 (by have := HW3C.out.lt; omega) (by intro k h; cases h); have hWA := HW3A.out.below hb3 (by omega); have hWC := HW3C.out.below hb3 (by omega); have hx0 : w3.cell? ⟨w.heap.size + 1 + 1, 0, none⟩ = some (.slice As nl cs) := hWC.cell 0; have hx1 : w3.cell? ⟨w.heap.size + 1 + 1, 1, none⟩ = some (.slice none 0 0) := hWC.cell 1; have hx2 := hWC.free 1; have hy0 : w3.cell? ⟨w.heap.size, 0, none⟩ = some (.slice none 0 0) := hWA.cell 0; have hy1 : w3.cell? ⟨w.heap.size, 1, none⟩ = some (.slice none 0 0) := hWA.cell 1; have hy2 := hWA.free 0; have hy3 := hWA.free 1; obtain ⟨A5, c5, rfl, _, _⟩ := hown3.sl.form; have HO5 := Lib.hid hown3; have HBE := Lib.hid (hbe.trans (hb3.mono (by omega))); clear hg3 hat3 hown3 hWA hWC hb3; generalize D.length = n5 at *)
                rw [HF.out]
                have hE : ((at_ : Int) + 2 + (s : Int)) = ((k :: r).length : Int) - (R.length : Int) := by rw [HLN.out]; have := HDL.out; omega
                refine bodyPost_ret (v := .tuple #[.agg #[.slice As nl cs, .slice A5 n5 c5], .int .i64 ((at_ : Int) + 2 + (s : Int)), .int .i64 0]) (by simp [results, Tryd.results62, go_sem, hy0, hy1]) rfl
                  ⟨_, _, by rw [hE], ((((HON.out.set (by simp) _).set (by simp) _).set (by simp) _).down (by omega)), ((((HO5.out.set (by simp) _).set (by simp) _).set (by simp) _).down (by omega)), ((HBE.out.setCell (by simp; omega) _).setCell (by simp) _).setCell (by simp) _⟩
              · have hca' : ¬ c = at_ + 2 := hca
                go_still_tail 8, (by kernel_rfl)
                clear w4 k7 hl1
                change wpList _ _ _ _ _ w1.drew
                have hbe := hbd.drew
                have hze : w.heap.size ≤ w1.drew.heap.size := hz2
                have HO3 := Lib.hid (HO2.out.drew)
                have HW3A := Lib.hid (show Whole w1.drew w.heap.size 88 nn from HW2A.out)
                have HW3C := Lib.hid (show Whole w1.drew (w.heap.size + 1 + 1) 88 #[.slice As nl cs, .slice none 0 0] from HW2C.out)
                have HPC3 := Lib.hid (HPC.out.below ((Below.refl B w1).drew))
                clear hbd hz2 HO2 HW2A HW2C HPC hq0' hq1' hp0' hp1' hf0' hf1' hg0' hg1'
                generalize w1.drew = w2 at *
                go_wp2_with (at_builtin; refine wpList_append_sl rfl _ (.tmp 86) rfl rowB (w.heap.size + 3) _ [] rfl (Own.nil _ _ _) B _ D rfl HPC3.out (by rw [HTK.out]; unfold maxLen; simp; omega) (by rw [HTK.out]; simp; omega) (by have := HW3C.out.lt; omega) ?_; intro v3 w3 hown3 hg3 hat3; rw [List.nil_append] at hown3; have HON := Lib.hid (HO3.out.kept hg3 (Classical.em _)); have hb3 := (Below.refl (w.heap.size + 3) w2).grown hg3 (by have := HW3C.out.lt; omega) (by intro k h; cases h); have hWA := HW3A.out.below hb3 (by omega); have hWC := HW3C.out.below hb3 (by omega); have hx0 : w3.cell? ⟨w.heap.size + 1 + 1, 0, none⟩ = some (.slice As nl cs) := hWC.cell 0; have hx1 : w3.cell? ⟨w.heap.size + 1 + 1, 1, none⟩ = some (.slice none 0 0) := hWC.cell 1; have hx2 := hWC.free 1; have hy0 : w3.cell? ⟨w.heap.size, 0, none⟩ = some (.slice none 0 0) := hWA.cell 0; have hy1 : w3.cell? ⟨w.heap.size, 1, none⟩ = some (.slice none 0 0) := hWA.cell 1; have hy2 := hWA.free 0; have hy3 := hWA.free 1; obtain ⟨A5, c5, rfl, _, _⟩ := hown3.sl.form; have HO5 := Lib.hid hown3; have HBE := Lib.hid (hbe.trans (hb3.mono (by omega))); clear hg3 hat3 hown3 hWA hWC hb3; generalize D.length = n5 at *)
                rw [HF.out]
                have hE : ((at_ : Int) + 2 + (s : Int)) = ((k :: r).length : Int) - (R.length : Int) := by rw [HLN.out]; have := HDL.out; omega
                refine bodyPost_ret (v := .tuple #[.agg #[.slice As nl cs, .slice A5 n5 c5], .int .i64 ((at_ : Int) + 2 + (s : Int)), .int .i64 0]) (by simp [results, Tryd.results62, go_sem, hy0, hy1]) rfl
                  ⟨_, _, by rw [hE], ((((HON.out.set (by simp) _).set (by simp) _).set (by simp) _).down (by omega)), ((((HO5.out.set (by simp) _).set (by simp) _).set (by simp) _).down (by omega)), ((HBE.out.setCell (by simp; omega) _).setCell (by simp) _).setCell (by simp) _⟩
end Go.Proofs.YtcacebkbfnnjbaaDoor

/-
  What the reference's Unpack answers.
-/


namespace Go.Proofs.YtcacebkbfnnjbaaDoor
open Go.RowKit

set_option maxRecDepth 100000 in
set_option maxHeartbeats 1000000 in
theorem refUnpack_any (v : Value) (l : List UInt8) (hl : l.length ≤ 1000000) (w : World) (B : Nat) (hB : B ≤ w.heap.size) (hv : Sl w B v l) :
    Calls Tryd.prog 51 #[v] w (UnpackOut w (Fm.unpack l)) := by
  have hb0 : Below w.heap.size w (w.alloc (.cells #[.slice none 0 0, .slice none 0 0] 88)) := (Below.refl _ _).alloc (Nat.le_refl _) _
  have hC := refCut_any v l hl (w.alloc (.cells #[.slice none 0 0, .slice none 0 0] 88)) B (by simp; omega) (hv.below (hb0.mono hB))
  obtain ⟨A, c, rfl, _, _⟩ := hv.form
  have HC := Lib.hid hC
  clear hC hv
  cases h1 : Fm.cut l with
  | err er =>
    have hc : Fm.unpack l = .err er := by unfold Fm.unpack; rw [h1]
    rw [hc]
    rw [h1] at HC
    have her := Fm.cut_err h1
    clear h1 hc
    generalize l.length = n at *
    rcases her with rfl | rfl | rfl
    all_goals
      go_enter Tryd.func51, Tryd.ntmps51
      go_wp2_with fail
      refine HC.out.mono ?_
      rintro e w1 ⟨rfl, hb1⟩
      have hb := hb0.trans (hb1.mono (by simp))
      have hW := (Whole.new w _ _).below hb1 (by simp)
      have hlt := hW.lt
      have k0 := hW.cell 0
      have k1 := hW.cell 1
      have f0 := hW.free 0
      have f1 := hW.free 1
      simp at k0 k1
      clear hW
      go_wp2_with fail
      refine bodyPost_ret (v := .tuple #[.agg #[.slice none 0 0, .slice none 0 0], _]) (by simp [results, Tryd.results51, go_sem, k0, k1, hlt]) rfl ⟨rfl, ((hb.setCell (by simp) _).setCell (by simp) _).alloc (by simp; omega) _⟩
  | ok f r =>
    have hrl := Fm.cut_rest h1
    have hc : Fm.unpack l = if r = [] then .ok f [] else .err 2 := by unfold Fm.unpack; rw [h1]
    rw [hc]
    rw [h1] at HC
    clear h1 hc
    by_cases hr : r = []
    · rw [if_pos hr]
      subst hr
      generalize hl0 : l.length = n at *
      have HL := Lib.hid hl0
      clear hl0
      have hne : ((n : Int) != (n : Int)) = false := by simp
      go_enter Tryd.func51, Tryd.ntmps51
      go_wp2_with fail
      refine HC.out.mono ?_
      rintro e w1 ⟨sN, sD, rfl, ho1, ho2, hb1⟩
      rw [HL.out]
      have hb := hb0.trans (hb1.mono (by simp))
      have hW := (Whole.new w _ _).below hb1 (by simp)
      have hlt := hW.lt
      have k0 := hW.cell 0
      have k1 := hW.cell 1
      have f0 := hW.free 0
      have f1 := hW.free 1
      simp at k0 k1
      obtain ⟨A4, c4, rfl, _, _⟩ := ho1.sl.form
      obtain ⟨A5, c5, rfl, _, _⟩ := ho2.sl.form
      have HO1 := Lib.hid (ho1.down (base' := w.heap.size + 1) (by simp))
      have HO2 := Lib.hid (ho2.down (base' := w.heap.size + 1) (by simp))
      clear hW ho1 ho2
      generalize f.1.length = n4 at *
      generalize f.2.length = n5 at *
      go_wp2_with fail
      refine bodyPost_ret (v := .tuple #[.agg #[.slice A4 n4 c4, .slice A5 n5 c5], _]) (by simp [results, Tryd.results51, go_sem, k0, k1, hlt]) rfl
        ⟨_, _, rfl, (((HO1.out.set (by simp) _).set (by simp) _).alloc _).down (by simp), (((HO2.out.set (by simp) _).set (by simp) _).alloc _).down (by simp), ((hb.setCell (by simp) _).setCell (by simp) _).alloc (by simp; omega) _⟩
    · rw [if_neg hr]
      have hm : 0 < r.length := List.length_pos_iff.2 hr
      have hne : ((l.length : Int) - (r.length : Int) != (l.length : Int)) = true := by simp; omega
      generalize hl0 : l.length = n at *
      have HL := Lib.hid hl0
      clear hl0
      generalize hr0 : r.length = m at *
      have HR := Lib.hid hr0
      clear hr0
      go_enter Tryd.func51, Tryd.ntmps51
      go_wp2_with fail
      refine HC.out.mono ?_
      rintro e w1 ⟨sN, sD, rfl, ho1, ho2, hb1⟩
      rw [HL.out, HR.out]
      have hb := hb0.trans (hb1.mono (by simp))
      have hW := (Whole.new w _ _).below hb1 (by simp)
      have hlt := hW.lt
      have k0 := hW.cell 0
      have k1 := hW.cell 1
      have f0 := hW.free 0
      have f1 := hW.free 1
      simp at k0 k1
      obtain ⟨A4, c4, rfl, _, _⟩ := ho1.sl.form
      obtain ⟨A5, c5, rfl, _, _⟩ := ho2.sl.form
      clear hW ho1 ho2
      generalize f.1.length = n4 at *
      generalize f.2.length = n5 at *
      go_wp2_with fail
      refine bodyPost_ret (v := .tuple #[.agg #[.slice none 0 0, .slice none 0 0], _]) (by simp [results, Tryd.results51, go_sem, k0, k1, hlt]) rfl ⟨rfl, ((hb.setCell (by simp) _).setCell (by simp) _).alloc (by simp; omega) _⟩
end Go.Proofs.YtcacebkbfnnjbaaDoor
