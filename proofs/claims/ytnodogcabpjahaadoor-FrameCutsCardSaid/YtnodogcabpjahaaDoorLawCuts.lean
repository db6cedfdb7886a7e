/-
  Of frames that were cut all whole ones are run, and nothing else; what is left is told to lack some: what the law's text comes to.
-/
import Derived.Test.YtnodogcabpjahaaDoorLawBack
namespace Go.Proofs.YtnodogcabpjahaaDoor
open Go.RowKit

/-- A part of one frame's bytes lacks some. -/
theorem get_part {f : Frm.F} (h : Frm.ok f) (j : Nat) (h0 : 0 < j) (hj : j < (Frm.enc f).length) : Frm.get ((Frm.enc f).take j) = Frm.err 3 := by
  obtain ⟨h1, h2, h3⟩ := h
  obtain ⟨t, ht⟩ := Frm.enc_cons f
  have hl := Frm.enc_length f
  have hz : bsz ((Frm.enc f).take j) = (0, 3) ∨ (bsz ((Frm.enc f).take j) = ((f.2.length : Int), 0)) := by
    rw [ht]
    match j, h0 with
    | 1, _ => exact .inl rfl
    | 2, _ => exact .inl rfl
    | 3, _ => exact .inl rfl
    | j + 4, _ =>
      refine .inr ?_
      show (if (83 : UInt8) ≠ 83 then ((0 : Int), (2 : Int)) else if 4096 < (UInt8.ofNat (f.2.length / 256)).toNat * 256 + (UInt8.ofNat (f.2.length % 256)).toNat then (0, 7) else ((((UInt8.ofNat (f.2.length / 256)).toNat * 256 + (UInt8.ofNat (f.2.length % 256)).toNat : Nat) : Int), 0)) = _
      rw [if_neg (by simp), Frm.u8_of (by omega), Frm.u8_of (by omega), show f.2.length / 256 * 256 + f.2.length % 256 = f.2.length by omega, if_neg (by omega)]
  rw [get_size]
  rcases hz with hz | hz
  · rw [hz, if_neg (by decide)]
  · rw [hz, if_pos rfl]
    unfold Frm.getB
    rw [Int.toNat_natCast, if_neg (by omega), if_pos (by rw [List.length_take]; omega)]
theorem encs_take_mono (l : List Frm.F) {i j : Nat} (h : i ≤ j) : (Frm.encs (l.take i)).length ≤ (Frm.encs (l.take j)).length := by
  have e : l.take j = l.take i ++ (l.take j).drop i := by
    have := (List.take_append_drop i (l.take j)).symm
    rwa [List.take_take, Nat.min_eq_left h] at this
  rw [e]
  simp [Frm.encs]
/-- So many frames are whole, up to there. -/
def CutAt (l : List Frm.F) (cut k wh up : Nat) : Prop :=
  wh ≤ k ∧ up = (Frm.encs (l.take wh)).length ∧ up ≤ cut ∧ (wh < k → cut < (Frm.encs (l.take (wh + 1))).length)
theorem cutAt_zero (l : List Frm.F) (cut : Nat) : CutAt l cut 0 0 0 := ⟨Nat.le_refl _, rfl, Nat.zero_le _, fun h => absurd h (by omega)⟩
theorem cutAt_in {l : List Frm.F} {cut k wh up : Nat} (_h : CutAt l cut k wh up) (hle : (Frm.encs (l.take (k + 1))).length ≤ cut) : CutAt l cut (k + 1) (k + 1) (Frm.encs (l.take (k + 1))).length :=
  ⟨Nat.le_refl _, rfl, hle, fun h => absurd h (by omega)⟩
theorem cutAt_out {l : List Frm.F} {cut k wh up : Nat} (h : CutAt l cut k wh up) (hgt : cut < (Frm.encs (l.take (k + 1))).length) : CutAt l cut (k + 1) wh up := by
  obtain ⟨h1, h2, h3, h4⟩ := h
  refine ⟨by omega, h2, h3, fun h => ?_⟩
  rcases Nat.lt_or_ge wh k with h5 | h5
  · exact h4 h5
  · obtain rfl : wh = k := by omega
    exact hgt
theorem cutAt_run {l : List Frm.F} {cut wh up : Nat} (hall : ∀ f ∈ l, Frm.ok f) (h : CutAt l cut l.length wh up) (hc : cut ≤ (Frm.encs l).length) :
    Frm.run ((Frm.encs l).take cut) = (l.take wh, (up : Int), if up < cut then 3 else 0) := by
  obtain ⟨h1, h2, h3, h4⟩ := h
  have hok : ∀ f ∈ l.take wh, Frm.ok f := fun f hf => hall f (List.mem_of_mem_take hf)
  have hsplit : Frm.encs l = Frm.encs (l.take wh) ++ Frm.encs (l.drop wh) := by
    have e : ∀ a b : List Frm.F, Frm.encs (a ++ b) = Frm.encs a ++ Frm.encs b := fun a b => by simp [Frm.encs]
    rw [← e, List.take_append_drop]
  have htk : (Frm.encs l).take cut = Frm.encs (l.take wh) ++ (Frm.encs (l.drop wh)).take (cut - up) := by
    rw [hsplit, List.take_append, h2, List.take_of_length_le (by omega)]
  rw [htk, Frm.run_encs _ _ hok, ← h2]
  by_cases hlt : up < cut
  · rw [if_pos hlt]
    have hwl : wh < l.length := by
      rcases Nat.lt_or_ge wh l.length with h5 | h5
      · exact h5
      · rw [List.take_of_length_le h5] at h2
        omega
    have h6 := h4 hwl
    rw [encs_take_succ l wh hwl, List.length_append, ← h2] at h6
    have hd : (Frm.encs (l.drop wh)).take (cut - up) = (Frm.enc l[wh]).take (cut - up) := by
      rw [List.drop_eq_getElem_cons hwl, Frm.encs_cons, List.take_append_of_le_length (by omega)]
    have hg := get_part (hall _ (List.getElem_mem hwl)) (cut - up) (by omega) (by omega)
    have hne : (Frm.enc l[wh]).take (cut - up) ≠ [] := by
      intro h0
      have := congrArg List.length h0
      rw [List.length_take, List.length_nil] at this
      omega
    rw [hd, Frm.run_stop hne (by rw [hg]; decide), hg]
    simp [Frm.err]
  · rw [if_neg hlt, show cut - up = 0 by omega, List.take_zero, Frm.run_nil]
    simp

set_option maxRecDepth 100000 in
theorem cuts_out (w : World) (hT : Tab w) (A : Option Addr) (n c : Nat) (cut : Int) (_h1 : n ≤ c) (_h2 : c ≤ 9223372036854775807) (hout : 10 < n ∨ cut < 0) :
    Calls Tryd.prog 7 #[.slice A n c, .int .i64 cut] w fun e w' => e = .returned (.bool true) ∧ Below w.heap.size w w' := by
  have HK := Lib.hid (awake_any w hT)
  clear hT
  rcases (show 10 < n ∨ (n ≤ 10 ∧ cut < 0) by omega) with h | ⟨h, h'⟩
  all_goals
    clear hout
    go_enter Tryd.func7, Tryd.ntmps7
    go_wp2_with fail
    refine HK.out.mono ?_
    rintro e w1 ⟨rfl, hb1⟩
    go_wp2_with fail
    go_ret
    exact ⟨rfl, hb1⟩

set_option maxRecDepth 100000 in
set_option maxHeartbeats 1000000 in
theorem cuts_law (w : World) (hT : Tab w) (v1 : Value) (l : List Frm.F) (h1 : Sl w w.heap.size v1 l) (ci : Int) (hci : ci ≤ 9223372036854775807) :
    Calls Tryd.prog 7 #[v1, .int .i64 ci] w fun e w' => e = .returned (.bool true) ∧ Below w.heap.size w w' := by
  obtain ⟨A, c, rfl, hc, hm⟩ := h1.form
  unfold maxLen at hm
  have hpos := hT.pos
  by_cases hout : 10 < l.length ∨ ci < 0
  · exact cuts_out w hT A _ c ci hc (by omega) hout
  · have HK := Lib.hid (awake_any w hT)
    have HL := Lib.hid (fun W (h : Below w.heap.size w W) => h1.below h)
    have HT := Lib.hid (fun W (h : Below w.heap.size w W) => hT.below h hpos)
    have hn10 : l.length ≤ 10 := by omega
    obtain ⟨cut, rfl⟩ := Int.eq_ofNat_of_zero_le (show 0 ≤ ci by omega)
    have H0 := Lib.hid (cutAt_zero l cut)
    have hci2 : cut ≤ 9223372036854775807 := by omega
    clear h1 hT hout
    generalize hnl : l.length = n at *
    have HN := Lib.hid hnl
    clear hnl
    go_enter Tryd.func7, Tryd.ntmps7
    go_wp2_with fail
    refine HK.out.mono ?_
    rintro e w1 ⟨rfl, hb1⟩
    go_wp2_with fail
    go_loopw [6, 7, 8, 9] (fun x a u i wr => ∃ k wh up : Nat, k ≤ n ∧ i = .int .i64 (k : Int) ∧ a = .int .i64 (wh : Int) ∧ u = .int .i64 (up : Int) ∧ CutAt l cut k wh up ∧ OkTo l k ∧ Own wr w.heap.size 5 x (Frm.encs (l.take k)) ∧ Below w.heap.size w wr) (fun _ _ _ i _ => n - (intOf i).toNat)
    case atStart => exact ⟨0, 0, 0, Nat.zero_le _, rfl, rfl, rfl, H0.out, okTo_zero l, Own.nil _ _ _, hb1⟩
    case round =>
      obtain ⟨k, wh, up, hk, rfl, rfl, rfl, hca, hok, hown, hb⟩ := hrel
      by_cases hlt : k < n
      · have hkl : k < l.length := by rw [HN.out]; exact hlt
        have hs := HL.out wr hb
        obtain ⟨b, off, Ab, cb, rfl, hbB, g0, g1, sb⟩ := hs.frame k hkl
        have hP := Lib.hid (put_any (l[k]).1 _ (l[k]).2 wr w.heap.size hb.size sb (HT.out wr hb))
        have HOK := Lib.hid (fun h => okTo_succ hok hkl h)
        have hts := Lib.hid (encs_take_succ l k hkl)
        have hle := encs_len (l.take k) (okTo_take hok)
        rw [List.length_take] at hle
        have hle2 : (Frm.encs (l.take k)).length ≤ 41040 := by omega
        have hin := cutAt_in hca
        have hgt := cutAt_out hca
        have HCA := Lib.hid hca
        have hsl : (Frm.encs (l.take (k + 1))).length = (Frm.encs (l.take k)).length + (Frm.enc l[k]).length := by rw [hts.out, List.length_append]
        obtain ⟨Aa, ca, rfl, _, _⟩ := hown.sl.form
        have HOWN := Lib.hid hown
        generalize hxl1 : (Frm.encs (l.take (k + 1))).length = xl1 at *
        generalize hxl0 : (Frm.encs (l.take k)).length = xl at *
        have HXL := Lib.hid hxl0
        have HXL1 := Lib.hid hxl1
        have HSL := Lib.hid hsl
        have HIN := Lib.hid hin
        have HGT := Lib.hid hgt
        clear hxl0 hxl1 hsl hin hgt hca
        have HB := Lib.hid hb
        have i1 : (0 : Int) ≤ (k : Int) := by omega
        have i2 : (k : Int) < (n : Int) := by omega
        have hput := @Frm.put_ok l[k]
        have hbad := @Frm.put_err l[k]
        have hel := Frm.enc_length l[k]
        clear hs sb hok hle hown hb
        generalize l[k] = f at *
        obtain ⟨fk, fb⟩ := f
        simp only at g0 g1 hP hel
        clear hkl
        by_cases h5 : 5000 < fb.length
        · clear hput hbad hel
          generalize fb.length = fl at *
          go_wp2_with fail
          go_ret
          exact ⟨rfl, HB.out⟩
        · by_cases ho : Frm.ok (fk, fb)
          · have hfb := ho.2.2
            rw [hput ho] at hP
            have HOK2 := Lib.hid (HOK.out ho)
            clear hput hbad HOK ho
            simp only at hfb hel
            generalize Frm.enc (fk, fb) = p at *
            have hpl : p.length ≤ 4104 := by omega
            clear hel
            generalize hpln : p.length = pl at *
            have HPLN := Lib.hid hpln
            clear hpln
            generalize fb.length = fl at *
            have hx1 : xl1 ≤ 45144 := by have := HSL.out; omega
            by_cases hcut : xl1 ≤ cut
            · have hd : decide ((xl : Int) + (pl : Int) ≤ (cut : Int)) = true := by have := HSL.out; simp; omega
              go_wp2_with fail
              with_reducible refine hP.out.mono ?_
              rintro e w3 ⟨A3, c3, rfl, ho3, hb3⟩
              dsimp only at ho3 ⊢
              rw [HPLN.out] at ho3 ⊢
              have HB3 := Lib.hid (HB.out.trans (hb3.mono HB.out.size))
              have HOWN3 := Lib.hid (HOWN.out.below hb3)
              have HS3 := Lib.hid ho3.sl
              clear ho3
              go_wp2_with (at_builtin; refine wpList_append_sl rfl (.tmp 52) (.tmp 53) rfl rowB w.heap.size _ _ rfl HOWN3.out w3.heap.size _ p rfl HS3.out (by rw [HPLN.out, HXL.out]; unfold maxLen; omega) (by rw [HPLN.out, HXL.out]; omega) HB3.out.size ?_; intro v9 w9 hown9 hg9 hat9; have HB9 := Lib.hid (below_of_own HB3.out HOWN3.out hg9 HB3.out.size); obtain ⟨A9, c9, hv9, _⟩ := hown9.sl.form; rw [List.length_append, HXL.out, HPLN.out] at hv9; subst hv9; have HO9 := Lib.hid hown9; clear hg9 hat9 hown9)
              go_roundw
              case rel => exact ⟨k + 1, k + 1, xl1, hlt, by go_num, by go_num, by rw [HSL.out]; go_num, HIN.out hcut, HOK2.out, by rw [hts.out]; exact HO9.out, HB9.out⟩
              case measure => simp [intOf]; omega
            · have hd : decide ((xl : Int) + (pl : Int) ≤ (cut : Int)) = false := by have := HSL.out; simp; omega
              go_wp2_with fail
              with_reducible refine hP.out.mono ?_
              rintro e w3 ⟨A3, c3, rfl, ho3, hb3⟩
              dsimp only at ho3 ⊢
              rw [HPLN.out] at ho3 ⊢
              have HB3 := Lib.hid (HB.out.trans (hb3.mono HB.out.size))
              have HOWN3 := Lib.hid (HOWN.out.below hb3)
              have HS3 := Lib.hid ho3.sl
              clear ho3
              go_wp2_with (at_builtin; refine wpList_append_sl rfl (.tmp 52) (.tmp 53) rfl rowB w.heap.size _ _ rfl HOWN3.out w3.heap.size _ p rfl HS3.out (by rw [HPLN.out, HXL.out]; unfold maxLen; omega) (by rw [HPLN.out, HXL.out]; omega) HB3.out.size ?_; intro v9 w9 hown9 hg9 hat9; have HB9 := Lib.hid (below_of_own HB3.out HOWN3.out hg9 HB3.out.size); obtain ⟨A9, c9, hv9, _⟩ := hown9.sl.form; rw [List.length_append, HXL.out, HPLN.out] at hv9; subst hv9; have HO9 := Lib.hid hown9; clear hg9 hat9 hown9)
              go_roundw
              case rel => exact ⟨k + 1, wh, up, hlt, by go_num, rfl, rfl, HGT.out (by omega), HOK2.out, by rw [hts.out]; exact HO9.out, HB9.out⟩
              case measure => simp [intOf]; omega
          · obtain ⟨hb1, hb2⟩ := hbad ho
            generalize Frm.put (fk, fb) = p at *
            obtain ⟨p1, p2⟩ := p
            simp only at hb1 hb2
            subst hb1
            have hne : (p2 != 0) = true := by simpa using hb2
            clear hput hel hbad ho hb2 HOK
            generalize fb.length = fl at *
            go_wp2_with fail
            with_reducible refine hP.out.mono ?_
            rintro e w3 ⟨A3, c3, rfl, ho3, hb3⟩
            simp only [List.length_nil]
            have hb4 := HB.out.trans (hb3.mono HB.out.size)
            clear ho3
            go_wp2_with fail
            go_ret
            exact ⟨rfl, hb4⟩
      · have hall := okTo_all hok (by rw [HN.out]; omega)
        have hkl : l.take k = l := List.take_of_length_le (by rw [HN.out]; omega)
        rw [hkl] at hown
        have hle := encs_len l hall
        rw [HN.out] at hle
        obtain ⟨Aa, ca, rfl, _, _⟩ := hown.sl.form
        have hrm := hown.sl.room
        have hkn : k = l.length := by rw [HN.out]; omega
        rw [hkn] at hca
        have hrun := cutAt_run hall hca
        have hwl : wh ≤ n := by have := hca.1; rw [HN.out] at this; exact this
        have huc : up ≤ cut := hca.2.2.1
        have HSM := Lib.hid (fun W v1 v2 (h1 : Sl W W.heap.size v1 (l.take wh)) (h2 : Sl W W.heap.size v2 (l.take wh)) => fsame_any v1 v2 (l.take wh) (by rw [List.length_take]; omega) W W.heap.size (Nat.le_refl _) h1 h2)
        have hlw : (l.take wh).length = wh := by rw [List.length_take, HN.out]; omega
        have HLW := Lib.hid hlw
        have hmr : k < n ∨ k = n := by omega
        by_cases hcl : (Frm.encs l).length < cut
        · have hd : decide ((Frm.encs l).length < cut) = true := by simpa using hcl
          clear hown hkl hall hok hrun hca hkn hlw hmr
          generalize (Frm.encs l).length = xl at *
          go_wp2_with fail
          go_ret
          exact ⟨rfl, hb⟩
        · have hd : decide ((Frm.encs l).length < cut) = false := by simpa using hcl
          have hs := hown.sl.take cut ca (by omega) (by omega) (by omega)
          have HR := Lib.hid (run_any _ ((Frm.encs l).take cut) (by rw [List.length_take]; omega) wr wr.heap.size (Nat.le_refl _) hs (HT.out wr hb))
          rw [hrun (by omega)] at HR
          have HLT := Lib.hid (fun W (h : Below w.heap.size w W) => (HL.out W h).take wh c (by omega) (by omega) (by unfold maxLen; omega))
          have HB := Lib.hid hb
          have j1 : cut ≤ ca := by omega
          have j2 : (cut : Int) ≤ (ca : Int) := by omega
          have j3 : (0 : Int) ≤ (cut : Int) := by omega
          have j4 : (wh : Int) ≤ (c : Int) := by omega
          have j5 : (0 : Int) ≤ (wh : Int) := by omega
          have hd1 : ((up : Int) == (up : Int)) = true := by simp
          clear hown hkl hall hok hrun hca hkn hlw hmr hs hb hrm
          generalize (Frm.encs l).length = xl at *
          by_cases hup : up < cut
          · rw [if_pos hup] at HR
            have hd2 : decide (up < cut) = true := by simpa using hup
            go_wp2_with fail
            with_reducible refine HR.out.mono ?_
            rintro e w2 ⟨A3, c3, rfl, ho3, hb2⟩
            dsimp only at ho3 ⊢
            rw [HLW.out] at ho3 ⊢
            have hb3 := HB.out.trans (hb2.mono HB.out.size)
            have HS := Lib.hid (HSM.out w2 _ _ ho3 (HLT.out w2 hb3).here)
            have HB3 := Lib.hid hb3
            clear ho3
            go_wp2_with fail
            with_reducible refine HS.out.mono ?_
            rintro e w4 ⟨rfl, hb4⟩
            have hb5 := HB3.out.trans (hb4.mono HB3.out.size)
            go_wp2_with fail
            go_ret
            exact ⟨rfl, hb5⟩
          · rw [if_neg hup] at HR
            have hd2 : ((up : Int) == (cut : Int)) = true := by simp; omega
            go_wp2_with fail
            with_reducible refine HR.out.mono ?_
            rintro e w2 ⟨A3, c3, rfl, ho3, hb2⟩
            dsimp only at ho3 ⊢
            rw [HLW.out] at ho3 ⊢
            have hb3 := HB.out.trans (hb2.mono HB.out.size)
            have HS := Lib.hid (HSM.out w2 _ _ ho3 (HLT.out w2 hb3).here)
            have HB3 := Lib.hid hb3
            clear ho3
            go_wp2_with fail
            with_reducible refine HS.out.mono ?_
            rintro e w4 ⟨rfl, hb4⟩
            have hb5 := HB3.out.trans (hb4.mono HB3.out.size)
            go_wp2_with fail
            go_ret
            exact ⟨rfl, hb5⟩
end Go.Proofs.YtnodogcabpjahaaDoor
