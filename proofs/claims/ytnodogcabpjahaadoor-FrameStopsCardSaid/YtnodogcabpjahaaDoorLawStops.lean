/-
  Frames are run up to the first bytes that are none, whatever follows behind: what the law's text comes to.
-/
import Derived.Test.YtnodogcabpjahaaDoorLawBack
namespace Go.Proofs.YtnodogcabpjahaaDoor
open Go.RowKit

theorem run_bad (l : List Frm.F) (x : UInt8) (r : List UInt8) (h : ∀ f ∈ l, Frm.ok f) (hx : x ≠ 83) : Frm.run (Frm.encs l ++ x :: r) = (l, ((Frm.encs l).length : Int), 2) := by
  have hg : Frm.get (x :: r) = Frm.err 2 := by rw [get_size, bsz_mark hx, if_neg (by decide)]
  have hr : Frm.run (x :: r) = ([], 0, 2) := by
    have := Frm.run_stop (b := x :: r) (by simp) (by rw [hg]; decide)
    rw [this, hg]; rfl
  rw [Frm.run_encs l _ h, hr]
  simp

set_option maxRecDepth 100000 in
theorem stops_out (w : World) (hT : Tab w) (A : Option Addr) (n c : Nat) (A2 : Option Addr) (m c2 : Nat) (_h1 : n ≤ c) (_h2 : c ≤ 9223372036854775807) (_h3 : m ≤ c2) (_h4 : c2 ≤ 9223372036854775807) (hout : 10 < n ∨ m < 1 ∨ 100 < m) :
    Calls Tryd.prog 9 #[.slice A n c, .slice A2 m c2] w fun e w' => e = .returned (.bool true) ∧ Below w.heap.size w w' := by
  have HK := Lib.hid (awake_any w hT)
  clear hT
  rcases (show 10 < n ∨ (n ≤ 10 ∧ m < 1) ∨ (n ≤ 10 ∧ 1 ≤ m ∧ 100 < m) by omega) with h | ⟨h, h'⟩ | ⟨h, h', h''⟩
  all_goals
    clear hout
    go_enter Tryd.func9, Tryd.ntmps9
    go_wp2_with fail
    refine HK.out.mono ?_
    rintro e w1 ⟨rfl, hb1⟩
    go_wp2_with fail
    go_ret
    exact ⟨rfl, hb1⟩

set_option maxRecDepth 100000 in
set_option maxHeartbeats 1000000 in
theorem stops_law (w : World) (hT : Tab w) (v1 v2 : Value) (l : List Frm.F) (mo : List UInt8) (h1 : Sl w w.heap.size v1 l) (h2 : Sl w w.heap.size v2 mo) :
    Calls Tryd.prog 9 #[v1, v2] w fun e w' => e = .returned (.bool true) ∧ Below w.heap.size w w' := by
  obtain ⟨A, c, rfl, hc, hm⟩ := h1.form
  obtain ⟨A2, c2, rfl, hc2, hm2⟩ := h2.form
  unfold maxLen at hm hm2
  have hpos := hT.pos
  by_cases hout : 10 < l.length ∨ mo.length < 1 ∨ 100 < mo.length
  · exact stops_out w hT A _ c A2 _ c2 hc (by omega) hc2 (by omega) hout
  · have HK := Lib.hid (awake_any w hT)
    have HL := Lib.hid (fun W (h : Below w.heap.size w W) => h1.below h)
    have HM := Lib.hid (fun W (h : Below w.heap.size w W) => h2.below h)
    have HT := Lib.hid (fun W (h : Below w.heap.size w W) => hT.below h hpos)
    have hn10 : l.length ≤ 10 := by omega
    have hm100 : mo.length ≤ 100 := by omega
    have hm1 : 1 ≤ mo.length := by omega
    obtain ⟨x, r, rfl⟩ : ∃ x r, mo = x :: r := by
      cases mo with
      | nil => simp at hm1
      | cons x r => exact ⟨x, r, rfl⟩
    obtain ⟨b0, off0, rfl, hbB0, c0⟩ := h2.byte 0 (by simp)
    simp only [List.getElem_cons_zero, Nat.add_zero] at c0
    have hc0 := Lib.hid (fun W (h : Below w.heap.size w W) => (h.cell (p := ⟨b0, off0, none⟩) hbB0).trans c0)
    clear h1 h2 hT hout c0
    by_cases hx : x = 83
    · have hxb : ((x.toNat : Int) == 83) = true := by rw [hx]; rfl
      clear HL HM
      generalize l.length = n at *
      generalize (x :: r).length = m at *
      generalize x.toNat = xn at *
      go_enter Tryd.func9, Tryd.ntmps9
      go_wp2_with fail
      refine HK.out.mono ?_
      rintro e w1 ⟨rfl, hb1⟩
      have k0 := hc0.out w1 hb1
      go_wp2_with fail
      go_ret
      exact ⟨rfl, hb1⟩
    · have hxb : ((x.toNat : Int) == 83) = false := by rw [beq_eq_false_iff_ne]; exact fun h => hx (mark_int.2 h)
      have hrb := fun h => run_bad l x r h hx
      have HRB := Lib.hid hrb
      clear hrb
      generalize x.toNat = xn at *
      generalize x :: r = mo at *
      clear hx
      generalize hnl : l.length = n at *
      have HN := Lib.hid hnl
      generalize hml : mo.length = m at *
      have HML := Lib.hid hml
      clear hnl hml
      go_enter Tryd.func9, Tryd.ntmps9
      go_wp2_with fail
      refine HK.out.mono ?_
      rintro e w1 ⟨rfl, hb1⟩
      have k0 := hc0.out w1 hb1
      go_wp2_with fail
      clear k0
      go_loopw [6, 7] (fun x i wr => ∃ k : Nat, k ≤ n ∧ i = .int .i64 (k : Int) ∧ OkTo l k ∧ Own wr w.heap.size 5 x (Frm.encs (l.take k)) ∧ Below w.heap.size w wr) (fun _ i _ => n - (intOf i).toNat)
      case atStart => exact ⟨0, Nat.zero_le _, rfl, okTo_zero l, Own.nil _ _ _, hb1⟩
      case round =>
        obtain ⟨k, hk, rfl, hok, hown, hb⟩ := hrel
        by_cases hlt : k < n
        · have hkl : k < l.length := by rw [HN.out]; exact hlt
          have hs := HL.out wr hb
          obtain ⟨b, off, Ab, cb, rfl, hbB, g0, g1, sb⟩ := hs.frame k hkl
          have hP := Lib.hid (put_any (l[k]).1 _ (l[k]).2 wr w.heap.size hb.size sb (HT.out wr hb))
          have HOK := Lib.hid (fun h => okTo_succ hok hkl h)
          have hts := Lib.hid (encs_take_succ l k hkl)
          have hle := encs_len (l.take k) (okTo_take hok)
          rw [List.length_take] at hle
          have hle2 : (Frm.encs (l.take k)).length ≤ 41040 := by omega
          obtain ⟨Aa, ca, rfl, _, _⟩ := hown.sl.form
          have HOWN := Lib.hid hown
          generalize hxl0 : (Frm.encs (l.take k)).length = xl at *
          have HXL := Lib.hid hxl0
          clear hxl0
          have HB := Lib.hid hb
          have i1 : (0 : Int) ≤ (k : Int) := by omega
          have i2 : (k : Int) < (n : Int) := by omega
          have hput := @Frm.put_ok l[k]
          have hbad := @Frm.put_err l[k]
          have hel := Frm.enc_length l[k]
          have hg1 := Lib.hid (fun W (h : Below w.heap.size w W) => (h.cell (p := ⟨b, off + k * 2 + 1, none⟩) hbB))
          have hg1w := Lib.hid ((hg1.out _ HB.out).symm.trans g1)
          clear hs sb hok hle hown hb
          generalize l[k] = f at *
          obtain ⟨fk, fb⟩ := f
          simp only at g0 g1 hP hel hg1w
          clear hkl
          by_cases ho : Frm.ok (fk, fb)
          · have hfb := ho.2.2
            rw [hput ho] at hP
            have HOK2 := Lib.hid (HOK.out ho)
            clear hput hbad HOK ho
            simp only at hfb hel
            generalize Frm.enc (fk, fb) = p at *
            have hpl : p.length ≤ 4104 := by omega
            have HEL := Lib.hid hel
            clear hel
            generalize hpln : p.length = pl at *
            have HPLN := Lib.hid hpln
            clear hpln
            generalize fb.length = fl at *
            have i5 : (0 : Int) ≤ (0 : Int) := by omega
            by_cases h5 : 500 < fl
            · go_wp2_with fail
              with_reducible refine hP.out.mono ?_
              rintro e w3 ⟨A3, c3, rfl, ho3, hb3⟩
              have hb4 := HB.out.trans (hb3.mono HB.out.size)
              have g3 := (hg1.out w3 hb4).trans hg1w.out
              clear ho3
              go_wp2_with fail
              go_ret
              exact ⟨rfl, hb4⟩
            · go_wp2_with fail
              with_reducible refine hP.out.mono ?_
              rintro e w3 ⟨A3, c3, rfl, ho3, hb3⟩
              dsimp only at ho3 ⊢
              rw [HPLN.out] at ho3 ⊢
              have hb4 := HB.out.trans (hb3.mono HB.out.size)
              have g3 := (hg1.out w3 hb4).trans hg1w.out
              have HB3 := Lib.hid hb4
              have HOWN3 := Lib.hid (HOWN.out.below hb3)
              have HS3 := Lib.hid ho3.sl
              clear ho3
              go_wp2_with (at_builtin; refine wpList_append_sl rfl (.tmp 64) (.tmp 65) rfl rowB w.heap.size _ _ rfl HOWN3.out w3.heap.size _ p rfl HS3.out (by rw [HPLN.out, HXL.out]; unfold maxLen; omega) (by rw [HPLN.out, HXL.out]; omega) HB3.out.size ?_; intro v9 w9 hown9 hg9 hat9; have HB9 := Lib.hid (below_of_own HB3.out HOWN3.out hg9 HB3.out.size); have HO9 := Lib.hid hown9; clear hg9 hat9 hown9)
              go_roundw
              case rel => exact ⟨k + 1, hlt, by go_num, HOK2.out, by rw [hts.out]; exact HO9.out, HB9.out⟩
              case measure => simp [intOf]; omega
          · obtain ⟨hb1, hb2⟩ := hbad ho
            generalize Frm.put (fk, fb) = p at *
            obtain ⟨p1, p2⟩ := p
            simp only at hb1 hb2
            subst hb1
            have hne : (p2 != 0) = true := by simpa using hb2
            clear hput hel hbad ho hb2 HOK
            generalize fb.length = fl at *
            go_wp2_with fail
            with_reducible refine hP.out.mono ?_
            rintro e w3 ⟨A3, c3, rfl, ho3, hb3⟩
            simp only [List.length_nil]
            have hb4 := HB.out.trans (hb3.mono HB.out.size)
            clear ho3
            go_wp2_with fail
            go_ret
            exact ⟨rfl, hb4⟩
        · have hall := okTo_all hok (by rw [HN.out]; omega)
          have hkl : l.take k = l := List.take_of_length_le (by rw [HN.out]; omega)
          rw [hkl] at hown
          have hle := encs_len l hall
          rw [HN.out] at hle
          have hrun := HRB.out hall
          have HR := Lib.hid (fun W v (h : Sl W W.heap.size v (Frm.encs l ++ mo)) (hT : Tab W) => run_any v (Frm.encs l ++ mo) (by rw [List.length_append, HML.out]; omega) W W.heap.size (Nat.le_refl _) h hT)
          rw [hrun] at HR
          have HSM := Lib.hid (fun W v1 v2 (h1 : Sl W W.heap.size v1 l) (h2 : Sl W W.heap.size v2 l) => fsame_any v1 v2 l (by rw [HN.out]; omega) W W.heap.size (Nat.le_refl _) h1 h2)
          obtain ⟨Aa, ca, rfl, _, _⟩ := hown.sl.form
          have HB := Lib.hid hb
          have HOWN := Lib.hid hown
          clear hown hrun hkl hall hok hb
          generalize hxl0 : (Frm.encs l).length = xl at *
          have HXL := Lib.hid hxl0
          clear hxl0
          have hd : ((xl : Int) == (xl : Int)) = true := by simp
          have hxle : xl ≤ 41040 := by omega
          have tok : True := trivial
          go_wp2_with (first
            | (at_builtin; have _t := tok; refine wpList_append_sl rfl _ (.tmp 68) rfl rowB wr.heap.size _ [] rfl (Own.nil _ _ _) wr.heap.size _ (Frm.encs l) rfl HOWN.out.sl (by rw [HXL.out]; unfold maxLen; simp; omega) (by rw [HXL.out]; simp; omega) (Nat.le_refl _) ?_; intro v4 w4 hown4 hg4 hat4; rw [List.nil_append] at hown4; have HB4 := Lib.hid (below_of_own (Below.refl wr.heap.size wr) (Own.nil wr wr.heap.size 5 (α := UInt8)) hg4 (Nat.le_refl _)); have HO4 := Lib.hid hown4; clear hg4 hat4 hown4 tok)
            | (at_builtin; refine wpList_append_sl rfl (.tmp 69) (.tmp 70) rfl rowB wr.heap.size _ (Frm.encs l) rfl HO4.out w.heap.size _ mo rfl (HM.out _ (HB.out.trans (HB4.out.mono HB.out.size))) (by rw [HXL.out, HML.out]; unfold maxLen; omega) (by rw [HXL.out, HML.out]; omega) HB4.out.size ?_; intro v5 w5 hown5 hg5 hat5; have HB5 := Lib.hid (below_of_own HB4.out HO4.out hg5 HB4.out.size); have HO5 := Lib.hid hown5; clear hg5 hat5 hown5))
          have HB5' := Lib.hid (HB.out.trans (HB5.out.mono HB.out.size))
          with_reducible refine (HR.out _ _ HO5.out.sl (HT.out _ HB5'.out)).mono ?_
          rintro e w2 ⟨A3, c3, rfl, ho3, hb2⟩
          dsimp only at ho3 ⊢
          rw [HN.out] at ho3 ⊢
          have hb3 := HB5'.out.trans (hb2.mono HB5'.out.size)
          have HS := Lib.hid (HSM.out w2 _ _ ho3 (HL.out w2 hb3).here)
          have HB3 := Lib.hid hb3
          clear ho3
          go_wp2_with fail
          with_reducible refine HS.out.mono ?_
          rintro e w4 ⟨rfl, hb4⟩
          have hb5 := HB3.out.trans (hb4.mono HB3.out.size)
          go_wp2_with fail
          go_ret
          exact ⟨rfl, hb5⟩
end Go.Proofs.YtnodogcabpjahaaDoor
