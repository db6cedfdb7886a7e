/-
  RaftRises is true of every input.
-/
import Derived.Test.YtjcljkbalpgfdaaM2
import Derived.Test.YtjcljkbalpgfdaaM11
import Derived.Test.YtjcljkbalpgfdaaM22
import Derived.Test.YtjcljkbalpgfdaaM27
import Derived.Test.YtjcljkbalpgfdaaM28
import Derived.LoopTactic
namespace Go.Proofs.Ytjcljkbalpgfdaa
open Go.RowKit

set_option maxRecDepth 100000 in
set_option maxHeartbeats 8000000 in
theorem rises_law (w : World) (id many b1 b2 l1 l2 : Int) (v : Value) (l : List E) (hv : Sl w w.heap.size v l) (u : Value) (es : List Ev) (hu : Sl w w.heap.size u es) :
    Calls Try.prog 3 #[.int .i64 id, .int .i64 many, bv b1 b2, lv l1 l2 v, u] w fun e w' => e = .returned (.bool true) ∧ Below w.heap.size w w' := by
  obtain ⟨A, c, rfl, hc, hm⟩ := hv.form
  obtain ⟨A2, c2, rfl, hc2, hm2⟩ := hu.form
  unfold maxLen at hm hm2
  have hb0 : Below w.heap.size w ((w.alloc (.cells #[.int .i64 b1, .int .i64 b2] 23)).alloc (.cells #[.int .i64 l1, .int .i64 l2, .slice A l.length c] 26)) := ((Below.refl _ _).alloc (Nat.le_refl _) _).alloc (by simp) _
  have HB := Lib.hid hb0
  have HW1 := Lib.hid ((Whole.new w 23 #[.int .i64 b1, .int .i64 b2]).alloc (.cells #[.int .i64 l1, .int .i64 l2, .slice A l.length c] 26))
  have HW2 := Lib.hid (Whole.new1 w (.cells #[.int .i64 b1, .int .i64 b2] 23) 26 #[.int .i64 l1, .int .i64 l2, .slice A l.length c])
  have HV := Lib.hid (fun W (hb : Below w.heap.size w W) => hv.below hb)
  have HU := Lib.hid (fun W (hb : Below w.heap.size w W) => hu.below hb)
  have HN := Lib.hid (fun W (hb : Below w.heap.size w W) (hl : l.length ≤ 100) => pnew_any id many b1 b2 l1 l2 _ l (· < w.heap.size) W (hv.below hb) hl)
  clear hb0 hv hu
  go_enter Try.func3, Try.ntmps3
  go_wp2_with fail
  with_reducible refine (awake7_any _).mono ?_
  rintro e w1 ⟨rfl, hb1⟩
  have H1 := Lib.hid (HB.out.trans (hb1.mono HB.out.size))
  replace HW1 := Lib.hid (HW1.out.below hb1 HW1.out.lt)
  replace HW2 := Lib.hid (HW2.out.below hb1 HW2.out.lt)
  clear hb1 HB
  go_wp2_with fail
  have hfew := few7_any _ es w1 w.heap.size H1.out.size (HU.out _ H1.out)
  refine hfew.mono ?_
  rintro e w2 ⟨rfl, hb2⟩
  have H2 := Lib.hid (H1.out.trans (hb2.mono H1.out.size))
  replace HW1 := Lib.hid (HW1.out.below hb2 HW1.out.lt)
  replace HW2 := Lib.hid (HW2.out.below hb2 HW2.out.lt)
  clear hb2 H1 hfew
  obtain ⟨p0, p1⟩ := HW1.out.c2
  obtain ⟨r0, r1, r2⟩ := HW2.out.c3
  have HFI := Lib.hid (@Ev.few_iff es)
  generalize Ev.few es = fw at *
  rcases fw with _ | _
  · go_wp2_with fail
    go_ret
    exact ⟨rfl, H2.out⟩
  obtain ⟨hes, hsm⟩ := HFI.out.1 rfl
  have HSM := Lib.hid hsm
  clear hsm HFI
  by_cases h100 : 100 < l.length
  · have d : decide ((100 : Int) < (l.length : Int)) = true := by simp; omega
    go_wp2_with fail
    go_ret
    exact ⟨rfl, H2.out⟩
  have d : decide ((100 : Int) < (l.length : Int)) = false := by simp; omega
  have HPN := Lib.hid (HN.out _ H2.out (by omega))
  have hgood := @Rf.Good.new
  have HGN := Lib.hid (fun n s => @Rf.Good.new n s id many (b1, b2) (l1, l2, l))
  clear HN hgood
  generalize Rf.new id many (b1, b2) (l1, l2, l) = R at *
  go_wp2_with fail
  refine HPN.out.mono ?_
  intro e w3 hp3
  rcases R with _ | ⟨n, s⟩
  · obtain ⟨rfl, hb3⟩ := hp3
    have H3 := Lib.hid (H2.out.trans (hb3.mono H2.out.size))
    go_wp2_with fail
    go_ret
    exact ⟨rfl, H3.out⟩
  obtain ⟨G, p, rfl, hG, hp, hb3⟩ := hp3
  obtain ⟨pg, rfl⟩ := hp.ptr
  have HSo := Lib.hid (Solo.new hp hG H2.out.size)
  have H4 := Lib.hid (H2.out.trans (hb3.mono H2.out.size))
  have HG := Lib.hid (HGN.out n s rfl).1
  clear hb3 H2 hp hG HPN HGN p0 p1 r0 r1 r2 HW1 HW2
  generalize hn : es.length = ne at *
  have HNE := Lib.hid hn
  clear hn
  have e0 : ((0 : Int) != 0) = false := by simp
  go_wp2_with fail
  go_loopw [15] (fun iv wr => ∃ (j : Nat) (s : Rf.St) (G : Nat → Prop), j ≤ ne ∧ iv = .int .i64 (j : Int) ∧ Hid (Rf.Good n s) ∧ Hid (Solo w.heap.size n G s (.pointer (some ⟨pg, 0, none⟩)) wr) ∧ Hid (Below w.heap.size w wr)) (fun iv _ => ne - (intOf iv).toNat)
  case atStart => exact ⟨0, s, G, Nat.zero_le _, rfl, HG, HSo, H4⟩
  case round =>
    clear HSo HG H4
    obtain ⟨j, s, G, hj, rfl, HG, HSo, H4⟩ := hrel
    by_cases hlt : j < ne
    rotate_left
    · go_wp2_with fail
      go_ret
      exact ⟨rfl, H4.out⟩
    have hjl : j < es.length := by rw [HNE.out]; exact hlt
    have hz4 := H4.out.size
    have hsm := HSM.out es[j] (List.getElem_mem hjl)
    obtain ⟨be, oe, X, dx, rfl, hbe, g, tE, hmf, hcf⟩ := (HU.out _ H4.out).ev j hjl
    generalize es[j] = ev at *
    obtain ⟨ek, ⟨k, f, o, t, i, u, cm, y, L⟩, c1, c2_, c3, c4_, c5, c6⟩ := ev
    simp only at g tE hmf hcf hsm
    have hii := hmf.2.2.2.2.1
    simp only at hii
    have hpd := fun W (hso : Solo w.heap.size n G s (.pointer (some ⟨pg, 0, none⟩)) W) (hE : Sl W w.heap.size (.slice X L.length dx) L) => pdid_any n G (fun b => ¬ G b) s HG.out _ W hso.p ek k f o t i u cm y L X dx c1 c2_ c3 c4_ c5 c6 hii hcf (by omega) (hso.old hE)
    have hup := Rf.up_did HG.out (ek, (k, f, o, t, i, u, cm, y, L), (c1, c2_, c3, c4_, c5, c6))
    have hgd := HG.out.did (ek, (k, f, o, t, i, u, cm, y, L), (c1, c2_, c3, c4_, c5, c6))
    generalize Rf.did n s (ek, (k, f, o, t, i, u, cm, y, L), (c1, c2_, c3, c4_, c5, c6)) = R at *
    obtain ⟨s5, n5, ms, er⟩ := R
    simp only at hpd hup hgd
    have HPD := Lib.hid hpd
    have HUP := Lib.hid hup
    have HGD := Lib.hid hgd
    have HC := Lib.hid g
    have HTE := Lib.hid tE
    have hGlt := HSo.out.p.lt
    clear hpd hup hgd g tE hmf hcf hii hjl
    have i1 : (0 : Int) ≤ (j : Int) := by omega
    have i2 : (j : Int) < (ne : Int) := by omega
    go_wp2_with fail
    with_reducible refine (pballot_any n G _ s HG.out _ _ HSo.out.p).mono ?_
    rintro e wa ⟨rfl, hb⟩
    have hza := hb.size
    have hba := hb.alloc hb.size (.cells #[.int .i64 s.b.1, .int .i64 s.b.2] 23)
    have HO := Lib.hid (Whole.new wa 23 #[.int .i64 s.b.1, .int .i64 s.b.2])
    replace HSo := Lib.hid (HSo.out.stay hba)
    have HBR := Lib.hid (hba.mono hz4)
    have hgo : ∀ b, G b → b ≠ wa.heap.size := fun b hb => by have := hGlt b hb; omega
    clear hb hba hGlt
    obtain ⟨o0, o1⟩ := HO.out.c2
    go_wp2_with fail
    with_reducible refine (psettled_any n G _ s HG.out _ _ HSo.out.p).mono ?_
    rintro e wb ⟨rfl, hb⟩
    replace HO := Lib.hid (HO.out.below hb HO.out.lt)
    replace HBR := Lib.hid (HBR.out.trans (hb.mono (Nat.le_trans hz4 HBR.out.size)))
    replace HSo := Lib.hid (HSo.out.stay hb)
    clear hb o0 o1
    obtain ⟨o0, o1⟩ := HO.out.c2
    go_wp2_with fail
    with_reducible refine (prole_any n G _ s HG.out _ _ HSo.out.p).mono ?_
    rintro e wc ⟨rfl, hb⟩
    replace HO := Lib.hid (HO.out.below hb HO.out.lt)
    replace HBR := Lib.hid (HBR.out.trans (hb.mono (Nat.le_trans hz4 HBR.out.size)))
    replace HSo := Lib.hid (HSo.out.stay hb)
    clear hb o0 o1
    obtain ⟨o0, o1⟩ := HO.out.c2
    go_wp2_with fail
    refine (plog_any n G _ s HG.out _ _ HSo.out.p).mono ?_
    rintro e wd ⟨va, rfl, hsa, hb⟩
    obtain ⟨Aa, da, rfl, hda, hma⟩ := SlS.form hsa
    have HA := Lib.hid hsa
    have HSc := HSo
    replace HO := Lib.hid (HO.out.below hb HO.out.lt)
    replace HBR := Lib.hid (HBR.out.trans (hb.mono (Nat.le_trans hz4 HBR.out.size)))
    replace HSo := Lib.hid (HSo.out.stay hb)
    clear hb hsa o0 o1
    obtain ⟨o0, o1⟩ := HO.out.c2
    have hfl := fld_log 0 0 (.slice Aa s.l.length da)
    obtain ⟨g0, g1, g2, g3, g4, g5, g6, g7, g8, g9, g10, g11, g12, g13, g14, g15⟩ := (HC.out.below hbe HBR.out).at16
    go_wp2_with fail
    refine (HPD.out wd HSo.out (HTE.out.below HBR.out)).mono ?_
    rintro e we ⟨v5, rfl, hm5, hst5⟩
    obtain ⟨G5, hso5, hb5, hk5⟩ := HSo.out.does (Nat.le_trans hz4 HBR.out.size) hst5
    have HS5 := Lib.hid hso5
    have H5 := Lib.hid (H4.out.trans (HBR.out.trans hb5))
    have hz5 := H5.out.size
    replace HO := Lib.hid (hk5.whole HO.out (fun hg => hgo _ hg rfl))
    have hA5 := HSc.out.lasts HA.out hk5
    have HA5 := Lib.hid (show Sl we we.heap.size (.slice Aa s.l.length da) s.l from SlS.wide hA5 (fun _ _ h => h))
    clear hm5 hst5 hso5 hb5 hk5 hA5 HA HSc HSo HPD HTE HC HBR H4 hfl hgo o0 o1 g0 g1 g2 g3 g4 g5 g6 g7 g8 g9 g10 g11 g12 g13 g14 g15
    obtain ⟨o0, o1⟩ := HO.out.c2
    go_wp2_with fail
    with_reducible refine (pballot_any n G5 _ s5 HGD.out _ _ HS5.out.p).mono ?_
    rintro e wf ⟨rfl, hb⟩
    have hbn := hb.alloc hb.size (.cells #[.int .i64 s5.b.1, .int .i64 s5.b.2] 23)
    have HW := Lib.hid (Whole.new wf 23 #[.int .i64 s5.b.1, .int .i64 s5.b.2])
    replace HO := Lib.hid (HO.out.below hbn HO.out.lt)
    replace HA5 := Lib.hid (HA5.out.mono hbn.size |>.below (Below.refl _ _) |> fun _ => (show Sl _ _ _ _ from Sl.mono (HA5.out.below hbn) hbn.size))
    replace HS5 := Lib.hid (HS5.out.stay hbn)
    replace H5 := Lib.hid (H5.out.trans (hbn.mono hz5))
    replace hz5 := H5.out.size
    clear hb hbn o0 o1
    obtain ⟨o0, o1⟩ := HO.out.c2
    obtain ⟨n0, n1⟩ := HW.out.c2
    have hub := HUP.out.b
    have d1 : decide (s5.b.1 < s.b.1) = false := by simp; omega
    have huu := HUP.out.u
    have d2 : decide (s5.upto < s.upto) = false := by simp; omega
    clear hub huu
    by_cases hq : s5.b.1 = s.b.1
    rotate_left
    · have eq : (s5.b.1 == s.b.1) = false := by simpa using hq
      go_wp2_with fail
      with_reducible refine (psettled_any n G5 _ s5 HGD.out _ _ HS5.out.p).mono ?_
      rintro e wg ⟨rfl, hb⟩
      replace HO := Lib.hid (HO.out.below hb HO.out.lt)
      replace HW := Lib.hid (HW.out.below hb HW.out.lt)
      replace HA5 := Lib.hid (Sl.mono (HA5.out.below hb) hb.size)
      replace HS5 := Lib.hid (HS5.out.stay hb)
      replace H5 := Lib.hid (H5.out.trans (hb.mono hz5))
      replace hz5 := H5.out.size
      clear hb o0 o1 n0 n1
      obtain ⟨o0, o1⟩ := HO.out.c2
      obtain ⟨n0, n1⟩ := HW.out.c2
      go_wp2_with fail
      refine (plog_any n G5 _ s5 HGD.out _ _ HS5.out.p).mono ?_
      rintro e wh ⟨vb, rfl, hsb, hb⟩
      obtain ⟨Ab, db, rfl, hdb, hmb⟩ := SlS.form hsb
      have HBB := Lib.hid (show Sl wh wh.heap.size (.slice Ab s5.l.length db) s5.l from SlS.wide hsb (fun _ _ h => h))
      replace HO := Lib.hid (HO.out.below hb HO.out.lt)
      clear hsb
      replace HW := Lib.hid (HW.out.below hb HW.out.lt)
      replace HA5 := Lib.hid (Sl.mono (HA5.out.below hb) hb.size)
      replace HS5 := Lib.hid (HS5.out.stay hb)
      replace H5 := Lib.hid (H5.out.trans (hb.mono hz5))
      replace hz5 := H5.out.size
      clear hb o0 o1 n0 n1
      obtain ⟨o0, o1⟩ := HO.out.c2
      obtain ⟨n0, n1⟩ := HW.out.c2
      have hfb := fld_log 0 0 (.slice Ab s5.l.length db)
      by_cases ha : s.is = 2
      rotate_left
      · have ea : (s.is == 2) = false := by simpa using ha
        go_wp2_with fail
        go_roundw
        case rel => exact ⟨j + 1, s5, G5, by omega, by go_num, HGD, HS5, H5⟩
        case measure => simp [intOf]; omega
      have ea : (s.is == 2) = true := by simpa using ha
      go_wp2_with fail
      with_reducible refine (prole_any n G5 _ s5 HGD.out _ _ HS5.out.p).mono ?_
      rintro e wi ⟨rfl, hb⟩
      replace HO := Lib.hid (HO.out.below hb HO.out.lt)
      replace HBB := Lib.hid (Sl.mono (HBB.out.below hb) hb.size)
      replace HW := Lib.hid (HW.out.below hb HW.out.lt)
      replace HA5 := Lib.hid (Sl.mono (HA5.out.below hb) hb.size)
      replace HS5 := Lib.hid (HS5.out.stay hb)
      replace H5 := Lib.hid (H5.out.trans (hb.mono hz5))
      replace hz5 := H5.out.size
      clear hb o0 o1 n0 n1
      obtain ⟨o0, o1⟩ := HO.out.c2
      obtain ⟨n0, n1⟩ := HW.out.c2
      by_cases hc5 : s5.is = 2
      rotate_left
      · have ec : (s5.is == 2) = false := by simpa using hc5
        go_wp2_with fail
        go_roundw
        case rel => exact ⟨j + 1, s5, G5, by omega, by go_num, HGD, HS5, H5⟩
        case measure => simp [intOf]; omega
      have ec : (s5.is == 2) = true := by simpa using hc5
      go_wp2_with fail
      go_roundw
      case rel => exact ⟨j + 1, s5, G5, by omega, by go_num, HGD, HS5, H5⟩
      case measure => simp [intOf]; omega
    have eq : (s5.b.1 == s.b.1) = true := by simpa using hq
    have HQ := Lib.hid hq
    by_cases hv0 : s.b.2 = 0
    · have ev0 : (s.b.2 != 0) = false := by simpa using hv0
      clear hq
      go_wp2_with fail
      with_reducible refine (psettled_any n G5 _ s5 HGD.out _ _ HS5.out.p).mono ?_
      rintro e wg ⟨rfl, hb⟩
      replace HO := Lib.hid (HO.out.below hb HO.out.lt)
      replace HW := Lib.hid (HW.out.below hb HW.out.lt)
      replace HA5 := Lib.hid (Sl.mono (HA5.out.below hb) hb.size)
      replace HS5 := Lib.hid (HS5.out.stay hb)
      replace H5 := Lib.hid (H5.out.trans (hb.mono hz5))
      replace hz5 := H5.out.size
      clear hb o0 o1 n0 n1
      obtain ⟨o0, o1⟩ := HO.out.c2
      obtain ⟨n0, n1⟩ := HW.out.c2
      go_wp2_with fail
      refine (plog_any n G5 _ s5 HGD.out _ _ HS5.out.p).mono ?_
      rintro e wh ⟨vb, rfl, hsb, hb⟩
      obtain ⟨Ab, db, rfl, hdb, hmb⟩ := SlS.form hsb
      have HBB := Lib.hid (show Sl wh wh.heap.size (.slice Ab s5.l.length db) s5.l from SlS.wide hsb (fun _ _ h => h))
      replace HO := Lib.hid (HO.out.below hb HO.out.lt)
      clear hsb
      replace HW := Lib.hid (HW.out.below hb HW.out.lt)
      replace HA5 := Lib.hid (Sl.mono (HA5.out.below hb) hb.size)
      replace HS5 := Lib.hid (HS5.out.stay hb)
      replace H5 := Lib.hid (H5.out.trans (hb.mono hz5))
      replace hz5 := H5.out.size
      clear hb o0 o1 n0 n1
      obtain ⟨o0, o1⟩ := HO.out.c2
      obtain ⟨n0, n1⟩ := HW.out.c2
      have hfb := fld_log 0 0 (.slice Ab s5.l.length db)
      by_cases ha : s.is = 2
      rotate_left
      · have ea : (s.is == 2) = false := by simpa using ha
        go_wp2_with fail
        go_roundw
        case rel => exact ⟨j + 1, s5, G5, by omega, by go_num, HGD, HS5, H5⟩
        case measure => simp [intOf]; omega
      have ea : (s.is == 2) = true := by simpa using ha
      go_wp2_with fail
      with_reducible refine (prole_any n G5 _ s5 HGD.out _ _ HS5.out.p).mono ?_
      rintro e wi ⟨rfl, hb⟩
      replace HO := Lib.hid (HO.out.below hb HO.out.lt)
      replace HBB := Lib.hid (Sl.mono (HBB.out.below hb) hb.size)
      replace HW := Lib.hid (HW.out.below hb HW.out.lt)
      replace HA5 := Lib.hid (Sl.mono (HA5.out.below hb) hb.size)
      replace HS5 := Lib.hid (HS5.out.stay hb)
      replace H5 := Lib.hid (H5.out.trans (hb.mono hz5))
      replace hz5 := H5.out.size
      clear hb o0 o1 n0 n1
      obtain ⟨o0, o1⟩ := HO.out.c2
      obtain ⟨n0, n1⟩ := HW.out.c2
      by_cases hc5 : s5.is = 2
      rotate_left
      · have ec : (s5.is == 2) = false := by simpa using hc5
        go_wp2_with fail
        go_roundw
        case rel => exact ⟨j + 1, s5, G5, by omega, by go_num, HGD, HS5, H5⟩
        case measure => simp [intOf]; omega
      have ec : (s5.is == 2) = true := by simpa using hc5
      obtain ⟨mm, hmm⟩ := HUP.out.l ha hc5 HQ.out
      have hln : s.l.length ≤ s5.l.length := by rw [hmm, List.length_append]; omega
      have htk : s5.l.take s.l.length = s.l := by rw [hmm]; simp
      have dl : decide ((s5.l.length : Int) < (s.l.length : Int)) = false := by simp; omega
      have hst := HBB.out.upto s.l.length hln
      rw [htk] at hst
      have hs2 := fun W => run_upto Ab s5.l.length db s.l.length (s.l.length : Int) rfl (by omega) W
      generalize (if db = 0 then Ab else Ab.map (·.add (0 * 7))) = AQ at *
      have HSA := Lib.hid (same_any _ _ s.l wi wi.heap.size (Nat.le_refl _) hst HA5.out)
      clear hst htk hmm
      unfold maxLen at hmb hma
      go_wp2_with fail
      with_reducible refine HSA.out.mono ?_
      rintro e wj ⟨rfl, hb⟩
      replace HS5 := Lib.hid (HS5.out.stay hb)
      replace H5 := Lib.hid (H5.out.trans (hb.mono hz5))
      go_wp2_with fail
      go_roundw
      case rel => exact ⟨j + 1, s5, G5, by omega, by go_num, HGD, HS5, H5⟩
      case measure => simp [intOf]; omega
    · have ev0 : (s.b.2 != 0) = true := by simpa using hv0
      have hv1 := HUP.out.v hq hv0
      have ev1 : (s5.b.2 != s.b.2) = false := by simpa using hv1
      clear hq hv1
      go_wp2_with fail
      with_reducible refine (psettled_any n G5 _ s5 HGD.out _ _ HS5.out.p).mono ?_
      rintro e wg ⟨rfl, hb⟩
      replace HO := Lib.hid (HO.out.below hb HO.out.lt)
      replace HW := Lib.hid (HW.out.below hb HW.out.lt)
      replace HA5 := Lib.hid (Sl.mono (HA5.out.below hb) hb.size)
      replace HS5 := Lib.hid (HS5.out.stay hb)
      replace H5 := Lib.hid (H5.out.trans (hb.mono hz5))
      replace hz5 := H5.out.size
      clear hb o0 o1 n0 n1
      obtain ⟨o0, o1⟩ := HO.out.c2
      obtain ⟨n0, n1⟩ := HW.out.c2
      go_wp2_with fail
      refine (plog_any n G5 _ s5 HGD.out _ _ HS5.out.p).mono ?_
      rintro e wh ⟨vb, rfl, hsb, hb⟩
      obtain ⟨Ab, db, rfl, hdb, hmb⟩ := SlS.form hsb
      have HBB := Lib.hid (show Sl wh wh.heap.size (.slice Ab s5.l.length db) s5.l from SlS.wide hsb (fun _ _ h => h))
      replace HO := Lib.hid (HO.out.below hb HO.out.lt)
      clear hsb
      replace HW := Lib.hid (HW.out.below hb HW.out.lt)
      replace HA5 := Lib.hid (Sl.mono (HA5.out.below hb) hb.size)
      replace HS5 := Lib.hid (HS5.out.stay hb)
      replace H5 := Lib.hid (H5.out.trans (hb.mono hz5))
      replace hz5 := H5.out.size
      clear hb o0 o1 n0 n1
      obtain ⟨o0, o1⟩ := HO.out.c2
      obtain ⟨n0, n1⟩ := HW.out.c2
      have hfb := fld_log 0 0 (.slice Ab s5.l.length db)
      by_cases ha : s.is = 2
      rotate_left
      · have ea : (s.is == 2) = false := by simpa using ha
        go_wp2_with fail
        go_roundw
        case rel => exact ⟨j + 1, s5, G5, by omega, by go_num, HGD, HS5, H5⟩
        case measure => simp [intOf]; omega
      have ea : (s.is == 2) = true := by simpa using ha
      go_wp2_with fail
      with_reducible refine (prole_any n G5 _ s5 HGD.out _ _ HS5.out.p).mono ?_
      rintro e wi ⟨rfl, hb⟩
      replace HO := Lib.hid (HO.out.below hb HO.out.lt)
      replace HBB := Lib.hid (Sl.mono (HBB.out.below hb) hb.size)
      replace HW := Lib.hid (HW.out.below hb HW.out.lt)
      replace HA5 := Lib.hid (Sl.mono (HA5.out.below hb) hb.size)
      replace HS5 := Lib.hid (HS5.out.stay hb)
      replace H5 := Lib.hid (H5.out.trans (hb.mono hz5))
      replace hz5 := H5.out.size
      clear hb o0 o1 n0 n1
      obtain ⟨o0, o1⟩ := HO.out.c2
      obtain ⟨n0, n1⟩ := HW.out.c2
      by_cases hc5 : s5.is = 2
      rotate_left
      · have ec : (s5.is == 2) = false := by simpa using hc5
        go_wp2_with fail
        go_roundw
        case rel => exact ⟨j + 1, s5, G5, by omega, by go_num, HGD, HS5, H5⟩
        case measure => simp [intOf]; omega
      have ec : (s5.is == 2) = true := by simpa using hc5
      obtain ⟨mm, hmm⟩ := HUP.out.l ha hc5 HQ.out
      have hln : s.l.length ≤ s5.l.length := by rw [hmm, List.length_append]; omega
      have htk : s5.l.take s.l.length = s.l := by rw [hmm]; simp
      have dl : decide ((s5.l.length : Int) < (s.l.length : Int)) = false := by simp; omega
      have hst := HBB.out.upto s.l.length hln
      rw [htk] at hst
      have hs2 := fun W => run_upto Ab s5.l.length db s.l.length (s.l.length : Int) rfl (by omega) W
      generalize (if db = 0 then Ab else Ab.map (·.add (0 * 7))) = AQ at *
      have HSA := Lib.hid (same_any _ _ s.l wi wi.heap.size (Nat.le_refl _) hst HA5.out)
      clear hst htk hmm
      unfold maxLen at hmb hma
      go_wp2_with fail
      with_reducible refine HSA.out.mono ?_
      rintro e wj ⟨rfl, hb⟩
      replace HS5 := Lib.hid (HS5.out.stay hb)
      replace H5 := Lib.hid (H5.out.trans (hb.mono hz5))
      go_wp2_with fail
      go_roundw
      case rel => exact ⟨j + 1, s5, G5, by omega, by go_num, HGD, HS5, H5⟩
      case measure => simp [intOf]; omega
end Go.Proofs.Ytjcljkbalpgfdaa
