/-
  RaftDoes is true of every input.
-/
import Derived.Test.YtjcljkbalpgfdaaGreatZ27
import Derived.Test.YtjcljkbalpgfdaaGreatZ31
import Derived.LoopTactic
namespace Go.Proofs.YtjcljkbalpgfdaaGreat
open Go.RowKit

set_option maxRecDepth 100000 in
set_option maxHeartbeats 4000000 in
theorem does_law (w : World) (id many b1 b2 l1 l2 : Int) (v : Value) (l : List E) (hv : Sl w w.heap.size v l) (u : Value) (es : List Ev) (hu : Sl w w.heap.size u es) :
    Calls Tryz.prog 3 #[.int .i64 id, .int .i64 many, bv b1 b2, lv l1 l2 v, u] w fun e w' => e = .returned (.bool true) ∧ Below w.heap.size w w' := by
  obtain ⟨A, c, rfl, hc, hm⟩ := hv.form
  obtain ⟨A2, c2, rfl, hc2, hm2⟩ := hu.form
  unfold maxLen at hm hm2
  have hb0 : Below w.heap.size w ((w.alloc (.cells #[.int .i64 b1, .int .i64 b2] 23)).alloc (.cells #[.int .i64 l1, .int .i64 l2, .slice A l.length c] 26)) := ((Below.refl _ _).alloc (Nat.le_refl _) _).alloc (by simp) _
  have HB := Lib.hid hb0
  have HW1 := Lib.hid ((Whole.new w 23 #[.int .i64 b1, .int .i64 b2]).alloc (.cells #[.int .i64 l1, .int .i64 l2, .slice A l.length c] 26))
  have HW2 := Lib.hid (Whole.new1 w (.cells #[.int .i64 b1, .int .i64 b2] 23) 26 #[.int .i64 l1, .int .i64 l2, .slice A l.length c])
  have HV := Lib.hid (fun W (hb : Below w.heap.size w W) => hv.below hb)
  have HU := Lib.hid (fun W (hb : Below w.heap.size w W) => hu.below hb)
  have HN := Lib.hid (fun W (hb : Below w.heap.size w W) (hl : l.length ≤ 100) => pnew_any id many b1 b2 l1 l2 _ l (· < w.heap.size) W (hv.below hb) hl)
  have HNR := Lib.hid (fun W (hb : Below w.heap.size w W) => rnew_any id many b1 b2 l1 l2 _ l (· < w.heap.size) W (hv.below hb))
  clear hb0 hv hu
  go_enter Tryz.func3, Tryz.ntmps3
  go_wp2_with fail
  with_reducible refine (awake7_any _).mono ?_
  rintro e w1 ⟨rfl, hb1⟩
  have H1 := Lib.hid (HB.out.trans (hb1.mono HB.out.size))
  replace HW1 := Lib.hid (HW1.out.below hb1 HW1.out.lt)
  replace HW2 := Lib.hid (HW2.out.below hb1 HW2.out.lt)
  clear hb1 HB
  go_wp2_with fail
  have hfew := few7_any _ es w1 w.heap.size H1.out.size (HU.out _ H1.out)
  refine hfew.mono ?_
  rintro e w2 ⟨rfl, hb2⟩
  have H2 := Lib.hid (H1.out.trans (hb2.mono H1.out.size))
  replace HW1 := Lib.hid (HW1.out.below hb2 HW1.out.lt)
  replace HW2 := Lib.hid (HW2.out.below hb2 HW2.out.lt)
  clear hb2 H1 hfew
  obtain ⟨p0, p1⟩ := HW1.out.c2
  obtain ⟨r0, r1, r2⟩ := HW2.out.c3
  have HFI := Lib.hid (@Ev.few_iff es)
  generalize Ev.few es = fw at *
  rcases fw with _ | _
  · go_wp2_with fail
    go_ret
    exact ⟨rfl, H2.out⟩
  obtain ⟨hes, hsm⟩ := HFI.out.1 rfl
  have HSM := Lib.hid hsm
  clear hsm HFI
  by_cases h100 : 100 < l.length
  · have d : decide ((100 : Int) < (l.length : Int)) = true := by simp; omega
    go_wp2_with fail
    go_ret
    exact ⟨rfl, H2.out⟩
  have d : decide ((100 : Int) < (l.length : Int)) = false := by simp; omega
  have HPN := Lib.hid (HN.out _ H2.out (by omega))
  have hgood := @Rf.Good.new
  have HGN := Lib.hid (fun n s => @Rf.Good.new n s id many (b1, b2) (l1, l2, l))
  clear HN hgood
  generalize Rf.new id many (b1, b2) (l1, l2, l) = R at *
  go_wp2_with fail
  refine HPN.out.mono ?_
  intro e w3 hp3
  rcases R with _ | ⟨n, s⟩
  · obtain ⟨rfl, hb3⟩ := hp3
    have H3 := Lib.hid (H2.out.trans (hb3.mono H2.out.size))
    replace HW1 := Lib.hid (HW1.out.below hb3 HW1.out.lt)
    replace HW2 := Lib.hid (HW2.out.below hb3 HW2.out.lt)
    clear hb3 H2 p0 p1 r0 r1 r2
    obtain ⟨p0, p1⟩ := HW1.out.c2
    obtain ⟨r0, r1, r2⟩ := HW2.out.c3
    go_wp2_with fail
    refine (HNR.out _ H3.out).mono ?_
    rintro e w4 ⟨rfl, hb4⟩
    have H4 := Lib.hid (H3.out.trans (hb4.mono H3.out.size))
    clear hb4 H3
    go_wp2_with fail
    go_ret
    exact ⟨rfl, H4.out⟩
  obtain ⟨G, p, rfl, hG, hp, hb3⟩ := hp3
  have H3 := Lib.hid (H2.out.trans (hb3.mono H2.out.size))
  have hz2 := H2.out.size
  replace HW1 := Lib.hid (HW1.out.below hb3 HW1.out.lt)
  replace HW2 := Lib.hid (HW2.out.below hb3 HW2.out.lt)
  obtain ⟨pg, rfl⟩ := hp.ptr
  have HP := Lib.hid hp
  have HGB := Lib.hid hG
  clear hb3 H2 p0 p1 r0 r1 r2 hp hG
  obtain ⟨p0, p1⟩ := HW1.out.c2
  obtain ⟨r0, r1, r2⟩ := HW2.out.c3
  go_wp2_with fail
  refine (HNR.out _ H3.out).mono ?_
  rintro e w4 ⟨F, A4, c4, rfl, hF, hr, hb4⟩
  have hz3 := H3.out.size
  have hGlt := HP.out.lt
  have hBo : Both w.heap.size n G F s s (.pointer (some ⟨pg, 0, none⟩)) A4 c4 w4 := by
    have hd : ∀ b, G b → ¬ F.has b := fun b hb hf => by have := hGlt b hb; have := hF b hf; omega
    exact ⟨((HP.out.wide (S' := fun b => ¬ G b ∧ b < w3.heap.size) (fun b hb hlt => ⟨hb.2, hlt⟩) (fun b hb => hb.1)).stay hb4).wide (fun b hb _ => ⟨hb.1, fun hf => by have := hF b hf; have := hb.2; omega⟩) (fun b hb => hb.1), hr.wide (fun b hb _ => ⟨fun hg => by have := HGB.out b hg; omega, fun hf => hr.off b hb hf⟩) (fun b hb => hb.2), hd, fun b hb => by have := HGB.out b hb; omega, fun b hb => by have := hF b hb; omega⟩
  have HBo := Lib.hid hBo
  have H4 := Lib.hid (H3.out.trans (hb4.mono H3.out.size))
  have HG := Lib.hid (HGN.out n s rfl).1
  clear hb4 H3 hr hF hBo HP HGB HPN HNR HGN hGlt p0 p1 r0 r1 r2 HW1 HW2
  generalize hn : es.length = ne at *
  have HNE := Lib.hid hn
  clear hn
  have e0 : ((0 : Int) != 0) = false := by simp
  go_wp2_with fail
  have HGX := Lib.hid (rfl : F.g = F.g)
  generalize hgr : F.g = gr at *
  go_loopw [17] (fun iv wr => ∃ (j : Nat) (s : Rf.St) (G : Nat → Prop) (F : Foot) (A : Option Addr) (c : Nat), j ≤ ne ∧ iv = .int .i64 (j : Int) ∧ Hid (F.g = gr) ∧ Hid (Rf.Good n s) ∧ Hid (Both w.heap.size n G F s s (.pointer (some ⟨pg, 0, none⟩)) A c wr) ∧ Hid (Below w.heap.size w wr)) (fun iv _ => ne - (intOf iv).toNat)
  case atStart => exact ⟨0, s, G, F, A4, c4, Nat.zero_le _, rfl, Lib.hid hgr, HG, HBo, H4⟩
  case round =>
    clear HBo HG hgr H4 HGX
    obtain ⟨j, s, G, F, A4, c4, hj, rfl, HFG, HG, HBo, H4⟩ := hrel
    by_cases hlt : j < ne
    · have hjl : j < es.length := by rw [HNE.out]; exact hlt
      have hz4 := H4.out.size
      have hsm := HSM.out es[j] (List.getElem_mem hjl)
      obtain ⟨be, oe, X, dx, rfl, hbe, g, tE, hmf, hcf⟩ := (HU.out _ H4.out).ev j hjl
      generalize es[j] = ev at *
      obtain ⟨ek, ⟨k, f, o, t, i, u, cm, y, L⟩, c1, c2_, c3, c4_, c5, c6⟩ := ev
      simp only at g tE hmf hcf hsm
      have hii := hmf.2.2.2.2.1
      simp only at hii
      have hpd := pdid_any n G (Out G F) s HG.out _ _ HBo.out.p ek k f o t i u cm y L X dx c1 c2_ c3 c4_ c5 c6 hii hcf (by omega) (HBo.out.old tE)
      have hrd := fun W F S A c (hr : RMem n F S W s A c) (hL : SlS W S (.slice X L.length dx) L) => rdid_any n F S s HG.out A c W hr ek k f o t i u cm y L X dx c1 c2_ c3 c4_ c5 c6 hii hcf (by omega) hL
      have hgd := HG.out.did (ek, (k, f, o, t, i, u, cm, y, L), (c1, c2_, c3, c4_, c5, c6))
      generalize Rf.did n s (ek, (k, f, o, t, i, u, cm, y, L), (c1, c2_, c3, c4_, c5, c6)) = R at *
      obtain ⟨s5, n5, ms, er⟩ := R
      simp only at hpd hrd hgd
      have HPD := Lib.hid hpd
      have HRD := Lib.hid hrd
      have HC := Lib.hid g
      have HTE := Lib.hid tE
      have HGD := Lib.hid hgd
      obtain ⟨g0, g1, g2, g3, g4, g5, g6, g7, g8, g9, g10, g11, g12, g13, g14, g15⟩ := g.at16
      clear hpd hrd hgd tE hcf hmf hjl hii g
      have i1 : (0 : Int) ≤ (j : Int) := by omega
      have i2 : (j : Int) < (ne : Int) := by omega
      go_wp2_with fail
      refine HPD.out.mono ?_
      rintro e w5 ⟨v5, rfl, hm5, hst5⟩
      obtain ⟨G5, hbo5, hb5⟩ := HBo.out.does hz4 hst5
      have HBo5 := Lib.hid hbo5
      have H5 := Lib.hid (H4.out.trans hb5)
      have hrd := HRD.out w5 F (Out G5 F) A4 c4 hbo5.r (hbo5.old (HTE.out.below hb5))
      rw [HFG.out] at hrd
      have HR5 := Lib.hid hrd
      have HM5 := Lib.hid hm5
      clear g0 g1 g2 g3 g4 g5 g6 g7 g8 g9 g10 g11 g12 g13 g14 g15
      obtain ⟨g0, g1, g2, g3, g4, g5, g6, g7, g8, g9, g10, g11, g12, g13, g14, g15⟩ := (HC.out.below hbe hb5).at16
      clear hrd hm5 hst5 hbo5 hb5 HRD HPD HTE HC
      go_wp2_with fail
      refine HR5.out.mono ?_
      rintro e w6 ⟨v6, rfl, hm6, hst6⟩
      have hk6 : Kept F.has w5 w6 := by obtain ⟨_, _, _, _, _, _, hk⟩ := hst6; exact hk
      have hxs := HBo.out.said HM5.out hk6
      have hys : Sl w6 w6.heap.size v6 ms := SlS.wide hm6 (fun _ _ h => h)
      have HSA := Lib.hid (rsame_msgs_any v5 v6 ms w6 w6.heap.size (Nat.le_refl _) hxs hys)
      obtain ⟨F6, A6, d6, hg6, hbo6, hb6⟩ := HBo5.out.did H5.out.size hst6
      have H6 := Lib.hid (H5.out.trans hb6)
      have HBo6 := Lib.hid hbo6
      have HG6 := Lib.hid (hg6.trans HFG.out)
      clear g0 g1 g2 g3 g4 g5 g6 g7 g8 g9 g10 g11 g12 g13 g14 g15 hk6 hxs hys hm6 hst6 hg6 hbo6 hb6 HR5 HM5 HBo5 HBo HFG H5 H4
      go_wp2_with fail
      refine HSA.out.mono ?_
      rintro e w7 ⟨rfl, hb7⟩
      have HBo7 := Lib.hid (HBo6.out.stay hb7)
      have H7 := Lib.hid (H6.out.trans (hb7.mono H6.out.size))
      have hal := alike_any n G5 (Out G5 F6) s5 HGD.out (.pointer (some ⟨pg, 0, none⟩)) F6 (Out G5 F6) A6 d6 w7 HBo7.out.p HBo7.out.r
      rw [HG6.out] at hal
      have HAL := Lib.hid hal
      clear hb7 HBo6 H6 hal HSA
      go_wp2_with fail
      refine HAL.out.mono ?_
      rintro e w8 ⟨rfl, hb8⟩
      have HBo8 := Lib.hid (HBo7.out.stay hb8)
      have H8 := Lib.hid (H7.out.trans (hb8.mono H7.out.size))
      have q1 : (n5 != n5) = false := by simp
      have q2 : (er != er) = false := by simp
      clear hb8 HBo7 H7 HAL
      go_wp2_with fail
      go_roundw
      case rel => exact ⟨j + 1, s5, G5, F6, A6, d6, by omega, by go_num, HG6, HGD, HBo8, H8⟩
      case measure => simp [intOf]; omega
    · go_wp2_with fail
      go_ret
      exact ⟨rfl, H4.out⟩
end Go.Proofs.YtjcljkbalpgfdaaGreat
