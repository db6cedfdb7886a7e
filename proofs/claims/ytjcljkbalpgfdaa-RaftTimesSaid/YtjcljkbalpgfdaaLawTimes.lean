/-
  RaftTimes is true of every input.
-/
import Derived.Test.YtjcljkbalpgfdaaM10
import Derived.Test.YtjcljkbalpgfdaaM11
import Derived.Test.YtjcljkbalpgfdaaM26
import Derived.Test.YtjcljkbalpgfdaaM27
import Derived.Test.YtjcljkbalpgfdaaM28
import Derived.LoopTactic
import Derived.BigQuiet
namespace Go.Proofs.Ytjcljkbalpgfdaa
open Go.RowKit

set_option maxRecDepth 100000 in
set_option maxHeartbeats 8000000 in
theorem times_law (w : World) (id many b1 b2 l1 l2 times : Int) (v : Value) (l : List E) (hv : Sl w w.heap.size v l) :
    Calls Try.prog 6 #[.int .i64 id, .int .i64 many, bv b1 b2, lv l1 l2 v, .int .i64 times] w fun e w' => e = .returned (.bool true) ∧ Below w.heap.size w w' := by
  obtain ⟨A, c, rfl, hc, hm⟩ := hv.form
  unfold maxLen at hm
  have HB0 := Lib.hid (((Below.refl w.heap.size w).alloc (Nat.le_refl _) (.cells #[.int .i64 b1, .int .i64 b2] 23)).alloc ((Below.refl w.heap.size w).alloc (Nat.le_refl _) (.cells #[.int .i64 b1, .int .i64 b2] 23)).size (.cells #[.int .i64 l1, .int .i64 l2, .slice A l.length c] 26))
  have HW1 := Lib.hid ((Whole.new w 23 #[.int .i64 b1, .int .i64 b2]).alloc (.cells #[.int .i64 l1, .int .i64 l2, .slice A l.length c] 26))
  have HW2 := Lib.hid (Whole.new1 w (.cells #[.int .i64 b1, .int .i64 b2] 23) 26 #[.int .i64 l1, .int .i64 l2, .slice A l.length c])
  have HV := Lib.hid (fun W (hb : Below w.heap.size w W) => hv.below hb)
  have HN := Lib.hid (fun W (hb : Below w.heap.size w W) (hl : l.length ≤ 100) => pnew_any id many b1 b2 l1 l2 _ l (· < w.heap.size) W (hv.below hb) hl)
  have hz0 := HB0.out.size
  have hl1 := HW1.out.lt
  have hl2 := HW2.out.lt
  clear hv
  go_enter Try.func6, Try.ntmps6
  go_wp2_with fail
  generalize hw0 : World.alloc (World.alloc w _) _ = w0 at *
  clear hw0
  with_reducible refine (awake7_any _).mono ?_
  rintro e w1 ⟨rfl, hb⟩
  have H1 := Lib.hid hb
  replace HW1 := Lib.hid (HW1.out.below hb HW1.out.lt)
  replace HW2 := Lib.hid (HW2.out.below hb HW2.out.lt)
  clear hb
  obtain ⟨p0, p1⟩ := HW1.out.c2
  obtain ⟨r0, r1, r2⟩ := HW2.out.c3
  by_cases h : many < 2
  · have d : decide (many < 2) = true := by simp; omega
    go_wp2_with fail
    go_ret
    exact ⟨rfl, HB0.out.trans (H1.out.mono HB0.out.size)⟩
  have hh23 := h
  have d23 : decide (many < 2) = false := by simp; omega
  clear h
  by_cases h : 100 < l.length
  · have d : decide ((100 : Int) < (l.length : Int)) = true := by simp; omega
    go_wp2_with fail
    go_ret
    exact ⟨rfl, HB0.out.trans (H1.out.mono HB0.out.size)⟩
  have hh31 := h
  have d31 : decide ((100 : Int) < (l.length : Int)) = false := by simp; omega
  clear h
  by_cases h : times < 1
  · have d : decide (times < 1) = true := by simp; omega
    go_wp2_with fail
    go_ret
    exact ⟨rfl, HB0.out.trans (H1.out.mono HB0.out.size)⟩
  have hh39 := h
  have d39 : decide (times < 1) = false := by simp; omega
  clear h
  by_cases h : 50 < times
  · have d : decide (50 < times) = true := by simp; omega
    go_wp2_with fail
    go_ret
    exact ⟨rfl, HB0.out.trans (H1.out.mono HB0.out.size)⟩
  have hh47 := h
  have d47 : decide (50 < times) = false := by simp; omega
  clear h
  by_cases h : 1073741724 < b1
  · have d : decide (1073741724 < b1) = true := by simp; omega
    go_wp2_with fail
    go_ret
    exact ⟨rfl, HB0.out.trans (H1.out.mono HB0.out.size)⟩
  have hh55 := h
  have d55 : decide (1073741724 < b1) = false := by simp; omega
  clear h
  obtain ⟨tn, rfl⟩ : ∃ tn : Nat, times = (tn : Int) := ⟨times.toNat, by omega⟩
  have HPN := Lib.hid (HN.out _ (HB0.out.trans (H1.out.mono hz0)) (by omega))
  have HNW := Lib.hid (fun n s => @Rf.new_is id many (b1, b2) (l1, l2, l) n s)
  clear HN
  generalize Rf.new id many (b1, b2) (l1, l2, l) = R at *
  go_wp2_with fail
  refine HPN.out.mono ?_
  intro e w3 hp3
  clear p0 p1 r0 r1 r2
  rcases R with _ | ⟨n, s⟩
  · obtain ⟨rfl, hb⟩ := hp3
    have H3 := Lib.hid (HB0.out.trans ((H1.out.trans (hb.mono H1.out.size)).mono hz0))
    go_wp2_with fail
    go_ret
    exact ⟨rfl, H3.out⟩
  obtain ⟨G, p, rfl, hG, hp, hb⟩ := hp3
  obtain ⟨pg, rfl⟩ := hp.ptr
  have hz1 := H1.out.size
  have HSo := Lib.hid (Solo.new hp hG hz1)
  have H3 := Lib.hid (H1.out.trans (hb.mono hz1))
  replace HW1 := Lib.hid (HW1.out.below hb HW1.out.lt)
  replace HW2 := Lib.hid (HW2.out.below hb HW2.out.lt)
  obtain ⟨hg, h1, h2, h3, h4, h5, h6, h7, h8⟩ := HNW.out n s rfl
  have h3a : s.b.1 = b1 := by rw [h3]
  have HG := Lib.hid hg
  have hbb := hg.b
  have hid1 := hg.id1
  have hid2 := hg.id2
  have hmm := hg.many
  have HSL := Lib.hid h4
  have HSI := Lib.hid h5
  have HSU := Lib.hid h6
  subst h1 h2 h7 h8
  subst h3a
  clear hb hp hG HPN HNW hg h3 h4 h5 h6 H1 hz1
  have HGT := Lib.hid (fun (i : Nat) (hi : s.b.1 + i ≤ 1073741824) => Rf.timed_good HG.out HSI.out i hi)
  have HST := Lib.hid (fun (i : Nat) (hi : s.b.1 + i < 1073741824) => Rf.timed_step (n := n) HSI.out (by omega) hi)
  have HT0 := Lib.hid (show Rf.timed n s 0 = s from if_pos rfl)
  have HBT := Lib.hid (fun (i : Nat) => show (Rf.timed n s (i + 1)).b = (s.b.1 + ((i + 1 : Nat) : Int), (n.id : Int)) ∧ (Rf.timed n s (i + 1)).is = 1 by unfold Rf.timed; rw [if_neg (Nat.succ_ne_zero i)]; exact ⟨rfl, rfl⟩)
  have HLT := Lib.hid (fun (i : Nat) => Rf.timed_l (n := n) (s := s) i)
  rw [← HT0.out] at HSo
  clear HT0
  go_wp2_with fail
  go_loopw [14] (fun iv wr => ∃ (i : Nat) (G : Nat → Prop), i ≤ tn ∧ iv = .int .i64 ((i : Int) + 1) ∧ Hid (Solo w0.heap.size n G (Rf.timed n s i) (.pointer (some ⟨pg, 0, none⟩)) wr) ∧ Hid (Below w0.heap.size w0 wr) ∧ Hid (Whole wr w.heap.size 23 #[.int .i64 s.b.1, .int .i64 b2]) ∧ Hid (Whole wr (w.heap.size + 1) 26 #[.int .i64 0, .int .i64 0, .slice A l.length c])) (fun iv _ => tn + 1 - (intOf iv).toNat)
  case atStart => exact ⟨0, G, Nat.zero_le _, rfl, HSo, H3, HW1, HW2⟩
  case round =>
    clear HSo H3 HW1 HW2
    obtain ⟨i, G, hi, rfl, HSo, H3, HW1, HW2⟩ := hrel
    by_cases hlt : i < tn
    rotate_left
    · obtain rfl : i = tn := by omega
      have dle : decide ((i : Int) + 1 ≤ (i : Int)) = false := by simp; omega
      have hgt := HGT.out i (by omega)
      obtain ⟨hlt1, hlt2⟩ := HLT.out i
      have HLG := Lib.hid (fun W (hb : Below wr.heap.size wr W) => plog_any n G _ _ hgt _ W (HSo.out.p.stay hb))
      have HSE := Lib.hid (fun W (hb : Below wr.heap.size wr W) => psettled_any n G _ _ hgt _ W (HSo.out.p.stay hb))
      rw [hlt1, HSL.out] at HLG
      rw [hlt2, HSU.out] at HSE
      have HVL := Lib.hid (fun W (hb : Below wr.heap.size wr W) => Sl.mono (HV.out W (HB0.out.trans ((H3.out.trans (hb.mono H3.out.size)).mono hz0))) (Nat.le_trans hz0 (Nat.le_trans H3.out.size hb.size)))
      try simp only at HLG
      clear hgt hlt1 hlt2 HSo
      go_wp2_with fail
      refine z_start ((wr).drew.heap.size) [] (by kernel_rfl) ?_
      have HC := Lib.hid (Below.refl ((wr).drew.heap.size) (wr).drew)
      have hBz : (wr).drew.heap.size ≤ (wr).drew.heap.size := Nat.le_refl _
      replace HW2 := Lib.hid (show Whole (wr).drew _ _ _ from HW2.out)
      have hltW := HW2.out.lt
      have HD := Lib.hid ((Below.refl wr.heap.size wr).drew)
      generalize (wr).drew = z1 at *
      refine z_take (i := 0) (v := ?_) rfl (by kernel_rfl) (by kernel_rfl) (by kernel_rfl) (k0 := 0) (by kernel_rfl) (by kernel_rfl) (.inl rfl) (fun _ _ _ h => h) (by rfl) HC.out ?_ ?_
      rotate_left
      · intro W hW
        go_simp
        first | done | rfl
      simp only [Act.put, List.setIfInBounds_toArray, List.set_cons_zero, List.set_cons_succ, List.getElem_toArray, List.getElem_cons_zero]
      refine z_take (i := 2) (v := ?_) rfl (by kernel_rfl) (by kernel_rfl) (by kernel_rfl) (k0 := 2) (by kernel_rfl) (by kernel_rfl) (.inl rfl) (fun _ _ _ h => h) (by rfl) HC.out ?_ ?_
      rotate_left
      · intro W hW
        obtain ⟨r0, r1, r2⟩ := (HW2.out.below hW hltW).c3
        go_simp
        first | done | rfl
      simp only [Act.put, List.setIfInBounds_toArray, List.set_cons_zero, List.set_cons_succ, List.getElem_toArray, List.getElem_cons_zero, List.getElem_cons_succ]
      refine z_one (i := 1) (by kernel_rfl) ?_
      refine onez_call (i := 1) (f := 14) (args := ?_) rfl (by rfl) ?_ ?_
      rotate_left
      · go_simp
        first | done | rfl
      with_reducible refine (HLG.out _ (HD.out.trans (HC.out.mono HD.out.size))).mono ?_
      rintro e z2 ⟨v6, rfl, hs, hb⟩
      refine ⟨_, rfl, fun _ => HC.out.trans (hb.mono hBz), ?_⟩
      replace HC := Lib.hid (HC.out.trans (hb.mono hBz))
      replace hBz := Nat.le_trans hBz hb.size
      have HVV := Lib.hid (show Sl z2 (z2).heap.size v6 l from SlS.wide hs (fun _ _ h => h))
      clear hs
      clear hb
      simp only [Act.put, List.setIfInBounds_toArray, List.set_cons_zero, List.set_cons_succ, List.getElem_toArray, List.getElem_cons_zero, List.getElem_cons_succ]
      refine z_one (i := 3) (by kernel_rfl) ?_
      refine onez_call (i := 3) (f := 18) (args := ?_) rfl (by rfl) ?_ ?_
      rotate_left
      · go_simp
        first | done | rfl
      with_reducible refine (logs_any 0 0 _ _ l z2 (z2).heap.size (Nat.le_refl _) HVV.out (HVL.out _ (HD.out.trans (HC.out.mono HD.out.size)))).mono ?_
      rintro e z3 ⟨rfl, hb⟩
      refine ⟨_, rfl, fun _ => HC.out.trans (hb.mono hBz), ?_⟩
      replace HC := Lib.hid (HC.out.trans (hb.mono hBz))
      replace hBz := Nat.le_trans hBz hb.size
      clear hb
      simp only [Act.put, List.setIfInBounds_toArray, List.set_cons_zero, List.set_cons_succ, List.getElem_toArray, List.getElem_cons_zero, List.getElem_cons_succ]
      refine z_take (i := 4) (v := ?_) rfl (by kernel_rfl) (by kernel_rfl) (by kernel_rfl) (k0 := 4) (by kernel_rfl) (by kernel_rfl) (.inl rfl) (fun _ _ _ h => h) (by rfl) HC.out ?_ ?_
      rotate_left
      · intro W hW
        go_simp
        first | done | rfl
      simp only [Act.put, List.setIfInBounds_toArray, List.set_cons_zero, List.set_cons_succ, List.getElem_toArray, List.getElem_cons_zero, List.getElem_cons_succ]
      refine z_done (by kernel_rfl) ?_
      have HE := Lib.hid (HD.out.trans (HC.out.mono HD.out.size))
      clear HC hBz hltW HW2
      go_simp
      generalize hw6 : z3 = w6 at *
      clear hw6
      go_wp2_with fail
      with_reducible refine (HSE.out _ HE.out).mono ?_
      rintro e w7 ⟨rfl, hb⟩
      have H7 := Lib.hid (H3.out.trans ((HE.out.trans (hb.mono HE.out.size)).mono H3.out.size))
      clear hb
      go_wp2_with fail
      go_ret
      exact ⟨rfl, HB0.out.trans (H7.out.mono hz0)⟩
    · have hgi := HGT.out i (by omega)
      have hgj := HGT.out (i + 1) (by omega)
      have hst := HST.out i (by omega)
      obtain ⟨hb1, hi1⟩ := HBT.out i
      obtain ⟨tj, htj⟩ : ∃ tj : Int, tj = s.b.1 + ((i + 1 : Nat) : Int) := ⟨_, rfl⟩
      rw [← htj] at hb1
      have hwi : IntKind.i64.wrap (s.b.1 + ((i : Int) + 1)) = tj := by rw [IntKind.wrap_i64]; omega
      clear htj
      obtain ⟨hll, -⟩ := HLT.out (i + 1)
      have hlast := hgj.last1
      rw [hll, HSL.out] at hlast
      try simp only at hlast
      have HTI := Lib.hid (ptimeout_any n G _ _ hgi _ wr HSo.out.p)
      rw [hst] at HTI
      try simp only at HTI
      have hcnt := Rf.each_count (n := n) (Rf.ask n (Rf.timed n s (i + 1))) n.many
      rw [if_pos ⟨hid2, hid1⟩] at hcnt
      have HCN := Lib.hid hcnt
      clear hcnt
      have HAT := Lib.hid (fun j hj => Rf.each_at (n := n) hid1 (Rf.ask n (Rf.timed n s (i + 1))) n.many j hj)
      have HASK := Lib.hid (fun k : Nat => show Rf.ask n (Rf.timed n s (i + 1)) k = (0, (n.id : Int), (k : Int), tj, (l.length : Int), (Rf.last (Rf.timed n s (i + 1))).2, 0, false, []) by unfold Rf.ask; rw [hlast, hb1])
      clear hst hll hlast
      have HGJ := Lib.hid hgj
      clear hgi hgj
      generalize Rf.each n (Rf.ask n (Rf.timed n s (i + 1))) n.many = ms at *
      generalize Rf.ask n (Rf.timed n s (i + 1)) = f at *
      generalize (Rf.last (Rf.timed n s (i + 1))).2 = tl at *
      generalize hsj : Rf.timed n s (i + 1) = sj at *
      have dle : decide ((i : Int) + 1 ≤ (tn : Int)) = true := by simp; omega
      have hz3 := H3.out.size
      go_wp2_with fail
      refine HTI.out.mono ?_
      rintro e w4 ⟨v4, rfl, hm4, hs4⟩
      obtain ⟨A4, d4, rfl, -, -⟩ := SlS.form hm4
      obtain ⟨G4, hso4, hb, hk4⟩ := HSo.out.does hz3 hs4
      have H4 := Lib.hid (H3.out.trans hb)
      have hz4 := H4.out.size
      replace HW1 := Lib.hid (HW1.out.below hb (by omega))
      replace HW2 := Lib.hid (HW2.out.below hb (by omega))
      have HM := Lib.hid (show Sl w4 w4.heap.size (.slice A4 ms.length d4) ms from SlS.wide hm4 (fun _ _ h => h))
      have HS4 := Lib.hid hso4
      clear hb hm4 hs4 hso4 hk4 HTI HSo H3 hz3
      have HBA := Lib.hid (pballot_any n G4 _ _ HGJ.out _ w4 HS4.out.p)
      rw [hb1] at HBA
      try simp only at HBA
      go_wp2_with fail
      with_reducible refine HBA.out.mono ?_
      rintro e w5 ⟨rfl, hb⟩
      have hbn := hb.alloc hb.size (.cells #[.int .i64 tj, .int .i64 (n.id : Int)] 23)
      have HNB := Lib.hid (Whole.new w5 23 #[.int .i64 tj, .int .i64 (n.id : Int)])
      replace HW1 := Lib.hid (HW1.out.below hbn HW1.out.lt)
      replace HW2 := Lib.hid (HW2.out.below hbn HW2.out.lt)
      replace HM := Lib.hid (Sl.mono (HM.out.below hbn) hbn.size)
      replace HS4 := Lib.hid (HS4.out.stay hbn)
      replace H4 := Lib.hid (H4.out.trans (hbn.mono hz4))
      clear hb hbn HBA hz4
      have hz4 := H4.out.size
      obtain ⟨p0, p1⟩ := HW1.out.c2
      obtain ⟨r0, r1, r2⟩ := HW2.out.c3
      obtain ⟨n0, n1⟩ := HNB.out.c2
      have HRO := Lib.hid (fun W (hb : Below (w5.alloc (.cells #[.int .i64 tj, .int .i64 (n.id : Int)] 23)).heap.size (w5.alloc (.cells #[.int .i64 tj, .int .i64 (n.id : Int)] 23)) W) => prole_any n G4 _ _ HGJ.out _ W (HS4.out.p.stay hb))
      rw [hi1] at HRO
      have hwm : IntKind.i64.wrap ((n.many : Int) - 1) = (n.many : Int) - 1 := by rw [IntKind.wrap_i64]; omega
      have e1 : ((ms.length : Int) != (n.many : Int) - 1) = false := by have := HCN.out; simp; omega
      have e2 : (tj != tj) = false := by simp
      have e3 : ((n.id : Int) != (n.id : Int)) = false := by simp
      go_wp2_with fail
      with_reducible refine (HRO.out _ (Below.refl _ _)).mono ?_
      rintro e w6 ⟨rfl, hb⟩
      replace HW1 := Lib.hid (HW1.out.below hb HW1.out.lt)
      replace HW2 := Lib.hid (HW2.out.below hb HW2.out.lt)
      replace HNB := Lib.hid (HNB.out.below hb HNB.out.lt)
      replace HM := Lib.hid (Sl.mono (HM.out.below hb) hb.size)
      replace HS4 := Lib.hid (HS4.out.stay hb)
      replace H4 := Lib.hid (H4.out.trans (hb.mono hz4))
      clear hb HRO hz4 p0 p1 r0 r1 r2 n0 n1 e1
      generalize w5.heap.size = g5 at *
      have hms15 : ms.length ≤ 15 := by have := HCN.out; omega
      generalize hnl : ms.length = nl at *
      have HNL := Lib.hid hnl
      clear hnl
      go_wp2_with fail
      go_loopw [17] (fun kv wk => ∃ (k : Nat), k ≤ nl ∧ kv = .int .i64 (k : Int) ∧ Hid (Solo w0.heap.size n G4 sj (.pointer (some ⟨pg, 0, none⟩)) wk) ∧ Hid (Below w0.heap.size w0 wk) ∧ Hid (Whole wk w.heap.size 23 #[.int .i64 s.b.1, .int .i64 b2]) ∧ Hid (Whole wk (w.heap.size + 1) 26 #[.int .i64 0, .int .i64 0, .slice A l.length c]) ∧ Hid (Whole wk g5 23 #[.int .i64 tj, .int .i64 (n.id : Int)]) ∧ Hid (Sl wk wk.heap.size (.slice A4 nl d4) ms)) (fun kv _ => nl - (intOf kv).toNat)
      case atStart => exact ⟨0, Nat.zero_le _, rfl, HS4, H4, HW1, HW2, HNB, HM⟩
      case round =>
        clear HS4 H4 HW1 HW2 HNB HM
        obtain ⟨k, hk, rfl, HS4, H4, HW1, HW2, HNB, HM⟩ := hrel
        by_cases hkl : k < nl
        rotate_left
        · have dk : decide ((k : Int) < (nl : Int)) = false := by simp; omega
          go_wp2_with fail
          go_roundw
          case rel => exact ⟨i + 1, G4, by omega, by go_num, by rw [hsj]; exact HS4, H4, HW1, HW2⟩
          case measure => simp [intOf]; omega
        have dk : decide ((k : Int) < (nl : Int)) = true := by simp; omega
        have hk_a : k < ms.length := by rw [HNL.out]; omega
        obtain ⟨bba, ooa, Xa, dxa, hAa, -, ga, -⟩ := Sl.msg2 HM.out (k) hk_a
        have hata := HAT.out (k) (by omega)
        rw [List.getElem?_eq_getElem hk_a] at hata
        have hmsa : ms[k] = f (Rf.whom n (k)) := Option.some.inj hata
        rw [hmsa, HASK.out] at ga
        have hca := Cells.at9 ga
        obtain ⟨a0, a1, a2, a3, a4, a5, a6, a7, a8⟩ := hca
        clear hata hmsa ga hk_a
        subst hAa
        obtain ⟨p0, p1⟩ := HW1.out.c2
        obtain ⟨r0, r1, r2⟩ := HW2.out.c3
        obtain ⟨n0, n1⟩ := HNB.out.c2
        have hw1 := Rf.whom_ne (n := n) k
        have f1 : ((Rf.whom n k : Int) == (n.id : Int)) = false := by simp; omega
        have e4 : (tj != tj) = false := by simp
        have e5 : ((l.length : Int) != (l.length : Int)) = false := by simp
        have e3 : ((n.id : Int) != (n.id : Int)) = false := by simp
        by_cases hk0 : k = 0
        · have f3 : decide (0 < k) = false := by simp; omega
          clear hk0
          go_wp2_with fail
          go_quiet (fail)
          go_wp2_with fail
          go_roundw
          case rel => exact ⟨k + 1, by omega, by go_num, HS4.out.stay (below_drewN (Below.refl _ _) nq), H4.out.trans (below_drewN (Below.refl _ _) nq), HW1.out.below (below_drewN (Below.refl _ _) nq) HW1.out.lt, HW2.out.below (below_drewN (Below.refl _ _) nq) HW2.out.lt, HNB.out.below (below_drewN (Below.refl _ _) nq) HNB.out.lt, HM.out.below (below_drewN (Below.refl _ _) nq)⟩
          case measure => simp [intOf]; omega
        · have hk1 : 1 ≤ k := by omega
          have hk_b : k - 1 < ms.length := by rw [HNL.out]; omega
          obtain ⟨bbb, oob, Xb, dxb, hAb, -, gb, -⟩ := Sl.msg2 HM.out (k - 1) hk_b
          have hatb := HAT.out (k - 1) (by omega)
          rw [List.getElem?_eq_getElem hk_b] at hatb
          have hmsb : ms[k - 1] = f (Rf.whom n (k - 1)) := Option.some.inj hatb
          rw [hmsb, HASK.out] at gb
          have hcb := Cells.at9 gb
          obtain ⟨c0, c1, c2, c3, c4, c5, c6, c7, c8⟩ := hcb
          clear hatb hmsb gb hk_b
          have hAb2 := hAb
          injection hAb2 with hAb2
          injection hAb2 with hx1 hx2
          subst hx1 hx2
          clear hAb
          have hup := Rf.whom_up (n := n) (j := k - 1) (k := k) (by omega)
          have f2 : decide ((Rf.whom n k : Int) ≤ (Rf.whom n (k - 1) : Int)) = false := by simp; omega
          have f3 : decide (0 < k) = true := by simp; omega
          have hwk : IntKind.i64.wrap ((k : Int) - 1) = (k : Int) - 1 := by rw [IntKind.wrap_i64]; omega
          have hkm : ((k : Int) - 1).toNat = k - 1 := by omega
          have hin : (1 : Int) ≤ (k : Int) := by omega
          have hin2 : (k : Int) - 1 < (nl : Int) := by omega
          clear hk0
          go_wp2_with fail
          go_quiet (fail)
          go_wp2_with fail
          go_roundw
          case rel => exact ⟨k + 1, by omega, by go_num, HS4.out.stay (below_drewN (Below.refl _ _) nq), H4.out.trans (below_drewN (Below.refl _ _) nq), HW1.out.below (below_drewN (Below.refl _ _) nq) HW1.out.lt, HW2.out.below (below_drewN (Below.refl _ _) nq) HW2.out.lt, HNB.out.below (below_drewN (Below.refl _ _) nq) HNB.out.lt, HM.out.below (below_drewN (Below.refl _ _) nq)⟩
          case measure => simp [intOf]; omega
end Go.Proofs.Ytjcljkbalpgfdaa
