/-
  RaftLeads is true of every input.
-/
import Derived.Test.YtjcljkbalpgfdaaM10
import Derived.Test.YtjcljkbalpgfdaaM11
import Derived.Test.YtjcljkbalpgfdaaM26
import Derived.Test.YtjcljkbalpgfdaaM27
import Derived.LoopTactic
import Derived.BigQuiet
namespace Go.Proofs.Ytjcljkbalpgfdaa
open Go.RowKit

theorem neq_ballot (a b : Int) (w : World) : (binOp .neq 23 (.agg #[.int .i64 a, .int .i64 b]) (.agg #[.int .i64 a, .int .i64 b])).run Try.prog w = .ok (.bool false) w := by
  go_simp
theorem neq_cmd (c1 c2 c3 c4 c5 c6 : Int) (w : World) : (binOp .neq 43 (.agg #[.int .i64 c1, .int .i64 c2, .int .i64 c3, .int .i64 c4, .int .i64 c5, .int .i64 c6]) (.agg #[.int .i64 c1, .int .i64 c2, .int .i64 c3, .int .i64 c4, .int .i64 c5, .int .i64 c6])).run Try.prog w = .ok (.bool false) w := by
  go_simp
/-- The command at k of a slice of commands. -/
theorem Sl.cmd {w : World} {B n c : Nat} {A : Option Addr} {l : List Rf.Cmd} (h : Sl w B (.slice A n c) l) (k : Nat) (hk : k < l.length) :
    ∃ b off, A = some ⟨b, off, none⟩ ∧ b < B ∧ Cells w b (off + k * 6) (cmc l[k]) ∧ CmdFit l[k] := by
  have hr := h.room
  obtain ⟨b, off, ds, e, hb, h1, h2⟩ := h.at_ k (by omega) hk
  obtain ⟨rfl, hw⟩ := Flat.iff.1 h1
  exact ⟨b, off, e, hb, fun j u hu => h2 j u (by rw [← hu, ← Array.getElem?_toList]; rfl), hw⟩
theorem Cells.at6 {w : World} {b o : Nat} {x0 x1 x2 x3 x4 x5 : Value} (h : Cells w b o #[x0, x1, x2, x3, x4, x5]) : w.cell? ⟨b, o, none⟩ = some x0 ∧ w.cell? ⟨b, o + 1, none⟩ = some x1 ∧ w.cell? ⟨b, o + 2, none⟩ = some x2 ∧ w.cell? ⟨b, o + 3, none⟩ = some x3 ∧ w.cell? ⟨b, o + 4, none⟩ = some x4 ∧ w.cell? ⟨b, o + 5, none⟩ = some x5 :=
  ⟨h 0 _ rfl, h 1 _ rfl, h 2 _ rfl, h 3 _ rfl, h 4 _ rfl, h 5 _ rfl⟩
set_option maxRecDepth 100000 in
set_option maxHeartbeats 8000000 in
theorem leads_law (w : World) (b1 b2 l1 l2 : Int) (v : Value) (l : List E) (hv : Sl w w.heap.size v l) (u : Value) (cs : List Rf.Cmd) (hu : Sl w w.heap.size u cs) :
    Calls Try.prog 5 #[bv b1 b2, lv l1 l2 v, u] w fun e w' => e = .returned (.bool true) ∧ Below w.heap.size w w' := by
  obtain ⟨A, c, rfl, hc, hm⟩ := hv.form
  unfold maxLen at hm
  have HB0 := Lib.hid (((Below.refl w.heap.size w).alloc (Nat.le_refl _) (.cells #[.int .i64 b1, .int .i64 b2] 23)).alloc ((Below.refl w.heap.size w).alloc (Nat.le_refl _) (.cells #[.int .i64 b1, .int .i64 b2] 23)).size (.cells #[.int .i64 l1, .int .i64 l2, .slice A l.length c] 26))
  have HW1 := Lib.hid ((Whole.new w 23 #[.int .i64 b1, .int .i64 b2]).alloc (.cells #[.int .i64 l1, .int .i64 l2, .slice A l.length c] 26))
  have HW2 := Lib.hid (Whole.new1 w (.cells #[.int .i64 b1, .int .i64 b2] 23) 26 #[.int .i64 l1, .int .i64 l2, .slice A l.length c])
  obtain ⟨Y, dy, rfl, hdy, hmy⟩ := hu.form
  unfold maxLen at hmy
  have HU := Lib.hid (fun W (hb : Below w.heap.size w W) => hu.below hb)
  have HN := Lib.hid (fun W (hb : Below w.heap.size w W) (hl : l.length ≤ 100) => pnew_any 1 1 b1 b2 l1 l2 _ l (· < w.heap.size) W (hv.below hb) hl)
  have hz0 := HB0.out.size
  have hl1 := HW1.out.lt
  have hl2 := HW2.out.lt
  clear hv hu
  go_enter Try.func5, Try.ntmps5
  go_wp2_with fail
  generalize hw0 : World.alloc (World.alloc w _) _ = w0 at *
  clear hw0
  with_reducible refine (awake7_any _).mono ?_
  rintro e w1 ⟨rfl, hb⟩
  have H1 := Lib.hid hb
  replace HW1 := Lib.hid (HW1.out.below hb HW1.out.lt)
  replace HW2 := Lib.hid (HW2.out.below hb HW2.out.lt)
  clear hb
  obtain ⟨p0, p1⟩ := HW1.out.c2
  obtain ⟨r0, r1, r2⟩ := HW2.out.c3
  by_cases h : 100 < l.length
  · have d : decide ((100 : Int) < (l.length : Int)) = true := by simp; omega
    go_wp2_with fail
    go_ret
    exact ⟨rfl, HB0.out.trans (H1.out.mono HB0.out.size)⟩
  have hh25 := h
  have d25 : decide ((100 : Int) < (l.length : Int)) = false := by simp; omega
  clear h
  by_cases h : 60 < cs.length
  · have d : decide ((60 : Int) < (cs.length : Int)) = true := by simp; omega
    go_wp2_with fail
    go_ret
    exact ⟨rfl, HB0.out.trans (H1.out.mono HB0.out.size)⟩
  have hh33 := h
  have d33 : decide ((60 : Int) < (cs.length : Int)) = false := by simp; omega
  clear h
  have HPN := Lib.hid (HN.out _ (HB0.out.trans (H1.out.mono hz0)) (by omega))
  have HNW := Lib.hid (fun n s => @Rf.new_is 1 1 (b1, b2) (l1, l2, l) n s)
  clear HN
  generalize Rf.new 1 1 (b1, b2) (l1, l2, l) = R at *
  go_wp2_with fail
  refine HPN.out.mono ?_
  intro e w3 hp3
  clear p0 p1 r0 r1 r2
  rcases R with _ | ⟨n, s⟩
  · obtain ⟨rfl, hb⟩ := hp3
    have H3 := Lib.hid (HB0.out.trans ((H1.out.trans (hb.mono H1.out.size)).mono hz0))
    go_wp2_with fail
    go_ret
    exact ⟨rfl, H3.out⟩
  obtain ⟨G, p, rfl, hG, hp, hb⟩ := hp3
  obtain ⟨pg, rfl⟩ := hp.ptr
  have hz1 := H1.out.size
  have HSo := Lib.hid (Solo.new hp hG hz1)
  have H3 := Lib.hid (H1.out.trans (hb.mono hz1))
  replace HW1 := Lib.hid (HW1.out.below hb HW1.out.lt)
  replace HW2 := Lib.hid (HW2.out.below hb HW2.out.lt)
  obtain ⟨hg, h1, h2, h3, h4, h5, h6, h7, h8⟩ := HNW.out n s rfl
  obtain rfl : n = Rf.one := by
    obtain ⟨n1, n2⟩ := n
    simp only at h1 h2
    have e1 : n1 = 1 := by omega
    have e2 : n2 = 1 := by omega
    rw [e1, e2]
  have h3a : s.b.1 = b1 := by rw [h3]
  have HG := Lib.hid hg
  have hbb := hg.b
  subst h7 h8
  subst h3a
  clear hb hp hG HPN HNW h1 h2 h3 h4 H1 hz1
  obtain ⟨p0, p1⟩ := HW1.out.c2
  obtain ⟨r0, r1, r2⟩ := HW2.out.c3
  have hz3 := H3.out.size
  by_cases hb30 : 1073741824 ≤ s.b.1
  · have ht : Rf.timeout Rf.one s = (s, []) := by unfold Rf.timeout; rw [if_pos (.inr hb30)]
    have HTI := Lib.hid (ptimeout_any Rf.one G _ s HG.out _ w3 HSo.out.p)
    rw [ht] at HTI
    simp only at HTI
    have e0 : decide (1073741824 ≤ s.b.1) = true := by simpa using hb30
    clear ht hg
    go_wp2_with fail
    refine HTI.out.mono ?_
    rintro e w4 ⟨v4, rfl, hm4, hs4⟩
    obtain ⟨A4, d4, rfl, -, -⟩ := SlS.form hm4
    obtain ⟨G4, hso4, hb, hk4⟩ := HSo.out.does hz3 hs4
    have HRO := Lib.hid (prole_any Rf.one G4 _ s HG.out _ w4 hso4.p)
    have H4 := Lib.hid (H3.out.trans hb)
    have hz4 := H4.out.size
    rw [h5] at HRO
    have h00 : ([] : List Rf.Msg).length = 0 := rfl
    rw [h00]
    clear hm4 hs4 hso4 hb hk4 HTI h00
    go_wp2_with fail
    with_reducible refine HRO.out.mono ?_
    rintro e w5 ⟨rfl, hb⟩
    have H5 := Lib.hid (H4.out.trans (hb.mono hz4))
    clear hb
    go_wp2_with fail
    go_ret
    exact ⟨rfl, HB0.out.trans (H5.out.mono hz0)⟩
  have e0 : decide (1073741824 ≤ s.b.1) = false := by simpa using hb30
  obtain ⟨t1, t2, t3, t4, -, -⟩ := Rf.one_timeout hg h5 h6 (by omega)
  have HTI := Lib.hid (ptimeout_any Rf.one G _ s HG.out _ w3 HSo.out.p)
  have hgt := hg.timeout
  rw [t1] at HTI
  generalize (Rf.timeout Rf.one s).1 = st at *
  have HGT := Lib.hid hgt
  have HIS := Lib.hid t2
  have HUP := Lib.hid t4
  clear hgt hg h5 h6 t1 t2 t4 HG
  go_wp2_with fail
  refine HTI.out.mono ?_
  rintro e w4 ⟨v4, rfl, hm4, hs4⟩
  obtain ⟨G4, hso4, hb, hk4⟩ := HSo.out.does hz3 hs4
  have HS4 := Lib.hid hso4
  have H4 := Lib.hid (H3.out.trans hb)
  have hz4 := H4.out.size
  clear p0 p1 r0 r1 r2
  replace HW1 := Lib.hid (HW1.out.below hb (by omega))
  replace HW2 := Lib.hid (HW2.out.below hb (by omega))
  clear hm4 hs4 hso4 hb hk4 HTI HSo H3 hz3
  have HRO := Lib.hid (fun W (hb : Below w4.heap.size w4 W) => prole_any Rf.one G4 _ st HGT.out _ W (HS4.out.p.stay hb))
  have HBA := Lib.hid (fun W (hb : Below w4.heap.size w4 W) => pballot_any Rf.one G4 _ st HGT.out _ W (HS4.out.p.stay hb))
  rw [HIS.out] at HRO
  rw [t3] at HBA
  simp only at HBA
  have hwb : IntKind.i64.wrap (s.b.1 + 1) = s.b.1 + 1 := by rw [IntKind.wrap_i64]; omega
  have hnq := fun W => neq_ballot (s.b.1 + 1) 1 W
  go_wp2_with fail
  refine z_start ((w4).drew.heap.size) [] (by kernel_rfl) ?_
  have HC := Lib.hid (Below.refl ((w4).drew.heap.size) (w4).drew)
  have hBz : (w4).drew.heap.size ≤ (w4).drew.heap.size := Nat.le_refl _
  replace HW1 := Lib.hid (show Whole (w4).drew _ _ _ from HW1.out)
  have hltW := HW1.out.lt
  have HD := Lib.hid ((Below.refl w4.heap.size w4).drew)
  generalize (w4).drew = z1 at *
  refine z_take (i := 0) (v := ?_) rfl (by kernel_rfl) (by kernel_rfl) (by kernel_rfl) (k0 := 0) (by kernel_rfl) (by kernel_rfl) (.inl rfl) (fun _ _ _ h => h) (by rfl) HC.out ?_ ?_
  rotate_left
  · intro W hW
    go_simp
    first | done | rfl
  simp only [Act.put, List.setIfInBounds_toArray, List.set_cons_zero, List.set_cons_succ, List.getElem_toArray, List.getElem_cons_zero]
  refine z_one (i := 1) (by kernel_rfl) ?_
  refine onez_call (i := 1) (f := 13) (args := ?_) rfl (by rfl) ?_ ?_
  rotate_left
  · go_simp
    first | done | rfl
  with_reducible refine (HRO.out _ (HD.out.trans (HC.out.mono HD.out.size))).mono ?_
  rintro e z2 ⟨rfl, hb⟩
  refine ⟨_, rfl, fun _ => HC.out.trans (hb.mono hBz), ?_⟩
  replace HC := Lib.hid (HC.out.trans (hb.mono hBz))
  replace hBz := Nat.le_trans hBz hb.size
  clear hb
  simp only [Act.put, List.setIfInBounds_toArray, List.set_cons_zero, List.set_cons_succ, List.getElem_toArray, List.getElem_cons_zero, List.getElem_cons_succ]
  refine z_take (i := 2) (v := ?_) rfl (by kernel_rfl) (by kernel_rfl) (by kernel_rfl) (k0 := 2) (by kernel_rfl) (by kernel_rfl) (.inl rfl) (fun _ _ _ h => h) (by rfl) HC.out ?_ ?_
  rotate_left
  · intro W hW
    go_simp
    first | done | rfl
  simp only [Act.put, List.setIfInBounds_toArray, List.set_cons_zero, List.set_cons_succ, List.getElem_toArray, List.getElem_cons_zero, List.getElem_cons_succ]
  refine z_take (i := 3) (v := ?_) rfl (by kernel_rfl) (by kernel_rfl) (by kernel_rfl) (k0 := 3) (by kernel_rfl) (by kernel_rfl) (.inl rfl) (fun _ _ _ h => h) (by rfl) HC.out ?_ ?_
  rotate_left
  · intro W hW
    go_simp
    first | done | rfl
  simp only [Act.put, List.setIfInBounds_toArray, List.set_cons_zero, List.set_cons_succ, List.getElem_toArray, List.getElem_cons_zero, List.getElem_cons_succ]
  refine z_take (i := 4) (v := ?_) rfl (by kernel_rfl) (by kernel_rfl) (by kernel_rfl) (k0 := 4) (by kernel_rfl) (by kernel_rfl) (.inl rfl) (fun _ _ _ h => h) (by rfl) HC.out ?_ ?_
  rotate_left
  · intro W hW
    go_simp
    first | done | rfl
  simp only [Act.put, List.setIfInBounds_toArray, List.set_cons_zero, List.set_cons_succ, List.getElem_toArray, List.getElem_cons_zero, List.getElem_cons_succ]
  refine z_take (i := 6) (v := ?_) rfl (by kernel_rfl) (by kernel_rfl) (by kernel_rfl) (k0 := 6) (by kernel_rfl) (by kernel_rfl) (.inl rfl) (fun _ _ _ h => h) (by rfl) HC.out ?_ ?_
  rotate_left
  · intro W hW
    go_simp
    first | done | rfl
  simp only [Act.put, List.setIfInBounds_toArray, List.set_cons_zero, List.set_cons_succ, List.getElem_toArray, List.getElem_cons_zero, List.getElem_cons_succ]
  refine z_take (i := 7) (v := ?_) rfl (by kernel_rfl) (by kernel_rfl) (by kernel_rfl) (k0 := 7) (by kernel_rfl) (by kernel_rfl) (.inl rfl) (fun _ _ _ h => h) (by rfl) HC.out ?_ ?_
  rotate_left
  · intro W hW
    obtain ⟨p0, p1⟩ := (HW1.out.below hW hltW).c2
    go_simp
    first | done | rfl
  simp only [Act.put, List.setIfInBounds_toArray, List.set_cons_zero, List.set_cons_succ, List.getElem_toArray, List.getElem_cons_zero, List.getElem_cons_succ]
  refine z_take (i := 8) (v := ?_) rfl (by kernel_rfl) (by kernel_rfl) (by kernel_rfl) (k0 := 8) (by kernel_rfl) (by kernel_rfl) (.inl rfl) (fun _ _ _ h => h) (by rfl) HC.out ?_ ?_
  rotate_left
  · intro W hW
    go_simp
    first | done | rfl
  simp only [Act.put, List.setIfInBounds_toArray, List.set_cons_zero, List.set_cons_succ, List.getElem_toArray, List.getElem_cons_zero, List.getElem_cons_succ]
  refine z_take (i := 9) (v := ?_) rfl (by kernel_rfl) (by kernel_rfl) (by kernel_rfl) (k0 := 9) (by kernel_rfl) (by kernel_rfl) (.inl rfl) (fun _ _ _ h => h) (by rfl) HC.out ?_ ?_
  rotate_left
  · intro W hW
    go_simp
    first | done | rfl
  simp only [Act.put, List.setIfInBounds_toArray, List.set_cons_zero, List.set_cons_succ, List.getElem_toArray, List.getElem_cons_zero, List.getElem_cons_succ]
  refine z_one (i := 5) (by kernel_rfl) ?_
  refine onez_call (i := 5) (f := 11) (args := ?_) rfl (by rfl) ?_ ?_
  rotate_left
  · go_simp
    first | done | rfl
  with_reducible refine (HBA.out _ (HD.out.trans (HC.out.mono HD.out.size))).mono ?_
  rintro e z3 ⟨rfl, hb⟩
  refine ⟨_, rfl, fun _ => HC.out.trans (hb.mono hBz), ?_⟩
  replace HC := Lib.hid (HC.out.trans (hb.mono hBz))
  replace hBz := Nat.le_trans hBz hb.size
  clear hb
  simp only [Act.put, List.setIfInBounds_toArray, List.set_cons_zero, List.set_cons_succ, List.getElem_toArray, List.getElem_cons_zero, List.getElem_cons_succ]
  refine z_take (i := 10) (v := ?_) rfl (by kernel_rfl) (by kernel_rfl) (by kernel_rfl) (k0 := 10) (by kernel_rfl) (by kernel_rfl) (.inl rfl) (fun _ _ _ h => h) (by rfl) HC.out ?_ ?_
  rotate_left
  · intro W hW
    go_simp
    first | done | rfl
  simp only [Act.put, List.setIfInBounds_toArray, List.set_cons_zero, List.set_cons_succ, List.getElem_toArray, List.getElem_cons_zero, List.getElem_cons_succ]
  refine z_take (i := 11) (v := ?_) rfl (by kernel_rfl) (by kernel_rfl) (by kernel_rfl) (k0 := 11) (by kernel_rfl) (by kernel_rfl) (.inl rfl) (fun _ _ _ h => h) (by rfl) HC.out ?_ ?_
  rotate_left
  · intro W hW
    go_simp
    first | done | rfl
  simp only [Act.put, List.setIfInBounds_toArray, List.set_cons_zero, List.set_cons_succ, List.getElem_toArray, List.getElem_cons_zero, List.getElem_cons_succ]
  refine z_done (by kernel_rfl) ?_
  replace HD := Lib.hid (HD.out.trans (HC.out.mono HD.out.size))
  clear HC hBz hltW
  go_simp
  generalize hw5 : z3 = w5 at *
  clear hw5
  replace HS4 := Lib.hid (HS4.out.stay HD.out)
  replace H4 := Lib.hid (H4.out.trans (HD.out.mono hz4))
  clear HD HRO HBA hz4 HW1 HW2
  generalize hnl : cs.length = nl at *
  have HNL := Lib.hid hnl
  clear hnl
  go_wp2_with fail
  go_loopw [10] (fun iv wr => ∃ (i : Nat) (st : Rf.St) (G : Nat → Prop), i ≤ nl ∧ iv = .int .i64 (i : Int) ∧ Hid (Rf.Good Rf.one st) ∧ Hid (st.is = 2) ∧ Hid (st.upto ≤ st.l.length) ∧ Hid (Solo w0.heap.size Rf.one G st (.pointer (some ⟨pg, 0, none⟩)) wr) ∧ Hid (Below w0.heap.size w0 wr)) (fun iv _ => nl - (intOf iv).toNat)
  case atStart => exact ⟨0, st, G4, Nat.zero_le _, rfl, HGT, HIS, HUP, HS4, H4⟩
  case round =>
    clear HGT HIS HUP HS4 H4
    obtain ⟨i, st, G, hi, rfl, HGT, HIS, HUP, HSo, H4⟩ := hrel
    by_cases hlt : i < nl
    rotate_left
    · have dk : decide ((i : Int) < (nl : Int)) = false := by simp; omega
      go_wp2_with fail
      go_ret
      exact ⟨rfl, HB0.out.trans (H4.out.mono hz0)⟩
    have dk : decide ((i : Int) < (nl : Int)) = true := by simp; omega
    have hil : i < cs.length := by rw [HNL.out]; exact hlt
    have hz4 := H4.out.size
    have hlen := HGT.out.len
    have HLG := Lib.hid (plog_any Rf.one G _ st HGT.out _ wr HSo.out.p)
    go_wp2_with fail
    refine HLG.out.mono ?_
    rintro e wa ⟨va, rfl, hsa, hb⟩
    obtain ⟨Aa, da, rfl, -, -⟩ := SlS.form hsa
    have hfl := fld_log 0 0 (.slice Aa st.l.length da)
    replace HSo := Lib.hid (HSo.out.stay hb)
    replace H4 := Lib.hid (H4.out.trans (hb.mono hz4))
    clear hz4
    have hz4 := H4.out.size
    clear hb hsa HLG
    obtain ⟨bc, oc, hY, hbc, gc, hcf⟩ := Sl.cmd (HU.out wa (HB0.out.trans (H4.out.mono hz0))) i hil
    subst hY
    have HCE := Lib.hid (fun W (hb : Below wa.heap.size wa W) => show Cells W bc (oc + i * 6) (cmc cs[i]) from fun j u hu => (World.cell?_of_block (hb.block bc (Nat.lt_of_lt_of_le hbc (Nat.le_trans (Nat.le_trans hz0 hz4) (Nat.le_refl _))))).trans (gc j u hu))
    generalize cs[i] = cmd at *
    obtain ⟨c1, c2, c3, c4, c5, c6⟩ := cmd
    obtain ⟨y0, y1, y2, y3, y4, y5⟩ := Cells.at6 gc
    clear gc
    have HPP := Lib.hid (fun W (hs : Solo w0.heap.size Rf.one G st (.pointer (some ⟨pg, 0, none⟩)) W) => ppropose_any Rf.one G _ st HGT.out _ W hs.p c1 c2 c3 c4 c5 c6 hcf)
    have hgp := HGT.out.propose (c1, c2, c3, c4, c5, c6)
    have HGP := Lib.hid hgp
    clear hgp
    by_cases h64 : 64 ≤ st.l.length
    · have hop := Rf.one_full (s := st) HIS.out h64 (c1, c2, c3, c4, c5, c6)
      rw [hop] at HPP HGP
      simp only at HPP HGP
      have d64 : decide ((64 : Int) ≤ (st.l.length : Int)) = true := by simp; omega
      clear hop hfl
      have hfl := fld_log 0 0 (.slice Aa st.l.length da)
      go_wp2_with fail
      refine (HPP.out _ HSo.out).mono ?_
      rintro e wb ⟨vb, rfl, hmb, hsb⟩
      obtain ⟨G2, hso2, hb, hk2⟩ := HSo.out.does hz4 hsb
      have HLG := Lib.hid (plog_any Rf.one G2 _ st HGT.out _ wb hso2.p)
      have H5 := Lib.hid (H4.out.trans hb)
      have hz5 := H5.out.size
      clear hmb hsb hso2 hb hk2 HPP y0 y1 y2 y3 y4 y5 hfl
      go_wp2_with fail
      refine HLG.out.mono ?_
      rintro e wc ⟨vc, rfl, hsc, hb⟩
      obtain ⟨Ac, dc, rfl, -, -⟩ := SlS.form hsc
      have hfl := fld_log 0 0 (.slice Ac st.l.length dc)
      have H6 := Lib.hid (H5.out.trans (hb.mono hz5))
      clear hsc hb HLG
      go_wp2_with fail
      go_ret
      exact ⟨rfl, HB0.out.trans (H6.out.mono hz0)⟩
    have hop := Rf.one_propose HGT.out HIS.out (by omega) HUP.out (c1, c2, c3, c4, c5, c6)
    rw [hop] at HPP HGP
    try simp only at HPP HGP
    have d64 : decide ((64 : Int) ≤ (st.l.length : Int)) = false := by simp; omega
    obtain ⟨s2, hs2⟩ : ∃ s2 : Rf.St, s2 = { st with l := st.l ++ [(st.b.1, (c1, c2, c3, c4, c5, c6))], mt := [(st.l.length : Int) + 1], upto := (st.l.length : Int) + 1 } := ⟨_, rfl⟩
    rw [← hs2] at HPP HGP
    have k1 : s2.l = st.l ++ [(st.b.1, (c1, c2, c3, c4, c5, c6))] := by rw [hs2]
    have k2 : s2.upto = (st.l.length : Int) + 1 := by rw [hs2]
    have k3 : s2.is = st.is := by rw [hs2]
    have k4 : s2.l.length = st.l.length + 1 := by rw [k1]; simp
    have K1 := Lib.hid k1
    have K2 := Lib.hid k2
    have K3 := Lib.hid k3
    have K4 := Lib.hid k4
    clear hop hs2 k1 k2 k3 k4
    go_wp2_with fail
    refine (HPP.out _ HSo.out).mono ?_
    rintro e wb ⟨vb, rfl, hmb, hsb⟩
    obtain ⟨Ab, db, rfl, -, -⟩ := SlS.form hmb
    obtain ⟨G2, hso2, hb, hk2⟩ := HSo.out.does hz4 hsb
    have HS2 := Lib.hid hso2
    have HLG := Lib.hid (plog_any Rf.one G2 _ s2 HGP.out _ wb hso2.p)
    have H5 := Lib.hid (H4.out.trans hb)
    have hz5 := H5.out.size
    have hzz0 : bc < w0.heap.size := Nat.lt_of_lt_of_le hbc hz0
    have hcc := HCE.out wa (Below.refl _ _)
    have HCB := Lib.hid (show Cells wb bc (oc + i * 6) (cmc (c1, c2, c3, c4, c5, c6)) from fun j u hu => (World.cell?_of_block (hb.block bc hzz0)).trans (hcc j u hu))
    have h00 : ([] : List Rf.Msg).length = 0 := rfl
    rw [h00]
    clear hmb hsb hso2 hb hk2 HPP HCE hcc y0 y1 y2 y3 y4 y5 hfl HSo h00
    go_wp2_with fail
    refine HLG.out.mono ?_
    rintro e wc ⟨vc, rfl, hsc, hb⟩
    obtain ⟨Ac, dc, rfl, -, -⟩ := SlS.form hsc
    have hfl := fld_log 0 0 (.slice Ac s2.l.length dc)
    have hen := Sl.entry (show Sl wc wc.heap.size (.slice Ac s2.l.length dc) s2.l from SlS.wide hsc (fun _ _ h => h)) st.l.length (by rw [K4.out]; omega)
    have hat : s2.l[st.l.length]'(by rw [K4.out]; omega) = (st.b.1, (c1, c2, c3, c4, c5, c6)) := by simp only [K1.out]; simp
    rw [hat] at hen
    obtain ⟨be, oe, rfl, hbe, -, x1, x2, x3, x4, x5, x6, -⟩ := hen
    simp only at x1 x2 x3 x4 x5 x6
    replace HCB := Lib.hid (show Cells wc bc (oc + i * 6) (cmc (c1, c2, c3, c4, c5, c6)) from fun j u hu => (World.cell?_of_block (hb.block bc (by omega))).trans (HCB.out j u hu))
    replace HS2 := Lib.hid (HS2.out.stay hb)
    replace H5 := Lib.hid (H5.out.trans (hb.mono hz5))
    clear hz5
    have hz5 := H5.out.size
    have hbc2 : bc < wc.heap.size := by omega
    have HEC := Lib.hid (fun W (hb : Below wc.heap.size wc W) => (show W.cell? ⟨be, oe + st.l.length * 7 + 1, none⟩ = some (.int .i64 c1) ∧ W.cell? ⟨be, oe + st.l.length * 7 + 2, none⟩ = some (.int .i64 c2) ∧ W.cell? ⟨be, oe + st.l.length * 7 + 3, none⟩ = some (.int .i64 c3) ∧ W.cell? ⟨be, oe + st.l.length * 7 + 4, none⟩ = some (.int .i64 c4) ∧ W.cell? ⟨be, oe + st.l.length * 7 + 5, none⟩ = some (.int .i64 c5) ∧ W.cell? ⟨be, oe + st.l.length * 7 + 6, none⟩ = some (.int .i64 c6) from ⟨(World.cell?_of_block (hb.block be hbe)).trans x1, (World.cell?_of_block (hb.block be hbe)).trans x2, (World.cell?_of_block (hb.block be hbe)).trans x3, (World.cell?_of_block (hb.block be hbe)).trans x4, (World.cell?_of_block (hb.block be hbe)).trans x5, (World.cell?_of_block (hb.block be hbe)).trans x6⟩))
    have HLC := Lib.hid (fun W (hb : Below wc.heap.size wc W) => Cells.at6 (show Cells W bc (oc + i * 6) (cmc (c1, c2, c3, c4, c5, c6)) from fun j u hu => (World.cell?_of_block (hb.block bc hbc2)).trans (HCB.out j u hu)))
    clear hsc hb HLG hat x1 x2 x3 x4 x5 x6 HCB
    have HSE := Lib.hid (fun W (hb : Below wc.heap.size wc W) => psettled_any Rf.one G2 _ s2 HGP.out _ W (HS2.out.p.stay hb))
    rw [K2.out] at HSE
    have k4 := K4.out
    rw [k4] at hfl ⊢
    clear k4
    have hw1 : IntKind.i64.wrap ((st.l.length : Int) + 1) = (st.l.length : Int) + 1 := by rw [IntKind.wrap_i64]; omega
    have hw2 : IntKind.i64.wrap ((st.l.length : Int) + 1 - 1) = (st.l.length : Int) := by rw [IntKind.wrap_i64]; omega
    have hw3 : IntKind.i64.wrap (st.l.length : Int) = (st.l.length : Int) := by rw [IntKind.wrap_i64]; omega
    have hi3 : (st.l.length : Int) < (st.l.length : Int) + 1 := by omega
    have hi4 : (0 : Int) ≤ (st.l.length : Int) := by omega
    have hcast : ((st.l.length + 1 : Nat) : Int) = (st.l.length : Int) + 1 := by omega
    have e1 : ((((st.l.length + 1 : Nat) : Int)) != (st.l.length : Int) + 1) = false := by simp
    have e2 : (((st.l.length : Int) + 1) != (st.l.length : Int) + 1) = false := by simp
    have hnc := fun W => neq_cmd c1 c2 c3 c4 c5 c6 W
    have hi1 : (0 : Int) ≤ (i : Int) := by omega
    have hi2 : (i : Int) < (nl : Int) := by omega
    go_wp2_with fail
    refine z_start ((wc).drew.heap.size) [] (by kernel_rfl) ?_
    have HC := Lib.hid (Below.refl ((wc).drew.heap.size) (wc).drew)
    have hBz : (wc).drew.heap.size ≤ (wc).drew.heap.size := Nat.le_refl _
    have HD := Lib.hid ((Below.refl wc.heap.size wc).drew)
    generalize (wc).drew = y1 at *
    refine z_take (i := 0) (v := ?_) rfl (by kernel_rfl) (by kernel_rfl) (by kernel_rfl) (k0 := 0) (by kernel_rfl) (by kernel_rfl) (.inl rfl) (fun _ _ _ h => h) (by rfl) HC.out ?_ ?_
    rotate_left
    · intro W hW
      go_simp
      first | done | rfl
    simp only [Act.put, List.setIfInBounds_toArray, List.set_cons_zero, List.set_cons_succ, List.getElem_toArray, List.getElem_cons_zero]
    refine z_take (i := 1) (v := ?_) rfl (by kernel_rfl) (by kernel_rfl) (by kernel_rfl) (k0 := 1) (by kernel_rfl) (by kernel_rfl) (.inl rfl) (fun _ _ _ h => h) (by rfl) HC.out ?_ ?_
    rotate_left
    · intro W hW
      go_simp
      first | done | rfl
    simp only [Act.put, List.setIfInBounds_toArray, List.set_cons_zero, List.set_cons_succ, List.getElem_toArray, List.getElem_cons_zero, List.getElem_cons_succ]
    refine z_take (i := 2) (v := ?_) rfl (by kernel_rfl) (by kernel_rfl) (by kernel_rfl) (k0 := 2) (by kernel_rfl) (by kernel_rfl) (.inl rfl) (fun _ _ _ h => h) (by rfl) HC.out ?_ ?_
    rotate_left
    · intro W hW
      go_simp
      first | done | rfl
    simp only [Act.put, List.setIfInBounds_toArray, List.set_cons_zero, List.set_cons_succ, List.getElem_toArray, List.getElem_cons_zero, List.getElem_cons_succ]
    refine z_take (i := 3) (v := ?_) rfl (by kernel_rfl) (by kernel_rfl) (by kernel_rfl) (k0 := 3) (by kernel_rfl) (by kernel_rfl) (.inl rfl) (fun _ _ _ h => h) (by rfl) HC.out ?_ ?_
    rotate_left
    · intro W hW
      go_simp
      first | done | rfl
    simp only [Act.put, List.setIfInBounds_toArray, List.set_cons_zero, List.set_cons_succ, List.getElem_toArray, List.getElem_cons_zero, List.getElem_cons_succ]
    refine z_take (i := 4) (v := ?_) rfl (by kernel_rfl) (by kernel_rfl) (by kernel_rfl) (k0 := 4) (by kernel_rfl) (by kernel_rfl) (.inl rfl) (fun _ _ _ h => h) (by rfl) HC.out ?_ ?_
    rotate_left
    · intro W hW
      go_simp
      first | done | rfl
    simp only [Act.put, List.setIfInBounds_toArray, List.set_cons_zero, List.set_cons_succ, List.getElem_toArray, List.getElem_cons_zero, List.getElem_cons_succ]
    refine z_take (i := 5) (v := ?_) rfl (by kernel_rfl) (by kernel_rfl) (by kernel_rfl) (k0 := 5) (by kernel_rfl) (by kernel_rfl) (.inl rfl) (fun _ _ _ h => h) (by rfl) HC.out ?_ ?_
    rotate_left
    · intro W hW
      go_simp
      first | done | rfl
    simp only [Act.put, List.setIfInBounds_toArray, List.set_cons_zero, List.set_cons_succ, List.getElem_toArray, List.getElem_cons_zero, List.getElem_cons_succ]
    refine z_take (i := 6) (v := ?_) rfl (by kernel_rfl) (by kernel_rfl) (by kernel_rfl) (k0 := 6) (by kernel_rfl) (by kernel_rfl) (.inl rfl) (fun _ _ _ h => h) (by rfl) HC.out ?_ ?_
    rotate_left
    · intro W hW
      go_simp
      first | done | rfl
    simp only [Act.put, List.setIfInBounds_toArray, List.set_cons_zero, List.set_cons_succ, List.getElem_toArray, List.getElem_cons_zero, List.getElem_cons_succ]
    refine z_take (i := 7) (v := ?_) rfl (by kernel_rfl) (by kernel_rfl) (by kernel_rfl) (k0 := 7) (by kernel_rfl) (by kernel_rfl) (.inl rfl) (fun _ _ _ h => h) (by rfl) HC.out ?_ ?_
    rotate_left
    · intro W hW
      go_simp
      first | done | rfl
    simp only [Act.put, List.setIfInBounds_toArray, List.set_cons_zero, List.set_cons_succ, List.getElem_toArray, List.getElem_cons_zero, List.getElem_cons_succ]
    refine z_take (i := 8) (v := ?_) rfl (by kernel_rfl) (by kernel_rfl) (by kernel_rfl) (k0 := 8) (by kernel_rfl) (by kernel_rfl) (.inl rfl) (fun _ _ _ h => h) (by rfl) HC.out ?_ ?_
    rotate_left
    · intro W hW
      go_simp
      first | done | rfl
    simp only [Act.put, List.setIfInBounds_toArray, List.set_cons_zero, List.set_cons_succ, List.getElem_toArray, List.getElem_cons_zero, List.getElem_cons_succ]
    refine z_take (i := 9) (v := ?_) rfl (by kernel_rfl) (by kernel_rfl) (by kernel_rfl) (k0 := 9) (by kernel_rfl) (by kernel_rfl) (.inl rfl) (fun _ _ _ h => h) (by rfl) HC.out ?_ ?_
    rotate_left
    · intro W hW
      go_simp
      first | done | rfl
    simp only [Act.put, List.setIfInBounds_toArray, List.set_cons_zero, List.set_cons_succ, List.getElem_toArray, List.getElem_cons_zero, List.getElem_cons_succ]
    refine z_take (i := 10) (v := ?_) rfl (by kernel_rfl) (by kernel_rfl) (by kernel_rfl) (k0 := 10) (by kernel_rfl) (by kernel_rfl) (.inl rfl) (fun _ _ _ h => h) (by rfl) HC.out ?_ ?_
    rotate_left
    · intro W hW
      go_simp
      first | done | rfl
    simp only [Act.put, List.setIfInBounds_toArray, List.set_cons_zero, List.set_cons_succ, List.getElem_toArray, List.getElem_cons_zero, List.getElem_cons_succ]
    refine z_take (i := 11) (v := ?_) rfl (by kernel_rfl) (by kernel_rfl) (by kernel_rfl) (k0 := 11) (by kernel_rfl) (by kernel_rfl) (.inl rfl) (fun _ _ _ h => h) (by rfl) HC.out ?_ ?_
    rotate_left
    · intro W hW
      go_simp
      first | done | rfl
    simp only [Act.put, List.setIfInBounds_toArray, List.set_cons_zero, List.set_cons_succ, List.getElem_toArray, List.getElem_cons_zero, List.getElem_cons_succ]
    refine z_take (i := 12) (v := ?_) rfl (by kernel_rfl) (by kernel_rfl) (by kernel_rfl) (k0 := 12) (by kernel_rfl) (by kernel_rfl) (.inl rfl) (fun _ _ _ h => h) (by rfl) HC.out ?_ ?_
    rotate_left
    · intro W hW
      go_simp
      first | done | rfl
    simp only [Act.put, List.setIfInBounds_toArray, List.set_cons_zero, List.set_cons_succ, List.getElem_toArray, List.getElem_cons_zero, List.getElem_cons_succ]
    refine z_take (i := 13) (v := ?_) rfl (by kernel_rfl) (by kernel_rfl) (by kernel_rfl) (k0 := 13) (by kernel_rfl) (by kernel_rfl) (.inl rfl) (fun _ _ _ h => h) (by rfl) HC.out ?_ ?_
    rotate_left
    · intro W hW
      go_simp
      first | done | rfl
    simp only [Act.put, List.setIfInBounds_toArray, List.set_cons_zero, List.set_cons_succ, List.getElem_toArray, List.getElem_cons_zero, List.getElem_cons_succ]
    refine z_take (i := 14) (v := ?_) rfl (by kernel_rfl) (by kernel_rfl) (by kernel_rfl) (k0 := 14) (by kernel_rfl) (by kernel_rfl) (.inl rfl) (fun _ _ _ h => h) (by rfl) HC.out ?_ ?_
    rotate_left
    · intro W hW
      go_simp
      first | done | rfl
    simp only [Act.put, List.setIfInBounds_toArray, List.set_cons_zero, List.set_cons_succ, List.getElem_toArray, List.getElem_cons_zero, List.getElem_cons_succ]
    refine z_take (i := 15) (v := ?_) rfl (by kernel_rfl) (by kernel_rfl) (by kernel_rfl) (k0 := 15) (by kernel_rfl) (by kernel_rfl) (.inl rfl) (fun _ _ _ h => h) (by rfl) HC.out ?_ ?_
    rotate_left
    · intro W hW
      go_simp
      first | done | rfl
    simp only [Act.put, List.setIfInBounds_toArray, List.set_cons_zero, List.set_cons_succ, List.getElem_toArray, List.getElem_cons_zero, List.getElem_cons_succ]
    refine z_take (i := 16) (v := ?_) rfl (by kernel_rfl) (by kernel_rfl) (by kernel_rfl) (k0 := 16) (by kernel_rfl) (by kernel_rfl) (.inl rfl) (fun _ _ _ h => h) (by rfl) HC.out ?_ ?_
    rotate_left
    · intro W hW
      go_simp
      first | done | rfl
    simp only [Act.put, List.setIfInBounds_toArray, List.set_cons_zero, List.set_cons_succ, List.getElem_toArray, List.getElem_cons_zero, List.getElem_cons_succ]
    refine z_take (i := 17) (v := ?_) rfl (by kernel_rfl) (by kernel_rfl) (by kernel_rfl) (k0 := 17) (by kernel_rfl) (by kernel_rfl) (.inl rfl) (fun _ _ _ h => h) (by rfl) HC.out ?_ ?_
    rotate_left
    · intro W hW
      go_simp
      first | done | rfl
    simp only [Act.put, List.setIfInBounds_toArray, List.set_cons_zero, List.set_cons_succ, List.getElem_toArray, List.getElem_cons_zero, List.getElem_cons_succ]
    refine z_take (i := 18) (v := ?_) rfl (by kernel_rfl) (by kernel_rfl) (by kernel_rfl) (k0 := 18) (by kernel_rfl) (by kernel_rfl) (.inl rfl) (fun _ _ _ h => h) (by rfl) HC.out ?_ ?_
    rotate_left
    · intro W hW
      go_simp
      first | done | rfl
    simp only [Act.put, List.setIfInBounds_toArray, List.set_cons_zero, List.set_cons_succ, List.getElem_toArray, List.getElem_cons_zero, List.getElem_cons_succ]
    refine z_take (i := 19) (v := ?_) rfl (by kernel_rfl) (by kernel_rfl) (by kernel_rfl) (k0 := 19) (by kernel_rfl) (by kernel_rfl) (.inl rfl) (fun _ _ _ h => h) (by rfl) HC.out ?_ ?_
    rotate_left
    · intro W hW
      go_simp
      first | done | rfl
    simp only [Act.put, List.setIfInBounds_toArray, List.set_cons_zero, List.set_cons_succ, List.getElem_toArray, List.getElem_cons_zero, List.getElem_cons_succ]
    refine z_take (i := 20) (v := ?_) rfl (by kernel_rfl) (by kernel_rfl) (by kernel_rfl) (k0 := 20) (by kernel_rfl) (by kernel_rfl) (.inl rfl) (fun _ _ _ h => h) (by rfl) HC.out ?_ ?_
    rotate_left
    · intro W hW
      go_simp
      first | done | rfl
    simp only [Act.put, List.setIfInBounds_toArray, List.set_cons_zero, List.set_cons_succ, List.getElem_toArray, List.getElem_cons_zero, List.getElem_cons_succ]
    refine z_take (i := 21) (v := ?_) rfl (by kernel_rfl) (by kernel_rfl) (by kernel_rfl) (k0 := 21) (by kernel_rfl) (by kernel_rfl) (.inl rfl) (fun _ _ _ h => h) (by rfl) HC.out ?_ ?_
    rotate_left
    · intro W hW
      go_simp
      first | done | rfl
    simp only [Act.put, List.setIfInBounds_toArray, List.set_cons_zero, List.set_cons_succ, List.getElem_toArray, List.getElem_cons_zero, List.getElem_cons_succ]
    refine z_take (i := 22) (v := ?_) rfl (by kernel_rfl) (by kernel_rfl) (by kernel_rfl) (k0 := 22) (by kernel_rfl) (by kernel_rfl) (.inl rfl) (fun _ _ _ h => h) (by rfl) HC.out ?_ ?_
    rotate_left
    · intro W hW
      go_simp
      first | done | rfl
    simp only [Act.put, List.setIfInBounds_toArray, List.set_cons_zero, List.set_cons_succ, List.getElem_toArray, List.getElem_cons_zero, List.getElem_cons_succ]
    refine z_take (i := 23) (v := ?_) rfl (by kernel_rfl) (by kernel_rfl) (by kernel_rfl) (k0 := 23) (by kernel_rfl) (by kernel_rfl) (.inl rfl) (fun _ _ _ h => h) (by rfl) HC.out ?_ ?_
    rotate_left
    · intro W hW
      go_simp
      first | done | rfl
    simp only [Act.put, List.setIfInBounds_toArray, List.set_cons_zero, List.set_cons_succ, List.getElem_toArray, List.getElem_cons_zero, List.getElem_cons_succ]
    refine z_take (i := 24) (v := ?_) rfl (by kernel_rfl) (by kernel_rfl) (by kernel_rfl) (k0 := 24) (by kernel_rfl) (by kernel_rfl) (.inl rfl) (fun _ _ _ h => h) (by rfl) HC.out ?_ ?_
    rotate_left
    · intro W hW
      go_simp
      first | done | rfl
    simp only [Act.put, List.setIfInBounds_toArray, List.set_cons_zero, List.set_cons_succ, List.getElem_toArray, List.getElem_cons_zero, List.getElem_cons_succ]
    refine z_take (i := 25) (v := ?_) rfl (by kernel_rfl) (by kernel_rfl) (by kernel_rfl) (k0 := 25) (by kernel_rfl) (by kernel_rfl) (.inl rfl) (fun _ _ _ h => h) (by rfl) HC.out ?_ ?_
    rotate_left
    · intro W hW
      obtain ⟨x1, x2, x3, x4, x5, x6⟩ := HEC.out W (HD.out.trans (hW.mono HD.out.size))
      go_simp
      first | done | rfl
    simp only [Act.put, List.setIfInBounds_toArray, List.set_cons_zero, List.set_cons_succ, List.getElem_toArray, List.getElem_cons_zero, List.getElem_cons_succ]
    refine z_take (i := 26) (v := ?_) rfl (by kernel_rfl) (by kernel_rfl) (by kernel_rfl) (k0 := 26) (by kernel_rfl) (by kernel_rfl) (.inl rfl) (fun _ _ _ h => h) (by rfl) HC.out ?_ ?_
    rotate_left
    · intro W hW
      go_simp
      first | done | rfl
    simp only [Act.put, List.setIfInBounds_toArray, List.set_cons_zero, List.set_cons_succ, List.getElem_toArray, List.getElem_cons_zero, List.getElem_cons_succ]
    refine z_take (i := 27) (v := ?_) rfl (by kernel_rfl) (by kernel_rfl) (by kernel_rfl) (k0 := 27) (by kernel_rfl) (by kernel_rfl) (.inl rfl) (fun _ _ _ h => h) (by rfl) HC.out ?_ ?_
    rotate_left
    · intro W hW
      go_simp
      first | done | rfl
    simp only [Act.put, List.setIfInBounds_toArray, List.set_cons_zero, List.set_cons_succ, List.getElem_toArray, List.getElem_cons_zero, List.getElem_cons_succ]
    refine z_take (i := 28) (v := ?_) rfl (by kernel_rfl) (by kernel_rfl) (by kernel_rfl) (k0 := 28) (by kernel_rfl) (by kernel_rfl) (.inl rfl) (fun _ _ _ h => h) (by rfl) HC.out ?_ ?_
    rotate_left
    · intro W hW
      go_simp
      first | done | rfl
    simp only [Act.put, List.setIfInBounds_toArray, List.set_cons_zero, List.set_cons_succ, List.getElem_toArray, List.getElem_cons_zero, List.getElem_cons_succ]
    refine z_take (i := 29) (v := ?_) rfl (by kernel_rfl) (by kernel_rfl) (by kernel_rfl) (k0 := 29) (by kernel_rfl) (by kernel_rfl) (.inl rfl) (fun _ _ _ h => h) (by rfl) HC.out ?_ ?_
    rotate_left
    · intro W hW
      obtain ⟨y0, y1, y2, y3, y4, y5⟩ := HLC.out W (HD.out.trans (hW.mono HD.out.size))
      go_simp
      first | done | rfl
    simp only [Act.put, List.setIfInBounds_toArray, List.set_cons_zero, List.set_cons_succ, List.getElem_toArray, List.getElem_cons_zero, List.getElem_cons_succ]
    refine z_take (i := 30) (v := ?_) rfl (by kernel_rfl) (by kernel_rfl) (by kernel_rfl) (k0 := 30) (by kernel_rfl) (by kernel_rfl) (.inl rfl) (fun _ _ _ h => h) (by rfl) HC.out ?_ ?_
    rotate_left
    · intro W hW
      go_simp
      first | done | rfl
    simp only [Act.put, List.setIfInBounds_toArray, List.set_cons_zero, List.set_cons_succ, List.getElem_toArray, List.getElem_cons_zero, List.getElem_cons_succ]
    refine z_take (i := 31) (v := ?_) rfl (by kernel_rfl) (by kernel_rfl) (by kernel_rfl) (k0 := 31) (by kernel_rfl) (by kernel_rfl) (.inl rfl) (fun _ _ _ h => h) (by rfl) HC.out ?_ ?_
    rotate_left
    · intro W hW
      go_simp
      first | done | rfl
    simp only [Act.put, List.setIfInBounds_toArray, List.set_cons_zero, List.set_cons_succ, List.getElem_toArray, List.getElem_cons_zero, List.getElem_cons_succ]
    refine z_take (i := 32) (v := ?_) rfl (by kernel_rfl) (by kernel_rfl) (by kernel_rfl) (k0 := 32) (by kernel_rfl) (by kernel_rfl) (.inl rfl) (fun _ _ _ h => h) (by rfl) HC.out ?_ ?_
    rotate_left
    · intro W hW
      go_simp
      first | done | rfl
    simp only [Act.put, List.setIfInBounds_toArray, List.set_cons_zero, List.set_cons_succ, List.getElem_toArray, List.getElem_cons_zero, List.getElem_cons_succ]
    refine z_take (i := 33) (v := ?_) rfl (by kernel_rfl) (by kernel_rfl) (by kernel_rfl) (k0 := 33) (by kernel_rfl) (by kernel_rfl) (.inl rfl) (fun _ _ _ h => h) (by rfl) HC.out ?_ ?_
    rotate_left
    · intro W hW
      go_simp
      first | done | rfl
    simp only [Act.put, List.setIfInBounds_toArray, List.set_cons_zero, List.set_cons_succ, List.getElem_toArray, List.getElem_cons_zero, List.getElem_cons_succ]
    refine z_take (i := 35) (v := ?_) rfl (by kernel_rfl) (by kernel_rfl) (by kernel_rfl) (k0 := 35) (by kernel_rfl) (by kernel_rfl) (.inl rfl) (fun _ _ _ h => h) (by rfl) HC.out ?_ ?_
    rotate_left
    · intro W hW
      go_simp
      first | done | rfl
    simp only [Act.put, List.setIfInBounds_toArray, List.set_cons_zero, List.set_cons_succ, List.getElem_toArray, List.getElem_cons_zero, List.getElem_cons_succ]
    refine z_one (i := 34) (by kernel_rfl) ?_
    refine onez_call (i := 34) (f := 12) (args := ?_) rfl (by rfl) ?_ ?_
    rotate_left
    · go_simp
      first | done | rfl
    with_reducible refine (HSE.out _ (HD.out.trans (HC.out.mono HD.out.size))).mono ?_
    rintro e y2 ⟨rfl, hb⟩
    refine ⟨_, rfl, fun _ => HC.out.trans (hb.mono hBz), ?_⟩
    replace HC := Lib.hid (HC.out.trans (hb.mono hBz))
    replace hBz := Nat.le_trans hBz hb.size
    clear hb
    simp only [Act.put, List.setIfInBounds_toArray, List.set_cons_zero, List.set_cons_succ, List.getElem_toArray, List.getElem_cons_zero, List.getElem_cons_succ]
    refine z_take (i := 36) (v := ?_) rfl (by kernel_rfl) (by kernel_rfl) (by kernel_rfl) (k0 := 36) (by kernel_rfl) (by kernel_rfl) (.inl rfl) (fun _ _ _ h => h) (by rfl) HC.out ?_ ?_
    rotate_left
    · intro W hW
      go_simp
      first | done | rfl
    simp only [Act.put, List.setIfInBounds_toArray, List.set_cons_zero, List.set_cons_succ, List.getElem_toArray, List.getElem_cons_zero, List.getElem_cons_succ]
    refine z_take (i := 37) (v := ?_) rfl (by kernel_rfl) (by kernel_rfl) (by kernel_rfl) (k0 := 37) (by kernel_rfl) (by kernel_rfl) (.inl rfl) (fun _ _ _ h => h) (by rfl) HC.out ?_ ?_
    rotate_left
    · intro W hW
      go_simp
      first | done | rfl
    simp only [Act.put, List.setIfInBounds_toArray, List.set_cons_zero, List.set_cons_succ, List.getElem_toArray, List.getElem_cons_zero, List.getElem_cons_succ]
    refine z_done (by kernel_rfl) ?_
    replace HD := Lib.hid (HD.out.trans (HC.out.mono HD.out.size))
    clear HC hBz
    go_simp
    generalize hw9 : y2 = w9 at *
    clear hw9
    replace HS2 := Lib.hid (HS2.out.stay HD.out)
    replace H5 := Lib.hid (H5.out.trans (HD.out.mono hz5))
    go_wp2_with fail
    go_roundw
    case rel => exact ⟨i + 1, s2, G2, by omega, by go_num, HGP, by rw [K3.out]; exact HIS.out, Lib.hid (by rw [K2.out, K4.out]; omega), HS2, H5⟩
    case measure => simp [intOf]; omega
end Go.Proofs.Ytjcljkbalpgfdaa
