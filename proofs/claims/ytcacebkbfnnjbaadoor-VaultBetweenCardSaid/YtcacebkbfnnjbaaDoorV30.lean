/-
  Parts that the statement rests on, joined: Pnums, Pread, Prd.
-/
import Derived.Test.YtcacebkbfnnjbaaDoorV13
import Derived.Test.YtcacebkbfnnjbaaDoorV14
import Derived.Test.YtcacebkbfnnjbaaDoorV17
import Derived.Test.YtcacebkbfnnjbaaDoorV25
import Derived.Test.YtcacebkbfnnjbaaDoorV28
import Derived.Test.YtcacebkbfnnjbaaDoorV29
import Derived.LoopTactic
/-
  What numbersOf answers.
-/


namespace Go.Proofs.YtcacebkbfnnjbaaDoor
open Go.RowKit

theorem unpack_err {b : List UInt8} {er : Int} (h : Fm.unpack b = .err er) : er ≠ 0 := by
  unfold Fm.unpack at h
  split at h
  · rename_i h1
    injection h with h
    subst h
    have := Fm.cut_err h1
    omega
  · split at h
    · cases h
    · injection h with h; omega
theorem nums_err {b : List UInt8} {er : Int} (h : Fm.unpack b = .err er) : Vl.nums b = [] := by unfold Vl.nums; rw [h]
theorem nums_ok {b r D : List UInt8} {N : List Int} (h : Fm.unpack b = .ok (N, D) r) : Vl.nums b = if D = [] then N else [] := by unfold Vl.nums; rw [h]
theorem unpack_nums {b r D : List UInt8} {N : List Int} (h : Fm.unpack b = .ok (N, D) r) : N.length ≤ 255 ∧ D.length ≤ 4096 ∧ ∀ n ∈ N, Fm.may n := by
  unfold Fm.unpack at h
  split at h
  · cases h
  · rename_i f r' h1
    split at h
    · injection h with h2 h3
      subst h2
      obtain ⟨a1, a2, a3, -⟩ := Fm.cut_ok h1
      exact ⟨a1, a2, a3⟩
    · cases h
theorem nums_may {b : List UInt8} : (Vl.nums b).length ≤ 255 ∧ ∀ n ∈ Vl.nums b, Fm.may n := by
  cases h : Fm.unpack b with
  | err er => rw [nums_err h]; exact ⟨Nat.zero_le _, fun n hn => by simp at hn⟩
  | ok f r =>
    obtain ⟨N, D⟩ := f
    rw [nums_ok h]
    have := unpack_nums h
    split
    · exact ⟨this.1, this.2.2⟩
    · exact ⟨Nat.zero_le _, fun n hn => by simp at hn⟩

set_option maxRecDepth 100000 in
theorem numbersOf_any (k : Int) (sB : Value) (b : List UInt8) (hl : b.length ≤ 1000000) (w : World) (B : Nat) (hB : B ≤ w.heap.size) (hb : Sl w B sB b) :
    Calls Tryd.prog 46 #[.agg #[.int .i64 k, sB]] w (NumbOut w (Vl.nums b)) := by
  obtain ⟨A, c, rfl, _, hm⟩ := hb.form
  have hb0 : Below w.heap.size w (w.alloc (.cells #[.int .i64 k, .slice A b.length c] 75)) := (Below.refl _ _).alloc (Nat.le_refl _) _
  have HU := Lib.hid (unpack_any _ b hl _ B (Nat.le_trans hB hb0.size) (hb.below (hb0.mono hB)))
  have HB := Lib.hid hb0
  clear hb hb0
  cases hu : Fm.unpack b with
  | err er =>
    have her : (er != 0) = true := by simpa using unpack_err hu
    rw [nums_err hu]
    rw [hu] at HU
    generalize b.length = n at *
    clear hu
    go_enter Tryd.func46, Tryd.ntmps46
    go_wp2_with fail
    refine HU.out.mono ?_
    rintro e w2 ⟨rfl, hb2⟩
    have hbb := HB.out.trans (hb2.mono HB.out.size)
    have HBB := Lib.hid (hbb.alloc hbb.size (.cells #[.slice none 0 0, .slice none 0 0] 88))
    clear hb2 hbb
    go_wp2_with fail
    go_ret
    exact ⟨none, 0, rfl, SlS.nil _ _, HBB.out⟩
  | ok f r =>
    obtain ⟨N, D⟩ := f
    have hN := unpack_nums hu
    rw [nums_ok hu]
    rw [hu] at HU
    clear hu
    have HNL := Lib.hid hN
    clear hN
    by_cases hD : D = []
    · subst hD
      rw [if_pos rfl]
      generalize b.length = n at *
      go_enter Tryd.func46, Tryd.ntmps46
      go_wp2_with fail
      refine HU.out.mono ?_
      rintro e w2 ⟨sN, sD, rfl, h1, h2, hb2⟩
      obtain ⟨A1, c1, rfl, _, hm1⟩ := h1.sl.form
      obtain ⟨A2, c2, rfl, _, hm2⟩ := h2.sl.form
      have hbb := HB.out.trans (hb2.mono HB.out.size)
      have HBB := Lib.hid (hbb.alloc hbb.size (.cells #[.slice A1 N.length c1, .slice A2 0 c2] 88))
      have HW := Lib.hid (Whole.new w2 88 #[.slice A1 N.length c1, .slice A2 0 c2])
      have HO := Lib.hid ((h1.alloc (.cells #[.slice A1 N.length c1, .slice A2 0 c2] 88)).slS.wide (T := fun b => w.heap.size ≤ b) (fun b hb _ => Nat.le_trans (Nat.le_of_lt (by simp)) hb))
      simp only [List.length_nil] at *
      generalize hnn : N.length = nn at *
      have HNN := Lib.hid hnn
      clear hb2 hbb h1 h2 hnn
      go_wp2_with fail
      go_ret
      have h := HNN.out
      subst h
      exact ⟨A1, c1, rfl, HO.out, HBB.out⟩
    · rw [if_neg hD]
      have hdl : 0 < D.length := List.length_pos_iff.2 hD
      clear hD
      generalize b.length = n at *
      go_enter Tryd.func46, Tryd.ntmps46
      go_wp2_with fail
      refine HU.out.mono ?_
      rintro e w2 ⟨sN, sD, rfl, h1, h2, hb2⟩
      obtain ⟨A1, c1, rfl, _, hm1⟩ := h1.sl.form
      obtain ⟨A2, c2, rfl, _, hm2⟩ := h2.sl.form
      have hbb := HB.out.trans (hb2.mono HB.out.size)
      have HBB := Lib.hid (hbb.alloc hbb.size (.cells #[.slice A1 N.length c1, .slice A2 D.length c2] 88))
      clear hb2 hbb h1 h2
      generalize N.length = nn at *
      generalize D.length = dn at *
      go_wp2_with fail
      go_ret
      exact ⟨none, 0, rfl, SlS.nil _ _, HBB.out⟩
end Go.Proofs.YtcacebkbfnnjbaaDoor

/-
  What read and Read answer.
-/








namespace Go.Proofs.YtcacebkbfnnjbaaDoor
open Go.RowKit

theorem results_state2 {fn : Func} {p u : Tmp} (h : fn.results = #[.cell p 61, .tmp u]) {tmps : Array Value} {w : World} {g : Nat} {x0 x1 x2 : Value} (hp : tmps.getD p undef = .pointer (some ⟨g, 0, none⟩)) (hg : Whole w g 61 #[x0, x1, x2]) :
    (results fn tmps).run Tryd.prog w = .ok (.tuple #[.agg #[x0, x1, x2], tmps.getD u undef]) w := by
  rw [results_cell_tmp h, hp]
  simp [asAddr, Result.andThen, run_loadVar_row w g 61 _ _ _ _ hg Tryd.underlying61 rfl (by kernel_rfl)]
/-- What read answers: a state with a log of its own, and how many bytes. -/
def ReadOut (w : World) (r : Vl.S × Nat) (e : Ending) (w' : World) : Prop :=
  ∃ A c, e = .returned (.tuple #[.agg (stc r.1.1.1 r.1.1.2 (.slice A r.1.2.length c)), .int .i64 (r.2 : Int)]) ∧ Own w' w.heap.size 57 (.slice A r.1.2.length c) r.1.2 ∧ Below w.heap.size w w'

/-- So many bytes are read; the state is this. -/
def ReadAt (b : List UInt8) (u : Nat) (s : Vl.S) : Prop :=
  u ≤ b.length ∧ Vl.Good s ∧ Vl.read b = ((Vl.reads s (b.drop u)).1, u + (Vl.reads s (b.drop u)).2)
theorem readAt_zero (b : List UInt8) : ReadAt b 0 Vl.zero := ⟨Nat.zero_le _, Vl.good_zero, by rw [List.drop_zero, Nat.zero_add]; rfl⟩
theorem readAt_stop {b : List UInt8} {u : Nat} {s : Vl.S} (h : ReadAt b u s) (hn : Vl.next s (b.drop u) = none) : Vl.read b = (s, u) := by
  rw [h.2.2, Vl.reads_stop hn]; rfl
theorem readAt_step {b : List UInt8} {u : Nat} {s t : Vl.S} (h : ReadAt b u s) (hn : Vl.next s (b.drop u) = some t) : ∃ n : Nat, (Frm.get (b.drop u)).2.1 = (n : Int) ∧ 0 < n ∧ u + n ≤ b.length ∧ ReadAt b (u + n) t := by
  have hl := Vl.next_len hn
  rw [List.length_drop] at hl
  refine ⟨(Frm.get (b.drop u)).2.1.toNat, hl.2.2.symm, by omega, by omega, by omega, Vl.next_good h.2.1 hn, ?_⟩
  rw [h.2.2, Vl.reads_more hn, List.drop_drop]
  refine Prod.ext rfl ?_
  show u + (_ + _) = _
  omega
theorem next_none {s : Vl.S} {b : List UInt8} (h : (Frm.get b).2.2 ≠ 0) : Vl.next s b = none := by unfold Vl.next; rw [if_neg h]
theorem next_some {s : Vl.S} {b : List UInt8} (h : (Frm.get b).2.2 = 0) : Vl.next s b = Vl.step s (Frm.get b).1.1 (Vl.nums (Frm.get b).1.2) := by unfold Vl.next; rw [if_pos h]

set_option maxRecDepth 100000 in
set_option maxHeartbeats 2000000 in
theorem read_any (v : Value) (l : List UInt8) (hl : l.length ≤ 1000000) (w : World) (B : Nat) (hB : B ≤ w.heap.size) (hv : Sl w B v l) (hT : Tab w) :
    Calls Tryd.prog 32 #[v] w (ReadOut w (Vl.read l)) := by
  obtain ⟨A, c, rfl, hc, hm⟩ := hv.form
  unfold maxLen at hm
  have hV := Lib.hid (fun W (h : Below w.heap.size w W) => hv.below (h.mono hB))
  have HT := Lib.hid (fun W (h : Below w.heap.size w W) => hT.below h hT.pos)
  have H0 := Lib.hid (readAt_zero l)
  have hb0 : Below w.heap.size w (w.alloc (.cells #[.int .i64 0, .int .i64 0, .slice none 0 0] 61)) := (Below.refl _ _).alloc (Nat.le_refl _) _
  have HW0 := Lib.hid ((Whole.new w 61 #[.int .i64 0, .int .i64 0, .slice none 0 0]).alloc (.cells #[.int .i64 0, .int .i64 0, .slice none 0 0] 61))
  have HS0 := Lib.hid (show SMem (w.heap.size + 1) (w.heap.size + 1) ((w.alloc (.cells #[.int .i64 0, .int .i64 0, .slice none 0 0] 61)).alloc (.cells #[.int .i64 0, .int .i64 0, .slice none 0 0] 61)) Vl.zero none 0 from ⟨Whole.new1 w _ _ _, Own.nil _ _ _, fun h => by cases h⟩)
  have HB0 := Lib.hid (hb0.alloc hb0.size (.cells #[.int .i64 0, .int .i64 0, .slice none 0 0] 61))
  clear hv hT hb0
  have HL : Hid (l.length ≤ 1000000) := hl
  generalize hnl : l.length = m at *
  have HN := Lib.hid hnl
  clear hnl
  generalize hR : Vl.read l = R at *
  have HR := Lib.hid hR
  clear hR
  go_enter Tryd.func32, Tryd.ntmps32
  go_wp2_with fail
  refine wp_scope_ahead fun J hgo => ?_
  go_wp2_with fail
  refine wp_label ?_
  clear hgo
  go_wp2_with fail
  go_loopw [5] (fun i wr => ∃ (u : Nat) (s : Vl.S) (As : Option Addr) (cs : Nat), ReadAt l u s ∧ i = .int .i64 (u : Int) ∧ SMem (w.heap.size + 1) (w.heap.size + 1) wr s As cs ∧ Whole wr w.heap.size 61 #[.int .i64 0, .int .i64 0, .slice none 0 0] ∧ Below w.heap.size w wr) (fun i _ => m - (intOf i).toNat)
  case atStart => exact ⟨0, Vl.zero, none, 0, H0.out, rfl, HS0.out, HW0.out, HB0.out⟩
  case round =>
    obtain ⟨u, s, As, cs, hat, rfl, hs, hw0, hb⟩ := hrel
    have hum : u ≤ m := by have := hat.1; rw [HN.out] at this; exact this
    have hs64 := hat.2.1.len
    have HSTOP := Lib.hid (fun h => (HR.out.symm.trans (readAt_stop hat h)))
    have HSTEP := Lib.hid (fun t h => readAt_step (t := t) hat h)
    have HNO := Lib.hid (@next_none s (l.drop u))
    have HYES := Lib.hid (@next_some s (l.drop u))
    have hlen := Frm.get_len (l.drop u)
    have hfn := @Frm.get_fn (l.drop u)
    have hdr := fun W (h : Below w.heap.size w W) => (hV.out W h).drop u hum
    have hs1 := fun W => run_fromB A m c u (u : Int) rfl hum W
    rw [show Rep.sz UInt8 = 1 from rfl] at hdr
    generalize (if c = u then A else A.map (·.add (u * 1))) = A3 at *
    have hG := Lib.hid (fun W (h : Below w.heap.size w W) => get_any _ (l.drop u) (by rw [List.length_drop, HN.out]; omega) W B (Nat.le_trans hB h.size) (hdr W h) (HT.out W h))
    have HS := Lib.hid hs
    have HW0' := Lib.hid hw0
    have HB := Lib.hid hb
    clear hat hs hw0 hb hdr
    generalize Vl.next s (l.drop u) = nx at *
    generalize Frm.get (l.drop u) = gg at *
    obtain ⟨⟨gk, gb⟩, gn, ge⟩ := gg
    simp only at HNO HYES HSTEP hlen hfn
    have p1 : (0 : Int) ≤ (u : Int) := by omega
    have p2 : (u : Int) ≤ (m : Int) := by omega
    go_wp2_with fail
    refine (hG.out _ HB.out).mono ?_
    rintro e w1 ⟨A2, c2, rfl, ho2, hb2⟩
    have hz := HB.out.size
    have HO2 := Lib.hid (ho2.alloc (.cells #[.int .i64 gk, .slice A2 gb.length c2] 75))
    have hb3 : Below wr.heap.size wr (w1.alloc (.cells #[.int .i64 gk, .slice A2 gb.length c2] 75)) := hb2.alloc hb2.size _
    have HS1 := Lib.hid (HS.out.stay hb3)
    have HW1 := Lib.hid (HW0'.out.below hb3 HW0'.out.lt)
    have HB1 := Lib.hid (HB.out.trans (hb3.mono hz))
    have HF := Lib.hid (Whole.new w1 75 #[.int .i64 gk, .slice A2 gb.length c2])
    clear ho2 hb2 hb3 hG HS HW0' HB
    by_cases hge : ge = 0
    · subst hge
      have hnx := HYES.out rfl
      obtain ⟨hok, -, hbl, -⟩ := hfn rfl
      have hNM := Lib.hid (nums_may (b := gb))
      have HNU := Lib.hid (fun W (hv : Sl W W.heap.size (.slice A2 gb.length c2) gb) => numbersOf_any gk _ gb (by omega) W W.heap.size (Nat.le_refl _) hv)
      have HNX := Lib.hid hnx
      clear hnx hfn hlen hbl
      generalize Vl.nums gb = N at *
      generalize gb.length = gl at *
      go_wp2_with fail
      refine (HNU.out _ HO2.out.sl).mono ?_
      rintro e w2 ⟨A4, c4, rfl, hN4, hb4⟩
      have hA1 : ∀ b, lbk As = some b → b < (w1.alloc (.cells #[.int .i64 gk, .slice A2 gl c2] 75)).heap.size := fun b hb => (HS1.out.alt b hb).2
      have HN4 := Lib.hid (hN4.wide (T := fun b => lbk As ≠ some b) (fun b hb _ e => by have := hA1 b e; omega))
      have HS2 := Lib.hid (HS1.out.stay hb4)
      have HW2 := Lib.hid (HW1.out.below hb4 HW1.out.lt)
      have HB2 := Lib.hid (HB1.out.trans (hb4.mono HB1.out.size))
      have HF2 := Lib.hid (HF.out.below hb4 HF.out.lt)
      have hz2 : w.heap.size ≤ w2.heap.size := HB2.out.size
      have hW2lt := HW2.out.lt
      clear hN4 hb4 hA1 HS1 HW1 HB1 HF HO2 HNU
      obtain ⟨k0, k1⟩ := HF2.out.c2
      by_cases e1 : gk = 1
      · subst e1
        have HNS : Hid (nx = Vl.setB s N) := HNX.out
        have HST := Lib.hid (setBallot_any (w.heap.size + 1) (w.heap.size + 1) s As cs _ N w2 (Nat.le_refl _) HS2.out HN4.out.here)
        clear HNX HS2 HN4
        generalize Vl.setB s N = P at *
        go_wp2_with fail
        refine HST.out.mono ?_
        rintro e w3 ⟨A5, c5, rfl, hs3, hb5⟩
        have HS3 := Lib.hid hs3
        have HW3 := Lib.hid (HW2.out.below hb5 (Nat.lt_succ_self _))
        have HB3 := Lib.hid (HB2.out.trans (hb5.mono (Nat.le_succ _)))
        clear hs3 hb5 HST HW2 HB2 HF2 k0 k1
        cases P with
        | none =>
          have HNN := Lib.hid HNS.out
          clear HNS
          simp only [Option.getD_none, Option.isSome_none] at HS3 ⊢
          have hres : R = (s, u) := HSTOP.out (HNN.out)
          have hWl := HW3.out.lt
          have HRES := Lib.hid (HW3.out.set3 (.int .i64 s.1.1) (.int .i64 s.1.2) (.slice A5 s.2.length c5))
          have HOS := Lib.hid (Own.down (base' := w.heap.size) (((HS3.out.l.set (p := ⟨w.heap.size, 0, none⟩) (Nat.lt_succ_self _) (.int .i64 s.1.1)).set (p := ⟨w.heap.size, 1, none⟩) (Nat.lt_succ_self _) (.int .i64 s.1.2)).set (p := ⟨w.heap.size, 2, none⟩) (Nat.lt_succ_self _) (.slice A5 s.2.length c5)) (Nat.le_succ _))
          have HBS := Lib.hid (below_set3 HB3.out (g := w.heap.size) (Nat.le_refl _) (.int .i64 s.1.1) (.int .i64 s.1.2) (.slice A5 s.2.length c5))
          obtain ⟨q0, q1, q2⟩ := HS3.out.st.c3
          obtain ⟨j0, j1, j2⟩ := HW3.out.c3
          obtain ⟨f0, f1, f2⟩ := HW3.out.f3
          clear HS3 HW3 HB3
          go_wp2_with fail
          refine jumps_ret ?_
          refine bodyPost_ret (results_state2 rfl rfl HRES.out) rfl ?_
          subst hres
          exact ⟨_, _, rfl, HOS.out, HBS.out⟩
        | some t =>
          simp only [Option.getD_some, Option.isSome_some] at HS3 ⊢
          obtain ⟨n, en, hn0, hun, hat2⟩ := HSTEP.out t HNS.out
          rw [HN.out] at hun
          have HAT := Lib.hid hat2
          clear hat2 HNS
          subst en
          have hwr : IntKind.i64.wrap ((u : Int) + (n : Int)) = (u : Int) + (n : Int) := by rw [IntKind.wrap_i64]; omega
          go_wp2_with fail
          go_roundw
          case rel => exact ⟨u + n, t, A5, c5, HAT.out, by go_num, HS3.out, HW3.out, HB3.out⟩
          case measure => simp [intOf]; omega
      by_cases e2 : gk = 2
      · subst e2
        have HNS : Hid (nx = Vl.addE s N) := HNX.out
        have HST := Lib.hid (addEntry_any (w.heap.size + 1) (w.heap.size + 1) s hs64 As cs _ N hNM.out.2 w2 (Nat.le_refl _) HS2.out HN4.out)
        clear HNX HS2 HN4
        generalize Vl.addE s N = P at *
        go_wp2_with fail
        refine HST.out.mono ?_
        rintro e w3 ⟨A5, c5, rfl, hs3, hb5⟩
        have HS3 := Lib.hid hs3
        have HW3 := Lib.hid (HW2.out.below hb5 (Nat.lt_succ_self _))
        have HB3 := Lib.hid (HB2.out.trans (hb5.mono (Nat.le_succ _)))
        clear hs3 hb5 HST HW2 HB2 HF2 k0 k1
        cases P with
        | none =>
          have HNN := Lib.hid HNS.out
          clear HNS
          simp only [Option.getD_none, Option.isSome_none] at HS3 ⊢
          have hres : R = (s, u) := HSTOP.out (HNN.out)
          have hWl := HW3.out.lt
          have HRES := Lib.hid (HW3.out.set3 (.int .i64 s.1.1) (.int .i64 s.1.2) (.slice A5 s.2.length c5))
          have HOS := Lib.hid (Own.down (base' := w.heap.size) (((HS3.out.l.set (p := ⟨w.heap.size, 0, none⟩) (Nat.lt_succ_self _) (.int .i64 s.1.1)).set (p := ⟨w.heap.size, 1, none⟩) (Nat.lt_succ_self _) (.int .i64 s.1.2)).set (p := ⟨w.heap.size, 2, none⟩) (Nat.lt_succ_self _) (.slice A5 s.2.length c5)) (Nat.le_succ _))
          have HBS := Lib.hid (below_set3 HB3.out (g := w.heap.size) (Nat.le_refl _) (.int .i64 s.1.1) (.int .i64 s.1.2) (.slice A5 s.2.length c5))
          obtain ⟨q0, q1, q2⟩ := HS3.out.st.c3
          obtain ⟨j0, j1, j2⟩ := HW3.out.c3
          obtain ⟨f0, f1, f2⟩ := HW3.out.f3
          clear HS3 HW3 HB3
          go_wp2_with fail
          refine jumps_ret ?_
          refine bodyPost_ret (results_state2 rfl rfl HRES.out) rfl ?_
          subst hres
          exact ⟨_, _, rfl, HOS.out, HBS.out⟩
        | some t =>
          simp only [Option.getD_some, Option.isSome_some] at HS3 ⊢
          obtain ⟨n, en, hn0, hun, hat2⟩ := HSTEP.out t HNS.out
          rw [HN.out] at hun
          have HAT := Lib.hid hat2
          clear hat2 HNS
          subst en
          have hwr : IntKind.i64.wrap ((u : Int) + (n : Int)) = (u : Int) + (n : Int) := by rw [IntKind.wrap_i64]; omega
          go_wp2_with fail
          go_roundw
          case rel => exact ⟨u + n, t, A5, c5, HAT.out, by go_num, HS3.out, HW3.out, HB3.out⟩
          case measure => simp [intOf]; omega
      by_cases e3 : gk = 3
      · subst e3
        have HNS : Hid (nx = Vl.cutE s N) := HNX.out
        have HST := Lib.hid (cut_state (w.heap.size + 1) (w.heap.size + 1) s As cs _ N hNM.out.2 w2 (Nat.le_refl _) HS2.out HN4.out.here)
        clear HNX HS2 HN4
        generalize Vl.cutE s N = P at *
        go_wp2_with fail
        refine HST.out.mono ?_
        rintro e w3 ⟨A5, c5, rfl, hs3, hb5⟩
        have HS3 := Lib.hid hs3
        have HW3 := Lib.hid (HW2.out.below hb5 (Nat.lt_succ_self _))
        have HB3 := Lib.hid (HB2.out.trans (hb5.mono (Nat.le_succ _)))
        clear hs3 hb5 HST HW2 HB2 HF2 k0 k1
        cases P with
        | none =>
          have HNN := Lib.hid HNS.out
          clear HNS
          simp only [Option.getD_none, Option.isSome_none] at HS3 ⊢
          have hres : R = (s, u) := HSTOP.out (HNN.out)
          have hWl := HW3.out.lt
          have HRES := Lib.hid (HW3.out.set3 (.int .i64 s.1.1) (.int .i64 s.1.2) (.slice A5 s.2.length c5))
          have HOS := Lib.hid (Own.down (base' := w.heap.size) (((HS3.out.l.set (p := ⟨w.heap.size, 0, none⟩) (Nat.lt_succ_self _) (.int .i64 s.1.1)).set (p := ⟨w.heap.size, 1, none⟩) (Nat.lt_succ_self _) (.int .i64 s.1.2)).set (p := ⟨w.heap.size, 2, none⟩) (Nat.lt_succ_self _) (.slice A5 s.2.length c5)) (Nat.le_succ _))
          have HBS := Lib.hid (below_set3 HB3.out (g := w.heap.size) (Nat.le_refl _) (.int .i64 s.1.1) (.int .i64 s.1.2) (.slice A5 s.2.length c5))
          obtain ⟨q0, q1, q2⟩ := HS3.out.st.c3
          obtain ⟨j0, j1, j2⟩ := HW3.out.c3
          obtain ⟨f0, f1, f2⟩ := HW3.out.f3
          clear HS3 HW3 HB3
          go_wp2_with fail
          refine jumps_ret ?_
          refine bodyPost_ret (results_state2 rfl rfl HRES.out) rfl ?_
          subst hres
          exact ⟨_, _, rfl, HOS.out, HBS.out⟩
        | some t =>
          simp only [Option.getD_some, Option.isSome_some] at HS3 ⊢
          obtain ⟨n, en, hn0, hun, hat2⟩ := HSTEP.out t HNS.out
          rw [HN.out] at hun
          have HAT := Lib.hid hat2
          clear hat2 HNS
          subst en
          have hwr : IntKind.i64.wrap ((u : Int) + (n : Int)) = (u : Int) + (n : Int) := by rw [IntKind.wrap_i64]; omega
          go_wp2_with fail
          go_roundw
          case rel => exact ⟨u + n, t, A5, c5, HAT.out, by go_num, HS3.out, HW3.out, HB3.out⟩
          case measure => simp [intOf]; omega
      have d1 : (gk == 1) = false := by simpa using e1
      have d2 : (gk == 2) = false := by simpa using e2
      have d3 : (gk == 3) = false := by simpa using e3
      have hnone : nx = none := by rw [HNX.out]; unfold Vl.step; rw [if_neg e1, if_neg e2, if_neg e3]
      have HNN := Lib.hid hnone
      clear e1 e2 e3 hnone HNX
      have hres : R = (s, u) := HSTOP.out (HNN.out)
      have hWl := HW2.out.lt
      have HRES := Lib.hid (HW2.out.set3 (.int .i64 s.1.1) (.int .i64 s.1.2) (.slice As s.2.length cs))
      have HOS := Lib.hid (Own.down (base' := w.heap.size) (((HS2.out.l.set (p := ⟨w.heap.size, 0, none⟩) (Nat.lt_succ_self _) (.int .i64 s.1.1)).set (p := ⟨w.heap.size, 1, none⟩) (Nat.lt_succ_self _) (.int .i64 s.1.2)).set (p := ⟨w.heap.size, 2, none⟩) (Nat.lt_succ_self _) (.slice As s.2.length cs)) (Nat.le_succ _))
      have HBS := Lib.hid (below_set3 HB2.out (g := w.heap.size) (Nat.le_refl _) (.int .i64 s.1.1) (.int .i64 s.1.2) (.slice As s.2.length cs))
      obtain ⟨q0, q1, q2⟩ := HS2.out.st.c3
      obtain ⟨j0, j1, j2⟩ := HW2.out.c3
      obtain ⟨f0, f1, f2⟩ := HW2.out.f3
      clear HS2 HW2 HB2
      go_wp2_with fail
      refine jumps_ret ?_
      refine bodyPost_ret (results_state2 rfl rfl HRES.out) rfl ?_
      subst hres
      exact ⟨_, _, rfl, HOS.out, HBS.out⟩
    · have hne : (ge != 0) = true := by simpa using hge
      have HNN := Lib.hid (HNO.out hge)
      clear hge hfn hlen HYES HNO HF
      generalize gb.length = gl at *
      have hW2lt := HW1.out.lt
      have hres : R = (s, u) := HSTOP.out (HNN.out)
      have hWl := HW1.out.lt
      have HRES := Lib.hid (HW1.out.set3 (.int .i64 s.1.1) (.int .i64 s.1.2) (.slice As s.2.length cs))
      have HOS := Lib.hid (Own.down (base' := w.heap.size) (((HS1.out.l.set (p := ⟨w.heap.size, 0, none⟩) (Nat.lt_succ_self _) (.int .i64 s.1.1)).set (p := ⟨w.heap.size, 1, none⟩) (Nat.lt_succ_self _) (.int .i64 s.1.2)).set (p := ⟨w.heap.size, 2, none⟩) (Nat.lt_succ_self _) (.slice As s.2.length cs)) (Nat.le_succ _))
      have HBS := Lib.hid (below_set3 HB1.out (g := w.heap.size) (Nat.le_refl _) (.int .i64 s.1.1) (.int .i64 s.1.2) (.slice As s.2.length cs))
      obtain ⟨q0, q1, q2⟩ := HS1.out.st.c3
      obtain ⟨j0, j1, j2⟩ := HW1.out.c3
      obtain ⟨f0, f1, f2⟩ := HW1.out.f3
      clear HS1 HW1 HB1
      go_wp2_with fail
      refine jumps_ret ?_
      refine bodyPost_ret (results_state2 rfl rfl HRES.out) rfl ?_
      subst hres
      exact ⟨_, _, rfl, HOS.out, HBS.out⟩
end Go.Proofs.YtcacebkbfnnjbaaDoor

/-
  What Read answers.
-/



namespace Go.Proofs.YtcacebkbfnnjbaaDoor
open Go.RowKit

set_option maxRecDepth 100000 in
set_option maxHeartbeats 800000 in
theorem rd_any (v : Value) (b : List UInt8) (hl : b.length ≤ 1000000) (w : World) (B : Nat) (hB : B ≤ w.heap.size) (hv : Sl w B v b) (hT : Tab w) :
    Calls Tryd.prog 21 #[v] w (RdOut w (Vl.read b)) := by
  have hb1 : Below w.heap.size w (w.alloc (.cells #[.int .i64 0, .int .i64 0] 30)) := (Below.refl _ _).alloc (Nat.le_refl _) _
  have HD := Lib.hid (hb1.alloc hb1.size (.cells #[.int .i64 0, .int .i64 0, .slice none 0 0] 38))
  have HG1 := Lib.hid ((Whole.new w 30 #[.int .i64 0, .int .i64 0]).alloc (.cells #[.int .i64 0, .int .i64 0, .slice none 0 0] 38))
  have HG2 := Lib.hid (Whole.new1 w (.cells #[.int .i64 0, .int .i64 0] 30) 38 #[.int .i64 0, .int .i64 0, .slice none 0 0])
  have hsz1 : w.heap.size + 2 ≤ ((w.alloc (.cells #[.int .i64 0, .int .i64 0] 30)).alloc (.cells #[.int .i64 0, .int .i64 0, .slice none 0 0] 38)).heap.size := by simp
  have HR := Lib.hid (read_any v b hl _ B (Nat.le_trans hB HD.out.size) (hv.below (HD.out.mono hB)) (hT.below HD.out hT.pos))
  clear hb1 hv hT
  generalize Vl.read b = r at *
  obtain ⟨⟨⟨t, vo⟩, l⟩, u⟩ := r
  go_enter Tryd.func21, Tryd.ntmps21
  go_wp2_with fail
  with_reducible refine HR.out.mono ?_
  rintro e wr ⟨A3, c3, rfl, ho, hb⟩
  simp only at ho ⊢
  generalize hn : l.length = n at *
  have HN := Lib.hid hn
  clear hn
  have HO := Lib.hid ((ho.down hsz1).alloc (.cells #[.int .i64 t, .int .i64 vo, .slice A3 n c3] 61))
  have HS := Lib.hid (Whole.new wr 61 #[.int .i64 t, .int .i64 vo, .slice A3 n c3])
  replace HG1 := Lib.hid ((HG1.out.below hb HG1.out.lt).alloc (.cells #[.int .i64 t, .int .i64 vo, .slice A3 n c3] 61))
  replace HG2 := Lib.hid ((HG2.out.below hb HG2.out.lt).alloc (.cells #[.int .i64 t, .int .i64 vo, .slice A3 n c3] 61))
  replace HD := Lib.hid (HD.out.trans (hb.mono HD.out.size))
  replace HD := Lib.hid (HD.out.alloc HD.out.size (.cells #[.int .i64 t, .int .i64 vo, .slice A3 n c3] 61))
  have hsz5 : w.heap.size + 2 ≤ wr.heap.size := Nat.le_trans hsz1 hb.size
  replace hsz1 : w.heap.size + 2 ≤ (wr.alloc (.cells #[.int .i64 t, .int .i64 vo, .slice A3 n c3] 61)).heap.size := Nat.le_trans hsz5 (by simp)
  clear ho hb HR
  go_wp2_with fail
  generalize hg5 : wr.heap.size = g5 at *
  generalize hw1 : World.alloc wr (Obj.cells #[.int .i64 t, .int .i64 vo, .slice A3 n c3] 61) = w1 at *
  clear hw1 hg5
  refine s_start (fun W => Kept (fun b => b = w.heap.size ∨ b = w.heap.size + 1) (w1).drew W) [] (by kernel_rfl) ?_
  have HC := Lib.hid (Kept.refl (fun b => b = w.heap.size ∨ b = w.heap.size + 1) (w1).drew)
  have HX := Lib.hid (fun W (hW : Kept (fun b => b = w.heap.size ∨ b = w.heap.size + 1) w1.drew W) => (hW.whole (show Whole w1.drew _ _ _ from HS.out) (by omega)).c3)
  replace HO := Lib.hid HO.out.drew
  replace HG1 := Lib.hid (show Whole w1.drew _ _ _ from HG1.out)
  replace HG2 := Lib.hid (show Whole w1.drew _ _ _ from HG2.out)
  replace HD := Lib.hid HD.out.drew
  replace hsz1 : w.heap.size + 2 ≤ w1.drew.heap.size := hsz1
  clear HS
  generalize (w1).drew = z1 at *
  refine s_take (i := 0) (v := ?_) rfl (by kernel_rfl) (by kernel_rfl) (by kernel_rfl) (k0 := 0) (by kernel_rfl) (by kernel_rfl) (.inl rfl) (fun _ _ _ h => h) (by rfl) HC.out ?_ ?_
  rotate_left
  · intro W hW
    go_simp
    first | done | rfl
  simp only [Act.put, List.setIfInBounds_toArray, List.set_cons_zero, List.set_cons_succ, List.getElem_toArray, List.getElem_cons_zero]
  refine s_take (i := 1) (v := ?_) rfl (by kernel_rfl) (by kernel_rfl) (by kernel_rfl) (k0 := 1) (by kernel_rfl) (by kernel_rfl) (.inl rfl) (fun _ _ _ h => h) (by rfl) HC.out ?_ ?_
  rotate_left
  · intro W hW
    obtain ⟨k0, k1, k2⟩ := HX.out _ hW
    go_simp
    first | done | rfl
  simp only [Act.put, List.setIfInBounds_toArray, List.set_cons_zero, List.set_cons_succ, List.getElem_toArray, List.getElem_cons_zero, List.getElem_cons_succ]
  refine s_take (i := 2) (v := ?_) rfl (by kernel_rfl) (by kernel_rfl) (by kernel_rfl) (k0 := 2) (by kernel_rfl) (by kernel_rfl) (.inl rfl) (fun _ _ _ h => h) (by rfl) HC.out ?_ ?_
  rotate_left
  · intro W hW
    go_simp
    first | done | rfl
  simp only [Act.put, List.setIfInBounds_toArray, List.set_cons_zero, List.set_cons_succ, List.getElem_toArray, List.getElem_cons_zero, List.getElem_cons_succ]
  refine s_take (i := 3) (v := ?_) rfl (by kernel_rfl) (by kernel_rfl) (by kernel_rfl) (k0 := 3) (by kernel_rfl) (by kernel_rfl) (.inl rfl) (fun _ _ _ h => h) (by rfl) HC.out ?_ ?_
  rotate_left
  · intro W hW
    obtain ⟨k0, k1, k2⟩ := HX.out _ hW
    go_simp
    first | done | rfl
  simp only [Act.put, List.setIfInBounds_toArray, List.set_cons_zero, List.set_cons_succ, List.getElem_toArray, List.getElem_cons_zero, List.getElem_cons_succ]
  refine s_take (i := 4) (v := ?_) rfl (by kernel_rfl) (by kernel_rfl) (by kernel_rfl) (k0 := 4) (by kernel_rfl) (by kernel_rfl) (.inl rfl) (fun _ _ _ h => h) (by rfl) HC.out ?_ ?_
  rotate_left
  · intro W hW
    go_simp
    first | done | rfl
  simp only [Act.put, List.setIfInBounds_toArray, List.set_cons_zero, List.set_cons_succ, List.getElem_toArray, List.getElem_cons_zero, List.getElem_cons_succ]
  refine s_take (i := 5) (v := ?_) rfl (by kernel_rfl) (by kernel_rfl) (by kernel_rfl) (k0 := 5) (by kernel_rfl) (by kernel_rfl) (.inl rfl) (fun _ _ _ h => h) (by rfl) HC.out ?_ ?_
  rotate_left
  · intro W hW
    go_simp
    first | done | rfl
  simp only [Act.put, List.setIfInBounds_toArray, List.set_cons_zero, List.set_cons_succ, List.getElem_toArray, List.getElem_cons_zero, List.getElem_cons_succ]
  refine s_one (i := 6) (by kernel_rfl) ?_
  obtain ⟨c_0, c_1⟩ := HG1.out.c2
  obtain ⟨f_0, f_1⟩ := HG1.out.f2
  refine ones_skip (i := 6) (w' := ?_) rfl (by rfl) ?_ ?_ ?_
  rotate_left 1
  · go_simp
    first | done | rfl
  · exact fun _ => ((HC.out.set (p := ⟨w.heap.size, 0, none⟩) (.inl (.inl rfl)) (.int .i64 t)).set (p := ⟨w.heap.size, 1, none⟩) (.inl (.inl rfl)) (.int .i64 vo))
  simp only [Act.put, List.getElem_toArray, List.getElem_cons_zero, List.getElem_cons_succ]
  clear c_0 f_0 c_1 f_1
  replace HG1 := Lib.hid (show Whole _ _ _ #[.int .i64 t, .int .i64 vo] from ((HG1.out.set 0 (.int .i64 t)).set 1 (.int .i64 vo)))
  replace HC := Lib.hid ((HC.out.set (p := ⟨w.heap.size, 0, none⟩) (.inl (.inl rfl)) (.int .i64 t)).set (p := ⟨w.heap.size, 1, none⟩) (.inl (.inl rfl)) (.int .i64 vo))
  replace HG2 := Lib.hid (HG2.out.far (p := ⟨w.heap.size, 0, none⟩) (by simp) (.int .i64 t))
  replace HO := Lib.hid (HO.out.set (p := ⟨w.heap.size, 0, none⟩) (by simp) (.int .i64 t))
  replace HG2 := Lib.hid (HG2.out.far (p := ⟨w.heap.size, 1, none⟩) (by simp) (.int .i64 vo))
  replace HO := Lib.hid (HO.out.set (p := ⟨w.heap.size, 1, none⟩) (by simp) (.int .i64 vo))
  generalize hw6 : (World.setCell (World.setCell z1 ⟨w.heap.size, 0, none⟩ (.int .i64 t)) ⟨w.heap.size, 1, none⟩ (.int .i64 vo)) = z2 at *
  clear hw6
  refine s_one (i := 7) (by kernel_rfl) ?_
  obtain ⟨c_0, c_1, c_2⟩ := HG2.out.c3
  obtain ⟨f_0, f_1, f_2⟩ := HG2.out.f3
  refine ones_skip (i := 7) (w' := ?_) rfl (by rfl) ?_ ?_ ?_
  rotate_left 1
  · go_simp
    first | done | rfl
  · exact fun _ => (((HC.out.set (p := ⟨w.heap.size + 1, 0, none⟩) (.inl (.inr rfl)) (.int .i64 0)).set (p := ⟨w.heap.size + 1, 1, none⟩) (.inl (.inr rfl)) (.int .i64 0)).set (p := ⟨w.heap.size + 1, 2, none⟩) (.inl (.inr rfl)) (.slice A3 n c3))
  simp only [Act.put, List.getElem_toArray, List.getElem_cons_zero, List.getElem_cons_succ]
  clear c_0 f_0 c_1 f_1 c_2 f_2
  replace HG2 := Lib.hid (show Whole _ _ _ #[.int .i64 0, .int .i64 0, .slice A3 n c3] from (((HG2.out.set 0 (.int .i64 0)).set 1 (.int .i64 0)).set 2 (.slice A3 n c3)))
  replace HC := Lib.hid (((HC.out.set (p := ⟨w.heap.size + 1, 0, none⟩) (.inl (.inr rfl)) (.int .i64 0)).set (p := ⟨w.heap.size + 1, 1, none⟩) (.inl (.inr rfl)) (.int .i64 0)).set (p := ⟨w.heap.size + 1, 2, none⟩) (.inl (.inr rfl)) (.slice A3 n c3))
  replace HG1 := Lib.hid (HG1.out.far (p := ⟨w.heap.size + 1, 0, none⟩) (by simp) (.int .i64 0))
  replace HO := Lib.hid (HO.out.set (p := ⟨w.heap.size + 1, 0, none⟩) (by simp) (.int .i64 0))
  replace HG1 := Lib.hid (HG1.out.far (p := ⟨w.heap.size + 1, 1, none⟩) (by simp) (.int .i64 0))
  replace HO := Lib.hid (HO.out.set (p := ⟨w.heap.size + 1, 1, none⟩) (by simp) (.int .i64 0))
  replace HG1 := Lib.hid (HG1.out.far (p := ⟨w.heap.size + 1, 2, none⟩) (by simp) (.slice A3 n c3))
  replace HO := Lib.hid (HO.out.set (p := ⟨w.heap.size + 1, 2, none⟩) (by simp) (.slice A3 n c3))
  generalize hw6 : (World.setCell (World.setCell (World.setCell z2 ⟨w.heap.size + 1, 0, none⟩ (.int .i64 0)) ⟨w.heap.size + 1, 1, none⟩ (.int .i64 0)) ⟨w.heap.size + 1, 2, none⟩ (.slice A3 n c3)) = z3 at *
  clear hw6
  refine s_take (i := 8) (v := ?_) rfl (by kernel_rfl) (by kernel_rfl) (by kernel_rfl) (k0 := 8) (by kernel_rfl) (by kernel_rfl) (.inl rfl) (fun _ _ _ h => h) (by rfl) HC.out ?_ ?_
  rotate_left
  · intro W hW
    go_simp
    first | done | rfl
  simp only [Act.put, List.setIfInBounds_toArray, List.set_cons_zero, List.set_cons_succ, List.getElem_toArray, List.getElem_cons_zero, List.getElem_cons_succ]
  refine s_done (by kernel_rfl) ?_
  have HBB := Lib.hid (HD.out.trans (HC.out.below (B := w.heap.size) (fun b hb => by omega) (by omega)))
  go_simp
  go_wp2_with fail
  refine bodyPost_ret (results_bln rfl rfl rfl HG1.out HG2.out) rfl ?_
  have hn := HN.out
  subst hn
  exact ⟨A3, c3, rfl, HO.out.down (Nat.le_add_right _ _), HBB.out⟩
end Go.Proofs.YtcacebkbfnnjbaaDoor
