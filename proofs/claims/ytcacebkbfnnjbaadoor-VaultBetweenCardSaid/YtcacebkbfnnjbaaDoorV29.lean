/-
  Parts that the statement rests on, joined: Nums, Cut, Unpack.
-/
import Derived.Test.YtcacebkbfnnjbaaDoorV22
import Derived.Test.YtcacebkbfnnjbaaDoorV28
import Derived.WalkMore
/-
  What cutNumbers answers.
-/



namespace Go.Proofs.YtcacebkbfnnjbaaDoor
open Go.RowKit

/-- The length of a slice's value. -/
def lenOf : Value → Nat
  | .slice _ n _ => n
  | _ => 0
def NumsOut (w : World) (B : Nat) : Fm.Got (List Int) → Ending → World → Prop
  | .err er, e, w' => e = .returned (.tuple #[.slice none 0 0, .slice none 0 0, .int .i64 er]) ∧ Below w.heap.size w w'
  | .ok N r, e, w' => ∃ sN A c, e = .returned (.tuple #[sN, .slice A r.length c, .int .i64 0]) ∧ Own w' w.heap.size 3 sN N ∧ Sl w' B (.slice A r.length c) r ∧ Below w.heap.size w w'

set_option maxRecDepth 100000 in
theorem cutNumbers_any (v : Value) (l : List UInt8) (hl : l.length ≤ 1000000) (w : World) (B : Nat) (hB : B ≤ w.heap.size) (hv : Sl w B v l) :
    Calls Tryd.prog 73 #[v] w (NumsOut w B (Fm.cutH l)) := by
  match l with
  | [] =>
    have h := cutBytes_short v [] 1 (by simp) w B hv
    have H := Lib.hid h
    clear h hv
    go_enter Tryd.func73, Tryd.ntmps73
    go_wp2_with fail
    go_step3
    go_wp2_with fail
    refine H.out.mono ?_
    rintro e w' ⟨rfl, rfl⟩
    go_wp2_with fail
    first | rw [Exit.noGoto_ret] | skip
    go_ret3
    exact ⟨rfl, Below.refl _ _⟩
  | k :: r =>
    have h := cutBytes_any v (k :: r) 1 (by simp) w B hv
    have H := Lib.hid h
    clear h hv
    have hd := Lib.hid (fun W A c (h : Sl W B (.slice A 1 c) [k]) => fromDigits_any _ [k] (by simp) W B h)
    have hk : k.toNat < 256 := k.toNat_lt
    have hkv : Fm.val [k] = k.toNat := by simp [Fm.val]
    have HK := Lib.hid hkv
    clear hkv
    have hlr : r.length ≤ 1000000 := by simp at hl; omega
    have hnum := Lib.hid (fun W v rr (h : Sl W B v rr) (hrr : rr.length ≤ 1000000) => cutNumber_any v rr hrr W B h)
    show Calls Tryd.prog 73 #[v] w (NumsOut w B (Fm.cutNs k.toNat r))
    generalize k.toNat = kk at *
    go_enter Tryd.func73, Tryd.ntmps73
    go_wp2_with fail
    refine wp_scope_goto 0 (fun a' w' => ∃ (N : List Int) (rr : List UInt8) (sN : Value) (A : Option Addr) (c : Nat), N.length ≤ kk ∧ Fm.cutNs N.length r = .ok N rr ∧ Own w' w.heap.size 3 sN N ∧ Sl w' B (.slice A rr.length c) rr ∧ rr.length ≤ r.length ∧ Below w.heap.size w w' ∧ ∃ (u0 u1 u5 u7 u10 u11 u12 u13 u14 u15 u16 u17 u18 u19 u20 u21 u22 u23 u24 u25 u26 u27 u28 u29 u30 u31 u32 u33 u34 u35 u36 u37 u38 u39 u40 : Value), a' = { tmps := #[u0, u1, .slice none 0 0, .slice none 0 0, .int .i64 0, u5, .slice A rr.length c, u7, .int .i64 (kk : Int), sN, u10, u11, u12, u13, u14, u15, u16, u17, u18, u19, u20, u21, u22, u23, u24, u25, u26, u27, u28, u29, u30, u31, u32, u33, u34, u35, u36, u37, u38, u39, u40], defers := [] }) (fun a' _ => lenOf (a'.tmps.getD 6 undef)) rfl ?_ ?_
    · have hBw : B ≤ w.heap.size := hB
      rintro a' w' ⟨N, rr, sN, A, c, hN, hcut, hown, hsl, hrl, hb, u0, u1, u5, u7, u10, u11, u12, u13, u14, u15, u16, u17, u18, u19, u20, u21, u22, u23, u24, u25, u26, u27, u28, u29, u30, u31, u32, u33, u34, u35, u36, u37, u38, u39, u40, rfl⟩
      obtain ⟨As, cs, rfl, _, _⟩ := hown.sl.form
      have hz := hb.size
      have HCUT := Lib.hid hcut
      have HRR := Lib.hid hrl
      clear hcut hrl
      have hrr : rr.length ≤ 1000000 := by have := HRR.out; omega
      have HN := Lib.hid (hnum.out w' _ rr hsl hrr)
      by_cases hlt : N.length < kk
      · have he : ((N.length : Int) == (kk : Int)) = false := by rw [beq_eq_false_iff_ne]; omega
        have HOWN := Lib.hid hown
        clear hown hsl
        generalize hnl : N.length = j at *
        have HNL := Lib.hid hnl
        clear hnl
        cases hc : Fm.cutN rr with
        | err er =>
          have hfin : Fm.cutNs kk r = .err er := Fm.cutNs_stop HCUT.out hc hlt
          have her := Fm.cutN_err hc
          rw [hc] at HN
          have HF := Lib.hid hfin
          clear hfin hc
          rcases her with rfl | rfl
          all_goals
            go_wp2_with fail
            refine HN.out.mono ?_
            rintro e w2 ⟨rfl, n, rfl⟩
            go_wp2_with fail
            simp only [Exit.jump]
            go_ret3
            rw [HF.out]
            exact ⟨rfl, below_drewN hb n⟩
        | ok n r2 =>
          have hsn := Fm.cutNs_snoc HCUT.out
          rw [hc] at HN hsn
          have hmay := (Fm.cutN_ok hc).1
          have hr2 := Fm.cutN_rest hc
          have HS := Lib.hid hsn
          clear hsn hc
          unfold Fm.may at hmay
          go_wp2_with fail
          refine HN.out.mono ?_
          rintro e w2 ⟨A2, c2, rfl, hs2, n2, rfl⟩
          have hs2' := Lib.hid (sl_drewN hs2 n2)
          have ho2 := Lib.hid (HOWN.out.drewN n2)
          have hb2 := below_drewN hb n2
          have hz2 : w.heap.size ≤ (w'.drewN n2).heap.size := hz
          have hB2 : B ≤ (w'.drewN n2).heap.size := Nat.le_trans hB hz
          clear hs2 hb hz HN HOWN hB
          generalize w'.drewN n2 = w1 at *
          generalize hd2 : r2.length = d2 at *
          have HD2 := Lib.hid hd2
          clear hd2
          go_wp2_with (at_builtin; refine wpList_append_sl rfl _ (.tmp 39) rfl rowI w.heap.size _ N rfl (ho2.out.alloc _) (w1.heap.size + 1) _ [n] rfl (Sl.new1 w1 _ n _ ⟨by omega, by omega⟩ rfl) (by rw [HNL.out]; unfold maxLen; simp; omega) (by rw [HNL.out]; simp; omega) (by simp; omega) ?_; intro v3 w3 hown3 hg3 hat3; have hb3 := below_of_own (hb2.alloc hz2 _) (ho2.out.alloc _) hg3 (by simp; omega); have hs3 := hs2'.out.below (((Below.refl _ _).alloc hB2 _).grown hg3 (by simp; omega) (fun k hk => Nat.le_trans hBw ((ho2.out.lt k hk).1))); clear hg3 hat3)
          go_step3
          have h := HD2.out
          subst h
          exact ⟨rfl, ⟨N ++ [n], r2, _, _, _, by rw [List.length_append, HNL.out]; exact hlt, by rw [List.length_append, HNL.out]; exact HS.out, hown3, hs3, by have := HRR.out; omega, hb3, _, _, _, _, _, _, _, _, _, _, _, _, _, _, _, _, _, _, _, _, _, _, _, _, _, _, _, _, _, _, _, _, _, _, _, rfl⟩, hr2⟩
      · have hj : N.length = kk := by omega
        subst hj
        have hcut := HCUT.out
        generalize hd2 : rr.length = d2 at *
        have HD2 := Lib.hid hd2
        clear hd2
        have he : ((N.length : Int) == (N.length : Int)) = true := beq_self_eq_true _
        have HC2 := Lib.hid hcut
        clear hcut HCUT
        go_wp2_with fail
        simp only [Exit.jump]
        go_ret3
        rw [HC2.out]
        have h := HD2.out
        subst h
        exact ⟨_, _, _, rfl, hown, hsl, hb⟩
    · intro hgo
      go_wp2_with fail
      refine H.out.mono ?_
      rintro e w' ⟨A1, c1, A2, m, c2, hmk, rfl, h1, h2, n, rfl⟩
      have H1 := Lib.hid (sl_drewN h1 n)
      obtain rfl : m = r.length := by simp at hmk; omega
      have H2 : Hid (Sl w B (.slice A2 r.length c2) r) := h2
      clear h1 h2 H hmk
      go_wp2_with fail
      refine (hd.out _ _ _ H1.out).mono ?_
      rintro e w' ⟨rfl, rfl⟩
      rw [HK.out]
      go_wp2_with fail
      go_step3
      go_simp
      refine (by assumption : ∀ (a : Act) (w : World), _ → _) _ _ (hgo _ _ ?_)
      exact ⟨[], r, _, _, _, Nat.zero_le _, rfl, Own.nil _ _ _, sl_drewN H2.out n, Nat.le_refl _, below_drewN (Below.refl _ _) n, _, _, _, _, _, _, _, _, _, _, _, _, _, _, _, _, _, _, _, _, _, _, _, _, _, _, _, _, _, _, _, _, _, _, _, rfl⟩
end Go.Proofs.YtcacebkbfnnjbaaDoor

/-
  What Cut and Unpack answer.
-/


namespace Go.Proofs.YtcacebkbfnnjbaaDoor
open Go.RowKit


def CutOut (w : World) (l : List UInt8) : Fm.Got (List Int × List UInt8) → Ending → World → Prop
  | .err er, e, w' => e = .returned (.tuple #[.agg #[.slice none 0 0, .slice none 0 0], .int .i64 0, .int .i64 er]) ∧ Below w.heap.size w w'
  | .ok f r, e, w' => ∃ sN sD, e = .returned (.tuple #[.agg #[sN, sD], .int .i64 ((l.length : Int) - (r.length : Int)), .int .i64 0]) ∧ Own w' w.heap.size 3 sN f.1 ∧ Own w' w.heap.size 5 sD f.2 ∧ Below w.heap.size w w'

set_option maxRecDepth 100000 in
theorem cut_any (v : Value) (l : List UInt8) (hl : l.length ≤ 1000000) (w : World) (B : Nat) (hB : B ≤ w.heap.size) (hv : Sl w B v l) :
    Calls Tryd.prog 69 #[v] w (CutOut w l (Fm.cut l)) := by
  have hb0 : Below w.heap.size w (w.alloc (.cells #[.slice none 0 0, .slice none 0 0] 88)) := (Below.refl _ _).alloc (Nat.le_refl _) _
  have hN := cutNumbers_any v l hl (w.alloc (.cells #[.slice none 0 0, .slice none 0 0] 88)) B (by simp; omega) (hv.below (hb0.mono hB))
  obtain ⟨A, c, rfl, _, _⟩ := hv.form
  have HN := Lib.hid hN
  clear hN hv
  cases h1 : Fm.cutH l with
  | err er =>
    have hc : Fm.cut l = .err er := by unfold Fm.cut; rw [h1]
    rw [hc]
    rw [h1] at HN
    have her : er = 2 ∨ er = 3 := Fm.cutH_err h1
    clear h1 hc
    rcases her with rfl | rfl
    all_goals
      go_enter Tryd.func69, Tryd.ntmps69
      go_wp2_with fail
      refine HN.out.mono ?_
      rintro e w1 ⟨rfl, hb1⟩
      have hb := hb0.trans (hb1.mono (by simp))
      have hW := (Whole.new w _ _).below hb1 (by simp)
      have k0 := hW.cell 0
      have k1 := hW.cell 1
      have f0 := hW.free 0
      have f1 := hW.free 1
      simp at k0 k1
      clear hW
      go_wp2_with fail
      refine bodyPost_ret (v := .tuple #[.agg #[.slice none 0 0, .slice none 0 0], .int .i64 0, _]) (by simp [results, Tryd.results69, go_sem, k0, k1]) rfl ⟨rfl, (hb.setCell (by simp) _).setCell (by simp) _⟩
  | ok N r =>
    have hrl := Fm.cutH_rest h1
    rw [h1] at HN
    have hD := Lib.hid (fun W (h : Sl W B (.slice (none : Option Addr) 0 0) r) => h)
    have hdat := Lib.hid (fun W v (hB : B ≤ W.heap.size) (h : Sl W B v r) => cutData_any v r (by omega) W B hB h)
    have hcc : Fm.cut l = match Fm.cutD r with
      | .err e => .err e
      | .ok D r => .ok (N, D) r := by unfold Fm.cut; rw [h1]; rfl
    rw [hcc]
    clear hcc h1 hD
    cases h2 : Fm.cutD r with
    | err er =>
      have her := Fm.cutD_err h2
      rw [h2] at hdat
      clear h2
      rcases her with rfl | rfl
      all_goals
        go_enter Tryd.func69, Tryd.ntmps69
        go_wp2_with fail
        refine HN.out.mono ?_
        rintro e w1 ⟨sN, A2, c2, rfl, ho1, hs1, hb1⟩
        have hz1 := hb1.size
        have HD := Lib.hid (hdat.out w1 _ (by simp at hz1; omega) hs1)
        have hb := hb0.trans (hb1.mono (by simp))
        have hW := Lib.hid ((Whole.new w _ _).below hb1 (by simp))
        clear hs1 ho1 hdat HN hrl
        generalize r.length = m at *
        go_wp2_with fail
        refine HD.out.mono ?_
        rintro e w2 ⟨rfl, hb2⟩
        have hW2 := hW.out.below hb2 hW.out.lt
        have k0 := hW2.cell 0
        have k1 := hW2.cell 1
        have f0 := hW2.free 0
        have f1 := hW2.free 1
        simp at k0 k1
        clear hW hW2
        go_wp2_with fail
        refine bodyPost_ret (v := .tuple #[.agg #[.slice none 0 0, .slice none 0 0], .int .i64 0, _]) (by simp [results, Tryd.results69, go_sem, k0, k1]) rfl ⟨rfl, ((hb.trans (hb2.mono (by simp at hz1; omega))).setCell (by simp) _).setCell (by simp) _⟩
    | ok D r2 =>
      have hr2 := Fm.cutD_rest h2
      rw [h2] at hdat
      clear h2
      go_enter Tryd.func69, Tryd.ntmps69
      go_wp2_with fail
      refine HN.out.mono ?_
      rintro e w1 ⟨sN, A2, c2, rfl, ho1, hs1, hb1⟩
      have hz1 := hb1.size
      rw [World.size_alloc] at hz1
      have HD := Lib.hid (hdat.out w1 _ (by omega) hs1)
      have hb := hb0.trans (hb1.mono (by simp))
      have hW := Lib.hid ((Whole.new w _ _).below hb1 (by simp))
      clear hs1 hdat HN
      generalize hm : r.length = m at *
      have HM := Lib.hid hm
      clear hm
      go_wp2_with fail
      refine HD.out.mono ?_
      rintro e w2 ⟨sD, A3, c3, rfl, ho2, hs2, hb2⟩
      have hW2 := hW.out.below hb2 hW.out.lt
      have k0 := hW2.cell 0
      have k1 := hW2.cell 1
      have f0 := hW2.free 0
      have f1 := hW2.free 1
      simp at k0 k1
      have ho1' := (ho1.below hb2).down (base' := w.heap.size + 1) (by simp)
      have ho2' := ho2.down (base' := w.heap.size + 1) hz1
      have hbb := hb.trans (hb2.mono (by omega))
      obtain ⟨A4, c4, rfl, _, _⟩ := ho1.sl.form
      obtain ⟨A5, c5, rfl, _, _⟩ := ho2.sl.form
      have HO1 := Lib.hid ho1'
      have HO2 := Lib.hid ho2'
      clear hW hW2 hs2 ho1 ho2 ho1' ho2'
      generalize N.length = n4 at *
      generalize D.length = n5 at *
      generalize hl0 : l.length = n at *
      generalize hm2 : r2.length = m2 at *
      have HL := Lib.hid hl0
      have HM2 := Lib.hid hm2
      clear hl0 hm2
      go_wp2_with fail
      have h := HL.out
      subst h
      have h := HM2.out
      subst h
      refine bodyPost_ret (v := .tuple #[.agg #[.slice A4 n4 c4, .slice A5 n5 c5], .int .i64 ((l.length : Int) - (r2.length : Int)), .int .i64 0]) (by simp [results, Tryd.results69, go_sem, k0, k1]) rfl
        ⟨_, _, rfl, ((HO1.out.set (by simp) _).set (by simp) _).down (by simp), ((HO2.out.set (by simp) _).set (by simp) _).down (by simp), (hbb.setCell (by simp) _).setCell (by simp) _⟩
end Go.Proofs.YtcacebkbfnnjbaaDoor

/-
  What Unpack answers.
-/

namespace Go.Proofs.YtcacebkbfnnjbaaDoor
open Go.RowKit

def UnpackOut (w : World) : Fm.Got (List Int × List UInt8) → Ending → World → Prop
  | .err er, e, w' => e = .returned (.tuple #[.agg #[.slice none 0 0, .slice none 0 0], .int .i64 er]) ∧ Below w.heap.size w w'
  | .ok f _, e, w' => ∃ sN sD, e = .returned (.tuple #[.agg #[sN, sD], .int .i64 0]) ∧ Own w' w.heap.size 3 sN f.1 ∧ Own w' w.heap.size 5 sD f.2 ∧ Below w.heap.size w w'

set_option maxRecDepth 100000 in
theorem unpack_any (v : Value) (l : List UInt8) (hl : l.length ≤ 1000000) (w : World) (B : Nat) (hB : B ≤ w.heap.size) (hv : Sl w B v l) :
    Calls Tryd.prog 61 #[v] w (UnpackOut w (Fm.unpack l)) := by
  have hb0 : Below w.heap.size w (w.alloc (.cells #[.slice none 0 0, .slice none 0 0] 88)) := (Below.refl _ _).alloc (Nat.le_refl _) _
  have hC := cut_any v l hl (w.alloc (.cells #[.slice none 0 0, .slice none 0 0] 88)) B (by simp; omega) (hv.below (hb0.mono hB))
  obtain ⟨A, c, rfl, _, _⟩ := hv.form
  have HC := Lib.hid hC
  clear hC hv
  cases h1 : Fm.cut l with
  | err er =>
    have hc : Fm.unpack l = .err er := by unfold Fm.unpack; rw [h1]
    rw [hc]
    rw [h1] at HC
    have her := Fm.cut_err h1
    clear h1 hc
    generalize l.length = n at *
    rcases her with rfl | rfl | rfl
    all_goals
      go_enter Tryd.func61, Tryd.ntmps61
      go_wp2_with fail
      refine HC.out.mono ?_
      rintro e w1 ⟨rfl, hb1⟩
      have hb := hb0.trans (hb1.mono (by simp))
      have hW := (Whole.new w _ _).below hb1 (by simp)
      have hlt := hW.lt
      have k0 := hW.cell 0
      have k1 := hW.cell 1
      have f0 := hW.free 0
      have f1 := hW.free 1
      simp at k0 k1
      clear hW
      go_wp2_with fail
      refine bodyPost_ret (v := .tuple #[.agg #[.slice none 0 0, .slice none 0 0], _]) (by simp [results, Tryd.results61, go_sem, k0, k1, hlt]) rfl ⟨rfl, ((hb.setCell (by simp) _).setCell (by simp) _).alloc (by simp; omega) _⟩
  | ok f r =>
    have hrl := Fm.cut_rest h1
    have hc : Fm.unpack l = if r = [] then .ok f [] else .err 2 := by unfold Fm.unpack; rw [h1]
    rw [hc]
    rw [h1] at HC
    clear h1 hc
    by_cases hr : r = []
    · rw [if_pos hr]
      subst hr
      generalize hl0 : l.length = n at *
      have HL := Lib.hid hl0
      clear hl0
      go_enter Tryd.func61, Tryd.ntmps61
      go_wp2_with fail
      refine HC.out.mono ?_
      rintro e w1 ⟨sN, sD, rfl, ho1, ho2, hb1⟩
      rw [HL.out]
      have hb := hb0.trans (hb1.mono (by simp))
      have hW := (Whole.new w _ _).below hb1 (by simp)
      have hlt := hW.lt
      have k0 := hW.cell 0
      have k1 := hW.cell 1
      have f0 := hW.free 0
      have f1 := hW.free 1
      simp at k0 k1
      obtain ⟨A4, c4, rfl, _, _⟩ := ho1.sl.form
      obtain ⟨A5, c5, rfl, _, _⟩ := ho2.sl.form
      have HO1 := Lib.hid (ho1.down (base' := w.heap.size + 1) (by simp))
      have HO2 := Lib.hid (ho2.down (base' := w.heap.size + 1) (by simp))
      clear hW ho1 ho2
      generalize f.1.length = n4 at *
      generalize f.2.length = n5 at *
      go_wp2_with fail
      refine bodyPost_ret (v := .tuple #[.agg #[.slice A4 n4 c4, .slice A5 n5 c5], _]) (by simp [results, Tryd.results61, go_sem, k0, k1, hlt]) rfl
        ⟨_, _, rfl, (((HO1.out.set (by simp) _).set (by simp) _).alloc _).down (by simp), (((HO2.out.set (by simp) _).set (by simp) _).alloc _).down (by simp), ((hb.setCell (by simp) _).setCell (by simp) _).alloc (by simp; omega) _⟩
    · rw [if_neg hr]
      have hm : 0 < r.length := List.length_pos_iff.2 hr
      generalize hl0 : l.length = n at *
      have HL := Lib.hid hl0
      clear hl0
      generalize hr0 : r.length = m at *
      have HR := Lib.hid hr0
      clear hr0
      go_enter Tryd.func61, Tryd.ntmps61
      go_wp2_with fail
      refine HC.out.mono ?_
      rintro e w1 ⟨sN, sD, rfl, ho1, ho2, hb1⟩
      rw [HL.out, HR.out]
      have hb := hb0.trans (hb1.mono (by simp))
      have hW := (Whole.new w _ _).below hb1 (by simp)
      have hlt := hW.lt
      have k0 := hW.cell 0
      have k1 := hW.cell 1
      have f0 := hW.free 0
      have f1 := hW.free 1
      simp at k0 k1
      obtain ⟨A4, c4, rfl, _, _⟩ := ho1.sl.form
      obtain ⟨A5, c5, rfl, _, _⟩ := ho2.sl.form
      clear hW ho1 ho2
      generalize f.1.length = n4 at *
      generalize f.2.length = n5 at *
      go_wp2_with fail
      refine bodyPost_ret (v := .tuple #[.agg #[.slice none 0 0, .slice none 0 0], _]) (by simp [results, Tryd.results61, go_sem, k0, k1, hlt]) rfl ⟨rfl, ((hb.setCell (by simp) _).setCell (by simp) _).alloc (by simp; omega) _⟩
end Go.Proofs.YtcacebkbfnnjbaaDoor
