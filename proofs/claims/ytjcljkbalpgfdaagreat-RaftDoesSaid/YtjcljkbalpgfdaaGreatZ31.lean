/-
  Parts that the statement rests on, joined: Raddedm, Rone, Rsame.
-/
import Derived.Test.YtjcljkbalpgfdaaGreatZ11
import Derived.Test.YtjcljkbalpgfdaaGreatZ30
import Derived.Test.YtjcljkbalpgfdaaGreatZ34
import Derived.BigQuiet
/-
  What the reference's added answers and leaves.
-/


namespace Go.Proofs.YtjcljkbalpgfdaaGreat
open Go.RowKit

namespace Rf
section
variable {n : Id} {s : St} {k o t i u cm : Int} {fn : Nat} {L : List E} {y : Bool}
theorem set_same (l : List Int) (k : Nat) : l.set k (l[k]?.getD 0) = l := by
  by_cases hk : k < l.length
  · rw [List.getElem?_eq_getElem hk]; exact List.set_getElem_self hk
  · exact List.set_eq_of_length_le (by omega)
theorem set_get {l : List Int} {k : Nat} {v : Int} (hk : k < l.length) : (l.set k v)[k]?.getD 0 = v := by
  rw [List.getElem?_set_self hk]; rfl
theorem added_bad (h : s.is ≠ 2 ∨ t ≠ s.b.1) : added n s (k, (fn : Int), o, t, i, u, cm, y, L) = (s, []) := by
  unfold added; rw [if_pos h]
theorem added_out (h1 : s.is = 2) (h2 : t = s.b.1) (_ : 1 ≤ fn) (h : i < 0 ∨ (last s).1 < i) : added n s (k, (fn : Int), o, t, i, u, cm, true, L) = (s, []) := by
  unfold added; rw [if_neg (by simp [h1, h2])]
  show (if i < 0 ∨ (last s).1 < i then _ else _) = _
  rw [if_pos h]
theorem added_yes (h1 : s.is = 2) (h2 : t = s.b.1) (hf : 1 ≤ fn) {mx : Int} {s1 s2 : St} (hm : mx = max (s.mt[fn - 1]?.getD 0) i) (hs1 : s1 = { s with mt := s.mt.set (fn - 1) mx }) (hs2 : s2 = { s1 with nx := s1.nx.set (fn - 1) (mx + 1) }) (h : 0 ≤ i ∧ i ≤ (last s).1) :
    added n s (k, (fn : Int), o, t, i, u, cm, true, L) = if (last s).1 < mx + 1 then (settle s2, []) else (settle s2, [addition n (settle s2) fn]) := by
  unfold added; rw [if_neg (by simp [h1, h2])]
  show (if i < 0 ∨ (last s).1 < i then _ else _) = _
  rw [if_neg (by omega)]
  subst hs1
  subst hs2
  subst hm
  have hk : fn - 1 + 1 = fn := by omega
  show (if _ then _ else (_, [addition n _ (fn - 1 + 1)])) = _
  rw [hk]
  rfl
theorem added_no (h1 : s.is = 2) (h2 : t = s.b.1) (hf : 1 ≤ fn) : added n s (k, (fn : Int), o, t, i, u, cm, false, L) = ({ s with nx := s.nx.set (fn - 1) (max 1 (min (s.nx[fn - 1]?.getD 0 - 1) (i + 1))) }, [addition n { s with nx := s.nx.set (fn - 1) (max 1 (min (s.nx[fn - 1]?.getD 0 - 1) (i + 1))) } fn]) := by
  unfold added; rw [if_neg (by simp [h1, h2])]
  have hk : fn - 1 + 1 = fn := by omega
  show (_, [addition n _ (fn - 1 + 1)]) = _
  rw [hk]
  rfl
theorem Good.lower (h : Good n s) (k : Nat) (i : Int) : Good n { s with nx := s.nx.set k (max 1 (min (s.nx[k]?.getD 0 - 1) (i + 1))) } := by
  have hm := getD_all (k := k) h.nxs (by omega)
  exact { h with nx := by show (List.set _ _ _).length = _; rw [List.length_set]; exact h.nx, nxs := set_all h.nxs (by omega) }
theorem Good.upped (h : Good n s) {k : Nat} {m : Int} {s1 s2 : St} (hs1 : s1 = { s with mt := s.mt.set k m }) (hs2 : s2 = { s1 with nx := s1.nx.set k (m + 1) }) (hm : 0 ≤ m ∧ m ≤ 64) : Good n s2 := by
  subst hs1
  subst hs2
  exact { h with mt := by show (List.set _ _ _).length = _; rw [List.length_set]; exact h.mt, nx := by show (List.set _ _ _).length = _; rw [List.length_set]; exact h.nx, mts := set_all h.mts (by omega), nxs := set_all h.nxs (by omega) }
end
end Rf

set_option maxRecDepth 100000 in
set_option maxHeartbeats 4000000 in
theorem radded_any (n : Rf.Id) (F : Foot) (S : Nat → Prop) (s : Rf.St) (hg : Rf.Good n s) (A : Option Addr) (c : Nat) (w : World) (h : RMem n F S w s A c) (k f o t i u cm : Int) (y : Bool) (L : List E) (A2 : Option Addr) (n2 c2 : Nat) (hf : 1 ≤ f ∧ f ≤ n.many) (hii : -9223372036854775808 ≤ i ∧ i ≤ 9223372036854775807) :
    Calls Tryz.prog 51 #[.pointer (some ⟨F.g, 0, none⟩), .agg (mc k f o t i u cm y (.slice A2 n2 c2))] w fun e w' => ∃ v, e = .returned v ∧ MsgsOut w (Rf.added n s (k, f, o, t, i, u, cm, y, L)).2 v w' ∧ StepTo n F S w (Rf.added n s (k, f, o, t, i, u, cm, y, L)).1 w' := by
  obtain ⟨fn, rfl⟩ : ∃ fn : Nat, f = (fn : Int) := ⟨f.toNat, by omega⟩
  have hFlt := Foot.lt h
  have HOFF := Lib.hid h.off
  have HB := Lib.hid ((Below.refl w.heap.size w).alloc (Nat.le_refl _) (.cells (mc k (fn : Int) o t i u cm y (.slice A2 n2 c2)) 41))
  have HX := Lib.hid (Whole.new w 41 (mc k (fn : Int) o t i u cm y (.slice A2 n2 c2)))
  have HR0 := Lib.hid (h.stay HB.out)
  have HK := Lib.hid (show Kept F.has w _ from Below.kept HB.out)
  have hid1 := hg.id1
  have hid2 := hg.id2
  have hmany := hg.many
  have HML := Lib.hid hg.mt
  have HXL := Lib.hid hg.nx
  have hmk := Rf.getD_all (k := fn - 1) hg.mts (by omega)
  have hnk := Rf.getD_all (k := fn - 1) hg.nxs (by omega)
  have hlf := (Rf.last_fit hg).1
  unfold Rf.last Rf.lg at hlf
  have hXF : ¬ F.has w.heap.size := fun hh => by have := hFlt _ hh; omega
  have hXm : w.heap.size ≠ F.gm := fun hh => by have := hFlt F.gm (.inr (.inr (.inl rfl))); omega
  have hXn : w.heap.size ≠ F.gn := fun hh => by have := hFlt F.gn (.inr (.inr (.inr rfl))); omega
  have hkw : IntKind.i64.wrap ((fn : Int) - 1) = (fn : Int) - 1 := by rw [IntKind.wrap_i64]; omega
  have hkn : ((fn : Int) - 1).toNat = fn - 1 := by omega
  have hki : (1 : Int) ≤ (fn : Int) := by omega
  have hki2 : (fn : Int) - 1 < (n.many : Int) := by omega
  clear h
  have hst := HR0.out.st
  dsimp only [rmc] at hst
  obtain ⟨k0, k1, k2, k3, k4, k5, k6, k7, k8, k9, k10, k11⟩ := hst.c12
  obtain ⟨q0, q1, q2, q3, q4, q5, q6, q7, q8⟩ := HX.out.c9
  clear hst
  go_enter Tryz.func51, Tryz.ntmps51
  by_cases h1 : s.is = 2
  rotate_left
  · have e1 : (s.is != 2) = true := by simpa using h1
    have hno : Rf.added n s (k, (fn : Int), o, t, i, u, cm, y, L) = (s, []) := Rf.added_bad (.inl h1)
    clear h1
    go_wp2_with fail
    go_quiet (fail)
    go_wp2_with fail
    go_ret
    rw [hno]
    exact ⟨_, rfl, msgsOut_nil _ _, stepTo_of ((HR0.out.stay (below_drewN (Below.refl _ _) _)).wide (fun b hb _ => .inl hb) (fun b hb hf => by
      rcases hb with hb | hb
      · exact HOFF.out b hb hf
      · have := hFlt b hf; omega)) (HK.out.trans (Below.kept (below_drewN (Below.refl _ _) _)))⟩
  have e1 : (s.is != 2) = false := by simpa using h1
  by_cases h2 : t = s.b.1
  rotate_left
  · have e2 : (t != s.b.1) = true := by simpa using h2
    have hno : Rf.added n s (k, (fn : Int), o, t, i, u, cm, y, L) = (s, []) := Rf.added_bad (.inr h2)
    clear h2 h1
    go_wp2_with fail
    go_quiet (fail)
    go_wp2_with fail
    go_ret
    rw [hno]
    exact ⟨_, rfl, msgsOut_nil _ _, stepTo_of ((HR0.out.stay (below_drewN (Below.refl _ _) _)).wide (fun b hb _ => .inl hb) (fun b hb hf => by
      rcases hb with hb | hb
      · exact HOFF.out b hb hf
      · have := hFlt b hf; omega)) (HK.out.trans (Below.kept (below_drewN (Below.refl _ _) _)))⟩
  have e2 : (t != s.b.1) = false := by simpa using h2
  have H1 := Lib.hid h1
  have H2 := Lib.hid h2
  clear h1 h2
  have HLA := Lib.hid (fun W (hr : RMem n F S W s A c) => rlast_any 0 0 _ s.l W W.heap.size (Nat.le_refl _) hr.sl)
  obtain ⟨la1, hla⟩ : ∃ la1, la1 = (Lg.last (0, 0, s.l)).1 := ⟨_, rfl⟩
  rw [← hla] at hlf
  have HLQ := Lib.hid hla
  clear hla
  go_wp2_with fail
  go_quiet (fail)
  go_wp2_with fail
  clear k0 k1 k2 k3 k4 k5 k6 k7 k8 k9 k10 k11 q0 q1 q2 q3 q4 q5 q6 q7 q8
  replace HR0 := Lib.hid (HR0.out.stay (below_drewN (Below.refl _ _) nq))
  replace HX := Lib.hid (HX.out.below (below_drewN (Below.refl _ _) nq) HX.out.lt)
  replace HK := Lib.hid (HK.out.trans (Below.kept (below_drewN (Below.refl _ _) nq)))
  clear HB
  generalize hw4 : World.drewN _ nq = w4 at *
  clear hw4
  have HLB := Lib.hid (HLA.out _ HR0.out)
  clear HLA
  have hst := HR0.out.st
  dsimp only [rmc] at hst
  obtain ⟨k0, k1, k2, k3, k4, k5, k6, k7, k8, k9, k10, k11⟩ := hst.c12
  clear hst
  go_wp2_with fail
  with_reducible refine HLB.out.mono ?_
  rintro e w5 ⟨rfl, hb⟩
  replace HR0 := Lib.hid (HR0.out.stay hb)
  replace HX := Lib.hid (HX.out.below hb HX.out.lt)
  replace HK := Lib.hid (HK.out.trans (Below.kept hb))
  clear hb HLB k0 k1 k2 k3 k4 k5 k6 k7 k8 k9 k10 k11
  generalize hq : Lg.last (0, 0, s.l) = q at *
  obtain ⟨qa, qb⟩ := q
  obtain rfl : la1 = qa := HLQ.out
  have HLQ2 := Lib.hid (show (Rf.last s).1 = la1 by unfold Rf.last Rf.lg; rw [hq])
  clear hq HLQ
  have hst := HR0.out.st
  dsimp only [rmc] at hst
  obtain ⟨k0, k1, k2, k3, k4, k5, k6, k7, k8, k9, k10, k11⟩ := hst.c12
  clear hst
  obtain ⟨q0, q1, q2, q3, q4, q5, q6, q7, q8⟩ := HX.out.c9
  rcases y with _ | _
  · have HRN := Lib.hid (Rf.added_no (n := n) (s := s) (k := k) (fn := fn) (o := o) (t := t) (i := i) (u := u) (cm := cm) (L := L) H1.out H2.out (by omega))
    have HGN := Lib.hid (hg.lower (fn - 1) i)
    have kx := HR0.out.x.rowN (fn - 1) (by rw [HXL.out]; omega)
    have fx := HR0.out.x.free (fn - 1)
    generalize s.nx[fn - 1]?.getD 0 = nk at *
    clear hg H1 H2
    by_cases hi1 : i < nk - 1 - 1
    · have hwi : IntKind.i64.wrap (i + 1) = i + 1 := by rw [IntKind.wrap_i64]; omega
      by_cases hi2 : i + 1 < 1
      · have hnv : max 1 (min (nk - 1) (i + 1)) = 1 := by omega
        have hres := HRN.out
        rw [hnv] at hres
        have HRES := Lib.hid hres
        have hgt := HGN.out
        rw [hnv] at hgt
        have HGT := Lib.hid hgt
        clear hnv hres HRN HGN hgt
        go_wp2_with fail
        replace HX := Lib.hid (HX.out.far (p := ⟨F.gn, fn - 1, none⟩) hXn (.int .i64 (1)))
        replace HR0 := Lib.hid (HR0.out.setX (fn - 1) (1))
        replace HK := Lib.hid (HK.out.set (p := ⟨F.gn, fn - 1, none⟩) (.inl (.inr (.inr (.inr rfl)))) (.int .i64 (1)))
        clear kx fx k0 k1 k2 k3 k4 k5 k6 k7 k8 k9 k10 k11 q0 q1 q2 q3 q4 q5 q6 q7 q8
        generalize hwc : World.setCell _ _ _ = wc at *
        clear hwc
        obtain ⟨sn, hsn⟩ : ∃ sn : Rf.St, sn = { s with nx := s.nx.set (fn - 1) (1) } := ⟨_, rfl⟩
        rw [← hsn] at HR0 HRES HGT
        clear hsn
        have hst := HR0.out.st
        dsimp only [rmc] at hst
        obtain ⟨k0, k1, k2, k3, k4, k5, k6, k7, k8, k9, k10, k11⟩ := hst.c12
        clear hst
        obtain ⟨q0, q1, q2, q3, q4, q5, q6, q7, q8⟩ := HX.out.c9
        go_wp2_with fail
        refine (raddition_any n F _ _ HGT.out A c _ HR0.out fn (by omega) (by omega)).mono ?_
        rintro e w9 ⟨A9, c9, rfl, hs9, hb9⟩
        have HF9 := Lib.hid (Rf.addition_fit HGT.out (k := fn) (by omega))
        have HR9 := Lib.hid (HR0.out.stay hb9)
        have hzK := HK.out.size
        have HK9 := Lib.hid (HK.out.trans (Below.kept hb9))
        have HS9 := Lib.hid hs9
        have hz9 := hb9.size
        clear hs9 hb9 HR0 HK HX k0 k1 k2 k3 k4 k5 k6 k7 k8 k9 k10 k11
        generalize Rf.addition n sn fn = x9 at *
        go_wp2_with fail
        go_ret
        rw [HRES.out]
        refine ⟨_, rfl, SlS.wide (new1_at _ 41 (α := M) x9 (mcx x9 (.slice A9 x9.2.2.2.2.2.2.2.2.length c9)) (fits_msg HF9.out HS9.out) (by simp)) (fun b hb _ => ?_), stepTo_of ((HR9.out.stay ((Below.refl _ _).alloc (Nat.le_refl _) _)).wide (fun b hb _ => .inl hb) (fun b hb hf => by
          rcases hb with hb | hb
          · exact HOFF.out b hb hf
          · have := hFlt b hf; omega)) (HK9.out.trans (Below.kept ((Below.refl _ _).alloc (Nat.le_refl _) _)))⟩
        rcases hb with hb | hb
        · have := hb.1; omega
        · omega
      · have d2 : decide (i + 1 < 1) = false := by simpa using hi2
        have hnv : max 1 (min (nk - 1) (i + 1)) = i + 1 := by omega
        have hres := HRN.out
        rw [hnv] at hres
        have HRES := Lib.hid hres
        have hgt := HGN.out
        rw [hnv] at hgt
        have HGT := Lib.hid hgt
        clear hnv hres HRN HGN hgt
        go_wp2_with fail
        replace HX := Lib.hid (HX.out.far (p := ⟨F.gn, fn - 1, none⟩) hXn (.int .i64 (i + 1)))
        replace HR0 := Lib.hid (HR0.out.setX (fn - 1) (i + 1))
        replace HK := Lib.hid (HK.out.set (p := ⟨F.gn, fn - 1, none⟩) (.inl (.inr (.inr (.inr rfl)))) (.int .i64 (i + 1)))
        clear kx fx k0 k1 k2 k3 k4 k5 k6 k7 k8 k9 k10 k11 q0 q1 q2 q3 q4 q5 q6 q7 q8
        generalize hwc : World.setCell _ _ _ = wc at *
        clear hwc
        obtain ⟨sn, hsn⟩ : ∃ sn : Rf.St, sn = { s with nx := s.nx.set (fn - 1) (i + 1) } := ⟨_, rfl⟩
        rw [← hsn] at HR0 HRES HGT
        clear hsn
        have hst := HR0.out.st
        dsimp only [rmc] at hst
        obtain ⟨k0, k1, k2, k3, k4, k5, k6, k7, k8, k9, k10, k11⟩ := hst.c12
        clear hst
        obtain ⟨q0, q1, q2, q3, q4, q5, q6, q7, q8⟩ := HX.out.c9
        go_wp2_with fail
        refine (raddition_any n F _ _ HGT.out A c _ HR0.out fn (by omega) (by omega)).mono ?_
        rintro e w9 ⟨A9, c9, rfl, hs9, hb9⟩
        have HF9 := Lib.hid (Rf.addition_fit HGT.out (k := fn) (by omega))
        have HR9 := Lib.hid (HR0.out.stay hb9)
        have hzK := HK.out.size
        have HK9 := Lib.hid (HK.out.trans (Below.kept hb9))
        have HS9 := Lib.hid hs9
        have hz9 := hb9.size
        clear hs9 hb9 HR0 HK HX k0 k1 k2 k3 k4 k5 k6 k7 k8 k9 k10 k11
        generalize Rf.addition n sn fn = x9 at *
        go_wp2_with fail
        go_ret
        rw [HRES.out]
        refine ⟨_, rfl, SlS.wide (new1_at _ 41 (α := M) x9 (mcx x9 (.slice A9 x9.2.2.2.2.2.2.2.2.length c9)) (fits_msg HF9.out HS9.out) (by simp)) (fun b hb _ => ?_), stepTo_of ((HR9.out.stay ((Below.refl _ _).alloc (Nat.le_refl _) _)).wide (fun b hb _ => .inl hb) (fun b hb hf => by
          rcases hb with hb | hb
          · exact HOFF.out b hb hf
          · have := hFlt b hf; omega)) (HK9.out.trans (Below.kept ((Below.refl _ _).alloc (Nat.le_refl _) _)))⟩
        rcases hb with hb | hb
        · have := hb.1; omega
        · omega
    · have d1 : decide (i < nk - 1 - 1) = false := by simpa using hi1
      by_cases hi2 : nk - 1 < 1
      · have hnv : max 1 (min (nk - 1) (i + 1)) = 1 := by omega
        have hres := HRN.out
        rw [hnv] at hres
        have HRES := Lib.hid hres
        have hgt := HGN.out
        rw [hnv] at hgt
        have HGT := Lib.hid hgt
        clear hnv hres HRN HGN hgt
        go_wp2_with fail
        replace HX := Lib.hid (HX.out.far (p := ⟨F.gn, fn - 1, none⟩) hXn (.int .i64 (1)))
        replace HR0 := Lib.hid (HR0.out.setX (fn - 1) (1))
        replace HK := Lib.hid (HK.out.set (p := ⟨F.gn, fn - 1, none⟩) (.inl (.inr (.inr (.inr rfl)))) (.int .i64 (1)))
        clear kx fx k0 k1 k2 k3 k4 k5 k6 k7 k8 k9 k10 k11 q0 q1 q2 q3 q4 q5 q6 q7 q8
        generalize hwc : World.setCell _ _ _ = wc at *
        clear hwc
        obtain ⟨sn, hsn⟩ : ∃ sn : Rf.St, sn = { s with nx := s.nx.set (fn - 1) (1) } := ⟨_, rfl⟩
        rw [← hsn] at HR0 HRES HGT
        clear hsn
        have hst := HR0.out.st
        dsimp only [rmc] at hst
        obtain ⟨k0, k1, k2, k3, k4, k5, k6, k7, k8, k9, k10, k11⟩ := hst.c12
        clear hst
        obtain ⟨q0, q1, q2, q3, q4, q5, q6, q7, q8⟩ := HX.out.c9
        go_wp2_with fail
        refine (raddition_any n F _ _ HGT.out A c _ HR0.out fn (by omega) (by omega)).mono ?_
        rintro e w9 ⟨A9, c9, rfl, hs9, hb9⟩
        have HF9 := Lib.hid (Rf.addition_fit HGT.out (k := fn) (by omega))
        have HR9 := Lib.hid (HR0.out.stay hb9)
        have hzK := HK.out.size
        have HK9 := Lib.hid (HK.out.trans (Below.kept hb9))
        have HS9 := Lib.hid hs9
        have hz9 := hb9.size
        clear hs9 hb9 HR0 HK HX k0 k1 k2 k3 k4 k5 k6 k7 k8 k9 k10 k11
        generalize Rf.addition n sn fn = x9 at *
        go_wp2_with fail
        go_ret
        rw [HRES.out]
        refine ⟨_, rfl, SlS.wide (new1_at _ 41 (α := M) x9 (mcx x9 (.slice A9 x9.2.2.2.2.2.2.2.2.length c9)) (fits_msg HF9.out HS9.out) (by simp)) (fun b hb _ => ?_), stepTo_of ((HR9.out.stay ((Below.refl _ _).alloc (Nat.le_refl _) _)).wide (fun b hb _ => .inl hb) (fun b hb hf => by
          rcases hb with hb | hb
          · exact HOFF.out b hb hf
          · have := hFlt b hf; omega)) (HK9.out.trans (Below.kept ((Below.refl _ _).alloc (Nat.le_refl _) _)))⟩
        rcases hb with hb | hb
        · have := hb.1; omega
        · omega
      · have d2 : decide (nk - 1 < 1) = false := by simpa using hi2
        have hnv : max 1 (min (nk - 1) (i + 1)) = nk - 1 := by omega
        have hres := HRN.out
        rw [hnv] at hres
        have HRES := Lib.hid hres
        have hgt := HGN.out
        rw [hnv] at hgt
        have HGT := Lib.hid hgt
        clear hnv hres HRN HGN hgt
        go_wp2_with fail
        replace HX := Lib.hid (HX.out.far (p := ⟨F.gn, fn - 1, none⟩) hXn (.int .i64 (nk - 1)))
        replace HR0 := Lib.hid (HR0.out.setX (fn - 1) (nk - 1))
        replace HK := Lib.hid (HK.out.set (p := ⟨F.gn, fn - 1, none⟩) (.inl (.inr (.inr (.inr rfl)))) (.int .i64 (nk - 1)))
        clear kx fx k0 k1 k2 k3 k4 k5 k6 k7 k8 k9 k10 k11 q0 q1 q2 q3 q4 q5 q6 q7 q8
        generalize hwc : World.setCell _ _ _ = wc at *
        clear hwc
        obtain ⟨sn, hsn⟩ : ∃ sn : Rf.St, sn = { s with nx := s.nx.set (fn - 1) (nk - 1) } := ⟨_, rfl⟩
        rw [← hsn] at HR0 HRES HGT
        clear hsn
        have hst := HR0.out.st
        dsimp only [rmc] at hst
        obtain ⟨k0, k1, k2, k3, k4, k5, k6, k7, k8, k9, k10, k11⟩ := hst.c12
        clear hst
        obtain ⟨q0, q1, q2, q3, q4, q5, q6, q7, q8⟩ := HX.out.c9
        go_wp2_with fail
        refine (raddition_any n F _ _ HGT.out A c _ HR0.out fn (by omega) (by omega)).mono ?_
        rintro e w9 ⟨A9, c9, rfl, hs9, hb9⟩
        have HF9 := Lib.hid (Rf.addition_fit HGT.out (k := fn) (by omega))
        have HR9 := Lib.hid (HR0.out.stay hb9)
        have hzK := HK.out.size
        have HK9 := Lib.hid (HK.out.trans (Below.kept hb9))
        have HS9 := Lib.hid hs9
        have hz9 := hb9.size
        clear hs9 hb9 HR0 HK HX k0 k1 k2 k3 k4 k5 k6 k7 k8 k9 k10 k11
        generalize Rf.addition n sn fn = x9 at *
        go_wp2_with fail
        go_ret
        rw [HRES.out]
        refine ⟨_, rfl, SlS.wide (new1_at _ 41 (α := M) x9 (mcx x9 (.slice A9 x9.2.2.2.2.2.2.2.2.length c9)) (fits_msg HF9.out HS9.out) (by simp)) (fun b hb _ => ?_), stepTo_of ((HR9.out.stay ((Below.refl _ _).alloc (Nat.le_refl _) _)).wide (fun b hb _ => .inl hb) (fun b hb hf => by
          rcases hb with hb | hb
          · exact HOFF.out b hb hf
          · have := hFlt b hf; omega)) (HK9.out.trans (Below.kept ((Below.refl _ _).alloc (Nat.le_refl _) _)))⟩
        rcases hb with hb | hb
        · have := hb.1; omega
        · omega
  · by_cases hi0 : i < 0
    · have hres : Rf.added n s (k, (fn : Int), o, t, i, u, cm, true, L) = (s, []) := Rf.added_out H1.out H2.out (by omega) (.inl hi0)
      have HRES := Lib.hid hres
      clear hres hg H1 H2
      go_wp2_with fail
      go_ret
      rw [HRES.out]
      exact ⟨_, rfl, msgsOut_nil _ _, stepTo_of (HR0.out.wide (fun b hb _ => .inl hb) (fun b hb hf => by
        rcases hb with hb | hb
        · exact HOFF.out b hb hf
        · have := hFlt b hf; omega)) HK.out⟩
    have d0 : decide (i < 0) = false := by simpa using hi0
    by_cases hil : la1 < i
    · have hres : Rf.added n s (k, (fn : Int), o, t, i, u, cm, true, L) = (s, []) := Rf.added_out H1.out H2.out (by omega) (.inr (by rw [HLQ2.out]; exact hil))
      have HRES := Lib.hid hres
      clear hres hg H1 H2
      go_wp2_with fail
      go_ret
      rw [HRES.out]
      exact ⟨_, rfl, msgsOut_nil _ _, stepTo_of (HR0.out.wide (fun b hb _ => .inl hb) (fun b hb hf => by
        rcases hb with hb | hb
        · exact HOFF.out b hb hf
        · have := hFlt b hf; omega)) HK.out⟩
    have dl : decide (la1 < i) = false := by simpa using hil
    obtain ⟨mx, hmx⟩ : ∃ mx, mx = max (s.mt[fn - 1]?.getD 0) i := ⟨_, rfl⟩
    obtain ⟨s1, hs1⟩ : ∃ s1 : Rf.St, s1 = { s with mt := s.mt.set (fn - 1) mx } := ⟨_, rfl⟩
    obtain ⟨s2, hs2⟩ : ∃ s2 : Rf.St, s2 = { s1 with nx := s1.nx.set (fn - 1) (mx + 1) } := ⟨_, rfl⟩
    have HRS := Lib.hid (Rf.added_yes (n := n) (s := s) (k := k) (fn := fn) (o := o) (t := t) (i := i) (u := u) (cm := cm) (L := L) H1.out H2.out (by omega) hmx hs1 hs2 (by rw [HLQ2.out]; omega))
    have HG2 := Lib.hid (hg.upped (k := fn - 1) (m := mx) hs1 hs2 (by omega))
    have HML1 := Lib.hid (show s1.mt.length = n.many by rw [hs1]; show (List.set _ _ _).length = _; rw [List.length_set]; exact hg.mt)
    have HXL1 := Lib.hid (show s1.nx.length = n.many by rw [hs1]; exact hg.nx)
    have HMX1 := Lib.hid (show s1.mt[fn - 1]?.getD 0 = mx by rw [hs1]; exact Rf.set_get (by rw [hg.mt]; omega))
    have HX2 := Lib.hid (show s2.nx[fn - 1]?.getD 0 = mx + 1 by rw [hs2]; exact Rf.set_get (by rw [HXL1.out]; omega))
    rw [HLQ2.out] at HRS
    have HS1 := Lib.hid hs1
    have HS2 := Lib.hid hs2
    have km := HR0.out.m.rowN (fn - 1) (by rw [HML.out]; omega)
    have hsame := Rf.set_same s.mt (fn - 1)
    clear hg H1 H2 hs1 hs2
    generalize s.mt[fn - 1]?.getD 0 = mk at *
    have HSAME := Lib.hid hsame
    clear hsame
    by_cases hup : mk < i
    · go_wp2_with fail
      go_quiet (fail)
      go_wp2_with fail
      replace HR0 := Lib.hid (HR0.out.stay (below_drewN (Below.refl _ _) nq))
      replace HX := Lib.hid (HX.out.below (below_drewN (Below.refl _ _) nq) HX.out.lt)
      replace HK := Lib.hid (HK.out.trans (Below.kept (below_drewN (Below.refl _ _) nq)))
      clear km k0 k1 k2 k3 k4 k5 k6 k7 k8 k9 k10 k11 q0 q1 q2 q3 q4 q5 q6 q7 q8
      clear HSAME HLQ2
      generalize hw4 : World.drewN _ nq = w4 at *
      clear hw4
      have HM := Lib.hid HR0.out.st
      dsimp only [rmc] at HM
      have HMT := Lib.hid HR0.out.m
      have HNX := Lib.hid HR0.out.x
      refine z_start ((w4).drew.heap.size) [8] (by kernel_rfl) ?_
      have HC := Lib.hid (Below.refl ((w4).drew.heap.size) (w4).drew)
      have hBz : (w4).drew.heap.size ≤ (w4).drew.heap.size := Nat.le_refl _
      replace HM := Lib.hid (show Whole (w4).drew _ _ _ from HM.out)
      have hltM := HM.out.lt
      replace HX := Lib.hid (show Whole (w4).drew _ _ _ from HX.out)
      have hltX := HX.out.lt
      replace HMT := Lib.hid (show Whole (w4).drew _ _ _ from HMT.out)
      have hltMT := HMT.out.lt
      replace HNX := Lib.hid (show Whole (w4).drew _ _ _ from HNX.out)
      have hltNX := HNX.out.lt
      replace HK := Lib.hid (HK.out.trans (Below.kept (Below.refl _ _).drew))
      replace HR0 := Lib.hid (HR0.out.stay (Below.refl _ _).drew)
      generalize (w4).drew = z1 at *
      refine z_take (i := 0) (v := ?_) rfl (by kernel_rfl) (by kernel_rfl) (by kernel_rfl) (k0 := 0) (by kernel_rfl) (by kernel_rfl) (.inl rfl) (fun _ _ _ h => h) (by rfl) HC.out ?_ ?_
      rotate_left
      · intro W hW
        go_simp
        first | done | rfl
      simp only [Act.put, List.setIfInBounds_toArray, List.set_cons_zero, List.set_cons_succ, List.getElem_toArray, List.getElem_cons_zero, List.getElem_cons_succ]
      refine z_take (i := 1) (v := ?_) rfl (by kernel_rfl) (by kernel_rfl) (by kernel_rfl) (k0 := 1) (by kernel_rfl) (by kernel_rfl) (.inl rfl) (fun _ _ _ h => h) (by rfl) HC.out ?_ ?_
      rotate_left
      · intro W hW
        go_simp
        first | done | rfl
      simp only [Act.put, List.setIfInBounds_toArray, List.set_cons_zero, List.set_cons_succ, List.getElem_toArray, List.getElem_cons_zero, List.getElem_cons_succ]
      refine z_take (i := 2) (v := ?_) rfl (by kernel_rfl) (by kernel_rfl) (by kernel_rfl) (k0 := 2) (by kernel_rfl) (by kernel_rfl) (.inl rfl) (fun _ _ _ h => h) (by rfl) HC.out ?_ ?_
      rotate_left
      · intro W hW
        go_simp
        first | done | rfl
      simp only [Act.put, List.setIfInBounds_toArray, List.set_cons_zero, List.set_cons_succ, List.getElem_toArray, List.getElem_cons_zero, List.getElem_cons_succ]
      refine z_take (i := 3) (v := ?_) rfl (by kernel_rfl) (by kernel_rfl) (by kernel_rfl) (k0 := 3) (by kernel_rfl) (by kernel_rfl) (.inl rfl) (fun _ _ _ h => h) (by rfl) HC.out ?_ ?_
      rotate_left
      · intro W hW
        obtain ⟨k0, k1, k2, k3, k4, k5, k6, k7, k8, k9, k10, k11⟩ := (HM.out.below hW hltM).c12
        go_simp
        first | done | rfl
      simp only [Act.put, List.setIfInBounds_toArray, List.set_cons_zero, List.set_cons_succ, List.getElem_toArray, List.getElem_cons_zero, List.getElem_cons_succ]
      refine z_take (i := 4) (v := ?_) rfl (by kernel_rfl) (by kernel_rfl) (by kernel_rfl) (k0 := 4) (by kernel_rfl) (by kernel_rfl) (.inl rfl) (fun _ _ _ h => h) (by rfl) HC.out ?_ ?_
      rotate_left
      · intro W hW
        go_simp
        first | done | rfl
      simp only [Act.put, List.setIfInBounds_toArray, List.set_cons_zero, List.set_cons_succ, List.getElem_toArray, List.getElem_cons_zero, List.getElem_cons_succ]
      refine z_take (i := 5) (v := ?_) rfl (by kernel_rfl) (by kernel_rfl) (by kernel_rfl) (k0 := 5) (by kernel_rfl) (by kernel_rfl) (.inl rfl) (fun _ _ _ h => h) (by rfl) HC.out ?_ ?_
      rotate_left
      · intro W hW
        go_simp
        first | done | rfl
      simp only [Act.put, List.setIfInBounds_toArray, List.set_cons_zero, List.set_cons_succ, List.getElem_toArray, List.getElem_cons_zero, List.getElem_cons_succ]
      refine z_take (i := 6) (v := ?_) rfl (by kernel_rfl) (by kernel_rfl) (by kernel_rfl) (k0 := 6) (by kernel_rfl) (by kernel_rfl) (.inl rfl) (fun _ _ _ h => h) (by rfl) HC.out ?_ ?_
      rotate_left
      · intro W hW
        obtain ⟨q0, q1, q2, q3, q4, q5, q6, q7, q8⟩ := (HX.out.below hW hltX).c9
        go_simp
        first | done | rfl
      simp only [Act.put, List.setIfInBounds_toArray, List.set_cons_zero, List.set_cons_succ, List.getElem_toArray, List.getElem_cons_zero, List.getElem_cons_succ]
      refine z_take (i := 7) (v := ?_) rfl (by kernel_rfl) (by kernel_rfl) (by kernel_rfl) (k0 := 7) (by kernel_rfl) (by kernel_rfl) (.inl rfl) (fun _ _ _ h => h) (by rfl) HC.out ?_ ?_
      rotate_left
      · intro W hW
        go_simp
        first | done | rfl
      simp only [Act.put, List.setIfInBounds_toArray, List.set_cons_zero, List.set_cons_succ, List.getElem_toArray, List.getElem_cons_zero, List.getElem_cons_succ]
      refine z_one (i := 8) (by kernel_rfl) ?_
      have kn := (HMT.out.below HC.out hltMT).rowN (fn - 1) (by rw [HML.out]; omega)
      have fn_ := (HMT.out.below HC.out hltMT).free (fn - 1)
      refine onez_skip (i := 8) (w' := ?_) rfl (by rfl) ?_ ?_ ?_
      rotate_left 1
      · go_simp
        first | done | rfl
      · exact fun h => absurd (by decide) h
      simp only [Act.put, List.setIfInBounds_toArray, List.set_cons_zero, List.set_cons_succ, List.getElem_toArray, List.getElem_cons_zero, List.getElem_cons_succ]
      clear kn fn_
      refine z_done (by kernel_rfl) ?_
      replace HX := Lib.hid ((HX.out.below HC.out hltX).far (p := ⟨F.gm, fn - 1, none⟩) hXm (.int .i64 i))
      replace HR0 := Lib.hid ((HR0.out.stay HC.out).setM (fn - 1) i)
      replace HK := Lib.hid ((HK.out.trans (Below.kept HC.out)).set (p := ⟨F.gm, fn - 1, none⟩) (.inl (.inr (.inr (.inl rfl)))) (.int .i64 i))
      clear HC hBz HM hltM hltX HMT hltMT HNX hltNX
      go_simp
      generalize hw8 : World.setCell _ _ _ = w8 at *
      clear hw8
      have hi9 : mx = i := by omega
      clear hmx
      subst hi9
      rw [← HS1.out] at HR0
      have hwm : IntKind.i64.wrap (mx + 1) = mx + 1 := by rw [IntKind.wrap_i64]; omega
      go_wp2_with fail
      have HM := Lib.hid HR0.out.st
      dsimp only [rmc] at HM
      have HMT := Lib.hid HR0.out.m
      have HNX := Lib.hid HR0.out.x
      refine z_start ((w8).drew.heap.size) [14] (by kernel_rfl) ?_
      have HC := Lib.hid (Below.refl ((w8).drew.heap.size) (w8).drew)
      have hBz : (w8).drew.heap.size ≤ (w8).drew.heap.size := Nat.le_refl _
      replace HM := Lib.hid (show Whole (w8).drew _ _ _ from HM.out)
      have hltM := HM.out.lt
      replace HX := Lib.hid (show Whole (w8).drew _ _ _ from HX.out)
      have hltX := HX.out.lt
      replace HMT := Lib.hid (show Whole (w8).drew _ _ _ from HMT.out)
      have hltMT := HMT.out.lt
      replace HNX := Lib.hid (show Whole (w8).drew _ _ _ from HNX.out)
      have hltNX := HNX.out.lt
      replace HK := Lib.hid (HK.out.trans (Below.kept (Below.refl _ _).drew))
      replace HR0 := Lib.hid (HR0.out.stay (Below.refl _ _).drew)
      generalize (w8).drew = y1 at *
      refine z_take (i := 0) (v := ?_) rfl (by kernel_rfl) (by kernel_rfl) (by kernel_rfl) (k0 := 0) (by kernel_rfl) (by kernel_rfl) (.inl rfl) (fun _ _ _ h => h) (by rfl) HC.out ?_ ?_
      rotate_left
      · intro W hW
        go_simp
        first | done | rfl
      simp only [Act.put, List.setIfInBounds_toArray, List.set_cons_zero, List.set_cons_succ, List.getElem_toArray, List.getElem_cons_zero, List.getElem_cons_succ]
      refine z_take (i := 1) (v := ?_) rfl (by kernel_rfl) (by kernel_rfl) (by kernel_rfl) (k0 := 1) (by kernel_rfl) (by kernel_rfl) (.inl rfl) (fun _ _ _ h => h) (by rfl) HC.out ?_ ?_
      rotate_left
      · intro W hW
        go_simp
        first | done | rfl
      simp only [Act.put, List.setIfInBounds_toArray, List.set_cons_zero, List.set_cons_succ, List.getElem_toArray, List.getElem_cons_zero, List.getElem_cons_succ]
      refine z_take (i := 2) (v := ?_) rfl (by kernel_rfl) (by kernel_rfl) (by kernel_rfl) (k0 := 2) (by kernel_rfl) (by kernel_rfl) (.inl rfl) (fun _ _ _ h => h) (by rfl) HC.out ?_ ?_
      rotate_left
      · intro W hW
        go_simp
        first | done | rfl
      simp only [Act.put, List.setIfInBounds_toArray, List.set_cons_zero, List.set_cons_succ, List.getElem_toArray, List.getElem_cons_zero, List.getElem_cons_succ]
      refine z_take (i := 3) (v := ?_) rfl (by kernel_rfl) (by kernel_rfl) (by kernel_rfl) (k0 := 3) (by kernel_rfl) (by kernel_rfl) (.inl rfl) (fun _ _ _ h => h) (by rfl) HC.out ?_ ?_
      rotate_left
      · intro W hW
        obtain ⟨k0, k1, k2, k3, k4, k5, k6, k7, k8, k9, k10, k11⟩ := (HM.out.below hW hltM).c12
        go_simp
        first | done | rfl
      simp only [Act.put, List.setIfInBounds_toArray, List.set_cons_zero, List.set_cons_succ, List.getElem_toArray, List.getElem_cons_zero, List.getElem_cons_succ]
      refine z_take (i := 4) (v := ?_) rfl (by kernel_rfl) (by kernel_rfl) (by kernel_rfl) (k0 := 4) (by kernel_rfl) (by kernel_rfl) (.inl rfl) (fun _ _ _ h => h) (by rfl) HC.out ?_ ?_
      rotate_left
      · intro W hW
        go_simp
        first | done | rfl
      simp only [Act.put, List.setIfInBounds_toArray, List.set_cons_zero, List.set_cons_succ, List.getElem_toArray, List.getElem_cons_zero, List.getElem_cons_succ]
      refine z_take (i := 5) (v := ?_) rfl (by kernel_rfl) (by kernel_rfl) (by kernel_rfl) (k0 := 5) (by kernel_rfl) (by kernel_rfl) (.inl rfl) (fun _ _ _ h => h) (by rfl) HC.out ?_ ?_
      rotate_left
      · intro W hW
        go_simp
        first | done | rfl
      simp only [Act.put, List.setIfInBounds_toArray, List.set_cons_zero, List.set_cons_succ, List.getElem_toArray, List.getElem_cons_zero, List.getElem_cons_succ]
      refine z_take (i := 6) (v := ?_) rfl (by kernel_rfl) (by kernel_rfl) (by kernel_rfl) (k0 := 6) (by kernel_rfl) (by kernel_rfl) (.inl rfl) (fun _ _ _ h => h) (by rfl) HC.out ?_ ?_
      rotate_left
      · intro W hW
        go_simp
        first | done | rfl
      simp only [Act.put, List.setIfInBounds_toArray, List.set_cons_zero, List.set_cons_succ, List.getElem_toArray, List.getElem_cons_zero, List.getElem_cons_succ]
      refine z_take (i := 7) (v := ?_) rfl (by kernel_rfl) (by kernel_rfl) (by kernel_rfl) (k0 := 7) (by kernel_rfl) (by kernel_rfl) (.inl rfl) (fun _ _ _ h => h) (by rfl) HC.out ?_ ?_
      rotate_left
      · intro W hW
        go_simp
        first | done | rfl
      simp only [Act.put, List.setIfInBounds_toArray, List.set_cons_zero, List.set_cons_succ, List.getElem_toArray, List.getElem_cons_zero, List.getElem_cons_succ]
      refine z_take (i := 8) (v := ?_) rfl (by kernel_rfl) (by kernel_rfl) (by kernel_rfl) (k0 := 8) (by kernel_rfl) (by kernel_rfl) (.inl rfl) (fun _ _ _ h => h) (by rfl) HC.out ?_ ?_
      rotate_left
      · intro W hW
        obtain ⟨k0, k1, k2, k3, k4, k5, k6, k7, k8, k9, k10, k11⟩ := (HM.out.below hW hltM).c12
        go_simp
        first | done | rfl
      simp only [Act.put, List.setIfInBounds_toArray, List.set_cons_zero, List.set_cons_succ, List.getElem_toArray, List.getElem_cons_zero, List.getElem_cons_succ]
      refine z_take (i := 9) (v := ?_) rfl (by kernel_rfl) (by kernel_rfl) (by kernel_rfl) (k0 := 9) (by kernel_rfl) (by kernel_rfl) (.inl rfl) (fun _ _ _ h => h) (by rfl) HC.out ?_ ?_
      rotate_left
      · intro W hW
        go_simp
        first | done | rfl
      simp only [Act.put, List.setIfInBounds_toArray, List.set_cons_zero, List.set_cons_succ, List.getElem_toArray, List.getElem_cons_zero, List.getElem_cons_succ]
      refine z_take (i := 10) (v := ?_) rfl (by kernel_rfl) (by kernel_rfl) (by kernel_rfl) (k0 := 10) (by kernel_rfl) (by kernel_rfl) (.inl rfl) (fun _ _ _ h => h) (by rfl) HC.out ?_ ?_
      rotate_left
      · intro W hW
        go_simp
        first | done | rfl
      simp only [Act.put, List.setIfInBounds_toArray, List.set_cons_zero, List.set_cons_succ, List.getElem_toArray, List.getElem_cons_zero, List.getElem_cons_succ]
      refine z_take (i := 11) (v := ?_) rfl (by kernel_rfl) (by kernel_rfl) (by kernel_rfl) (k0 := 11) (by kernel_rfl) (by kernel_rfl) (.inl rfl) (fun _ _ _ h => h) (by rfl) HC.out ?_ ?_
      rotate_left
      · intro W hW
        have km := (HMT.out.below hW hltMT).rowN (fn - 1) (by rw [HML1.out]; omega)
        rw [HMX1.out] at km
        go_simp
        first | done | rfl
      simp only [Act.put, List.setIfInBounds_toArray, List.set_cons_zero, List.set_cons_succ, List.getElem_toArray, List.getElem_cons_zero, List.getElem_cons_succ]
      refine z_take (i := 12) (v := ?_) rfl (by kernel_rfl) (by kernel_rfl) (by kernel_rfl) (k0 := 12) (by kernel_rfl) (by kernel_rfl) (.inl rfl) (fun _ _ _ h => h) (by rfl) HC.out ?_ ?_
      rotate_left
      · intro W hW
        go_simp
        first | done | rfl
      simp only [Act.put, List.setIfInBounds_toArray, List.set_cons_zero, List.set_cons_succ, List.getElem_toArray, List.getElem_cons_zero, List.getElem_cons_succ]
      refine z_take (i := 13) (v := ?_) rfl (by kernel_rfl) (by kernel_rfl) (by kernel_rfl) (k0 := 13) (by kernel_rfl) (by kernel_rfl) (.inl rfl) (fun _ _ _ h => h) (by rfl) HC.out ?_ ?_
      rotate_left
      · intro W hW
        go_simp
        first | done | rfl
      simp only [Act.put, List.setIfInBounds_toArray, List.set_cons_zero, List.set_cons_succ, List.getElem_toArray, List.getElem_cons_zero, List.getElem_cons_succ]
      refine z_one (i := 14) (by kernel_rfl) ?_
      have kn := (HNX.out.below HC.out hltNX).rowN (fn - 1) (by rw [HXL1.out]; omega)
      have fn_ := (HNX.out.below HC.out hltNX).free (fn - 1)
      refine onez_skip (i := 14) (w' := ?_) rfl (by rfl) ?_ ?_ ?_
      rotate_left 1
      · go_simp
        first | done | rfl
      · exact fun h => absurd (by decide) h
      simp only [Act.put, List.setIfInBounds_toArray, List.set_cons_zero, List.set_cons_succ, List.getElem_toArray, List.getElem_cons_zero, List.getElem_cons_succ]
      clear kn fn_
      refine z_done (by kernel_rfl) ?_
      replace HX := Lib.hid ((HX.out.below HC.out hltX).far (p := ⟨F.gn, fn - 1, none⟩) hXn (.int .i64 (mx + 1)))
      replace HR0 := Lib.hid ((HR0.out.stay HC.out).setX (fn - 1) (mx + 1))
      replace HK := Lib.hid ((HK.out.trans (Below.kept HC.out)).set (p := ⟨F.gn, fn - 1, none⟩) (.inl (.inr (.inr (.inr rfl)))) (.int .i64 (mx + 1)))
      clear HC hBz HM hltM hltX HMT hltMT HNX hltNX
      go_simp
      generalize hwa : World.setCell _ _ _ = wa at *
      clear hwa
      rw [← HS2.out] at HR0
      have HST := Lib.hid (rsettle_any n F S s2 HG2.out A c wa HR0.out)
      go_wp2_with fail
      with_reducible refine HST.out.mono ?_
      rintro e wb ⟨rfl, hr, hk⟩
      replace HR0 := Lib.hid hr
      replace HX := Lib.hid (hk.whole HX.out hXF)
      replace HK := Lib.hid (HK.out.trans hk)
      have HGT := Lib.hid HG2.out.settle
      clear hr hk HST
      have hst := HR0.out.st
      dsimp only [rmc] at hst
      obtain ⟨k0, k1, k2, k3, k4, k5, k6, k7, k8, k9, k10, k11⟩ := hst.c12
      clear hst
      have kx := HR0.out.x.rowN (fn - 1) (by rw [HGT.out.nx]; omega)
      have ex : (Rf.settle s2).nx[fn - 1]?.getD 0 = mx + 1 := HX2.out
      rw [ex] at kx
      clear ex
      obtain ⟨q0, q1, q2, q3, q4, q5, q6, q7, q8⟩ := HX.out.c9
      by_cases hgt : la1 < mx + 1
      · have hres := HRS.out
        rw [if_pos hgt] at hres
        have HRES := Lib.hid hres
        clear hres HRS
        go_wp2_with fail
        go_ret
        rw [HRES.out]
        exact ⟨_, rfl, msgsOut_nil _ _, stepTo_of (HR0.out.wide (fun b hb _ => .inl hb) (fun b hb hf => by
          rcases hb with hb | hb
          · exact HOFF.out b hb hf
          · have := hFlt b hf; omega)) HK.out⟩
      · have hres := HRS.out
        rw [if_neg hgt] at hres
        have HRES := Lib.hid hres
        have dgt : decide (la1 < mx + 1) = false := by simpa using hgt
        clear hres HRS
        go_wp2_with fail
        refine (raddition_any n F _ _ HGT.out A c _ HR0.out fn (by omega) (by omega)).mono ?_
        rintro e w9 ⟨A9, c9, rfl, hs9, hb9⟩
        have HF9 := Lib.hid (Rf.addition_fit HGT.out (k := fn) (by omega))
        have HR9 := Lib.hid (HR0.out.stay hb9)
        have hzK := HK.out.size
        have HK9 := Lib.hid (HK.out.trans (Below.kept hb9))
        have HS9 := Lib.hid hs9
        have hz9 := hb9.size
        clear hs9 hb9 HR0 HK HX k0 k1 k2 k3 k4 k5 k6 k7 k8 k9 k10 k11
        generalize Rf.addition n (Rf.settle s2) fn = x9 at *
        go_wp2_with fail
        go_ret
        rw [HRES.out]
        refine ⟨_, rfl, SlS.wide (new1_at _ 41 (α := M) x9 (mcx x9 (.slice A9 x9.2.2.2.2.2.2.2.2.length c9)) (fits_msg HF9.out HS9.out) (by simp)) (fun b hb _ => ?_), stepTo_of ((HR9.out.stay ((Below.refl _ _).alloc (Nat.le_refl _) _)).wide (fun b hb _ => .inl hb) (fun b hb hf => by
          rcases hb with hb | hb
          · exact HOFF.out b hb hf
          · have := hFlt b hf; omega)) (HK9.out.trans (Below.kept ((Below.refl _ _).alloc (Nat.le_refl _) _)))⟩
        rcases hb with hb | hb
        · have := hb.1; omega
        · omega
    · have hdu : decide (mk < i) = false := by simpa using hup
      have hi9 : mx = mk := by omega
      clear hmx
      subst hi9
      go_wp2_with fail
      go_quiet (fail)
      go_wp2_with fail
      replace HR0 := Lib.hid (HR0.out.stay (below_drewN (Below.refl _ _) nq))
      replace HX := Lib.hid (HX.out.below (below_drewN (Below.refl _ _) nq) HX.out.lt)
      replace HK := Lib.hid (HK.out.trans (Below.kept (below_drewN (Below.refl _ _) nq)))
      clear km k0 k1 k2 k3 k4 k5 k6 k7 k8 k9 k10 k11 q0 q1 q2 q3 q4 q5 q6 q7 q8
      clear HLQ2
      generalize hw8 : World.drewN _ nq = w8 at *
      clear hw8
      have hs1 : s1 = s := by rw [HS1.out, HSAME.out]
      have HS1 := Lib.hid hs1
      clear hs1 HSAME
      rw [← HS1.out] at HR0
      have hwm : IntKind.i64.wrap (mx + 1) = mx + 1 := by rw [IntKind.wrap_i64]; omega
      go_wp2_with fail
      have HM := Lib.hid HR0.out.st
      dsimp only [rmc] at HM
      have HMT := Lib.hid HR0.out.m
      have HNX := Lib.hid HR0.out.x
      refine z_start ((w8).drew.heap.size) [14] (by kernel_rfl) ?_
      have HC := Lib.hid (Below.refl ((w8).drew.heap.size) (w8).drew)
      have hBz : (w8).drew.heap.size ≤ (w8).drew.heap.size := Nat.le_refl _
      replace HM := Lib.hid (show Whole (w8).drew _ _ _ from HM.out)
      have hltM := HM.out.lt
      replace HX := Lib.hid (show Whole (w8).drew _ _ _ from HX.out)
      have hltX := HX.out.lt
      replace HMT := Lib.hid (show Whole (w8).drew _ _ _ from HMT.out)
      have hltMT := HMT.out.lt
      replace HNX := Lib.hid (show Whole (w8).drew _ _ _ from HNX.out)
      have hltNX := HNX.out.lt
      replace HK := Lib.hid (HK.out.trans (Below.kept (Below.refl _ _).drew))
      replace HR0 := Lib.hid (HR0.out.stay (Below.refl _ _).drew)
      generalize (w8).drew = y1 at *
      refine z_take (i := 0) (v := ?_) rfl (by kernel_rfl) (by kernel_rfl) (by kernel_rfl) (k0 := 0) (by kernel_rfl) (by kernel_rfl) (.inl rfl) (fun _ _ _ h => h) (by rfl) HC.out ?_ ?_
      rotate_left
      · intro W hW
        go_simp
        first | done | rfl
      simp only [Act.put, List.setIfInBounds_toArray, List.set_cons_zero, List.set_cons_succ, List.getElem_toArray, List.getElem_cons_zero, List.getElem_cons_succ]
      refine z_take (i := 1) (v := ?_) rfl (by kernel_rfl) (by kernel_rfl) (by kernel_rfl) (k0 := 1) (by kernel_rfl) (by kernel_rfl) (.inl rfl) (fun _ _ _ h => h) (by rfl) HC.out ?_ ?_
      rotate_left
      · intro W hW
        go_simp
        first | done | rfl
      simp only [Act.put, List.setIfInBounds_toArray, List.set_cons_zero, List.set_cons_succ, List.getElem_toArray, List.getElem_cons_zero, List.getElem_cons_succ]
      refine z_take (i := 2) (v := ?_) rfl (by kernel_rfl) (by kernel_rfl) (by kernel_rfl) (k0 := 2) (by kernel_rfl) (by kernel_rfl) (.inl rfl) (fun _ _ _ h => h) (by rfl) HC.out ?_ ?_
      rotate_left
      · intro W hW
        go_simp
        first | done | rfl
      simp only [Act.put, List.setIfInBounds_toArray, List.set_cons_zero, List.set_cons_succ, List.getElem_toArray, List.getElem_cons_zero, List.getElem_cons_succ]
      refine z_take (i := 3) (v := ?_) rfl (by kernel_rfl) (by kernel_rfl) (by kernel_rfl) (k0 := 3) (by kernel_rfl) (by kernel_rfl) (.inl rfl) (fun _ _ _ h => h) (by rfl) HC.out ?_ ?_
      rotate_left
      · intro W hW
        obtain ⟨k0, k1, k2, k3, k4, k5, k6, k7, k8, k9, k10, k11⟩ := (HM.out.below hW hltM).c12
        go_simp
        first | done | rfl
      simp only [Act.put, List.setIfInBounds_toArray, List.set_cons_zero, List.set_cons_succ, List.getElem_toArray, List.getElem_cons_zero, List.getElem_cons_succ]
      refine z_take (i := 4) (v := ?_) rfl (by kernel_rfl) (by kernel_rfl) (by kernel_rfl) (k0 := 4) (by kernel_rfl) (by kernel_rfl) (.inl rfl) (fun _ _ _ h => h) (by rfl) HC.out ?_ ?_
      rotate_left
      · intro W hW
        go_simp
        first | done | rfl
      simp only [Act.put, List.setIfInBounds_toArray, List.set_cons_zero, List.set_cons_succ, List.getElem_toArray, List.getElem_cons_zero, List.getElem_cons_succ]
      refine z_take (i := 5) (v := ?_) rfl (by kernel_rfl) (by kernel_rfl) (by kernel_rfl) (k0 := 5) (by kernel_rfl) (by kernel_rfl) (.inl rfl) (fun _ _ _ h => h) (by rfl) HC.out ?_ ?_
      rotate_left
      · intro W hW
        go_simp
        first | done | rfl
      simp only [Act.put, List.setIfInBounds_toArray, List.set_cons_zero, List.set_cons_succ, List.getElem_toArray, List.getElem_cons_zero, List.getElem_cons_succ]
      refine z_take (i := 6) (v := ?_) rfl (by kernel_rfl) (by kernel_rfl) (by kernel_rfl) (k0 := 6) (by kernel_rfl) (by kernel_rfl) (.inl rfl) (fun _ _ _ h => h) (by rfl) HC.out ?_ ?_
      rotate_left
      · intro W hW
        go_simp
        first | done | rfl
      simp only [Act.put, List.setIfInBounds_toArray, List.set_cons_zero, List.set_cons_succ, List.getElem_toArray, List.getElem_cons_zero, List.getElem_cons_succ]
      refine z_take (i := 7) (v := ?_) rfl (by kernel_rfl) (by kernel_rfl) (by kernel_rfl) (k0 := 7) (by kernel_rfl) (by kernel_rfl) (.inl rfl) (fun _ _ _ h => h) (by rfl) HC.out ?_ ?_
      rotate_left
      · intro W hW
        go_simp
        first | done | rfl
      simp only [Act.put, List.setIfInBounds_toArray, List.set_cons_zero, List.set_cons_succ, List.getElem_toArray, List.getElem_cons_zero, List.getElem_cons_succ]
      refine z_take (i := 8) (v := ?_) rfl (by kernel_rfl) (by kernel_rfl) (by kernel_rfl) (k0 := 8) (by kernel_rfl) (by kernel_rfl) (.inl rfl) (fun _ _ _ h => h) (by rfl) HC.out ?_ ?_
      rotate_left
      · intro W hW
        obtain ⟨k0, k1, k2, k3, k4, k5, k6, k7, k8, k9, k10, k11⟩ := (HM.out.below hW hltM).c12
        go_simp
        first | done | rfl
      simp only [Act.put, List.setIfInBounds_toArray, List.set_cons_zero, List.set_cons_succ, List.getElem_toArray, List.getElem_cons_zero, List.getElem_cons_succ]
      refine z_take (i := 9) (v := ?_) rfl (by kernel_rfl) (by kernel_rfl) (by kernel_rfl) (k0 := 9) (by kernel_rfl) (by kernel_rfl) (.inl rfl) (fun _ _ _ h => h) (by rfl) HC.out ?_ ?_
      rotate_left
      · intro W hW
        go_simp
        first | done | rfl
      simp only [Act.put, List.setIfInBounds_toArray, List.set_cons_zero, List.set_cons_succ, List.getElem_toArray, List.getElem_cons_zero, List.getElem_cons_succ]
      refine z_take (i := 10) (v := ?_) rfl (by kernel_rfl) (by kernel_rfl) (by kernel_rfl) (k0 := 10) (by kernel_rfl) (by kernel_rfl) (.inl rfl) (fun _ _ _ h => h) (by rfl) HC.out ?_ ?_
      rotate_left
      · intro W hW
        go_simp
        first | done | rfl
      simp only [Act.put, List.setIfInBounds_toArray, List.set_cons_zero, List.set_cons_succ, List.getElem_toArray, List.getElem_cons_zero, List.getElem_cons_succ]
      refine z_take (i := 11) (v := ?_) rfl (by kernel_rfl) (by kernel_rfl) (by kernel_rfl) (k0 := 11) (by kernel_rfl) (by kernel_rfl) (.inl rfl) (fun _ _ _ h => h) (by rfl) HC.out ?_ ?_
      rotate_left
      · intro W hW
        have km := (HMT.out.below hW hltMT).rowN (fn - 1) (by rw [HML1.out]; omega)
        rw [HMX1.out] at km
        go_simp
        first | done | rfl
      simp only [Act.put, List.setIfInBounds_toArray, List.set_cons_zero, List.set_cons_succ, List.getElem_toArray, List.getElem_cons_zero, List.getElem_cons_succ]
      refine z_take (i := 12) (v := ?_) rfl (by kernel_rfl) (by kernel_rfl) (by kernel_rfl) (k0 := 12) (by kernel_rfl) (by kernel_rfl) (.inl rfl) (fun _ _ _ h => h) (by rfl) HC.out ?_ ?_
      rotate_left
      · intro W hW
        go_simp
        first | done | rfl
      simp only [Act.put, List.setIfInBounds_toArray, List.set_cons_zero, List.set_cons_succ, List.getElem_toArray, List.getElem_cons_zero, List.getElem_cons_succ]
      refine z_take (i := 13) (v := ?_) rfl (by kernel_rfl) (by kernel_rfl) (by kernel_rfl) (k0 := 13) (by kernel_rfl) (by kernel_rfl) (.inl rfl) (fun _ _ _ h => h) (by rfl) HC.out ?_ ?_
      rotate_left
      · intro W hW
        go_simp
        first | done | rfl
      simp only [Act.put, List.setIfInBounds_toArray, List.set_cons_zero, List.set_cons_succ, List.getElem_toArray, List.getElem_cons_zero, List.getElem_cons_succ]
      refine z_one (i := 14) (by kernel_rfl) ?_
      have kn := (HNX.out.below HC.out hltNX).rowN (fn - 1) (by rw [HXL1.out]; omega)
      have fn_ := (HNX.out.below HC.out hltNX).free (fn - 1)
      refine onez_skip (i := 14) (w' := ?_) rfl (by rfl) ?_ ?_ ?_
      rotate_left 1
      · go_simp
        first | done | rfl
      · exact fun h => absurd (by decide) h
      simp only [Act.put, List.setIfInBounds_toArray, List.set_cons_zero, List.set_cons_succ, List.getElem_toArray, List.getElem_cons_zero, List.getElem_cons_succ]
      clear kn fn_
      refine z_done (by kernel_rfl) ?_
      replace HX := Lib.hid ((HX.out.below HC.out hltX).far (p := ⟨F.gn, fn - 1, none⟩) hXn (.int .i64 (mx + 1)))
      replace HR0 := Lib.hid ((HR0.out.stay HC.out).setX (fn - 1) (mx + 1))
      replace HK := Lib.hid ((HK.out.trans (Below.kept HC.out)).set (p := ⟨F.gn, fn - 1, none⟩) (.inl (.inr (.inr (.inr rfl)))) (.int .i64 (mx + 1)))
      clear HC hBz HM hltM hltX HMT hltMT HNX hltNX
      go_simp
      generalize hwa : World.setCell _ _ _ = wa at *
      clear hwa
      rw [← HS2.out] at HR0
      have HST := Lib.hid (rsettle_any n F S s2 HG2.out A c wa HR0.out)
      go_wp2_with fail
      with_reducible refine HST.out.mono ?_
      rintro e wb ⟨rfl, hr, hk⟩
      replace HR0 := Lib.hid hr
      replace HX := Lib.hid (hk.whole HX.out hXF)
      replace HK := Lib.hid (HK.out.trans hk)
      have HGT := Lib.hid HG2.out.settle
      clear hr hk HST
      have hst := HR0.out.st
      dsimp only [rmc] at hst
      obtain ⟨k0, k1, k2, k3, k4, k5, k6, k7, k8, k9, k10, k11⟩ := hst.c12
      clear hst
      have kx := HR0.out.x.rowN (fn - 1) (by rw [HGT.out.nx]; omega)
      have ex : (Rf.settle s2).nx[fn - 1]?.getD 0 = mx + 1 := HX2.out
      rw [ex] at kx
      clear ex
      obtain ⟨q0, q1, q2, q3, q4, q5, q6, q7, q8⟩ := HX.out.c9
      by_cases hgt : la1 < mx + 1
      · have hres := HRS.out
        rw [if_pos hgt] at hres
        have HRES := Lib.hid hres
        clear hres HRS
        go_wp2_with fail
        go_ret
        rw [HRES.out]
        exact ⟨_, rfl, msgsOut_nil _ _, stepTo_of (HR0.out.wide (fun b hb _ => .inl hb) (fun b hb hf => by
          rcases hb with hb | hb
          · exact HOFF.out b hb hf
          · have := hFlt b hf; omega)) HK.out⟩
      · have hres := HRS.out
        rw [if_neg hgt] at hres
        have HRES := Lib.hid hres
        have dgt : decide (la1 < mx + 1) = false := by simpa using hgt
        clear hres HRS
        go_wp2_with fail
        refine (raddition_any n F _ _ HGT.out A c _ HR0.out fn (by omega) (by omega)).mono ?_
        rintro e w9 ⟨A9, c9, rfl, hs9, hb9⟩
        have HF9 := Lib.hid (Rf.addition_fit HGT.out (k := fn) (by omega))
        have HR9 := Lib.hid (HR0.out.stay hb9)
        have hzK := HK.out.size
        have HK9 := Lib.hid (HK.out.trans (Below.kept hb9))
        have HS9 := Lib.hid hs9
        have hz9 := hb9.size
        clear hs9 hb9 HR0 HK HX k0 k1 k2 k3 k4 k5 k6 k7 k8 k9 k10 k11
        generalize Rf.addition n (Rf.settle s2) fn = x9 at *
        go_wp2_with fail
        go_ret
        rw [HRES.out]
        refine ⟨_, rfl, SlS.wide (new1_at _ 41 (α := M) x9 (mcx x9 (.slice A9 x9.2.2.2.2.2.2.2.2.length c9)) (fits_msg HF9.out HS9.out) (by simp)) (fun b hb _ => ?_), stepTo_of ((HR9.out.stay ((Below.refl _ _).alloc (Nat.le_refl _) _)).wide (fun b hb _ => .inl hb) (fun b hb hf => by
          rcases hb with hb | hb
          · exact HOFF.out b hb hf
          · have := hFlt b hf; omega)) (HK9.out.trans (Below.kept ((Below.refl _ _).alloc (Nat.le_refl _) _)))⟩
        rcases hb with hb | hb
        · have := hb.1; omega
        · omega
end Go.Proofs.YtjcljkbalpgfdaaGreat

/-
  Who alone is the group: it leads as soon as it times out, and settles each command at once. As plain mathematics.
-/

namespace Go.Proofs.YtjcljkbalpgfdaaGreat.Rf

abbrev one : Id := ⟨1, 1⟩
section
variable {s : St}
theorem one_mt (h : s.mt.length = 1) (v : Int) : s.mt.set 0 v = [v] := by
  match hm : s.mt, h with
  | [x], _ => rfl
theorem most_one (v : Int) : Qr.most [v] = v := by simpa using Qr.most_mem (l := [v]) (by simp)
theorem all_one (t : St) : all one t = [] := by
  unfold all
  show each one (addition one t) 1 = []
  rw [each_me rfl]
  rfl
theorem term_end {l : List E} {e : E} (h : Lg.may (0, 0, l ++ [e]) = true) : Lg.term (0, 0, l ++ [e]) ((l.length : Int) + 1) = (e.1, true) := by
  rw [Lg.term_eq h, if_neg (by omega), if_neg (by simp; omega)]
  have : ((l.length : Int) + 1 - 0 - 1).toNat = l.length := by omega
  rw [this, Lg.tm_append_right (Nat.le_refl _), Nat.sub_self]
  rfl
/-- What is put is settled at once. -/
theorem one_settle (h : Good one s) (hb : 1 ≤ s.b.1) (hl : s.l.length < 64) (hu : s.upto ≤ s.l.length) (c : Cmd) :
    settle (own one (put s c)) = { s with l := s.l ++ [(s.b.1, c)], mt := [(s.l.length : Int) + 1], upto := (s.l.length : Int) + 1 } ∧ (last (settle (own one (put s c)))).1 = (s.l.length : Int) + 1 := by
  have hp := h.put hl hb c
  have hl1 := hp.last1
  have hlen : (put s c).l.length = s.l.length + 1 := by show (s.l ++ [_]).length = _; simp
  have hown : own one (put s c) = { s with l := s.l ++ [(s.b.1, c)], mt := [(s.l.length : Int) + 1] } := by
    unfold own
    show ({ put s c with mt := (put s c).mt.set 0 (last (put s c)).1 } : St) = _
    rw [one_mt (s := put s c) h.mt, hl1, hlen]
    rfl
  have hmay : Lg.may (0, 0, s.l ++ [(s.b.1, c)]) = true := hp.l
  have hlast : (Lg.last (0, 0, s.l ++ [(s.b.1, c)])).1 = (s.l.length : Int) + 1 := by rw [last_eq hmay]; simp
  have hc : Qr.commit (0, 0, s.l ++ [(s.b.1, c)]) [(s.l.length : Int) + 1] s.b.1 s.upto = (s.l.length : Int) + 1 := by
    have hg := Qr.goes_start (0, 0, s.l ++ [(s.b.1, c)]) [(s.l.length : Int) + 1] s.b.1 s.upto
    rw [most_one, hlast, Int.min_self] at hg
    have ht := term_end hmay
    exact Qr.goes_here hg (by omega) (by rw [ht]) (by rw [ht])
  have hs : settle (own one (put s c)) = { s with l := s.l ++ [(s.b.1, c)], mt := [(s.l.length : Int) + 1], upto := (s.l.length : Int) + 1 } := by
    rw [hown]
    unfold settle lg
    simp only
    rw [hc]
  refine ⟨hs, ?_⟩
  rw [hs]
  exact hlast
theorem one_propose (h : Good one s) (h2 : s.is = 2) (hl : s.l.length < 64) (hu : s.upto ≤ s.l.length) (c : Cmd) :
    propose one s c = ({ s with l := s.l ++ [(s.b.1, c)], mt := [(s.l.length : Int) + 1], upto := (s.l.length : Int) + 1 }, (s.l.length : Int) + 1, [], 0) := by
  obtain ⟨h1, h3⟩ := one_settle h (h.pos (by omega)) hl hu c
  unfold propose
  rw [if_neg (by omega), if_neg (by omega)]
  simp only
  rw [all_one, h3, h1]
theorem one_full (h2 : s.is = 2) (hl : 64 ≤ s.l.length) (c : Cmd) : propose one s c = (s, 0, [], 7) := by
  unfold propose
  rw [if_neg (by omega), if_pos hl]
/-- Timed out. -/
theorem one_timeout (h : Good one s) (h0 : s.is = 0) (hu : s.upto = 0) (hb : s.b.1 < 1073741824) :
    (timeout one s).2 = [] ∧ (timeout one s).1.is = 2 ∧ (timeout one s).1.b = (s.b.1 + 1, 1) ∧ (timeout one s).1.upto ≤ (timeout one s).1.l.length ∧
      (s.l.length < 64 → (timeout one s).1.l = s.l ++ [(s.b.1 + 1, (0, 0, 0, 0, 0, 0))] ∧ (timeout one s).1.upto = (s.l.length : Int) + 1) ∧ (64 ≤ s.l.length → (timeout one s).1.l = s.l) := by
  have ht : timeout one s = lead one (stand one s) := by
    unfold timeout
    rw [if_neg (by omega), if_pos (by decide)]
  have hgs := h.stand hb
  have hpos := h.b.1
  have hgb := hgs.begin_ (by show 1 ≤ s.b.1 + 1; omega)
  rw [ht]
  unfold lead
  simp only
  rw [all_one]
  by_cases hl : s.l.length < 64
  · have hf : first (begin_ one (stand one s)) = put (begin_ one (stand one s)) (0, 0, 0, 0, 0, 0) := if_pos hl
    rw [hf]
    obtain ⟨h1, _⟩ := one_settle hgb (by show 1 ≤ s.b.1 + 1; omega) hl (by show s.upto ≤ _; omega) (0, 0, 0, 0, 0, 0)
    rw [h1]
    refine ⟨rfl, rfl, rfl, ?_, fun _ => ⟨rfl, rfl⟩, fun h => by omega⟩
    show (s.l.length : Int) + 1 ≤ ((s.l ++ [_]).length : Nat)
    simp
  · have hf : first (begin_ one (stand one s)) = begin_ one (stand one s) := if_neg hl
    rw [hf]
    have hup := (hgb.own).settle
    refine ⟨rfl, rfl, rfl, ?_, fun h => absurd h hl, fun _ => rfl⟩
    have := hup.upto
    have hll : (settle (own one (begin_ one (stand one s)))).l.length = s.l.length := rfl
    omega
end
end Go.Proofs.YtjcljkbalpgfdaaGreat.Rf

/-
  What the reference's Same answers of two lists that are the same.
-/


namespace Go.Proofs.YtjcljkbalpgfdaaGreat
open Go.RowKit

set_option maxRecDepth 100000 in
set_option maxHeartbeats 1600000 in
theorem rsame_msgs_any (v1 v2 : Value) (l : List M) (w : World) (B : Nat) (hB : B ≤ w.heap.size) (h1 : Sl w B v1 l) (h2 : Sl w B v2 l) :
    Calls Tryz.prog 10 #[v1, v2] w fun e w' => e = .returned (.bool true) ∧ Below w.heap.size w w' := by
  obtain ⟨A1, c1, rfl, hc1, hm1⟩ := h1.form
  obtain ⟨A2, c2, rfl, hc2, hm2⟩ := h2.form
  unfold maxLen at hm1 hm2
  have H1 := Lib.hid h1
  have H2 := Lib.hid h2
  clear h1 h2
  generalize hn : l.length = n at *
  have HN := Lib.hid hn
  clear hn
  have hne : ((n : Int) != (n : Int)) = false := by simp
  go_enter Tryz.func10, Tryz.ntmps10
  go_wp2_with fail
  go_loopw [5] (fun i wr => ∃ k : Nat, k ≤ n ∧ i = .int .i64 (k : Int) ∧ Hid (Sl wr B (.slice A1 n c1) l) ∧ Hid (Sl wr B (.slice A2 n c2) l) ∧ Hid (Below w.heap.size w wr)) (fun i _ => n - (intOf i).toNat)
  case atStart => exact ⟨0, Nat.zero_le _, rfl, H1.out, H2.out, Below.refl _ _⟩
  case round =>
    obtain ⟨k, hk, rfl, h1, h2, hb⟩ := hrel
    have HB := Lib.hid hb.out
    have S1 := Lib.hid h1.out
    have S2 := Lib.hid h2.out
    have hz := hb.out.size
    clear h1 h2 hb H1 H2
    by_cases hlt : k < n
    · have hkl : k < l.length := by rw [HN.out]; exact hlt
      obtain ⟨b1, o1, X1, d1, rfl, hb1, g, t1⟩ := S1.out.msg2 k hkl
      obtain ⟨b2, o2, X2, d2, rfl, hb2, j, t2⟩ := S2.out.msg2 k hkl
      generalize l[k] = y at *
      obtain ⟨y0, y1, y2, y3, y4, y5, y6, y7, yl⟩ := y
      simp only at g j t1 t2
      have hbx := (Below.refl wr.heap.size wr).alloc (Nat.le_refl _) (.cells (mc y0 y1 y2 y3 y4 y5 y6 y7 (.slice X1 yl.length d1)) 41)
      have hbz := hbx.alloc (by simp) (.cells (mc y0 y1 y2 y3 y4 y5 y6 y7 (.slice X2 yl.length d2)) 41)
      have hBr : B ≤ wr.heap.size := Nat.le_trans hB hz
      have J := Lib.hid (Cells.below j hb2 (hbx.mono hBr))
      obtain ⟨g0, g1, g2, g3, g4, g5, g6, g7, g8⟩ := g.at9
      obtain ⟨j0, j1, j2, j3, j4, j5, j6, j7, j8⟩ := J.out.at9
      have HW1 := Lib.hid ((Whole.new wr 41 (mc y0 y1 y2 y3 y4 y5 y6 y7 (.slice X1 yl.length d1))).alloc (.cells (mc y0 y1 y2 y3 y4 y5 y6 y7 (.slice X2 yl.length d2)) 41))
      have HW2 := Lib.hid (Whole.new1 wr (.cells (mc y0 y1 y2 y3 y4 y5 y6 y7 (.slice X1 yl.length d1)) 41) 41 (mc y0 y1 y2 y3 y4 y5 y6 y7 (.slice X2 yl.length d2)))
      have HS := Lib.hid (same_any _ _ yl _ B (Nat.le_trans hBr hbz.size) (t1.below (hbz.mono hBr)) (t2.below (hbz.mono hBr)))
      have HBZ := Lib.hid (HB.out.trans (hbz.mono hz))
      have S1z := Lib.hid (S1.out.below (hbz.mono hBr))
      have S2z := Lib.hid (S2.out.below (hbz.mono hBr))
      obtain ⟨p0, p1, p2, p3, p4, p5, p6, p7, p8⟩ := HW1.out.c9
      obtain ⟨q0, q1, q2, q3, q4, q5, q6, q7, q8⟩ := HW2.out.c9
      clear hbx hbz j g t1 t2 S1 S2 hkl HB
      have i1 : (0 : Int) ≤ (k : Int) := by omega
      have i2 : (k : Int) < (n : Int) := by omega
      have f0 : (y0 != y0) = false := by simp
      have f1 : (y1 != y1) = false := by simp
      have f2 : (y2 != y2) = false := by simp
      have f3 : (y3 != y3) = false := by simp
      have f4 : (y4 != y4) = false := by simp
      have f5 : (y5 != y5) = false := by simp
      have f6 : (y6 != y6) = false := by simp
      have f7 : (y7 != y7) = false := by simp
      go_wp2_with fail
      with_reducible refine HS.out.mono ?_
      rintro e w3 ⟨rfl, hb3⟩
      have hz3 := hb3.size
      have hl2 := HW2.out.lt
      have hl1 := HW1.out.lt
      have HW3 := Lib.hid (HW1.out.below hb3 hl1)
      have HW4 := Lib.hid (HW2.out.below hb3 hl2)
      have S1r := Lib.hid (S1z.out.below (hb3.mono (Nat.le_trans hBr (by simp; omega))))
      have S2r := Lib.hid (S2z.out.below (hb3.mono (Nat.le_trans hBr (by simp; omega))))
      have HB3 := Lib.hid (HBZ.out.trans (hb3.mono (Nat.le_trans hz (by simp; omega))))
      clear HS hb3 S1z S2z HBZ HW1 HW2 p0 p1 p2 p3 p4 p5 p6 p7 p8 q0 q1 q2 q3 q4 q5 q6 q7 q8 g0 g1 g2 g3 g4 g5 g6 g7 g8 j0 j1 j2 j3 j4 j5 j6 j7 j8
      obtain ⟨p0, p1, p2, p3, p4, p5, p6, p7, p8⟩ := HW3.out.c9
      obtain ⟨q0, q1, q2, q3, q4, q5, q6, q7, q8⟩ := HW4.out.c9
      go_wp2_with fail
      exact ⟨⟨k + 1, by omega, by go_num, S1r.out, S2r.out, HB3.out⟩, by simp [intOf]; omega⟩
    · go_wp2_with fail
      go_ret
      exact ⟨rfl, HB.out⟩
end Go.Proofs.YtjcljkbalpgfdaaGreat
