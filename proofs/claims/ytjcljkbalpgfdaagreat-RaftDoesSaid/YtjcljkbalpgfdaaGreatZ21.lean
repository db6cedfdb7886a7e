/-
  Parts that the statement rests on, joined: Addo, Mem, Rfits, Radd, Rgrant.
-/
import Derived.Test.YtjcljkbalpgfdaaGreatZ2
import Derived.Test.YtjcljkbalpgfdaaGreatZ3
import Derived.Test.YtjcljkbalpgfdaaGreatZ4
import Derived.Test.YtjcljkbalpgfdaaGreatZ6
import Derived.Test.YtjcljkbalpgfdaaGreatZ8
import Derived.Test.YtjcljkbalpgfdaaGreatZ9
import Derived.Test.YtjcljkbalpgfdaaGreatZ14
import Derived.LoopTactic
import Derived.BigQuiet
/-
  What Add answers: a log of its own.
-/





namespace Go.Proofs.YtjcljkbalpgfdaaGreat
open Go.RowKit

def AddOwn (w : World) (x : Lg.L × Int) (e : Ending) (w' : World) : Prop :=
  ∃ v', e = .returned (.tuple #[lv x.1.1 x.1.2.1 v', .int .i64 x.2]) ∧ Own w' w.heap.size 60 v' x.1.2.2 ∧ Below w.heap.size w w'

set_option maxRecDepth 100000 in
theorem addo_any (b t i u : Int) (hi : -9223372036854775808 ≤ i ∧ i ≤ 9223372036854775807) (v v2 : Value) (l m : List E) (hml : m.length ≤ 100000) (w : World) (B : Nat) (hB : B ≤ w.heap.size) (hv : Sl w B v l) (hv2 : Sl w B v2 m) :
    Calls Tryz.prog 74 #[lv b t v, .int .i64 i, .int .i64 u, v2] w (AddOwn w (Lg.add (b, t, l) i u m)) := by
  obtain ⟨A, c, rfl, hc, hm⟩ := hv.form
  obtain ⟨A2, c2, rfl, hc2, hm2⟩ := hv2.form
  have hm' := hm
  have hm2' := hm2
  unfold maxLen at hm' hm2'
  have hb0 : Below w.heap.size w (w.alloc (.cells #[.int .i64 b, .int .i64 t, .slice A l.length c] 26)) := (Below.refl _ _).alloc (Nat.le_refl _) _
  have hb1 : Below w.heap.size w ((w.alloc (.cells #[.int .i64 b, .int .i64 t, .slice A l.length c] 26)).alloc (.cells #[.int .i64 0, .int .i64 0, .slice none 0 0] 26)) := hb0.alloc hb0.size _
  have HV := Lib.hid (fun W (h : Below w.heap.size w W) => hv.below (h.mono hB))
  have HV2 := Lib.hid (fun W (h : Below w.heap.size w W) => hv2.below (h.mono hB))
  have HY := Lib.hid (why_any b t i u hi _ _ l m _ B (Nat.le_trans hB hb1.size) (HV.out _ hb1) (HV2.out _ hb1))
  have hW := Lib.hid ((Whole.new w 26 #[.int .i64 b, .int .i64 t, .slice A l.length c]).alloc (.cells #[.int .i64 0, .int .i64 0, .slice none 0 0] 26))
  have hW2 := Lib.hid (Whole.new (w.alloc (.cells #[.int .i64 b, .int .i64 t, .slice A l.length c] 26)) 26 #[.int .i64 0, .int .i64 0, .slice none 0 0])
  have HB := Lib.hid hb1
  have hno := Lib.hid (@add_no (b, t, l) i u m)
  have hyes := Lib.hid (@add_yes (b, t, l) i u m)
  have hzero := Lib.hid (@why_zero (b, t, l) i u m)
  clear hv hv2 hb0 hb1
  generalize Lg.add (b, t, l) i u m = X at *
  generalize Lg.why (b, t, l) i u m = R at *
  go_enter Tryz.func74, Tryz.ntmps74
  go_wp2_with fail
  with_reducible refine HY.out.mono ?_
  rintro e w2 ⟨rfl, hb2⟩
  have hbb := HB.out.trans (hb2.mono HB.out.size)
  have HW1 := Lib.hid (hW.out.below hb2 hW.out.lt)
  have hw2 := hW2.out.below hb2 hW2.out.lt
  rw [World.size_alloc] at hw2
  have HW2 := Lib.hid hw2
  have HB2 := Lib.hid hbb
  clear hw2 hbb hb2 HY hW hW2 HB
  by_cases hr : R = 0
  · have hX := hyes.out hr
    have hz := hzero.out hr
    subst hr
    obtain ⟨hmay, -, z1, z2, -⟩ := hz
    rw [Lg.may_iff] at hmay
    obtain ⟨q1, q2, -, -, -, q6, -⟩ := hmay
    obtain ⟨k, rfl⟩ := Int.eq_ofNat_of_zero_le q1
    obtain ⟨j, rfl⟩ := Int.eq_ofNat_of_zero_le (show 0 ≤ i by omega)
    rw [show ((j : Int) - (k : Int)).toNat = j - k by omega] at hX
    clear hno hyes hzero
    have hs1 := fun W => run_from A l.length c (j - k) ((j : Int) - (k : Int)) (by omega) (by omega) W
    have hd1 := fun W (h : Below w.heap.size w W) => (HV.out W h).drop (j - k) (by omega)
    have hlen : (l.drop (j - k)).length = l.length - (j - k) := List.length_drop
    rw [show Rep.sz E = 7 from rfl] at hd1
    have hK := fun W (h : Below w.heap.size w W) => known_any _ _ (l.drop (j - k)) m W B (Nat.le_trans hB h.size) (hd1 W h) (HV2.out W h)
    generalize (if c = j - k then A else A.map (·.add ((j - k) * 7))) = A3 at *
    have HK := Lib.hid hK
    clear hd1 hK
    have hkl := Lg.known_le (l.drop (j - k)) m
    generalize Lg.known (l.drop (j - k)) m = q at *
    obtain ⟨k0, k1, k2⟩ := HW1.out.c3
    obtain ⟨f0, f1, f2⟩ := HW2.out.f3
    rw [hlen] at hkl
    obtain ⟨hkl1, hkl2⟩ := hkl
    have HX := Lib.hid hX
    clear hX hlen
    have HLL := Lib.hid (show l.length = l.length from rfl)
    generalize hn : l.length = n at *
    generalize hn2 : m.length = n2 at *
    have HN := Lib.hid hn
    have HN2 := Lib.hid hn2
    clear hn hn2 HLL
    go_wp2_with fail
    with_reducible refine (HK.out _ HB2.out).mono ?_
    rintro e w3 ⟨rfl, hb3⟩
    have HW13 := Lib.hid (HW1.out.below hb3 HW1.out.lt)
    have HW23 := Lib.hid (HW2.out.below hb3 HW2.out.lt)
    have HB3 := Lib.hid (HB2.out.trans (hb3.mono HB2.out.size))
    have hz3 := HB3.out.size
    have hz4 := HW23.out.lt
    clear hb3 HW1 HW2 HB2 k0 k1 k2 f0 f1 f2 hs1
    obtain ⟨k0, k1, k2⟩ := HW13.out.c3
    by_cases hq : q = n2
    · subst hq
      obtain rfl : X = (((k : Int), t, l), 0) := by rw [HX.out, put_all HN2.out.symm]
      have e1 : ((q : Int) == (q : Int)) = true := by simp
      have HC := Lib.hid (clone_any _ l (by rw [HN.out]; omega) w3 B (Nat.le_trans hB hz3) (HV.out w3 HB3.out))
      clear HK HX HV HV2
      go_wp2_with fail
      with_reducible refine HC.out.mono ?_
      rintro e w4 ⟨A4, c4, rfl, ho4, hb4⟩
      rw [HN.out] at ho4 ⊢
      have hw1 := HW13.out.below hb4 HW13.out.lt
      have hw2 := HW23.out.below hb4 HW23.out.lt
      have HB4 := Lib.hid (HB3.out.trans (hb4.mono hz3))
      have HO4 := Lib.hid ho4
      have HW2 := Lib.hid hw2
      obtain ⟨k0, k1, k2⟩ := hw1.c3
      obtain ⟨-, -, f2⟩ := hw1.f3
      obtain ⟨f3, f4, f5⟩ := hw2.f3
      obtain ⟨k3, k4, k5⟩ := hw2.c3
      clear ho4 hb4 hw1 hw2 HC HW13 HW23 HB3
      go_wp2_with fail
      refine bodyPost_ret (results_log2 rfl rfl ((HW2.out.far (p := ⟨w.heap.size, 2, none⟩) (by simp) _).set3 _ _ _)) rfl ?_
      exact ⟨_, rfl, Own.down ((((HO4.out.set (p := ⟨w.heap.size, 2, none⟩) (by simp; omega) _).set (p := ⟨w.heap.size + 1, 0, none⟩) (by simp; omega) _).set (p := ⟨w.heap.size + 1, 1, none⟩) (by simp; omega) _).set (p := ⟨w.heap.size + 1, 2, none⟩) (by simp; omega) _)  (by first | exact hz3 | exact hz), below_set3 (HB4.out.setCell (Nat.le_refl _) _) (by omega) _ _ _⟩
    · have e1 : ((q : Int) == (n2 : Int)) = false := by simp; omega
      have hs2 := fun W => run_upto A n c (j - k + q) ((j : Int) - (k : Int) + (q : Int)) (by omega) (by omega) W
      have hs3 := fun W => run_from A2 n2 c2 q (q : Int) rfl (by omega) W
      have hd2 := Lib.hid (fun W (h : Below w.heap.size w W) => (HV.out W h).upto (j - k + q) (by omega))
      have hd3 := Lib.hid (fun W (h : Below w.heap.size w W) => (HV2.out W h).drop q hkl2)
      rw [show Rep.sz E = 7 from rfl] at hd3
      have hl2 : (l.take (j - k + q)).length = j - k + q := by rw [List.length_take, HN.out]; omega
      have hl3 : (m.drop q).length = n2 - q := by rw [List.length_drop, HN2.out]
      have HL2 := Lib.hid hl2
      have HL3 := Lib.hid hl3
      clear hl2 hl3 HK
      generalize (if c = 0 then A else A.map (·.add (0 * 7))) = A4 at *
      generalize (if c2 = q then A2 else A2.map (·.add (q * 7))) = A5 at *
      by_cases h64 : 64 < j - k + n2
      · obtain rfl : X = (Lg.zero, 7) := by rw [HX.out, put_full (by rw [HN2.out]; exact hq) (by rw [HN2.out]; exact h64)]
        obtain ⟨f3, f4, f5⟩ := HW23.out.f3
        obtain ⟨k3, k4, k5⟩ := HW23.out.c3
        go_wp2_with fail
        go_quiet (fail)
        go_wp2_with fail
        have hW := HW23.out.drewN nq
        refine bodyPost_ret (results_log2 rfl rfl (hW.set3 _ _ _)) rfl ?_
        exact ⟨_, rfl, Own.nil _ _ _, below_set3 (below_drewN HB3.out nq) (by omega) _ _ _⟩
      · obtain rfl : X = (((k : Int), t, l.take (j - k + q) ++ m.drop q), 0) := by rw [HX.out, put_some (by rw [HN2.out]; exact hq) (by rw [HN2.out]; exact h64)]
        have HC := Lib.hid (fun x => clone_any _ (l.take (j - k + q)) (by rw [HL2.out]; omega) (w3.drewN x) B (Nat.le_trans hB hz3) (hd2.out _ (below_drewN HB3.out x)))
        have HD3 := Lib.hid (fun W h => hd3.out W h)
        clear hd2 hd3 HX HV HV2
        generalize l.take (j - k + q) = L1 at *
        generalize m.drop q = L2 at *
        go_wp2_with fail
        go_quiet (fail)
        go_wp2_with fail
        with_reducible refine (HC.out _).mono ?_
        rintro e w4 ⟨A6, c6, rfl, ho4, hb4⟩
        rw [HL2.out] at ho4 ⊢
        have hbb := below_drewN HB3.out nq
        have hw1 := (HW13.out.drewN nq).below hb4 HW13.out.lt
        have hw2 := (HW23.out.drewN nq).below hb4 HW23.out.lt
        have HB4 := Lib.hid (hbb.trans (hb4.mono hz3))
        have HO4 := Lib.hid ho4
        have HS5 := Lib.hid (HD3.out w4 HB4.out)
        have HW1 := Lib.hid hw1
        have HW2 := Lib.hid hw2
        have hz5 : w3.heap.size ≤ w4.heap.size := hb4.size
        obtain ⟨k0, k1, k2⟩ := hw1.c3
        obtain ⟨-, -, f2⟩ := hw1.f3
        obtain ⟨f3, f4, f5⟩ := hw2.f3
        obtain ⟨k3, k4, k5⟩ := hw2.c3
        clear ho4 hb4 hw1 hw2 hbb HC HW13 HW23 HB3 HD3
        go_wp2_with (at_builtin; refine wpList_append_sl rfl (.tmp 60) (.tmp 61) rfl rowE w3.heap.size _ L1 rfl HO4.out B _ L2 rfl HS5.out (by rw [HL2.out, HL3.out]; unfold maxLen; omega) (by rw [HL2.out, HL3.out]; omega) hz5 ?_; intro v7 w7 hown7 hg7 hat7; have hb7 := below_of_own (Below.refl w3.heap.size w4) HO4.out hg7 hz5; have hw1 := HW1.out.below hb7 (Nat.lt_of_succ_lt hz4); have hw2 := HW2.out.below hb7 hz4; obtain ⟨k0, k1, k2⟩ := hw1.c3; obtain ⟨-, -, f2⟩ := hw1.f3; obtain ⟨f3, f4, f5⟩ := hw2.f3; obtain ⟨k3, k4, k5⟩ := hw2.c3; have HB7 := Lib.hid (HB4.out.trans (hb7.mono hz3)); have HW7 := Lib.hid hw2; obtain ⟨A7, c7, hv7, -, -⟩ := hown7.sl.form; subst hv7; rw [List.length_append] at hown7; have HO7 := Lib.hid hown7; clear hown7 hg7 hat7 hb7 hw1 hw2)
        refine bodyPost_ret (results_log2 rfl rfl ((HW7.out.far (p := ⟨w.heap.size, 2, none⟩) (by simp) _).set3 _ _ _)) rfl ?_
        exact ⟨_, rfl, Own.down ((((HO7.out.set (p := ⟨w.heap.size, 2, none⟩) (by simp; omega) _).set (p := ⟨w.heap.size + 1, 0, none⟩) (by simp; omega) _).set (p := ⟨w.heap.size + 1, 1, none⟩) (by simp; omega) _).set (p := ⟨w.heap.size + 1, 2, none⟩) (by simp; omega) _)  (by first | exact hz3 | exact hz), below_set3 (HB7.out.setCell (Nat.le_refl _) _) (by omega) _ _ _⟩
  · have hX := hno.out hr
    subst hX
    clear hno hyes hzero HW1
    have e1 : (R != 0) = true := by simpa using hr
    obtain ⟨f0, f1, f2⟩ := HW2.out.f3
    obtain ⟨k0, k1, k2⟩ := HW2.out.c3
    go_wp2_with fail
    refine bodyPost_ret (results_log2 rfl rfl (HW2.out.set3 _ _ _)) rfl ?_
    exact ⟨_, rfl, Own.nil _ _ _, below_set3 HB2.out (by omega) _ _ _⟩
end Go.Proofs.YtjcljkbalpgfdaaGreat

/-
  The reference's member in memory.
-/

namespace Go.Proofs.YtjcljkbalpgfdaaGreat
open Go.RowKit

structure RMem (n : Rf.Id) (F : Foot) (S : Nat → Prop) (w : World) (s : Rf.St) (A : Option Addr) (c : Nat) : Prop where
  st : Whole w F.g 66 (rmc n F s A c)
  v : Whole w F.gv 4 (rowB' s.votes)
  m : Whole w F.gm 3 (rowN' s.mt)
  x : Whole w F.gn 3 (rowN' s.nx)
  l : SlS w S (.slice A s.l.length c) s.l
  ok : F.Ok
  off : ∀ b, S b → ¬ F.has b
section
variable {n : Rf.Id} {F : Foot} {S : Nat → Prop} {w w' : World} {s : Rf.St} {A : Option Addr} {c : Nat}
theorem RMem.stay (h : RMem n F S w s A c) (hb : Below w.heap.size w w') : RMem n F S w' s A c :=
  ⟨h.st.below hb h.st.lt, h.v.below hb h.v.lt, h.m.below hb h.m.lt, h.x.below hb h.x.lt, h.l.stay fun b _ hlt => hb.block b hlt, h.ok, h.off⟩
theorem RMem.kept {D : Nat → Prop} (h : RMem n F S w s A c) (hk : Kept D w w') (hD : ∀ b, F.has b → ¬ D b) (hS : ∀ b, S b → ¬ D b) : RMem n F S w' s A c :=
  ⟨hk.whole h.st (hD _ (.inl rfl)), hk.whole h.v (hD _ (.inr (.inl rfl))), hk.whole h.m (hD _ (.inr (.inr (.inl rfl)))), hk.whole h.x (hD _ (.inr (.inr (.inr rfl)))), hk.sl h.l hS, h.ok, h.off⟩
theorem RMem.sl (h : RMem n F S w s A c) : Sl w w.heap.size (.slice A s.l.length c) s.l := SlS.wide h.l fun _ _ h => h
theorem RMem.cell (h : RMem n F S w s A c) (i : Nat) (u : Value) {s' : Rf.St} (e : (rmc n F s A c).setIfInBounds i u = rmc n F s' A c) (hv : s'.votes = s.votes) (hm : s'.mt = s.mt) (hx : s'.nx = s.nx) (hl : s'.l = s.l) :
    RMem n F S (w.setCell ⟨F.g, i, none⟩ u) s' A c :=
  ⟨h.st.setTo i u e, by rw [hv]; exact h.v.far h.ok.gv u, by rw [hm]; exact h.m.far h.ok.gm u, by rw [hx]; exact h.x.far h.ok.gn u, by rw [hl]; exact sls_far h.l (fun hS => h.off _ hS (.inl rfl)) u, h.ok, h.off⟩
theorem RMem.far (h : RMem n F S w s A c) {p : Addr} (hp : ¬ F.has p.block) (hS : ¬ S p.block) (u : Value) : RMem n F S (w.setCell p u) s A c :=
  ⟨h.st.far (fun e => hp (.inl e.symm)) u, h.v.far (fun e => hp (.inr (.inl e.symm))) u, h.m.far (fun e => hp (.inr (.inr (.inl e.symm)))) u, h.x.far (fun e => hp (.inr (.inr (.inr e.symm)))) u, sls_far h.l hS u, h.ok, h.off⟩
theorem RMem.log (h : RMem n F S w s A c) {A2 : Option Addr} {c2 : Nat} {l2 : List E} (hl : SlS w S (.slice A2 l2.length c2) l2) :
    RMem n F S (((w.setCell ⟨F.g, 4, none⟩ (.int .i64 0)).setCell ⟨F.g, 5, none⟩ (.int .i64 0)).setCell ⟨F.g, 6, none⟩ (.slice A2 l2.length c2)) { s with l := l2 } A2 c2 :=
  ⟨Whole.setTo (Whole.setTo (h.st.setTo 4 (.int .i64 0) (cs2 := rmc n F s A c) rfl) 5 (.int .i64 0) (cs2 := rmc n F s A c) rfl) 6 _ rfl, ((h.v.far h.ok.gv _).far h.ok.gv _).far h.ok.gv _, ((h.m.far h.ok.gm _).far h.ok.gm _).far h.ok.gm _, ((h.x.far h.ok.gn _).far h.ok.gn _).far h.ok.gn _,
    sls_far (sls_far (sls_far hl (fun hS => h.off _ hS (.inl rfl)) _) (fun hS => h.off _ hS (.inl rfl)) _) (fun hS => h.off _ hS (.inl rfl)) _, h.ok, h.off⟩
theorem RMem.setM (h : RMem n F S w s A c) (k : Nat) (v : Int) : RMem n F S (w.setCell ⟨F.gm, k, none⟩ (.int .i64 v)) { s with mt := s.mt.set k v } A c :=
  ⟨h.st.far (Ne.symm h.ok.gm) _, h.v.far (Ne.symm h.ok.vm) _, h.m.setTo k _ (rowN_set _ _ _), h.x.far h.ok.mn _, sls_far h.l (fun hS => h.off _ hS (.inr (.inr (.inl rfl)))) _, h.ok, h.off⟩
theorem RMem.setX (h : RMem n F S w s A c) (k : Nat) (v : Int) : RMem n F S (w.setCell ⟨F.gn, k, none⟩ (.int .i64 v)) { s with nx := s.nx.set k v } A c :=
  ⟨h.st.far (Ne.symm h.ok.gn) _, h.v.far (Ne.symm h.ok.vn) _, h.m.far (Ne.symm h.ok.mn) _, h.x.setTo k _ (rowN_set _ _ _), sls_far h.l (fun hS => h.off _ hS (.inr (.inr (.inr rfl)))) _, h.ok, h.off⟩
theorem RMem.setV (h : RMem n F S w s A c) (k : Nat) (v : Bool) : RMem n F S (w.setCell ⟨F.gv, k, none⟩ (.bool v)) { s with votes := s.votes.set k v } A c :=
  ⟨h.st.far (Ne.symm h.ok.gv) _, h.v.setTo k _ (rowB_set _ _ _), h.m.far h.ok.vm _, h.x.far h.ok.vn _, sls_far h.l (fun hS => h.off _ hS (.inr (.inl rfl))) _, h.ok, h.off⟩
theorem RMem.wide (h : RMem n F S w s A c) {S' : Nat → Prop} (hS : ∀ b, S b → b < w.heap.size → S' b) (hoff : ∀ b, S' b → ¬ F.has b) : RMem n F S' w s A c := ⟨h.st, h.v, h.m, h.x, h.l.wide hS, h.ok, hoff⟩
/-- The log lies in blocks that there are. -/
theorem RMem.here (h : RMem n F S w s A c) : RMem n F (fun b => S b ∧ b < w.heap.size) w s A c := h.wide (fun _ hS hlt => ⟨hS, hlt⟩) (fun _ hS => h.off _ hS.1)
theorem Foot.lt (h : RMem n F S w s A c) : ∀ b, F.has b → b < w.heap.size := by
  intro b hb
  rcases hb with rfl | rfl | rfl | rfl
  · exact h.st.lt
  · exact h.v.lt
  · exact h.m.lt
  · exact h.x.lt
theorem RMem.newVotes (h : RMem n F S w s A c) {gv : Nat} {l : List Bool} (hv : Whole w gv 4 (rowB' l)) (hF : ¬ F.has gv) (hS : ¬ S gv) :
    RMem n { F with gv := gv } S (w.setCell ⟨F.g, 9, none⟩ (at0 gv n.many)) { s with votes := l } A c := by
  have h1 : gv ≠ F.g := fun e => hF (.inl e)
  have h3 : gv ≠ F.gm := fun e => hF (.inr (.inr (.inl e)))
  have h4 : gv ≠ F.gn := fun e => hF (.inr (.inr (.inr e)))
  refine ⟨h.st.setTo 9 _ rfl, hv.far h1 _, h.m.far h.ok.gm _, h.x.far h.ok.gn _, sls_far h.l (fun hS => h.off _ hS (.inl rfl)) _, ⟨h1, h.ok.gm, h.ok.gn, Ne.symm h3, Ne.symm h4, h.ok.mn⟩, fun b hb hf => ?_⟩
  rcases hf with hf | hf | hf | hf
  · exact h.off b hb (.inl hf)
  · subst hf; exact hS hb
  · exact h.off b hb (.inr (.inr (.inl hf)))
  · exact h.off b hb (.inr (.inr (.inr hf)))
end
end Go.Proofs.YtjcljkbalpgfdaaGreat

/-
  What the reference's fits answers.
-/



namespace Go.Proofs.YtjcljkbalpgfdaaGreat
open Go.RowKit

/-- Up to where all fit. -/
def fitTo (r : Bool) (L : List E) (t : Int) (j : Nat) : Prop := r = (L.drop j).all fun e => decide (e.1 ≤ t)
theorem fitTo_zero (L : List E) (t : Int) : fitTo (L.all fun e => decide (e.1 ≤ t)) L t 0 := by unfold fitTo; simp
theorem fitTo_step {r : Bool} {L : List E} {t : Int} {j : Nat} (h : fitTo r L t j) (hj : j < L.length) (he : (L[j]).1 ≤ t) : fitTo r L t (j + 1) := by
  unfold fitTo at h ⊢
  rw [h, List.drop_eq_getElem_cons hj, List.all_cons]
  simp [he]
theorem fitTo_stop {r : Bool} {L : List E} {t : Int} {j : Nat} (h : fitTo r L t j) (hj : j < L.length) (he : t < (L[j]).1) : r = false := by
  unfold fitTo at h
  rw [h, List.drop_eq_getElem_cons hj, List.all_cons]
  have : decide ((L[j]).1 ≤ t) = false := by simp; omega
  simp [this]
theorem fitTo_end {r : Bool} {L : List E} {t : Int} {j : Nat} (h : fitTo r L t j) (hj : L.length ≤ j) : r = true := by
  unfold fitTo at h
  rw [h, List.drop_eq_nil_of_le hj]; rfl
set_option maxRecDepth 100000 in
theorem rfits_any (k f o t i u cm : Int) (y : Bool) (v : Value) (L : List E) (hl : L.length ≤ 100000) (w : World) (B : Nat) (hB : B ≤ w.heap.size) (hv : Sl w B v L) :
    Calls Tryz.prog 69 #[.agg (mc k f o t i u cm y v)] w fun e w' => e = .returned (.bool (L.all fun e => decide (e.1 ≤ t))) ∧ Below w.heap.size w w' := by
  obtain ⟨A, c, rfl, hc, hm⟩ := hv.form
  unfold maxLen at hm
  have HB := Lib.hid ((Below.refl w.heap.size w).alloc (Nat.le_refl _) (.cells (mc k f o t i u cm y (.slice A L.length c)) 41))
  have HX := Lib.hid (Whole.new w 41 (mc k f o t i u cm y (.slice A L.length c)))
  have HV := Lib.hid (hv.mono hB)
  have H0 := Lib.hid (fitTo_zero L t)
  clear hv
  generalize (L.all fun e => decide (e.1 ≤ t)) = r at *
  generalize hn : L.length = n at *
  have HN := Lib.hid hn
  clear hn
  go_enter Tryz.func69, Tryz.ntmps69
  go_wp2_with fail
  go_loopw [3] (fun iv wr => ∃ j : Nat, j ≤ n ∧ iv = .int .i64 (j : Int) ∧ Hid (fitTo r L t j) ∧ Hid (Whole wr w.heap.size 41 (mc k f o t i u cm y (.slice A n c))) ∧ Hid (Below w.heap.size w wr)) (fun iv _ => n - (intOf iv).toNat)
  case atStart => exact ⟨0, Nat.zero_le _, rfl, H0, HX, HB⟩
  case round =>
    obtain ⟨j, hj, rfl, hf, hx, hb⟩ := hrel
    clear HX HB H0
    obtain ⟨q0, q1, q2, q3, q4, q5, q6, q7, q8⟩ := hx.out.c9
    by_cases hlt : j < n
    · have hjl : j < L.length := by rw [HN.out]; exact hlt
      obtain ⟨b1, o1, rfl, g0⟩ := (HV.out.below hb.out).term j hjl
      have HST := Lib.hid (fitTo_step hf.out hjl)
      have HSP := Lib.hid (fitTo_stop hf.out hjl)
      generalize (L[j]).1 = e1 at *
      clear hjl hf
      by_cases h1 : t < e1
      · obtain rfl := HSP.out h1
        clear HST HSP
        go_wp2_with fail
        go_quiet (fail)
        go_wp2_with fail
        go_ret
        exact ⟨rfl, below_drewN hb.out _⟩
      · have HS := Lib.hid (HST.out (by omega))
        have d1 : decide (t < e1) = false := by simpa using h1
        clear HST HSP h1
        go_wp2_with fail
        go_quiet (fail)
        go_wp2_with fail
        go_roundw
        case rel => exact ⟨j + 1, by omega, by go_num, HS, hx.out.below (below_drewN (Below.refl _ _) _) hx.out.lt, below_drewN hb.out _⟩
        case measure => simp [intOf]; omega
    · obtain rfl := fitTo_end hf.out (by rw [HN.out]; omega)
      go_wp2_with fail
      go_ret
      exact ⟨rfl, hb.out⟩
end Go.Proofs.YtjcljkbalpgfdaaGreat

/-
  What the reference's Add answers.
-/





namespace Go.Proofs.YtjcljkbalpgfdaaGreat
open Go.RowKit

theorem add_eq (b t i u : Int) (l m : List E) : Lg.add (b, t, l) i u m = if Lg.why (b, t, l) i u m ≠ 0 then (Lg.zero, Lg.why (b, t, l) i u m) else Lg.put (b, t, l) (i - b).toNat (Lg.known (l.drop (i - b).toNat) m) m := rfl
theorem why_eq (b t i u : Int) (l m : List E) : Lg.why (b, t, l) i u m = if Lg.may (b, t, l) = false then 1 else if Lg.rise u m = false then 1 else if i < b then 9 else if (Lg.term (b, t, l) i).2 = false then 10 else if (Lg.term (b, t, l) i).1 ≠ u then 8 else 0 := rfl
theorem add_why {b t i u : Int} {l m : List E} {r : Int} (h : Lg.why (b, t, l) i u m = r) (hr : r ≠ 0) : Lg.add (b, t, l) i u m = (Lg.zero, r) := by rw [add_eq, h, if_pos hr]

set_option maxRecDepth 100000 in
set_option maxHeartbeats 800000 in
theorem radd_any (b t i u : Int) (hi : -9223372036854775808 ≤ i ∧ i ≤ 9223372036854775807) (v v2 : Value) (l m : List E) (hml : m.length ≤ 100000) (w : World) (B : Nat) (hB : B ≤ w.heap.size) (hv : Sl w B v l) (hv2 : Sl w B v2 m) :
    Calls Tryz.prog 68 #[lv b t v, .int .i64 i, .int .i64 u, v2] w (AddOut w (Lg.add (b, t, l) i u m)) := by
  obtain ⟨A, c, rfl, hc, hm⟩ := hv.form
  obtain ⟨A2, c2, rfl, hc2, hm2⟩ := hv2.form
  have hm' := hm
  have hm2' := hm2
  unfold maxLen at hm' hm2'
  have hb0 : Below w.heap.size w (w.alloc (.cells #[.int .i64 b, .int .i64 t, .slice A l.length c] 26)) := (Below.refl _ _).alloc (Nat.le_refl _) _
  have hb1 : Below w.heap.size w ((w.alloc (.cells #[.int .i64 b, .int .i64 t, .slice A l.length c] 26)).alloc (.cells #[.int .i64 0, .int .i64 0, .slice none 0 0] 26)) := hb0.alloc hb0.size _
  have HV := Lib.hid (fun W (h : Below w.heap.size w W) => hv.below (h.mono hB))
  have HV2 := Lib.hid (fun W (h : Below w.heap.size w W) => hv2.below (h.mono hB))
  have HM := Lib.hid (rmay_any b t _ l _ B (Nat.le_trans hB hb1.size) (HV.out _ hb1))
  have HF := Lib.hid (fun W (h : Below w.heap.size w W) => rising_any _ m u W B (Nat.le_trans hB h.size) (HV2.out W h))
  have HL := Lib.hid (fun W (h : Below w.heap.size w W) => rlast_any b t _ l W B (Nat.le_trans hB h.size) (HV.out W h))
  have HT := Lib.hid (fun W (h : Below w.heap.size w W) => rterm_any b t i hi _ l W B (Nat.le_trans hB h.size) (HV.out W h))
  have hW := Lib.hid ((Whole.new w 26 #[.int .i64 b, .int .i64 t, .slice A l.length c]).alloc (.cells #[.int .i64 0, .int .i64 0, .slice none 0 0] 26))
  have hW2 := Lib.hid (Whole.new (w.alloc (.cells #[.int .i64 b, .int .i64 t, .slice A l.length c] 26)) 26 #[.int .i64 0, .int .i64 0, .slice none 0 0])
  have HB := Lib.hid hb1
  have HWE := Lib.hid (why_eq b t i u l m)
  have HXE := Lib.hid (add_eq b t i u l m)
  have HXW := Lib.hid (fun r => @add_why b t i u l m r)
  have hmi := Lib.hid (@Lg.may_iff (b, t, l))
  have hti := Lib.hid (@term_in b t i l)
  have hto := Lib.hid (@term_out b t i l)
  have hlf := Lib.hid (@last_fst b t l)
  clear hv hv2 hb0 hb1
  generalize Lg.add (b, t, l) i u m = X at *
  generalize Lg.why (b, t, l) i u m = R at *
  generalize Lg.may (b, t, l) = r at *
  generalize Lg.rise u m = r2 at *
  generalize Lg.term (b, t, l) i = T at *
  obtain ⟨t1, t2⟩ := T
  generalize Lg.last (b, t, l) = LS at *
  obtain ⟨l1, l2⟩ := LS
  go_enter Tryz.func68, Tryz.ntmps68
  go_wp2_with fail
  with_reducible refine HM.out.mono ?_
  rintro e w2 ⟨rfl, hb2⟩
  have HW1 := Lib.hid (hW.out.below hb2 hW.out.lt)
  have hw2 := hW2.out.below hb2 hW2.out.lt
  rw [World.size_alloc] at hw2
  have HW2 := Lib.hid hw2
  have HB2 := Lib.hid (HB.out.trans (hb2.mono HB.out.size))
  clear hw2 hb2 HM hW hW2 HB
  go_wp2_with fail
  with_reducible refine (HF.out _ HB2.out).mono ?_
  rintro e w3 ⟨rfl, hb3⟩
  have HW13 := Lib.hid (HW1.out.below hb3 HW1.out.lt)
  have HW23 := Lib.hid (HW2.out.below hb3 HW2.out.lt)
  have HB3 := Lib.hid (HB2.out.trans (hb3.mono HB2.out.size))
  clear hb3 HF HW1 HW2 HB2
  obtain ⟨k0, k1, k2⟩ := HW13.out.c3
  obtain ⟨k3, k4, k5⟩ := HW23.out.c3
  obtain ⟨f3, f4, f5⟩ := HW23.out.f3
  rcases r with _ | _
  · obtain rfl : X = (Lg.zero, 1) := HXW.out 1 HWE.out (by decide)
    go_wp2_with fail
    refine bodyPost_ret (results_log2 rfl rfl (HW23.out.set3 _ _ _)) rfl ?_
    exact ⟨_, rfl, SlS.nil _ _, below_set3 HB3.out (by omega) _ _ _⟩
  rcases r2 with _ | _
  · obtain rfl : X = (Lg.zero, 1) := HXW.out 1 HWE.out (by decide)
    go_wp2_with fail
    refine bodyPost_ret (results_log2 rfl rfl (HW23.out.set3 _ _ _)) rfl ?_
    exact ⟨_, rfl, SlS.nil _ _, below_set3 HB3.out (by omega) _ _ _⟩
  have HWE1 : Hid (R = if i < b then 9 else if t2 = false then 10 else if t1 ≠ u then 8 else 0) := HWE.out
  clear HWE
  by_cases c1 : i < b
  · obtain rfl : X = (Lg.zero, 9) := HXW.out 9 (by rw [HWE1.out, if_pos c1]) (by decide)
    go_wp2_with fail
    refine bodyPost_ret (results_log2 rfl rfl (HW23.out.set3 _ _ _)) rfl ?_
    exact ⟨_, rfl, SlS.nil _ _, below_set3 HB3.out (by omega) _ _ _⟩
  have HWE2 : Hid (R = if t2 = false then 10 else if t1 ≠ u then 8 else 0) := by show _ = _; rw [HWE1.out, if_neg c1]
  clear HWE1
  have hl1 : l1 = b + l.length := hlf.out (by simp)
  have HL1 := Lib.hid hl1
  clear hl1
  go_wp2_with fail
  with_reducible refine (HL.out _ HB3.out).mono ?_
  rintro e w4 ⟨rfl, hb4⟩
  have HW14 := Lib.hid (HW13.out.below hb4 HW13.out.lt)
  have HW24 := Lib.hid (HW23.out.below hb4 HW23.out.lt)
  have HB4 := Lib.hid (HB3.out.trans (hb4.mono HB3.out.size))
  clear hb4 HL HW13 HW23 HB3 k0 k1 k2 k3 k4 k5 f3 f4 f5
  obtain ⟨k0, k1, k2⟩ := HW14.out.c3
  obtain ⟨k3, k4, k5⟩ := HW24.out.c3
  obtain ⟨f3, f4, f5⟩ := HW24.out.f3
  by_cases c3 : l1 < i
  · have ht2 : t2 = false := by
      rcases t2 with _ | _
      · rfl
      · have := (hti.out (by simp) (by simp)).2
        have := HL1.out
        omega
    obtain rfl : X = (Lg.zero, 10) := HXW.out 10 (by rw [HWE2.out, if_pos ht2]) (by decide)
    go_wp2_with fail
    refine bodyPost_ret (results_log2 rfl rfl (HW24.out.set3 _ _ _)) rfl ?_
    exact ⟨_, rfl, SlS.nil _ _, below_set3 HB4.out (by omega) _ _ _⟩
  obtain rfl : t2 = true := hto.out (by simp) ⟨by omega, by have := HL1.out; omega⟩
  have HWE3 : Hid (R = if t1 ≠ u then 8 else 0) := HWE2.out
  clear HWE2
  go_wp2_with fail
  with_reducible refine (HT.out _ HB4.out).mono ?_
  rintro e w5 ⟨rfl, hb5⟩
  have HW15 := Lib.hid (HW14.out.below hb5 HW14.out.lt)
  have HW25 := Lib.hid (HW24.out.below hb5 HW24.out.lt)
  have HB5 := Lib.hid (HB4.out.trans (hb5.mono HB4.out.size))
  clear hb5 HT HW14 HW24 HB4 k0 k1 k2 k3 k4 k5 f3 f4 f5
  obtain ⟨k0, k1, k2⟩ := HW15.out.c3
  obtain ⟨k3, k4, k5⟩ := HW25.out.c3
  obtain ⟨f3, f4, f5⟩ := HW25.out.f3
  by_cases c4 : t1 = u
  · subst c4
    have hR : R = 0 := by rw [HWE3.out, if_neg (by simp)]
    have e1 : (t1 != t1) = false := by simp
    have hX : X = Lg.put (b, t, l) (i - b).toNat (Lg.known (l.drop (i - b).toNat) m) m := by rw [HXE.out, if_neg (by rw [hR]; simp)]
    have hmay := hmi.out.1 (by simp)
    obtain ⟨z1, z2⟩ := hti.out (by simp) (by simp)
    obtain ⟨q1, q2, -, -, -, q6, -⟩ := hmay
    obtain ⟨k, rfl⟩ := Int.eq_ofNat_of_zero_le q1
    obtain ⟨j, rfl⟩ := Int.eq_ofNat_of_zero_le (show 0 ≤ i by omega)
    have ejk : ((j : Int) - (k : Int)).toNat = j - k := by omega
    rw [ejk, Lg.put_step (by omega) q6] at hX
    have hstl := fun x => @Lg.step_le (j - k) (Lg.known (l.drop (j - k)) m) l m x (by have := Lg.known_le (l.drop (j - k)) m; rw [List.length_drop] at this; omega)
    have hst := fun x => @Lg.step_true (j - k) l m x (by omega)
    have hsf := fun x y => @Lg.step_false (j - k) l m x y (by omega)
    have hs0 := Lg.step_zero (j - k) (Lg.known (l.drop (j - k)) m) l m
    clear hmi hti hto hlf HXE HXW HWE3 hR ejk HL1
    generalize Lg.step (j - k) (Lg.known (l.drop (j - k)) m) l m = P at *
    have HX := Lib.hid hX
    have HSTL := Lib.hid hstl
    have HST := Lib.hid hst
    have HSF := Lib.hid hsf
    have HS0 := Lib.hid hs0
    have HVW := Lib.hid (HV.out w5 HB5.out)
    clear hX hstl hst hsf hs0 HV
    generalize hn : l.length = n at *
    have HN := Lib.hid hn
    clear hn
    generalize hn2 : m.length = n2 at *
    have HN2 := Lib.hid hn2
    clear hn2
    have hz := HB5.out.size
    have hz5 := HW25.out.lt
    clear k0 k1 k2 k3 k4 k5 f3 f4 f5
    obtain ⟨k0, k1, k2⟩ := HW15.out.c3
    go_wp2_with (at_builtin; refine wpList_append_sl rfl _ (.tmp 56) rfl rowE w5.heap.size _ [] rfl (Own.nil _ _ _) B _ l rfl HVW.out (by rw [HN.out]; unfold maxLen; simp; omega) (by rw [HN.out]; simp; omega) (Nat.le_refl _) ?_; intro v7 w7 hown7 hg7 hat7; rw [List.nil_append] at hown7; have HB7 := Lib.hid (below_of_own (Below.refl w5.heap.size w5) (Own.nil w5 w5.heap.size 60 (α := E)) hg7 (Nat.le_refl _)); have HO7 := Lib.hid hown7; clear hown7 hg7 hat7)
    go_loopw [16, 17] (fun o i wr => ∃ (x : Nat), x ≤ n2 ∧ i = .int .i64 (x : Int) ∧ Own wr w5.heap.size 60 o (P x) ∧ Below w5.heap.size w5 wr) (fun _ i _ => n2 - (intOf i).toNat)
    case atStart => exact ⟨0, Nat.zero_le _, rfl, by rw [HS0.out]; exact HO7.out, HB7.out⟩
    case round =>
      obtain ⟨x, hx, rfl, hown, hb⟩ := hrel
      have HBR := Lib.hid hb
      have HB6 := Lib.hid (HB5.out.trans (hb.mono hz))
      have hz6 := hb.size
      clear k0 k1 k2 hb HB7 HO7
      obtain ⟨k0, k1, k2⟩ := (HW15.out.below HBR.out HW15.out.lt).c3
      obtain ⟨Ao, co, rfl, hco, hmo⟩ := hown.sl.form
      unfold maxLen at hmo
      have hPl := HSTL.out x hx
      by_cases hlt : x < n2
      · have hxm : x < m.length := by rw [HN2.out]; exact hlt
        have hent := fun W (h : Below w.heap.size w W) => (HV2.out W h).entry x hxm
        obtain ⟨b2, o2, rfl, -⟩ := hent w (Below.refl _ _)
        have hst := HST.out x hlt
        have hsf := HSF.out x m[x] hlt (List.getElem?_eq_getElem hxm)
        rw [Lg.tm_eq m x hxm] at hst hsf
        generalize m[x] = y at *
        generalize hP1 : P (x + 1) = Q1 at *
        have HP1 := Lib.hid hP1
        clear hP1
        generalize P x = Q at *
        have HENT : Hid (∀ W, Below w.heap.size w W → W.cell? ⟨b2, o2 + x * 7, none⟩ = some (.int .i64 y.1) ∧ W.cell? ⟨b2, o2 + x * 7 + 1, none⟩ = some (.int .i64 y.2.1) ∧ W.cell? ⟨b2, o2 + x * 7 + 2, none⟩ = some (.int .i64 y.2.2.1) ∧ W.cell? ⟨b2, o2 + x * 7 + 3, none⟩ = some (.int .i64 y.2.2.2.1) ∧
            W.cell? ⟨b2, o2 + x * 7 + 4, none⟩ = some (.int .i64 y.2.2.2.2.1) ∧ W.cell? ⟨b2, o2 + x * 7 + 5, none⟩ = some (.int .i64 y.2.2.2.2.2.1) ∧ W.cell? ⟨b2, o2 + x * 7 + 6, none⟩ = some (.int .i64 y.2.2.2.2.2.2) ∧ Flat.wf y) := by
          intro W h
          obtain ⟨b, o, e, -, h0, h1, h2, h3, h4, h5, h6, h7⟩ := hent W h
          injection e with e
          injection e with e1 e2
          subst e1 e2
          exact ⟨h0, h1, h2, h3, h4, h5, h6, h7⟩
        have hwf := (HENT.out w (Below.refl _ _)).2.2.2.2.2.2.2
        have HWF := Lib.hid hwf
        obtain ⟨j0, -⟩ := HENT.out wr HB6.out
        obtain ⟨y0, y1, y2, y3, y4, y5, y6⟩ := y
        dsimp only at HENT j0 hst hsf
        clear hent hwf hxm
        have hql : Q.length ≤ n + x := hPl
        clear hPl
        generalize hqn : Q.length = lo at *
        have HQN := Lib.hid hqn
        clear hqn
        by_cases c1 : j - k + x < lo
        · have hql' : j - k + x < Q.length := by rw [HQN.out]; exact c1
          obtain ⟨b1, o1, rfl, g0⟩ := hown.sl.term (j - k + x) hql'
          rw [Lg.tm_eq Q _ hql'] at hst hsf
          generalize (Q[j - k + x]'hql').1 = te at *
          clear hql'
          have i1 : (0 : Int) ≤ (j : Int) - (k : Int) + (x : Int) := by omega
          have i2 : (j : Int) - (k : Int) + (x : Int) < (lo : Int) := by omega
          by_cases c2 : te = y0
          · subst c2
            obtain rfl := hst c1 rfl
            have e2 : (te == te) = true := by simp
            have HO := Lib.hid hown
            clear hst hsf hown
            go_wp2_with fail
            go_quiet (fail)
            go_wp2_with fail
            go_roundw
            case rel => exact ⟨x + 1, by omega, by go_num, by rw [HP1.out]; exact HO.out.drewN nq, below_drewN HBR.out nq⟩
            case measure => simp [intOf]; omega
          · obtain ⟨hle, hE⟩ := hsf (fun h => c2 h.2)
            have e2 : (te == y0) = false := by simpa using c2
            have hs2 := fun W => run_upto (some ⟨b1, o1, none⟩) lo co (j - k + x) ((j : Int) - (k : Int) + (x : Int)) (by omega) (by omega) W
            have HUP := Lib.hid (fun q => (hown.sl.drewN q).upto (j - k + x) hle)
            have hltk : (Q.take (j - k + x)).length = j - k + x := by rw [List.length_take, HQN.out]; omega
            have HLT := Lib.hid hltk
            have HE := Lib.hid hE
            clear hltk hE hst hsf hown
            generalize (if co = 0 then some ⟨b1, o1, none⟩ else (some ⟨b1, o1, none⟩ : Option Addr).map (·.add (0 * 7))) = A6 at *
            generalize Q.take (j - k + x) = Q2 at *
            have tok : True := trivial
            go_wp2_with fail
            go_quiet (fail)
            go_wp2_with (first
              | (at_builtin; have _t := tok; refine wpList_append_sl rfl _ (.tmp 89) rfl rowE w5.heap.size _ [] rfl (Own.nil _ _ _) wr.heap.size _ Q2 rfl (HUP.out nq) (by rw [HLT.out]; unfold maxLen; simp; omega) (by rw [HLT.out]; simp; omega) hz6 ?_; intro v8 w8 hown8 hg8 hat8; rw [List.nil_append] at hown8; have hb8 := below_of_own (below_drewN HBR.out nq) (Own.nil (wr.drewN nq) w5.heap.size 60 (α := E)) hg8 hz6; have HB8 := Lib.hid hb8; have hz8 := hb8.size; obtain ⟨g0, g1, g2, g3, g4, g5, g6, -⟩ := HENT.out w8 (HB5.out.trans (hb8.mono hz)); have HO8 := Lib.hid hown8; have HOA := Lib.hid (hown8.alloc (.cells (ec (y0, y1, y2, y3, y4, y5, y6)) 60)); have HN8 := Lib.hid (Sl.new1 (α := E) w8 60 (y0, y1, y2, y3, y4, y5, y6) (ec (y0, y1, y2, y3, y4, y5, y6)) HWF.out rfl); have HBA := Lib.hid (hb8.alloc hz8 (.cells (ec (y0, y1, y2, y3, y4, y5, y6)) 60)); clear hown8 hg8 hat8 hb8 tok)
              | (at_builtin; refine wpList_append_sl rfl (.tmp 91) (.tmp 96) rfl rowE w5.heap.size _ Q2 (by rfl) HOA.out (w8.heap.size + 1) _ [(y0, y1, y2, y3, y4, y5, y6)] (by rfl) HN8.out (by rw [HLT.out]; unfold maxLen; simp; omega) (by rw [HLT.out]; simp; omega) (by simp; omega) ?_; intro v9 w9 hown9 hg9 hat9; have HB9 := Lib.hid (below_of_own HBA.out HOA.out hg9 (by simp; omega)); rw [← HE.out] at hown9; have HO9 := Lib.hid hown9; clear hg9 hat9 hown9))
            go_roundw
            case rel => exact ⟨x + 1, by omega, by go_num, by rw [HP1.out]; exact HO9.out, HB9.out⟩
            case measure => simp [intOf]; omega
        · obtain ⟨hle, hE⟩ := hsf (fun h => c1 h.1)
          have d1 : decide ((j : Int) - (k : Int) + (x : Int) < (lo : Int)) = false := by simp; omega
          have hs2 := fun W => run_upto Ao lo co (j - k + x) ((j : Int) - (k : Int) + (x : Int)) (by omega) (by omega) W
          have HUP := Lib.hid (fun q => (hown.sl.drewN q).upto (j - k + x) hle)
          have hltk : (Q.take (j - k + x)).length = j - k + x := by rw [List.length_take, HQN.out]; omega
          have HLT := Lib.hid hltk
          have HE := Lib.hid hE
          clear hltk hE hst hsf hown
          generalize (if co = 0 then Ao else Ao.map (·.add (0 * 7))) = A6 at *
          generalize Q.take (j - k + x) = Q2 at *
          have tok : True := trivial
          go_wp2_with fail
          go_quiet (fail)
          go_wp2_with (first
            | (at_builtin; have _t := tok; refine wpList_append_sl rfl _ (.tmp 89) rfl rowE w5.heap.size _ [] rfl (Own.nil _ _ _) wr.heap.size _ Q2 rfl (HUP.out nq) (by rw [HLT.out]; unfold maxLen; simp; omega) (by rw [HLT.out]; simp; omega) hz6 ?_; intro v8 w8 hown8 hg8 hat8; rw [List.nil_append] at hown8; have hb8 := below_of_own (below_drewN HBR.out nq) (Own.nil (wr.drewN nq) w5.heap.size 60 (α := E)) hg8 hz6; have HB8 := Lib.hid hb8; have hz8 := hb8.size; obtain ⟨g0, g1, g2, g3, g4, g5, g6, -⟩ := HENT.out w8 (HB5.out.trans (hb8.mono hz)); have HO8 := Lib.hid hown8; have HOA := Lib.hid (hown8.alloc (.cells (ec (y0, y1, y2, y3, y4, y5, y6)) 60)); have HN8 := Lib.hid (Sl.new1 (α := E) w8 60 (y0, y1, y2, y3, y4, y5, y6) (ec (y0, y1, y2, y3, y4, y5, y6)) HWF.out rfl); have HBA := Lib.hid (hb8.alloc hz8 (.cells (ec (y0, y1, y2, y3, y4, y5, y6)) 60)); clear hown8 hg8 hat8 hb8 tok)
            | (at_builtin; refine wpList_append_sl rfl (.tmp 91) (.tmp 96) rfl rowE w5.heap.size _ Q2 (by rfl) HOA.out (w8.heap.size + 1) _ [(y0, y1, y2, y3, y4, y5, y6)] (by rfl) HN8.out (by rw [HLT.out]; unfold maxLen; simp; omega) (by rw [HLT.out]; simp; omega) (by simp; omega) ?_; intro v9 w9 hown9 hg9 hat9; have HB9 := Lib.hid (below_of_own HBA.out HOA.out hg9 (by simp; omega)); rw [← HE.out] at hown9; have HO9 := Lib.hid hown9; clear hg9 hat9 hown9))
          go_roundw
          case rel => exact ⟨x + 1, by omega, by go_num, by rw [HP1.out]; exact HO9.out, HB9.out⟩
          case measure => simp [intOf]; omega
      · obtain rfl : x = n2 := by omega
        have hX := HX.out
        generalize P x = Q at *
        have hql : Q.length ≤ n + x := hPl
        clear hPl
        generalize hqn : Q.length = lo at *
        clear k0 k1 k2
        obtain ⟨k0, k1, k2⟩ := (HW15.out.below HBR.out HW15.out.lt).c3
        obtain ⟨k3, k4, k5⟩ := (HW25.out.below HBR.out hz5).c3
        obtain ⟨f3, f4, f5⟩ := (HW25.out.below HBR.out hz5).f3
        have HWR := Lib.hid (HW25.out.below HBR.out hz5)
        have HO := Lib.hid hown
        clear hown
        by_cases h64 : 64 < lo
        · rw [if_pos h64] at hX
          subst hX
          go_wp2_with fail
          refine bodyPost_ret (results_log2 rfl rfl (HWR.out.set3 _ _ _)) rfl ?_
          exact ⟨_, rfl, SlS.nil _ _, below_set3 HB6.out (by omega) _ _ _⟩
        · rw [if_neg h64] at hX
          subst hX
          go_wp2_with fail
          refine bodyPost_ret (results_log2 rfl rfl (HWR.out.set3 _ _ _)) rfl ?_
          exact ⟨_, rfl, SlS.wide (((HO.out.set (p := ⟨w.heap.size + 1, 0, none⟩) (by simp; omega) _).set (p := ⟨w.heap.size + 1, 1, none⟩) (by simp; omega) _).set (p := ⟨w.heap.size + 1, 2, none⟩) (by simp; omega) _).slS (fun _ h _ => Nat.le_trans (by first | exact hz3 | exact hz) h), below_set3 HB6.out (by omega) _ _ _⟩
  · obtain rfl : X = (Lg.zero, 8) := HXW.out 8 (by rw [HWE3.out, if_pos c4]) (by decide)
    have e1 : (t1 != u) = true := by simpa using c4
    go_wp2_with fail
    refine bodyPost_ret (results_log2 rfl rfl (HW25.out.set3 _ _ _)) rfl ?_
    exact ⟨_, rfl, SlS.nil _ _, below_set3 HB5.out (by omega) _ _ _⟩
end Go.Proofs.YtjcljkbalpgfdaaGreat

/-
  What the reference's Grant answers.
-/




namespace Go.Proofs.YtjcljkbalpgfdaaGreat
open Go.RowKit

set_option maxRecDepth 100000 in
theorem rgrant_any (T V : Int) (b t : Int) (v : Value) (l : List E) (k f o m i u c : Int) (y : Bool) (A2 : Option Addr) (n2 c2 : Nat) (w : World) (B : Nat) (hB : B ≤ w.heap.size) (hv : Sl w B v l) :
    Calls Tryz.prog 47 #[bv T V, lv b t v, .agg (mc k f o m i u c y (.slice A2 n2 c2))] w (GrantOut w (Vt.grant (T, V) (Lg.last (b, t, l)) f m i u)) := by
  obtain ⟨A, d, rfl, hc, hm⟩ := hv.form
  unfold maxLen at hm
  have hb0 : Below w.heap.size w ((((w.alloc (.cells #[.int .i64 T, .int .i64 V] 23)).alloc (.cells #[.int .i64 b, .int .i64 t, .slice A l.length d] 26)).alloc (.cells (mc k f o m i u c y (.slice A2 n2 c2)) 41)).alloc (.cells #[.int .i64 0, .int .i64 0] 23)) :=
    ((((Below.refl _ _).alloc (Nat.le_refl _) _).alloc (by simp) _).alloc (by simp only [World.size_alloc]; omega) _).alloc (by simp only [World.size_alloc]; omega) _
  have HB := Lib.hid hb0
  have HL := Lib.hid (fun W (h : Below w.heap.size w W) => rlast_any b t _ l W B (Nat.le_trans hB h.size) (hv.below (h.mono hB)))
  have HW2 := Lib.hid (((Whole.new1 w (.cells #[.int .i64 T, .int .i64 V] 23) 26 #[.int .i64 b, .int .i64 t, .slice A l.length d]).alloc (.cells (mc k f o m i u c y (.slice A2 n2 c2)) 41)).alloc (.cells #[.int .i64 0, .int .i64 0] 23))
  have HW3 := Lib.hid ((Whole.new1 (w.alloc (.cells #[.int .i64 T, .int .i64 V] 23)) (.cells #[.int .i64 b, .int .i64 t, .slice A l.length d] 26) 41 (mc k f o m i u c y (.slice A2 n2 c2))).alloc (.cells #[.int .i64 0, .int .i64 0] 23))
  have HW4 := Lib.hid (Whole.new1 ((w.alloc (.cells #[.int .i64 T, .int .i64 V] 23)).alloc (.cells #[.int .i64 b, .int .i64 t, .slice A l.length d] 26)) (.cells (mc k f o m i u c y (.slice A2 n2 c2)) 41) 23 #[.int .i64 0, .int .i64 0])
  simp only [World.size_alloc] at HW3 HW4
  have HS := Lib.hid (fun W => rsee_any T V m W)
  have hyes := Lib.hid (@Vt.grant_yes (T, V) (Lg.last (b, t, l)) f m i u _ rfl)
  have hno := Lib.hid (@Vt.grant_no (T, V) (Lg.last (b, t, l)) f m i u _ rfl)
  have HN := Lib.hid (fun W => rnewer_any i u (Lg.last (b, t, l)).1 (Lg.last (b, t, l)).2 W)
  clear hv hb0
  generalize Vt.grant (T, V) (Lg.last (b, t, l)) f m i u = r at *
  generalize Vt.see (T, V) m = x at *
  obtain ⟨x1, x2⟩ := x
  unfold Vt.gives at hyes hno
  generalize Lg.newer i u (Lg.last (b, t, l)).1 (Lg.last (b, t, l)).2 = nw at *
  generalize Lg.last (b, t, l) = p at *
  obtain ⟨p1, p2⟩ := p
  generalize l.length = n at *
  simp only at hyes hno HN HS HL
  have hs0 : w.heap.size + 1 + 1 + 1 + 1 ≤ w.heap.size + 4 := by omega
  go_enter Tryz.func47, Tryz.ntmps47
  go_wp2_with fail
  with_reducible refine (HS.out _).mono ?_
  rintro e w5 ⟨rfl, hb5⟩
  have hl2 := HW2.out.lt
  have hl3 := HW3.out.lt
  have hl4 := HW4.out.lt
  have hz5 := hb5.size
  have hbb := HB.out.trans (hb5.mono HB.out.size)
  have HB5 := Lib.hid (hbb.alloc hbb.size (.cells #[.int .i64 x1, .int .i64 x2] 23))
  have HW25 := Lib.hid ((HW2.out.below hb5 hl2).alloc (.cells #[.int .i64 x1, .int .i64 x2] 23))
  have HW35 := Lib.hid ((HW3.out.below hb5 hl3).alloc (.cells #[.int .i64 x1, .int .i64 x2] 23))
  have HW45 := Lib.hid ((HW4.out.below hb5 hl4).alloc (.cells #[.int .i64 x1, .int .i64 x2] 23))
  have HWx := Lib.hid (Whole.new w5 23 #[.int .i64 x1, .int .i64 x2])
  simp only [World.size_alloc] at hl2 hl3 hl4 hz5
  clear hb5 hbb HB HW2 HW3 HW4 HS
  obtain ⟨k0, k1, k2⟩ := HW25.out.c3
  go_wp2_with fail
  with_reducible refine (HL.out _ HB5.out).mono ?_
  rintro e w6 ⟨rfl, hb6⟩
  have HB6 := Lib.hid (HB5.out.trans (hb6.mono HB5.out.size))
  have HW36 := Lib.hid (HW35.out.below hb6 HW35.out.lt)
  have HW46 := Lib.hid (HW45.out.below hb6 HW45.out.lt)
  have HWx6 := Lib.hid (HWx.out.below hb6 HWx.out.lt)
  clear hb6 HB5 HW25 HW35 HW45 HWx HL k0 k1 k2
  obtain ⟨k0, k1, k2, k3, k4, k5, k6, k7, k8⟩ := HW36.out.c9
  go_wp2_with fail
  with_reducible refine (HN.out _).mono ?_
  rintro e w7 ⟨rfl, hw7⟩
  subst hw7
  obtain ⟨j0, j1⟩ := HWx6.out.c2
  obtain ⟨g0, g1⟩ := HW46.out.f2
  obtain ⟨g2, g3⟩ := HWx6.out.f2
  obtain ⟨g4, g5⟩ := HW46.out.c2
  have HRY := Lib.hid ((HW46.out.far (p := ⟨w5.heap.size, 1, none⟩) (by simp only; omega) (.int .i64 f)).set2 (.int .i64 x1) (.int .i64 f))
  have HBY := Lib.hid (below_set2 (HB6.out.setCell (p := ⟨w5.heap.size, 1, none⟩) (by simp only; omega) (.int .i64 f)) (g := w.heap.size + 1 + 1 + 1) (by omega) (.int .i64 x1) (.int .i64 f))
  have HRN := Lib.hid (HW46.out.set2 (.int .i64 x1) (.int .i64 x2))
  have HBN := Lib.hid (below_set2 HB6.out (g := w.heap.size + 1 + 1 + 1) (by omega) (.int .i64 x1) (.int .i64 x2))
  by_cases d1 : m = x1
  · have e1 : (m != x1) = false := by simpa using d1
    have D1 := Lib.hid d1
    clear d1
    by_cases d2 : x2 = 0
    · have e2 : (x2 != 0) = false := by simpa using d2
      have D2 := Lib.hid d2
      clear d2
      by_cases d3 : f < 1
      · go_wp2_with fail
        refine bodyPost_ret (results_ballot2 rfl rfl HRN.out) rfl ?_
        have er := hno.out (fun h => by omega)
        subst er
        exact ⟨rfl, HBN.out⟩
      have e3 : decide (f < 1) = false := by simp; omega
      by_cases d4 : 16 < f
      · go_wp2_with fail
        refine bodyPost_ret (results_ballot2 rfl rfl HRN.out) rfl ?_
        have er := hno.out (fun h => by omega)
        subst er
        exact ⟨rfl, HBN.out⟩
      have e4 : decide (16 < f) = false := by simp; omega
      rcases nw with _ | _
      · go_wp2_with fail
        refine bodyPost_ret (results_ballot2 rfl rfl HRN.out) rfl ?_
        have er := hno.out (fun h => Bool.false_ne_true h.2.2.2.2)
        subst er
        exact ⟨rfl, HBN.out⟩
      · have er := hyes.out ⟨D1.out, .inl D2.out, by omega, by omega, rfl⟩
        subst er
        go_wp2_with fail
        refine bodyPost_ret (results_ballot2 rfl rfl HRY.out) rfl ?_
        exact ⟨rfl, HBY.out⟩
    · have e2 : (x2 != 0) = true := by simpa using d2
      by_cases d5 : x2 = f
      · have e5 : (x2 != f) = false := by simpa using d5
        have D5 := Lib.hid d5
        clear d5
        by_cases d3 : f < 1
        · go_wp2_with fail
          refine bodyPost_ret (results_ballot2 rfl rfl HRN.out) rfl ?_
          have er := hno.out (fun h => by omega)
          subst er
          exact ⟨rfl, HBN.out⟩
        have e3 : decide (f < 1) = false := by simp; omega
        by_cases d4 : 16 < f
        · go_wp2_with fail
          refine bodyPost_ret (results_ballot2 rfl rfl HRN.out) rfl ?_
          have er := hno.out (fun h => by omega)
          subst er
          exact ⟨rfl, HBN.out⟩
        have e4 : decide (16 < f) = false := by simp; omega
        rcases nw with _ | _
        · go_wp2_with fail
          refine bodyPost_ret (results_ballot2 rfl rfl HRN.out) rfl ?_
          have er := hno.out (fun h => Bool.false_ne_true h.2.2.2.2)
          subst er
          exact ⟨rfl, HBN.out⟩
        · have er := hyes.out ⟨D1.out, .inr D5.out, by omega, by omega, rfl⟩
          subst er
          go_wp2_with fail
          refine bodyPost_ret (results_ballot2 rfl rfl HRY.out) rfl ?_
          exact ⟨rfl, HBY.out⟩
      · have e5 : (x2 != f) = true := by simpa using d5
        go_wp2_with fail
        refine bodyPost_ret (results_ballot2 rfl rfl HRN.out) rfl ?_
        have er := hno.out (fun h => h.2.1.elim d2 d5)
        subst er
        exact ⟨rfl, HBN.out⟩
  · have e1 : (m != x1) = true := by simpa using d1
    go_wp2_with fail
    refine bodyPost_ret (results_ballot2 rfl rfl HRN.out) rfl ?_
    have er := hno.out (fun h => d1 h.1)
    subst er
    exact ⟨rfl, HBN.out⟩
end Go.Proofs.YtjcljkbalpgfdaaGreat
