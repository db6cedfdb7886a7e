/-
  EntriesGoes: two logs that are the same up to an entry, to which the same is added behind it, are the same up to the last one added.
-/
import Derived.Test.YtckcfmkpchoaeaaLawThere
import Derived.Test.YtckcfmkpchoaeaaPack
namespace Go.Proofs.Ytckcfmkpchoaeaa
open Go.RowKit

theorem term_at_front {l : List E} {n : Nat} (h : Lg.may (0, 0, l) = true) (hn : n ≤ l.length) : (Lg.term (0, 0, l) (n : Int)).2 = true := term_out h ⟨by omega, by simp; omega⟩
theorem Lg.Added.at0 {u : Int} {l m L : List E} {n a : Nat} (h : Lg.Added 0 0 (n : Int) u l m L a) : a = n := by have := h.at_; omega

set_option maxRecDepth 100000 in
theorem goes_big (w : World) (A1 A2 A3 A4 : Option Addr) (nh na nb n2 c1 c2 c3 c4 : Nat) (hs : ¬ (nh ≤ 60 ∧ na ≤ 60 ∧ nb ≤ 60 ∧ n2 ≤ 60)) :
    Calls Try.prog 7 #[.slice A1 nh c1, .slice A2 na c2, .slice A3 nb c3, .slice A4 n2 c4] w fun e w' => e = .returned (.bool true) ∧ Below w.heap.size w w' := by
  have HK := Lib.hid (awake_any w)
  have hx : (60 < nh) ∨ (decide ((60 : Int) < (nh : Int)) = false ∧ 60 < na) ∨ (decide ((60 : Int) < (nh : Int)) = false ∧ decide ((60 : Int) < (na : Int)) = false ∧ 60 < nb) ∨ (decide ((60 : Int) < (nh : Int)) = false ∧ decide ((60 : Int) < (na : Int)) = false ∧ decide ((60 : Int) < (nb : Int)) = false ∧ 60 < n2) := by
    simp only [decide_eq_false_iff_not]; omega
  clear hs
  rcases hx with h1 | ⟨h1, h2⟩ | ⟨h1, h2, h3⟩ | ⟨h1, h2, h3, h4⟩
  all_goals
    go_enter Try.func7, Try.ntmps7
    go_wp2_with fail
    with_reducible refine HK.out.mono ?_
    rintro e w1 ⟨rfl, hb1⟩
    have HB1 := Lib.hid hb1
    clear hb1
    go_wp2_with fail
    go_ret
    exact ⟨rfl, HB1.out⟩

set_option maxRecDepth 100000 in
set_option maxHeartbeats 3200000 in
theorem goes_law (w : World) (v1 v2 v3 v4 : Value) (h a b m : List E) (hv1 : Sl w w.heap.size v1 h) (hv2 : Sl w w.heap.size v2 a) (hv3 : Sl w w.heap.size v3 b) (hv4 : Sl w w.heap.size v4 m) :
    Calls Try.prog 7 #[v1, v2, v3, v4] w fun e w' => e = .returned (.bool true) ∧ Below w.heap.size w w' := by
  obtain ⟨A1, c1, rfl, -, -⟩ := hv1.form
  obtain ⟨A2, c2, rfl, -, -⟩ := hv2.form
  obtain ⟨A3, c3, rfl, -, -⟩ := hv3.form
  obtain ⟨A4, c4, rfl, hc4, hm4⟩ := hv4.form
  unfold maxLen at hm4
  by_cases hs : h.length ≤ 60 ∧ a.length ≤ 60 ∧ b.length ≤ 60 ∧ m.length ≤ 60
  case neg => exact goes_big w A1 A2 A3 A4 _ _ _ _ c1 c2 c3 c4 hs
  obtain ⟨s1, s2, s3, s4⟩ := hs
  have HK := Lib.hid (awake_any w)
  have HV1 := Lib.hid (fun W (hW : Below w.heap.size w W) => hv1.below hW)
  have HV2 := Lib.hid (fun W (hW : Below w.heap.size w W) => hv2.below hW)
  have HV3 := Lib.hid (fun W (hW : Below w.heap.size w W) => hv3.below hW)
  have HM := Lib.hid (fun W (hW : Below w.heap.size w W) => hv4.below hW)
  clear hv1 hv2 hv3 hv4
  -- what the two logs are told
  have hlx : (h ++ a).length = h.length + a.length := List.length_append
  have hly : (h ++ b).length = h.length + b.length := List.length_append
  have HTF := Lib.hid (fun hm => @term_at_front (h ++ a) h.length hm (by omega))
  have HADx := Lib.hid (fun u => @Lg.added 0 0 (h.length : Int) u (h ++ a) m)
  have HADy := Lib.hid (fun u => @Lg.added 0 0 (h.length : Int) u (h ++ b) m)
  have HMX := Lib.hid (fun W v (hs : Sl W W.heap.size v (h ++ a)) => may_any 0 0 v (h ++ a) W _ (Nat.le_refl _) hs)
  have HMY := Lib.hid (fun W v (hs : Sl W W.heap.size v (h ++ b)) => may_any 0 0 v (h ++ b) W _ (Nat.le_refl _) hs)
  have HTX := Lib.hid (fun W v (hs : Sl W W.heap.size v (h ++ a)) => term_any 0 0 (h.length : Int) (by omega) v (h ++ a) W _ (Nat.le_refl _) hs)
  have HAX := Lib.hid (fun u W v (hs : Sl W W.heap.size v (h ++ a)) (hW : Below w.heap.size w W) => add_any 0 0 (h.length : Int) u (by omega) v _ (h ++ a) m (by omega) W _ (Nat.le_refl _) hs (HM.out W hW).here)
  have HAY := Lib.hid (fun u W v (hs : Sl W W.heap.size v (h ++ b)) (hW : Below w.heap.size w W) => add_any 0 0 (h.length : Int) u (by omega) v _ (h ++ b) m (by omega) W _ (Nat.le_refl _) hs (HM.out W hW).here)
  have HFX := Lib.hid (fun L W v (hs : Sl W W.heap.size v L) => from_any 0 0 1 (h.length : Int) (by omega) v L W _ (Nat.le_refl _) hs)
  have HTL := Lib.hid (fun (x : Nat) (hx : x ≤ 1000) L W v (hs : Sl W W.heap.size v L) => term_any 0 0 (x : Int) (by omega) v L W _ (Nat.le_refl _) hs)
  have HTK1 : Hid ((h ++ a).take h.length = h) := List.take_left
  have HTK2 : Hid ((h ++ b).take h.length = h) := List.take_left
  generalize hxe : h ++ a = lx at *
  generalize hye : h ++ b = ly at *
  have HXE := Lib.hid hxe
  have HYE := Lib.hid hye
  have HLX := Lib.hid hlx
  have HLY := Lib.hid hly
  clear hxe hye hlx hly
  generalize hnh : h.length = nh at *
  generalize hna : a.length = na at *
  generalize hnb : b.length = nb at *
  generalize hn2 : m.length = n2 at *
  have HNH := Lib.hid hnh
  have HNA := Lib.hid hna
  have HNB := Lib.hid hnb
  have HN2 := Lib.hid hn2
  clear hnh hna hnb hn2
  go_enter Try.func7, Try.ntmps7
  go_wp2_with fail
  with_reducible refine HK.out.mono ?_
  rintro e w1 ⟨rfl, hb1⟩
  have HB1 := Lib.hid hb1
  clear hb1 HK
  have tok1 : True := trivial
  have tok2 : True := trivial
  have tok3 : True := trivial
  have tok4 : True := trivial
  go_wp2_with (first
    | (at_builtin; have _t := tok1; refine wpList_append_sl rfl _ (.tmp 49) rfl rowE w1.heap.size _ [] rfl (Own.nil _ _ _) w.heap.size _ h rfl (HV1.out w1 HB1.out) (by rw [HNH.out]; unfold maxLen; simp; omega) (by rw [HNH.out]; simp; omega) (Nat.le_refl _) ?_; intro v5 w5 hown5 hg5 hat5; rw [List.nil_append] at hown5; have hb5 := below_of_own (Below.refl w1.heap.size w1) (Own.nil w1 w1.heap.size 44 (α := E)) hg5 (Nat.le_refl _); have HB5 := Lib.hid hb5; have HO5 := Lib.hid hown5; clear hown5 hg5 hat5 hb5 tok1)
    | (at_builtin; have _t := tok2; refine wpList_append_sl rfl (.tmp 50) (.tmp 51) rfl rowE w1.heap.size _ h rfl HO5.out w.heap.size _ a rfl (HV2.out w5 (HB1.out.trans (HB5.out.mono HB1.out.size))) (by rw [HNH.out, HNA.out]; unfold maxLen; omega) (by rw [HNH.out, HNA.out]; omega) HB5.out.size ?_; intro v6 w6 hown6 hg6 hat6; rw [HXE.out] at hown6; have hb6 := HB1.out.trans ((below_of_own HB5.out HO5.out hg6 HB5.out.size).mono HB1.out.size); obtain ⟨A6, c6, hv6, -, -⟩ := hown6.sl.form; rw [HLX.out] at hv6; subst hv6; have HB6 := Lib.hid (hb6.alloc hb6.size (.cells #[.int .i64 0, .int .i64 0, .slice A6 (nh + na) c6] 24)); have HW6 := Lib.hid (Whole.new w6 24 #[.int .i64 0, .int .i64 0, .slice A6 (nh + na) c6]); have HS6 := Lib.hid (hown6.sl.below ((Below.refl _ _).alloc (Nat.le_refl _) (.cells #[.int .i64 0, .int .i64 0, .slice A6 (nh + na) c6] 24))); clear hown6 hg6 hat6 hb6 tok2)
    | (at_builtin; have _t := tok3; refine wpList_append_sl rfl _ (.tmp 54) rfl rowE (w6.heap.size + 1) _ [] rfl (Own.nil _ _ _) w.heap.size _ h rfl (HV1.out _ HB6.out) (by rw [HNH.out]; unfold maxLen; simp; omega) (by rw [HNH.out]; simp; omega) (by simp) ?_; intro v7 w7 hown7 hg7 hat7; rw [List.nil_append] at hown7; have hb7 := below_of_own (Below.refl (w6.heap.size + 1) (w6.alloc (.cells #[.int .i64 0, .int .i64 0, .slice A6 (nh + na) c6] 24))) (Own.nil (w6.alloc (.cells #[.int .i64 0, .int .i64 0, .slice A6 (nh + na) c6] 24)) (w6.heap.size + 1) 44 (α := E)) hg7 (by simp); have HB7 := Lib.hid hb7; have HO7 := Lib.hid hown7; have hz7 : w6.heap.size + 1 ≤ w7.heap.size := (by have := hb7.size; simp at this; omega); clear hown7 hg7 hat7 hb7 tok3)
    | (at_builtin; have _t := tok4; refine wpList_append_sl rfl (.tmp 55) (.tmp 56) rfl rowE (w6.heap.size + 1) _ h rfl HO7.out w.heap.size _ b rfl (HV3.out w7 (HB6.out.trans (HB7.out.mono (by have := HB6.out.size; simp at this; omega)))) (by rw [HNH.out, HNB.out]; unfold maxLen; omega) (by rw [HNH.out, HNB.out]; omega) hz7 ?_; intro v8 w8 hown8 hg8 hat8; rw [HYE.out] at hown8; have hb8 := below_of_own HB7.out HO7.out hg8 hz7; have hz8 : w6.heap.size + 1 ≤ w8.heap.size := (by have := hb8.size; simp at this; omega); obtain ⟨A8, c8, hv8, -, -⟩ := hown8.sl.form; rw [HLY.out] at hv8; subst hv8; have HB89 := Lib.hid (hb8.alloc hz8 (.cells #[.int .i64 0, .int .i64 0, .slice A8 (nh + nb) c8] 24)); have HB9 := Lib.hid (HB6.out.trans (HB89.out.mono (by have := HB6.out.size; simp at this; omega))); have HWx := Lib.hid (HW6.out.below HB89.out (Nat.lt_succ_self _)); have HWy := Lib.hid (Whole.new w8 24 #[.int .i64 0, .int .i64 0, .slice A8 (nh + nb) c8]); have HSy := Lib.hid (hown8.sl.below ((Below.refl _ _).alloc (Nat.le_refl _) (.cells #[.int .i64 0, .int .i64 0, .slice A8 (nh + nb) c8] 24))).here; have HSx := Lib.hid ((HS6.out.mono (Nat.le_succ _)).below HB89.out).here; obtain ⟨k0, k1, k2⟩ := HWx.out.c3; clear hown8 hg8 hat8 hb8 tok4))
  clear HB1 HB5 HO5 HB6 HW6 HS6 HB7 HO7 hz7 HB89 HV1 HV2 HV3 k0 k1 k2
  generalize w8.alloc (.cells #[.int .i64 0, .int .i64 0, .slice A8 (nh + nb) c8] 24) = w9 at *
  generalize w6.heap.size = gx at *
  generalize w8.heap.size = gy at *
  clear hz8
  with_reducible refine (HMX.out w9 _ HSx.out).mono ?_
  rintro e w10 ⟨rfl, hb10⟩
  have HB10 := Lib.hid (HB9.out.trans (hb10.mono HB9.out.size))
  have HWx10 := Lib.hid (HWx.out.below hb10 HWx.out.lt)
  have HWy10 := Lib.hid (HWy.out.below hb10 HWy.out.lt)
  have HSx10 := Lib.hid ((HSx.out.below hb10).mono hb10.size)
  have HSy10 := Lib.hid ((HSy.out.below hb10).mono hb10.size)
  clear hb10 HB9 HWx HWy HSx HSy HMX
  obtain ⟨j0, j1, j2⟩ := HWy10.out.c3
  generalize hmx : Lg.may (0, 0, lx) = mx at *
  rcases mx with _ | _
  · clear hmx
    go_wp2_with fail
    go_ret
    exact ⟨rfl, HB10.out⟩
  clear hmx
  go_wp2_with fail
  with_reducible refine (HMY.out w10 _ HSy10.out).mono ?_
  rintro e w11 ⟨rfl, hb11⟩
  have HB11 := Lib.hid (HB10.out.trans (hb11.mono HB10.out.size))
  have HWx11 := Lib.hid (HWx10.out.below hb11 HWx10.out.lt)
  have HWy11 := Lib.hid (HWy10.out.below hb11 HWy10.out.lt)
  have HSx11 := Lib.hid ((HSx10.out.below hb11).mono hb11.size)
  have HSy11 := Lib.hid ((HSy10.out.below hb11).mono hb11.size)
  clear hb11 HB10 HWx10 HWy10 HSx10 HSy10 HMY j0 j1 j2
  obtain ⟨k0, k1, k2⟩ := HWx11.out.c3
  generalize hmy : Lg.may (0, 0, ly) = my at *
  rcases my with _ | _
  · clear hmy
    go_wp2_with fail
    go_ret
    exact ⟨rfl, HB11.out⟩
  clear hmy
  go_wp2_with fail
  with_reducible refine (HTX.out w11 _ HSx11.out).mono ?_
  rintro e w12 ⟨rfl, hb12⟩
  have HB12 := Lib.hid (HB11.out.trans (hb12.mono HB11.out.size))
  have HWx12 := Lib.hid (HWx11.out.below hb12 HWx11.out.lt)
  have HWy12 := Lib.hid (HWy11.out.below hb12 HWy11.out.lt)
  have HSx12 := Lib.hid ((HSx11.out.below hb12).mono hb12.size)
  have HSy12 := Lib.hid ((HSy11.out.below hb12).mono hb12.size)
  clear hb12 HB11 HWx11 HWy11 HSx11 HSy11 HTX k0 k1 k2
  obtain ⟨k0, k1, k2⟩ := HWx12.out.c3
  generalize Lg.term (0, 0, lx) (nh : Int) = T at *
  obtain ⟨u, t2⟩ := T
  have HAX2 := Lib.hid (HAX.out u)
  have HAY2 := Lib.hid (HAY.out u)
  have HADx2 := Lib.hid (HADx.out u)
  have HADy2 := Lib.hid (HADy.out u)
  clear HAX HAY HADx HADy HTF
  generalize hX : Lg.add (0, 0, lx) (nh : Int) u m = X at *
  generalize hY : Lg.add (0, 0, ly) (nh : Int) u m = Y at *
  have HX := Lib.hid hX
  have HY := Lib.hid hY
  clear hX hY
  obtain ⟨⟨xb, xt, xl⟩, xe⟩ := X
  obtain ⟨⟨yb, yt, yl⟩, ye⟩ := Y
  simp only
  go_wp2_with fail
  with_reducible refine (HAX2.out w12 _ HSx12.out HB12.out).mono ?_
  rintro e w13 ⟨v13, rfl, hs13, hb13⟩
  obtain ⟨Ap, cp, rfl, -, -⟩ := hs13.form
  simp only at hs13 ⊢
  have hbb := HB12.out.trans (hb13.mono HB12.out.size)
  have HB13 := Lib.hid (hbb.alloc hbb.size (.cells #[.int .i64 xb, .int .i64 xt, .slice Ap xl.length cp] 24))
  have HWy13 := Lib.hid ((HWy12.out.below hb13 HWy12.out.lt).alloc (.cells #[.int .i64 xb, .int .i64 xt, .slice Ap xl.length cp] 24))
  have HWp13 := Lib.hid (Whole.new w13 24 #[.int .i64 xb, .int .i64 xt, .slice Ap xl.length cp])
  have HSy13 := Lib.hid ((HSy12.out.below hb13).mono hb13.size |>.below ((Below.refl _ _).alloc (Nat.le_refl _) (.cells #[.int .i64 xb, .int .i64 xt, .slice Ap xl.length cp] 24))).here
  have HSp13 := Lib.hid (hs13.here.below ((Below.refl _ _).alloc (Nat.le_refl _) (.cells #[.int .i64 xb, .int .i64 xt, .slice Ap xl.length cp] 24))).here
  clear hs13 hb13 hbb HB12 HWx12 HWy12 HSx12 HSy12 HAX2 k0 k1 k2
  obtain ⟨j0, j1, j2⟩ := HWy13.out.c3
  go_wp2_with fail
  with_reducible refine (HAY2.out _ _ HSy13.out HB13.out).mono ?_
  rintro e w14 ⟨v14, rfl, hs14, hb14⟩
  obtain ⟨Aq, cq, rfl, -, -⟩ := hs14.form
  simp only at hs14 ⊢
  have hbb := HB13.out.trans (hb14.mono HB13.out.size)
  have HB14 := Lib.hid (hbb.alloc hbb.size (.cells #[.int .i64 yb, .int .i64 yt, .slice Aq yl.length cq] 24))
  have HWp14 := Lib.hid ((HWp13.out.below hb14 HWp13.out.lt).alloc (.cells #[.int .i64 yb, .int .i64 yt, .slice Aq yl.length cq] 24))
  have HWq14 := Lib.hid (Whole.new w14 24 #[.int .i64 yb, .int .i64 yt, .slice Aq yl.length cq])
  have HSp14 := Lib.hid ((HSp13.out.below hb14).mono hb14.size |>.below ((Below.refl _ _).alloc (Nat.le_refl _) (.cells #[.int .i64 yb, .int .i64 yt, .slice Aq yl.length cq] 24))).here
  have HSq14 := Lib.hid (hs14.here.below ((Below.refl _ _).alloc (Nat.le_refl _) (.cells #[.int .i64 yb, .int .i64 yt, .slice Aq yl.length cq] 24))).here
  clear hs14 hb14 hbb HB13 HWy13 HWp13 HSy13 HSp13 HAY2 j0 j1 j2
  generalize hxl : xl.length = px at *
  generalize hyl : yl.length = py at *
  clear hxl hyl
  by_cases hx0 : xe = 0
  case neg =>
    have e1 : (xe != 0) = true := by simpa using hx0
    go_wp2_with fail
    go_ret
    exact ⟨rfl, HB14.out⟩
  subst hx0
  by_cases hy0 : ye = 0
  case neg =>
    have e1 : (ye != 0) = true := by simpa using hy0
    go_wp2_with fail
    go_ret
    exact ⟨rfl, HB14.out⟩
  subst hy0
  obtain ⟨Lx, ax, hAx⟩ := HADx2.out rfl
  obtain ⟨Ly, ay, hAy⟩ := HADy2.out rfl
  have hex := hAx.eq
  have hey := hAy.eq
  rw [HX.out] at hex
  rw [HY.out] at hey
  injection hex with hex _
  injection hex with e1 hex
  injection hex with e2 e3
  injection hey with hey _
  injection hey with e4 hey
  injection hey with e5 e6
  subst e1 e2 e3 e4 e5 e6
  have ha1 : nh = ax := hAx.at0.symm
  subst ha1
  have ha2 : nh = ay := hAy.at0.symm
  subst ha2
  have hHX := fun (x : Nat) (hx : x < m.length) => hAx.has hx
  have hHY := fun (x : Nat) (hx : x < m.length) => hAy.has hx
  have hfx : Lg.from_ (0, 0, xl) 1 (nh : Int) = h := by
    have := Lg.from_front hAx.may2 hAx.le2
    rw [hAx.ahead, HTK1.out] at this
    exact this
  have hfy : Lg.from_ (0, 0, yl) 1 (nh : Int) = h := by
    have := Lg.from_front hAy.may2 hAy.le2
    rw [hAy.ahead, HTK2.out] at this
    exact this
  have hFP := HFX.out xl
  have hFQ := HFX.out yl
  rw [hfx] at hFP
  rw [hfy] at hFQ
  have HFP := Lib.hid (fun W hs => hFP W (.slice Ap px cp) hs)
  have HFQ := Lib.hid (fun W hs => hFQ W (.slice Aq py cq) hs)
  have HHX := Lib.hid hHX
  have HHY := Lib.hid hHY
  have HTP := Lib.hid (fun (x : Nat) (hx : x ≤ 1000) W hs => HTL.out x hx xl W (.slice Ap px cp) hs)
  have HTQ := Lib.hid (fun (x : Nat) (hx : x ≤ 1000) W hs => HTL.out x hx yl W (.slice Aq py cq) hs)
  clear hAx hAy hHX hHY hfx hfy hFP hFQ HFX HTL HTK1 HTK2 HADx2 HADy2 HX HY HXE HYE HLX HLY HNA HNB
  go_wp2_with fail
  generalize w14.alloc (.cells #[.int .i64 0, .int .i64 0, .slice Aq py cq] 24) = w15 at *
  generalize w13.heap.size = gp at *
  generalize w14.heap.size = gq at *
  go_loopw [19] (fun x wr => ∃ cn : Nat, nh + 1 ≤ cn ∧ cn ≤ nh + n2 + 1 ∧ x = .int .i64 (cn : Int) ∧ Below w15.heap.size w15 wr) (fun x _ => nh + n2 + 1 - (intOf x).toNat)
  case atStart => exact ⟨nh + 1, by omega, by omega, by go_num, Below.refl _ _⟩
  case round =>
    obtain ⟨cn, hc1, hc2, rfl, hb⟩ := hrel
    have HBw := Lib.hid hb
    have HBr := Lib.hid (HB14.out.trans (hb.mono HB14.out.size))
    have HPr := Lib.hid (HWp14.out.below hb HWp14.out.lt)
    have HQr := Lib.hid (HWq14.out.below hb HWq14.out.lt)
    have HSPr := Lib.hid ((HSp14.out.below hb).mono hb.size)
    have HSQr := Lib.hid ((HSq14.out.below hb).mono hb.size)
    clear hb
    by_cases hlt : cn ≤ nh + n2
    · have hxm : cn - nh - 1 < m.length := by rw [HN2.out]; omega
      have hcn : ((nh : Int) + 1 + ((cn - nh - 1 : Nat) : Int)) = (cn : Int) := by omega
      have hhx := HHX.out (cn - nh - 1) hxm
      have hhy := HHY.out (cn - nh - 1) hxm
      rw [hcn, Lg.tm_eq _ _ hxm] at hhx hhy
      have htp := HTP.out cn (by omega) wr HSPr.out
      have htq := Lib.hid (fun W hs => HTQ.out cn (by omega) W hs)
      rw [hhx] at htp
      rw [hhy] at htq
      obtain ⟨b2, o2, rfl, -⟩ := (HM.out wr HBr.out).term (cn - nh - 1) hxm
      have hme := Lib.hid (fun W (h : Below w.heap.size w W) => (HM.out W h).term (cn - nh - 1) hxm)
      have HT2 := Lib.hid htp
      clear hhx hhy htp hcn
      generalize (m[cn - nh - 1]'hxm).1 = y at *
      clear hxm
      obtain ⟨j0, j1, j2⟩ := HPr.out.c3
      have x1 : (0 : Int) ≤ (cn : Int) := by omega
      go_wp2_with fail
      with_reducible refine HT2.out.mono ?_
      rintro e w16 ⟨rfl, hb16⟩
      have HB16 := Lib.hid (HBr.out.trans (hb16.mono HBr.out.size))
      have HBw16 := Lib.hid (HBw.out.trans (hb16.mono HBw.out.size))
      have HSQ16 := Lib.hid ((HSQr.out.below hb16).mono hb16.size)
      have HQ16 := Lib.hid (HQr.out.below hb16 HQr.out.lt)
      clear hb16 HT2 j0 j1 j2
      obtain ⟨k0, k1, k2⟩ := HQ16.out.c3
      simp only
      go_wp2_with fail
      with_reducible refine (htq.out _ HSQ16.out).mono ?_
      rintro e w17 ⟨rfl, hb17⟩
      obtain ⟨b3, o3, e3, g0⟩ := hme.out w17 (HB16.out.trans (hb17.mono HB16.out.size))
      injection e3 with e3
      injection e3 with e3 e4
      subst e3 e4
      have HB17 := Lib.hid (HBw16.out.trans (hb17.mono HBw16.out.size))
      have ey : (y != y) = false := by simp
      have x2 : (0 : Int) ≤ (cn : Int) - (nh : Int) - 1 := by omega
      have x3 : (cn : Int) - (nh : Int) - 1 < (n2 : Int) := by omega
      clear hb17 hme htq k0 k1 k2
      simp only
      go_wp2_with fail
      go_roundw
      case rel => exact ⟨cn + 1, by omega, by omega, by go_num, HB17.out⟩
      case measure => simp [intOf]; omega
    · clear HHX HHY HTP HTQ HM
      have hcn : cn = nh + n2 + 1 := by omega
      have hcni : (nh : Int) + (n2 : Int) < (cn : Int) := by omega
      clear hcn
      have HSPd := Lib.hid (show Sl wr.drew wr.drew.heap.size (.slice Ap px cp) xl from HSPr.out.drew)
      have HSQd := Lib.hid (show Sl wr.drew wr.drew.heap.size (.slice Aq py cq) yl from HSQr.out.drew)
      go_wp2_with fail
      refine b_start wr.heap.size (by kernel_rfl) ?_
      refine b_take (i := 0) (v := ?_) rfl (by kernel_rfl) (by kernel_rfl) (by kernel_rfl) (fun _ _ _ h => h) (by rfl) ?_ ?_
      rotate_left
      · intro W hW
        obtain ⟨j0, j1, j2⟩ := ((show Whole wr.drew _ _ _ from HPr.out).below hW HPr.out.lt).c3
        go_simp
        first | done | rfl
      simp only [Act.put, List.setIfInBounds_toArray, List.set_cons_zero, List.set_cons_succ, List.getElem_toArray, List.getElem_cons_zero]
      refine b_take (i := 1) (v := ?_) rfl (by kernel_rfl) (by kernel_rfl) (by kernel_rfl) (fun _ _ _ h => h) (by rfl) ?_ ?_
      rotate_left
      · intro W hW
        go_simp
        first | done | rfl
      simp only [Act.put, List.setIfInBounds_toArray, List.set_cons_zero, List.set_cons_succ, List.getElem_toArray, List.getElem_cons_zero, List.getElem_cons_succ]
      refine b_take (i := 2) (v := ?_) rfl (by kernel_rfl) (by kernel_rfl) (by kernel_rfl) (fun _ _ _ h => h) (by rfl) ?_ ?_
      rotate_left
      · intro W hW
        go_simp
        first | done | rfl
      simp only [Act.put, List.setIfInBounds_toArray, List.set_cons_zero, List.set_cons_succ, List.getElem_toArray, List.getElem_cons_zero, List.getElem_cons_succ]
      refine b_take (i := 4) (v := ?_) rfl (by kernel_rfl) (by kernel_rfl) (by kernel_rfl) (fun _ _ _ h => h) (by rfl) ?_ ?_
      rotate_left
      · intro W hW
        obtain ⟨k0, k1, k2⟩ := ((show Whole wr.drew _ _ _ from HQr.out).below hW HQr.out.lt).c3
        go_simp
        first | done | rfl
      simp only [Act.put, List.setIfInBounds_toArray, List.set_cons_zero, List.set_cons_succ, List.getElem_toArray, List.getElem_cons_zero, List.getElem_cons_succ]
      refine b_take (i := 5) (v := ?_) rfl (by kernel_rfl) (by kernel_rfl) (by kernel_rfl) (fun _ _ _ h => h) (by rfl) ?_ ?_
      rotate_left
      · intro W hW
        go_simp
        first | done | rfl
      simp only [Act.put, List.setIfInBounds_toArray, List.set_cons_zero, List.set_cons_succ, List.getElem_toArray, List.getElem_cons_zero, List.getElem_cons_succ]
      refine b_take (i := 6) (v := ?_) rfl (by kernel_rfl) (by kernel_rfl) (by kernel_rfl) (fun _ _ _ h => h) (by rfl) ?_ ?_
      rotate_left
      · intro W hW
        go_simp
        first | done | rfl
      simp only [Act.put, List.setIfInBounds_toArray, List.set_cons_zero, List.set_cons_succ, List.getElem_toArray, List.getElem_cons_zero, List.getElem_cons_succ]
      refine b_one (i := 3) (by kernel_rfl) ?_
      refine one_call (i := 3) (f := 16) (args := ?_) rfl (by rfl) ?_ ?_
      rotate_left
      · go_simp
        first | done | rfl
      with_reducible refine (HFP.out wr.drew HSPd.out).mono ?_
      rintro e w7 ⟨A7, c7, rfl, ho7, hb7⟩
      refine ⟨_, rfl, hb7, ?_⟩
      have HB7 := Lib.hid (HBr.out.drew.trans (hb7.mono HBr.out.size))
      have HS7 := Lib.hid ho7.sl
      have HSQ7 := Lib.hid (HSQd.out.below hb7).here
      clear ho7
      simp only [Act.put, List.setIfInBounds_toArray, List.set_cons_zero, List.set_cons_succ, List.getElem_toArray, List.getElem_cons_zero, List.getElem_cons_succ]
      refine b_one (i := 7) (by kernel_rfl) ?_
      refine one_call (i := 7) (f := 16) (args := ?_) rfl (by rfl) ?_ ?_
      rotate_left
      · go_simp
        first | done | rfl
      with_reducible refine (HFQ.out _ HSQ7.out).mono ?_
      rintro e w8 ⟨A8, c8, rfl, ho8, hb8⟩
      refine ⟨_, rfl, hb8.mono hb7.size, ?_⟩
      have HB8 := Lib.hid (HB7.out.trans (hb8.mono HB7.out.size))
      have HS8 := Lib.hid ho8.sl
      have HS78 := Lib.hid ((HS7.out.below hb8).mono hb8.size)
      have hz8 := Nat.le_trans hb7.size hb8.size
      clear ho8 hb7 hb8 HS7 HB7
      simp only [Act.put, List.setIfInBounds_toArray, List.set_cons_zero, List.set_cons_succ, List.getElem_toArray, List.getElem_cons_zero, List.getElem_cons_succ]
      refine b_one (i := 8) (by kernel_rfl) ?_
      refine one_call (i := 8) (f := 15) (args := ?_) rfl (by rfl) ?_ ?_
      rotate_left
      · go_simp
        first | done | rfl
      with_reducible refine (same_any _ _ _ _ _ (Nat.le_refl _) HS78.out HS8.out).mono ?_
      rintro e w9 ⟨rfl, hb9⟩
      refine ⟨_, rfl, hb9.mono hz8, ?_⟩
      have HB9 := Lib.hid (HB8.out.trans (hb9.mono HB8.out.size))
      clear hb9 HB8 HS78 HS8 hz8
      simp only [Act.put, List.setIfInBounds_toArray, List.set_cons_zero, List.set_cons_succ, List.getElem_toArray, List.getElem_cons_zero, List.getElem_cons_succ]
      refine b_take (i := 9) (v := ?_) rfl (by kernel_rfl) (by kernel_rfl) (by kernel_rfl) (fun _ _ _ h => h) (by rfl) ?_ ?_
      rotate_left
      · intro W hW
        go_simp
        first | done | rfl
      simp only [Act.put, List.setIfInBounds_toArray, List.set_cons_zero, List.set_cons_succ, List.getElem_toArray, List.getElem_cons_zero, List.getElem_cons_succ]
      refine b_done (by kernel_rfl) ?_
      go_wp2_with fail
      go_ret
      exact ⟨rfl, HB9.out⟩
end Go.Proofs.Ytckcfmkpchoaeaa
