/-
  RaftDeaf is true of every input.
-/
import Derived.Test.YtjcljkbalpgfdaaM10
import Derived.Test.YtjcljkbalpgfdaaM22
import Derived.Test.YtjcljkbalpgfdaaM27
import Derived.Test.YtjcljkbalpgfdaaM28
import Derived.BigQuiet
namespace Go.Proofs.Ytjcljkbalpgfdaa
open Go.RowKit

set_option maxRecDepth 100000 in
set_option maxHeartbeats 8000000 in
theorem deaf_law (w : World) (id many b1 b2 l1 l2 : Int) (v : Value) (l : List E) (hv : Sl w w.heap.size v l) (k f o t i u cm : Int) (y : Bool) (vx : Value) (L : List E) (hx : Sl w w.heap.size vx L) (hii : -9223372036854775808 ≤ i ∧ i ≤ 9223372036854775807) :
    Calls Try.prog 4 #[.int .i64 id, .int .i64 many, bv b1 b2, lv l1 l2 v, .agg (mc k f o t i u cm y vx)] w fun e w' => e = .returned (.bool true) ∧ Below w.heap.size w w' := by
  obtain ⟨A, c, rfl, hc, hm⟩ := hv.form
  obtain ⟨A2, c2, rfl, hc2, hm2⟩ := hx.form
  unfold maxLen at hm hm2
  have hb0 : Below w.heap.size w (((w.alloc (.cells #[.int .i64 b1, .int .i64 b2] 23)).alloc (.cells #[.int .i64 l1, .int .i64 l2, .slice A l.length c] 26)).alloc (.cells (mc k f o t i u cm y (.slice A2 L.length c2)) 41)) := (((Below.refl _ _).alloc (Nat.le_refl _) _).alloc (by simp) _).alloc (by simp only [World.size_alloc]; omega) _
  have H0 := Lib.hid hb0
  have HM := Lib.hid (((Whole.new w 23 #[.int .i64 b1, .int .i64 b2]).alloc (.cells #[.int .i64 l1, .int .i64 l2, .slice A l.length c] 26)).alloc (.cells (mc k f o t i u cm y (.slice A2 L.length c2)) 41))
  have HL := Lib.hid ((Whole.new1 w (.cells #[.int .i64 b1, .int .i64 b2] 23) 26 #[.int .i64 l1, .int .i64 l2, .slice A l.length c]).alloc (.cells (mc k f o t i u cm y (.slice A2 L.length c2)) 41))
  have hxx := Whole.new1 (w.alloc (.cells #[.int .i64 b1, .int .i64 b2] 23)) (.cells #[.int .i64 l1, .int .i64 l2, .slice A l.length c] 26) 41 (mc k f o t i u cm y (.slice A2 L.length c2))
  rw [World.size_alloc] at hxx
  have HX := Lib.hid hxx
  have hv0 := Lib.hid (fun W (hb : Below w.heap.size w W) => hv.below hb)
  have HXS := Lib.hid (fun W (hb : Below w.heap.size w W) => hx.below hb)
  have HN := Lib.hid (fun W (hb : Below w.heap.size w W) (hl : l.length ≤ 100) => pnew_any id many b1 b2 l1 l2 _ l (· < w.heap.size) W (hv.below hb) hl)
  have HII := Lib.hid hii
  clear hb0 hxx hv hx hii
  go_enter Try.func4, Try.ntmps4
  go_wp2_with fail
  with_reducible refine (awake7_any _).mono ?_
  rintro e w1 ⟨rfl, hb⟩
  have H1 := Lib.hid (H0.out.trans (hb.mono H0.out.size))
  replace HM := Lib.hid (HM.out.below hb HM.out.lt)
  replace HL := Lib.hid (HL.out.below hb HL.out.lt)
  replace HX := Lib.hid (HX.out.below hb HX.out.lt)
  clear hb
  obtain ⟨p0, p1⟩ := HM.out.c2
  obtain ⟨r0, r1, r2⟩ := HL.out.c3
  obtain ⟨q0, q1, q2, q3, q4, q5, q6, q7, q8⟩ := HX.out.c9
  clear H0
  by_cases h100 : 100 < l.length
  · have d : decide ((100 : Int) < (l.length : Int)) = true := by simp; omega
    go_wp2_with fail
    go_ret
    exact ⟨rfl, H1.out⟩
  have d : decide ((100 : Int) < (l.length : Int)) = false := by simp; omega
  have HPN := Lib.hid (HN.out _ H1.out (by omega))
  have hnw := @Rf.new_is id many (b1, b2) (l1, l2, l)
  have HNW := Lib.hid (fun n s => @hnw n s)
  clear HN hnw
  generalize Rf.new id many (b1, b2) (l1, l2, l) = R at *
  go_wp2_with fail
  refine HPN.out.mono ?_
  intro e w4 hp4
  rcases R with _ | ⟨n, s⟩
  · obtain ⟨rfl, hb⟩ := hp4
    have H4 := Lib.hid (H1.out.trans (hb.mono H1.out.size))
    go_wp2_with fail
    go_ret
    exact ⟨rfl, H4.out⟩
  obtain ⟨G, p, rfl, hG, hp, hb⟩ := hp4
  obtain ⟨pg, rfl⟩ := hp.ptr
  have H4 := Lib.hid (H1.out.trans (hb.mono H1.out.size))
  have hz1 := H1.out.size
  have hl1 := HM.out.lt
  have hl2 := HL.out.lt
  clear p0 p1 r0 r1 r2 q0 q1 q2 q3 q4 q5 q6 q7 q8
  replace HM := Lib.hid (HM.out.below hb HM.out.lt)
  replace HL := Lib.hid (HL.out.below hb HL.out.lt)
  replace HX := Lib.hid (HX.out.below hb HX.out.lt)
  clear hb
  obtain ⟨p0, p1⟩ := HM.out.c2
  obtain ⟨r0, r1, r2⟩ := HL.out.c3
  obtain ⟨q0, q1, q2, q3, q4, q5, q6, q7, q8⟩ := HX.out.c9
  obtain ⟨hg, h1, h2, h3, h4, h5, h6, h7, h8⟩ := HNW.out n s rfl
  have HG := Lib.hid hg
  have HID := Lib.hid h1
  have HMY := Lib.hid h2
  have HSB := Lib.hid h3
  have HSL := Lib.hid h4
  have HSI := Lib.hid h5
  have HSU := Lib.hid h6
  subst h7 h8
  have HGB := Lib.hid (fun b (hb : G b) => show w.heap.size ≤ b from Nat.le_trans hz1 (hG b hb))
  have HGW := Lib.hid hG
  have HPH := Lib.hid (fun (hn : ¬ Rf.mine n (k, f, o, t, i, u, cm, y, L)) => by
    have hph := phear_any n G _ s HG.out _ w4 hp k f o t i u cm y L A2 _ c2 HII.out (fun hm => absurd hm hn) (SlS.wide (HXS.out _ H4.out) (fun b hb _ => ⟨.inl hb, fun hg => by have := HGB.out b hg; omega⟩))
    rw [Rf.hear_deaf hn] at hph
    exact hph)
  clear hg h1 h2 h3 h4 h5 h6 hp hG HNW HPN H1 HXS HII
  by_cases h : o = id
  rotate_left
  · have ee0 : (o == id) = false := by simpa using h
    have HMN : ¬ Rf.mine n (k, f, o, t, i, u, cm, y, L) := fun hm => by obtain ⟨m0, m1, m2, m3, m4, m5, m6, m7⟩ := hm; simp only at m0 m1 m2 m3 m4 m5 m6 m7; have := HID.out; have := HMY.out; omega
    clear h
    go_wp2_with fail
    refine (HPH.out HMN).mono ?_
    rintro e w5 ⟨v5, rfl, hm5, hs5⟩
    obtain ⟨A5, d5, rfl, -, -⟩ := SlS.form hm5
    obtain ⟨G5, h5G, hp5, hk5⟩ := hs5
    have hz4 := H4.out.size
    have hb5 := hk5.below HGB.out hz4
    have H5 := Lib.hid (H4.out.trans hb5)
    replace HM := Lib.hid (hk5.whole HM.out (fun hg => by have := HGW.out _ hg; omega))
    replace HL := Lib.hid (hk5.whole HL.out (fun hg => by have := HGW.out _ hg; omega))
    have HV := Lib.hid (fun W (hb : Below w5.heap.size w5 W) => Sl.mono (hv0.out W (H5.out.trans (hb.mono H5.out.size))) (Nat.le_trans H5.out.size hb.size))
    have HLG := Lib.hid (fun W (hb : Below w5.heap.size w5 W) => plog_any n G5 _ s HG.out _ W (hp5.stay hb))
    have HRO := Lib.hid (fun W (hb : Below w5.heap.size w5 W) => prole_any n G5 _ s HG.out _ W (hp5.stay hb))
    have HBA := Lib.hid (fun W (hb : Below w5.heap.size w5 W) => pballot_any n G5 _ s HG.out _ W (hp5.stay hb))
    have HSE := Lib.hid (fun W (hb : Below w5.heap.size w5 W) => psettled_any n G5 _ s HG.out _ W (hp5.stay hb))
    rw [HSL.out] at HLG
    rw [HSI.out] at HRO
    rw [HSB.out] at HBA
    rw [HSU.out] at HSE
    clear p0 p1 r0 r1 r2 q0 q1 q2 q3 q4 q5 q6 q7 q8
    clear hp5 hk5 hb5 hm5 h5G
    have h00 : ([] : List Rf.Msg).length = 0 := rfl
    rw [h00]
    clear h00
    have e3 : (b1 == b1) = true := by simp
    have e4 : (b2 == b2) = true := by simp
    go_wp2_with fail
    refine z_start ((w5).drew.heap.size) [] (by kernel_rfl) ?_
    have HC := Lib.hid (Below.refl ((w5).drew.heap.size) (w5).drew)
    have hBz : (w5).drew.heap.size ≤ (w5).drew.heap.size := Nat.le_refl _
    replace HM := Lib.hid (show Whole (w5).drew _ _ _ from HM.out)
    have hltM := HM.out.lt
    replace HL := Lib.hid (show Whole (w5).drew _ _ _ from HL.out)
    have hltL := HL.out.lt
    have HD := Lib.hid ((Below.refl w5.heap.size w5).drew)
    generalize (w5).drew = z1 at *
    refine z_take (i := 0) (v := ?_) rfl (by kernel_rfl) (by kernel_rfl) (by kernel_rfl) (k0 := 0) (by kernel_rfl) (by kernel_rfl) (.inl rfl) (fun _ _ _ h => h) (by rfl) HC.out ?_ ?_
    rotate_left
    · intro W hW
      go_simp
      first | done | rfl
    simp only [Act.put, List.setIfInBounds_toArray, List.set_cons_zero, List.set_cons_succ, List.getElem_toArray, List.getElem_cons_zero]
    refine z_take (i := 2) (v := ?_) rfl (by kernel_rfl) (by kernel_rfl) (by kernel_rfl) (k0 := 2) (by kernel_rfl) (by kernel_rfl) (.inl rfl) (fun _ _ _ h => h) (by rfl) HC.out ?_ ?_
    rotate_left
    · intro W hW
      obtain ⟨r0, r1, r2⟩ := (HL.out.below hW hltL).c3
      go_simp
      first | done | rfl
    simp only [Act.put, List.setIfInBounds_toArray, List.set_cons_zero, List.set_cons_succ, List.getElem_toArray, List.getElem_cons_zero, List.getElem_cons_succ]
    refine z_one (i := 1) (by kernel_rfl) ?_
    refine onez_call (i := 1) (f := 14) (args := ?_) rfl (by rfl) ?_ ?_
    rotate_left
    · go_simp
      first | done | rfl
    with_reducible refine (HLG.out _ (HD.out.trans (HC.out.mono HD.out.size))).mono ?_
    rintro e z2 ⟨v6, rfl, hs, hb⟩
    refine ⟨_, rfl, fun _ => HC.out.trans (hb.mono hBz), ?_⟩
    replace HC := Lib.hid (HC.out.trans (hb.mono hBz))
    replace hBz := Nat.le_trans hBz hb.size
    have HVV := Lib.hid (show Sl z2 (z2).heap.size v6 l from SlS.wide hs (fun _ _ h => h))
    clear hs
    clear hb
    simp only [Act.put, List.setIfInBounds_toArray, List.set_cons_zero, List.set_cons_succ, List.getElem_toArray, List.getElem_cons_zero, List.getElem_cons_succ]
    refine z_one (i := 3) (by kernel_rfl) ?_
    refine onez_call (i := 3) (f := 18) (args := ?_) rfl (by rfl) ?_ ?_
    rotate_left
    · go_simp
      first | done | rfl
    with_reducible refine (logs_any 0 0 _ _ l z2 (z2).heap.size (Nat.le_refl _) HVV.out (HV.out _ (HD.out.trans (HC.out.mono HD.out.size)))).mono ?_
    rintro e z3 ⟨rfl, hb⟩
    refine ⟨_, rfl, fun _ => HC.out.trans (hb.mono hBz), ?_⟩
    replace HC := Lib.hid (HC.out.trans (hb.mono hBz))
    replace hBz := Nat.le_trans hBz hb.size
    clear hb
    simp only [Act.put, List.setIfInBounds_toArray, List.set_cons_zero, List.set_cons_succ, List.getElem_toArray, List.getElem_cons_zero, List.getElem_cons_succ]
    refine z_take (i := 4) (v := ?_) rfl (by kernel_rfl) (by kernel_rfl) (by kernel_rfl) (k0 := 4) (by kernel_rfl) (by kernel_rfl) (.inl rfl) (fun _ _ _ h => h) (by rfl) HC.out ?_ ?_
    rotate_left
    · intro W hW
      go_simp
      first | done | rfl
    simp only [Act.put, List.setIfInBounds_toArray, List.set_cons_zero, List.set_cons_succ, List.getElem_toArray, List.getElem_cons_zero, List.getElem_cons_succ]
    refine z_done (by kernel_rfl) ?_
    replace HD := Lib.hid (HD.out.trans (HC.out.mono HD.out.size))
    replace HM := Lib.hid (HM.out.below HC.out hltM)
    replace HL := Lib.hid (HL.out.below HC.out hltL)
    clear HC hBz hltM hltL HVV
    go_simp
    generalize hw6 : z3 = w6 at *
    clear hw6
    go_wp2_with fail
    refine z_start ((w6).drew.heap.size) [] (by kernel_rfl) ?_
    have HC := Lib.hid (Below.refl ((w6).drew.heap.size) (w6).drew)
    have hBz : (w6).drew.heap.size ≤ (w6).drew.heap.size := Nat.le_refl _
    replace HM := Lib.hid (show Whole (w6).drew _ _ _ from HM.out)
    have hltM := HM.out.lt
    replace HL := Lib.hid (show Whole (w6).drew _ _ _ from HL.out)
    have hltL := HL.out.lt
    replace HD := Lib.hid (HD.out.trans ((Below.refl _ _).drew.mono HD.out.size))
    generalize (w6).drew = y1 at *
    refine z_take (i := 0) (v := ?_) rfl (by kernel_rfl) (by kernel_rfl) (by kernel_rfl) (k0 := 0) (by kernel_rfl) (by kernel_rfl) (.inl rfl) (fun _ _ _ h => h) (by rfl) HC.out ?_ ?_
    rotate_left
    · intro W hW
      go_simp
      first | done | rfl
    simp only [Act.put, List.setIfInBounds_toArray, List.set_cons_zero, List.set_cons_succ, List.getElem_toArray, List.getElem_cons_zero]
    refine z_take (i := 1) (v := ?_) rfl (by kernel_rfl) (by kernel_rfl) (by kernel_rfl) (k0 := 1) (by kernel_rfl) (by kernel_rfl) (.inl rfl) (fun _ _ _ h => h) (by rfl) HC.out ?_ ?_
    rotate_left
    · intro W hW
      go_simp
      first | done | rfl
    simp only [Act.put, List.setIfInBounds_toArray, List.set_cons_zero, List.set_cons_succ, List.getElem_toArray, List.getElem_cons_zero, List.getElem_cons_succ]
    refine z_take (i := 2) (v := ?_) rfl (by kernel_rfl) (by kernel_rfl) (by kernel_rfl) (k0 := 2) (by kernel_rfl) (by kernel_rfl) (.inl rfl) (fun _ _ _ h => h) (by rfl) HC.out ?_ ?_
    rotate_left
    · intro W hW
      go_simp
      first | done | rfl
    simp only [Act.put, List.setIfInBounds_toArray, List.set_cons_zero, List.set_cons_succ, List.getElem_toArray, List.getElem_cons_zero, List.getElem_cons_succ]
    refine z_take (i := 3) (v := ?_) rfl (by kernel_rfl) (by kernel_rfl) (by kernel_rfl) (k0 := 3) (by kernel_rfl) (by kernel_rfl) (.inl rfl) (fun _ _ _ h => h) (by rfl) HC.out ?_ ?_
    rotate_left
    · intro W hW
      go_simp
      first | done | rfl
    simp only [Act.put, List.setIfInBounds_toArray, List.set_cons_zero, List.set_cons_succ, List.getElem_toArray, List.getElem_cons_zero, List.getElem_cons_succ]
    refine z_take (i := 4) (v := ?_) rfl (by kernel_rfl) (by kernel_rfl) (by kernel_rfl) (k0 := 4) (by kernel_rfl) (by kernel_rfl) (.inl rfl) (fun _ _ _ h => h) (by rfl) HC.out ?_ ?_
    rotate_left
    · intro W hW
      go_simp
      first | done | rfl
    simp only [Act.put, List.setIfInBounds_toArray, List.set_cons_zero, List.set_cons_succ, List.getElem_toArray, List.getElem_cons_zero, List.getElem_cons_succ]
    refine z_take (i := 5) (v := ?_) rfl (by kernel_rfl) (by kernel_rfl) (by kernel_rfl) (k0 := 5) (by kernel_rfl) (by kernel_rfl) (.inl rfl) (fun _ _ _ h => h) (by rfl) HC.out ?_ ?_
    rotate_left
    · intro W hW
      go_simp
      first | done | rfl
    simp only [Act.put, List.setIfInBounds_toArray, List.set_cons_zero, List.set_cons_succ, List.getElem_toArray, List.getElem_cons_zero, List.getElem_cons_succ]
    refine z_take (i := 6) (v := ?_) rfl (by kernel_rfl) (by kernel_rfl) (by kernel_rfl) (k0 := 6) (by kernel_rfl) (by kernel_rfl) (.inl rfl) (fun _ _ _ h => h) (by rfl) HC.out ?_ ?_
    rotate_left
    · intro W hW
      go_simp
      first | done | rfl
    simp only [Act.put, List.setIfInBounds_toArray, List.set_cons_zero, List.set_cons_succ, List.getElem_toArray, List.getElem_cons_zero, List.getElem_cons_succ]
    refine z_take (i := 7) (v := ?_) rfl (by kernel_rfl) (by kernel_rfl) (by kernel_rfl) (k0 := 7) (by kernel_rfl) (by kernel_rfl) (.inl rfl) (fun _ _ _ h => h) (by rfl) HC.out ?_ ?_
    rotate_left
    · intro W hW
      go_simp
      first | done | rfl
    simp only [Act.put, List.setIfInBounds_toArray, List.set_cons_zero, List.set_cons_succ, List.getElem_toArray, List.getElem_cons_zero, List.getElem_cons_succ]
    refine z_take (i := 9) (v := ?_) rfl (by kernel_rfl) (by kernel_rfl) (by kernel_rfl) (k0 := 9) (by kernel_rfl) (by kernel_rfl) (.inl rfl) (fun _ _ _ h => h) (by rfl) HC.out ?_ ?_
    rotate_left
    · intro W hW
      obtain ⟨p0, p1⟩ := (HM.out.below hW hltM).c2
      go_simp
      first | done | rfl
    simp only [Act.put, List.setIfInBounds_toArray, List.set_cons_zero, List.set_cons_succ, List.getElem_toArray, List.getElem_cons_zero, List.getElem_cons_succ]
    refine z_one (i := 8) (by kernel_rfl) ?_
    refine onez_call (i := 8) (f := 11) (args := ?_) rfl (by rfl) ?_ ?_
    rotate_left
    · go_simp
      first | done | rfl
    with_reducible refine (HBA.out _ (HD.out.trans (HC.out.mono HD.out.size))).mono ?_
    rintro e y2 ⟨rfl, hb⟩
    refine ⟨_, rfl, fun _ => HC.out.trans (hb.mono hBz), ?_⟩
    replace HC := Lib.hid (HC.out.trans (hb.mono hBz))
    replace hBz := Nat.le_trans hBz hb.size
    clear hb
    simp only [Act.put, List.setIfInBounds_toArray, List.set_cons_zero, List.set_cons_succ, List.getElem_toArray, List.getElem_cons_zero, List.getElem_cons_succ]
    refine z_take (i := 10) (v := ?_) rfl (by kernel_rfl) (by kernel_rfl) (by kernel_rfl) (k0 := 10) (by kernel_rfl) (by kernel_rfl) (.inl rfl) (fun _ _ _ h => h) (by rfl) HC.out ?_ ?_
    rotate_left
    · intro W hW
      go_simp
      first | done | rfl
    simp only [Act.put, List.setIfInBounds_toArray, List.set_cons_zero, List.set_cons_succ, List.getElem_toArray, List.getElem_cons_zero, List.getElem_cons_succ]
    refine z_take (i := 11) (v := ?_) rfl (by kernel_rfl) (by kernel_rfl) (by kernel_rfl) (k0 := 11) (by kernel_rfl) (by kernel_rfl) (.inl rfl) (fun _ _ _ h => h) (by rfl) HC.out ?_ ?_
    rotate_left
    · intro W hW
      go_simp
      first | done | rfl
    simp only [Act.put, List.setIfInBounds_toArray, List.set_cons_zero, List.set_cons_succ, List.getElem_toArray, List.getElem_cons_zero, List.getElem_cons_succ]
    refine z_take (i := 12) (v := ?_) rfl (by kernel_rfl) (by kernel_rfl) (by kernel_rfl) (k0 := 12) (by kernel_rfl) (by kernel_rfl) (.inl rfl) (fun _ _ _ h => h) (by rfl) HC.out ?_ ?_
    rotate_left
    · intro W hW
      go_simp
      first | done | rfl
    simp only [Act.put, List.setIfInBounds_toArray, List.set_cons_zero, List.set_cons_succ, List.getElem_toArray, List.getElem_cons_zero, List.getElem_cons_succ]
    refine z_take (i := 13) (v := ?_) rfl (by kernel_rfl) (by kernel_rfl) (by kernel_rfl) (k0 := 13) (by kernel_rfl) (by kernel_rfl) (.inl rfl) (fun _ _ _ h => h) (by rfl) HC.out ?_ ?_
    rotate_left
    · intro W hW
      go_simp
      first | done | rfl
    simp only [Act.put, List.setIfInBounds_toArray, List.set_cons_zero, List.set_cons_succ, List.getElem_toArray, List.getElem_cons_zero, List.getElem_cons_succ]
    refine z_one (i := 14) (by kernel_rfl) ?_
    refine onez_call (i := 14) (f := 13) (args := ?_) rfl (by rfl) ?_ ?_
    rotate_left
    · go_simp
      first | done | rfl
    with_reducible refine (HRO.out _ (HD.out.trans (HC.out.mono HD.out.size))).mono ?_
    rintro e y3 ⟨rfl, hb⟩
    refine ⟨_, rfl, fun _ => HC.out.trans (hb.mono hBz), ?_⟩
    replace HC := Lib.hid (HC.out.trans (hb.mono hBz))
    replace hBz := Nat.le_trans hBz hb.size
    clear hb
    simp only [Act.put, List.setIfInBounds_toArray, List.set_cons_zero, List.set_cons_succ, List.getElem_toArray, List.getElem_cons_zero, List.getElem_cons_succ]
    refine z_take (i := 15) (v := ?_) rfl (by kernel_rfl) (by kernel_rfl) (by kernel_rfl) (k0 := 15) (by kernel_rfl) (by kernel_rfl) (.inl rfl) (fun _ _ _ h => h) (by rfl) HC.out ?_ ?_
    rotate_left
    · intro W hW
      go_simp
      first | done | rfl
    simp only [Act.put, List.setIfInBounds_toArray, List.set_cons_zero, List.set_cons_succ, List.getElem_toArray, List.getElem_cons_zero, List.getElem_cons_succ]
    refine z_take (i := 16) (v := ?_) rfl (by kernel_rfl) (by kernel_rfl) (by kernel_rfl) (k0 := 16) (by kernel_rfl) (by kernel_rfl) (.inl rfl) (fun _ _ _ h => h) (by rfl) HC.out ?_ ?_
    rotate_left
    · intro W hW
      go_simp
      first | done | rfl
    simp only [Act.put, List.setIfInBounds_toArray, List.set_cons_zero, List.set_cons_succ, List.getElem_toArray, List.getElem_cons_zero, List.getElem_cons_succ]
    refine z_take (i := 17) (v := ?_) rfl (by kernel_rfl) (by kernel_rfl) (by kernel_rfl) (k0 := 17) (by kernel_rfl) (by kernel_rfl) (.inl rfl) (fun _ _ _ h => h) (by rfl) HC.out ?_ ?_
    rotate_left
    · intro W hW
      go_simp
      first | done | rfl
    simp only [Act.put, List.setIfInBounds_toArray, List.set_cons_zero, List.set_cons_succ, List.getElem_toArray, List.getElem_cons_zero, List.getElem_cons_succ]
    refine z_take (i := 18) (v := ?_) rfl (by kernel_rfl) (by kernel_rfl) (by kernel_rfl) (k0 := 18) (by kernel_rfl) (by kernel_rfl) (.inl rfl) (fun _ _ _ h => h) (by rfl) HC.out ?_ ?_
    rotate_left
    · intro W hW
      go_simp
      first | done | rfl
    simp only [Act.put, List.setIfInBounds_toArray, List.set_cons_zero, List.set_cons_succ, List.getElem_toArray, List.getElem_cons_zero, List.getElem_cons_succ]
    refine z_one (i := 19) (by kernel_rfl) ?_
    refine onez_call (i := 19) (f := 12) (args := ?_) rfl (by rfl) ?_ ?_
    rotate_left
    · go_simp
      first | done | rfl
    with_reducible refine (HSE.out _ (HD.out.trans (HC.out.mono HD.out.size))).mono ?_
    rintro e y4 ⟨rfl, hb⟩
    refine ⟨_, rfl, fun _ => HC.out.trans (hb.mono hBz), ?_⟩
    replace HC := Lib.hid (HC.out.trans (hb.mono hBz))
    replace hBz := Nat.le_trans hBz hb.size
    clear hb
    simp only [Act.put, List.setIfInBounds_toArray, List.set_cons_zero, List.set_cons_succ, List.getElem_toArray, List.getElem_cons_zero, List.getElem_cons_succ]
    refine z_take (i := 20) (v := ?_) rfl (by kernel_rfl) (by kernel_rfl) (by kernel_rfl) (k0 := 20) (by kernel_rfl) (by kernel_rfl) (.inl rfl) (fun _ _ _ h => h) (by rfl) HC.out ?_ ?_
    rotate_left
    · intro W hW
      go_simp
      first | done | rfl
    simp only [Act.put, List.setIfInBounds_toArray, List.set_cons_zero, List.set_cons_succ, List.getElem_toArray, List.getElem_cons_zero, List.getElem_cons_succ]
    refine z_take (i := 21) (v := ?_) rfl (by kernel_rfl) (by kernel_rfl) (by kernel_rfl) (k0 := 21) (by kernel_rfl) (by kernel_rfl) (.inl rfl) (fun _ _ _ h => h) (by rfl) HC.out ?_ ?_
    rotate_left
    · intro W hW
      go_simp
      first | done | rfl
    simp only [Act.put, List.setIfInBounds_toArray, List.set_cons_zero, List.set_cons_succ, List.getElem_toArray, List.getElem_cons_zero, List.getElem_cons_succ]
    refine z_take (i := 22) (v := ?_) rfl (by kernel_rfl) (by kernel_rfl) (by kernel_rfl) (k0 := 22) (by kernel_rfl) (by kernel_rfl) (.inl rfl) (fun _ _ _ h => h) (by rfl) HC.out ?_ ?_
    rotate_left
    · intro W hW
      go_simp
      first | done | rfl
    simp only [Act.put, List.setIfInBounds_toArray, List.set_cons_zero, List.set_cons_succ, List.getElem_toArray, List.getElem_cons_zero, List.getElem_cons_succ]
    refine z_done (by kernel_rfl) ?_
    have HE := Lib.hid (HD.out.trans (HC.out.mono HD.out.size))
    go_simp
    go_wp2_with fail
    go_ret
    exact ⟨rfl, H5.out.trans (HE.out.mono H5.out.size)⟩
  have ee0 : (o == id) = true := by simpa using h
  clear h
  by_cases h : f ≠ id
  rotate_left
  · have ee1 : (f != id) = false := by simpa using h
    have HMN : ¬ Rf.mine n (k, f, o, t, i, u, cm, y, L) := fun hm => by obtain ⟨m0, m1, m2, m3, m4, m5, m6, m7⟩ := hm; simp only at m0 m1 m2 m3 m4 m5 m6 m7; have := HID.out; have := HMY.out; omega
    clear h
    go_wp2_with fail
    refine (HPH.out HMN).mono ?_
    rintro e w5 ⟨v5, rfl, hm5, hs5⟩
    obtain ⟨A5, d5, rfl, -, -⟩ := SlS.form hm5
    obtain ⟨G5, h5G, hp5, hk5⟩ := hs5
    have hz4 := H4.out.size
    have hb5 := hk5.below HGB.out hz4
    have H5 := Lib.hid (H4.out.trans hb5)
    replace HM := Lib.hid (hk5.whole HM.out (fun hg => by have := HGW.out _ hg; omega))
    replace HL := Lib.hid (hk5.whole HL.out (fun hg => by have := HGW.out _ hg; omega))
    have HV := Lib.hid (fun W (hb : Below w5.heap.size w5 W) => Sl.mono (hv0.out W (H5.out.trans (hb.mono H5.out.size))) (Nat.le_trans H5.out.size hb.size))
    have HLG := Lib.hid (fun W (hb : Below w5.heap.size w5 W) => plog_any n G5 _ s HG.out _ W (hp5.stay hb))
    have HRO := Lib.hid (fun W (hb : Below w5.heap.size w5 W) => prole_any n G5 _ s HG.out _ W (hp5.stay hb))
    have HBA := Lib.hid (fun W (hb : Below w5.heap.size w5 W) => pballot_any n G5 _ s HG.out _ W (hp5.stay hb))
    have HSE := Lib.hid (fun W (hb : Below w5.heap.size w5 W) => psettled_any n G5 _ s HG.out _ W (hp5.stay hb))
    rw [HSL.out] at HLG
    rw [HSI.out] at HRO
    rw [HSB.out] at HBA
    rw [HSU.out] at HSE
    clear p0 p1 r0 r1 r2 q0 q1 q2 q3 q4 q5 q6 q7 q8
    clear hp5 hk5 hb5 hm5 h5G
    have h00 : ([] : List Rf.Msg).length = 0 := rfl
    rw [h00]
    clear h00
    have e3 : (b1 == b1) = true := by simp
    have e4 : (b2 == b2) = true := by simp
    go_wp2_with fail
    refine z_start ((w5).drew.heap.size) [] (by kernel_rfl) ?_
    have HC := Lib.hid (Below.refl ((w5).drew.heap.size) (w5).drew)
    have hBz : (w5).drew.heap.size ≤ (w5).drew.heap.size := Nat.le_refl _
    replace HM := Lib.hid (show Whole (w5).drew _ _ _ from HM.out)
    have hltM := HM.out.lt
    replace HL := Lib.hid (show Whole (w5).drew _ _ _ from HL.out)
    have hltL := HL.out.lt
    have HD := Lib.hid ((Below.refl w5.heap.size w5).drew)
    generalize (w5).drew = z1 at *
    refine z_take (i := 0) (v := ?_) rfl (by kernel_rfl) (by kernel_rfl) (by kernel_rfl) (k0 := 0) (by kernel_rfl) (by kernel_rfl) (.inl rfl) (fun _ _ _ h => h) (by rfl) HC.out ?_ ?_
    rotate_left
    · intro W hW
      go_simp
      first | done | rfl
    simp only [Act.put, List.setIfInBounds_toArray, List.set_cons_zero, List.set_cons_succ, List.getElem_toArray, List.getElem_cons_zero]
    refine z_take (i := 2) (v := ?_) rfl (by kernel_rfl) (by kernel_rfl) (by kernel_rfl) (k0 := 2) (by kernel_rfl) (by kernel_rfl) (.inl rfl) (fun _ _ _ h => h) (by rfl) HC.out ?_ ?_
    rotate_left
    · intro W hW
      obtain ⟨r0, r1, r2⟩ := (HL.out.below hW hltL).c3
      go_simp
      first | done | rfl
    simp only [Act.put, List.setIfInBounds_toArray, List.set_cons_zero, List.set_cons_succ, List.getElem_toArray, List.getElem_cons_zero, List.getElem_cons_succ]
    refine z_one (i := 1) (by kernel_rfl) ?_
    refine onez_call (i := 1) (f := 14) (args := ?_) rfl (by rfl) ?_ ?_
    rotate_left
    · go_simp
      first | done | rfl
    with_reducible refine (HLG.out _ (HD.out.trans (HC.out.mono HD.out.size))).mono ?_
    rintro e z2 ⟨v6, rfl, hs, hb⟩
    refine ⟨_, rfl, fun _ => HC.out.trans (hb.mono hBz), ?_⟩
    replace HC := Lib.hid (HC.out.trans (hb.mono hBz))
    replace hBz := Nat.le_trans hBz hb.size
    have HVV := Lib.hid (show Sl z2 (z2).heap.size v6 l from SlS.wide hs (fun _ _ h => h))
    clear hs
    clear hb
    simp only [Act.put, List.setIfInBounds_toArray, List.set_cons_zero, List.set_cons_succ, List.getElem_toArray, List.getElem_cons_zero, List.getElem_cons_succ]
    refine z_one (i := 3) (by kernel_rfl) ?_
    refine onez_call (i := 3) (f := 18) (args := ?_) rfl (by rfl) ?_ ?_
    rotate_left
    · go_simp
      first | done | rfl
    with_reducible refine (logs_any 0 0 _ _ l z2 (z2).heap.size (Nat.le_refl _) HVV.out (HV.out _ (HD.out.trans (HC.out.mono HD.out.size)))).mono ?_
    rintro e z3 ⟨rfl, hb⟩
    refine ⟨_, rfl, fun _ => HC.out.trans (hb.mono hBz), ?_⟩
    replace HC := Lib.hid (HC.out.trans (hb.mono hBz))
    replace hBz := Nat.le_trans hBz hb.size
    clear hb
    simp only [Act.put, List.setIfInBounds_toArray, List.set_cons_zero, List.set_cons_succ, List.getElem_toArray, List.getElem_cons_zero, List.getElem_cons_succ]
    refine z_take (i := 4) (v := ?_) rfl (by kernel_rfl) (by kernel_rfl) (by kernel_rfl) (k0 := 4) (by kernel_rfl) (by kernel_rfl) (.inl rfl) (fun _ _ _ h => h) (by rfl) HC.out ?_ ?_
    rotate_left
    · intro W hW
      go_simp
      first | done | rfl
    simp only [Act.put, List.setIfInBounds_toArray, List.set_cons_zero, List.set_cons_succ, List.getElem_toArray, List.getElem_cons_zero, List.getElem_cons_succ]
    refine z_done (by kernel_rfl) ?_
    replace HD := Lib.hid (HD.out.trans (HC.out.mono HD.out.size))
    replace HM := Lib.hid (HM.out.below HC.out hltM)
    replace HL := Lib.hid (HL.out.below HC.out hltL)
    clear HC hBz hltM hltL HVV
    go_simp
    generalize hw6 : z3 = w6 at *
    clear hw6
    go_wp2_with fail
    refine z_start ((w6).drew.heap.size) [] (by kernel_rfl) ?_
    have HC := Lib.hid (Below.refl ((w6).drew.heap.size) (w6).drew)
    have hBz : (w6).drew.heap.size ≤ (w6).drew.heap.size := Nat.le_refl _
    replace HM := Lib.hid (show Whole (w6).drew _ _ _ from HM.out)
    have hltM := HM.out.lt
    replace HL := Lib.hid (show Whole (w6).drew _ _ _ from HL.out)
    have hltL := HL.out.lt
    replace HD := Lib.hid (HD.out.trans ((Below.refl _ _).drew.mono HD.out.size))
    generalize (w6).drew = y1 at *
    refine z_take (i := 0) (v := ?_) rfl (by kernel_rfl) (by kernel_rfl) (by kernel_rfl) (k0 := 0) (by kernel_rfl) (by kernel_rfl) (.inl rfl) (fun _ _ _ h => h) (by rfl) HC.out ?_ ?_
    rotate_left
    · intro W hW
      go_simp
      first | done | rfl
    simp only [Act.put, List.setIfInBounds_toArray, List.set_cons_zero, List.set_cons_succ, List.getElem_toArray, List.getElem_cons_zero]
    refine z_take (i := 1) (v := ?_) rfl (by kernel_rfl) (by kernel_rfl) (by kernel_rfl) (k0 := 1) (by kernel_rfl) (by kernel_rfl) (.inl rfl) (fun _ _ _ h => h) (by rfl) HC.out ?_ ?_
    rotate_left
    · intro W hW
      go_simp
      first | done | rfl
    simp only [Act.put, List.setIfInBounds_toArray, List.set_cons_zero, List.set_cons_succ, List.getElem_toArray, List.getElem_cons_zero, List.getElem_cons_succ]
    refine z_take (i := 2) (v := ?_) rfl (by kernel_rfl) (by kernel_rfl) (by kernel_rfl) (k0 := 2) (by kernel_rfl) (by kernel_rfl) (.inl rfl) (fun _ _ _ h => h) (by rfl) HC.out ?_ ?_
    rotate_left
    · intro W hW
      go_simp
      first | done | rfl
    simp only [Act.put, List.setIfInBounds_toArray, List.set_cons_zero, List.set_cons_succ, List.getElem_toArray, List.getElem_cons_zero, List.getElem_cons_succ]
    refine z_take (i := 3) (v := ?_) rfl (by kernel_rfl) (by kernel_rfl) (by kernel_rfl) (k0 := 3) (by kernel_rfl) (by kernel_rfl) (.inl rfl) (fun _ _ _ h => h) (by rfl) HC.out ?_ ?_
    rotate_left
    · intro W hW
      go_simp
      first | done | rfl
    simp only [Act.put, List.setIfInBounds_toArray, List.set_cons_zero, List.set_cons_succ, List.getElem_toArray, List.getElem_cons_zero, List.getElem_cons_succ]
    refine z_take (i := 4) (v := ?_) rfl (by kernel_rfl) (by kernel_rfl) (by kernel_rfl) (k0 := 4) (by kernel_rfl) (by kernel_rfl) (.inl rfl) (fun _ _ _ h => h) (by rfl) HC.out ?_ ?_
    rotate_left
    · intro W hW
      go_simp
      first | done | rfl
    simp only [Act.put, List.setIfInBounds_toArray, List.set_cons_zero, List.set_cons_succ, List.getElem_toArray, List.getElem_cons_zero, List.getElem_cons_succ]
    refine z_take (i := 5) (v := ?_) rfl (by kernel_rfl) (by kernel_rfl) (by kernel_rfl) (k0 := 5) (by kernel_rfl) (by kernel_rfl) (.inl rfl) (fun _ _ _ h => h) (by rfl) HC.out ?_ ?_
    rotate_left
    · intro W hW
      go_simp
      first | done | rfl
    simp only [Act.put, List.setIfInBounds_toArray, List.set_cons_zero, List.set_cons_succ, List.getElem_toArray, List.getElem_cons_zero, List.getElem_cons_succ]
    refine z_take (i := 6) (v := ?_) rfl (by kernel_rfl) (by kernel_rfl) (by kernel_rfl) (k0 := 6) (by kernel_rfl) (by kernel_rfl) (.inl rfl) (fun _ _ _ h => h) (by rfl) HC.out ?_ ?_
    rotate_left
    · intro W hW
      go_simp
      first | done | rfl
    simp only [Act.put, List.setIfInBounds_toArray, List.set_cons_zero, List.set_cons_succ, List.getElem_toArray, List.getElem_cons_zero, List.getElem_cons_succ]
    refine z_take (i := 7) (v := ?_) rfl (by kernel_rfl) (by kernel_rfl) (by kernel_rfl) (k0 := 7) (by kernel_rfl) (by kernel_rfl) (.inl rfl) (fun _ _ _ h => h) (by rfl) HC.out ?_ ?_
    rotate_left
    · intro W hW
      go_simp
      first | done | rfl
    simp only [Act.put, List.setIfInBounds_toArray, List.set_cons_zero, List.set_cons_succ, List.getElem_toArray, List.getElem_cons_zero, List.getElem_cons_succ]
    refine z_take (i := 9) (v := ?_) rfl (by kernel_rfl) (by kernel_rfl) (by kernel_rfl) (k0 := 9) (by kernel_rfl) (by kernel_rfl) (.inl rfl) (fun _ _ _ h => h) (by rfl) HC.out ?_ ?_
    rotate_left
    · intro W hW
      obtain ⟨p0, p1⟩ := (HM.out.below hW hltM).c2
      go_simp
      first | done | rfl
    simp only [Act.put, List.setIfInBounds_toArray, List.set_cons_zero, List.set_cons_succ, List.getElem_toArray, List.getElem_cons_zero, List.getElem_cons_succ]
    refine z_one (i := 8) (by kernel_rfl) ?_
    refine onez_call (i := 8) (f := 11) (args := ?_) rfl (by rfl) ?_ ?_
    rotate_left
    · go_simp
      first | done | rfl
    with_reducible refine (HBA.out _ (HD.out.trans (HC.out.mono HD.out.size))).mono ?_
    rintro e y2 ⟨rfl, hb⟩
    refine ⟨_, rfl, fun _ => HC.out.trans (hb.mono hBz), ?_⟩
    replace HC := Lib.hid (HC.out.trans (hb.mono hBz))
    replace hBz := Nat.le_trans hBz hb.size
    clear hb
    simp only [Act.put, List.setIfInBounds_toArray, List.set_cons_zero, List.set_cons_succ, List.getElem_toArray, List.getElem_cons_zero, List.getElem_cons_succ]
    refine z_take (i := 10) (v := ?_) rfl (by kernel_rfl) (by kernel_rfl) (by kernel_rfl) (k0 := 10) (by kernel_rfl) (by kernel_rfl) (.inl rfl) (fun _ _ _ h => h) (by rfl) HC.out ?_ ?_
    rotate_left
    · intro W hW
      go_simp
      first | done | rfl
    simp only [Act.put, List.setIfInBounds_toArray, List.set_cons_zero, List.set_cons_succ, List.getElem_toArray, List.getElem_cons_zero, List.getElem_cons_succ]
    refine z_take (i := 11) (v := ?_) rfl (by kernel_rfl) (by kernel_rfl) (by kernel_rfl) (k0 := 11) (by kernel_rfl) (by kernel_rfl) (.inl rfl) (fun _ _ _ h => h) (by rfl) HC.out ?_ ?_
    rotate_left
    · intro W hW
      go_simp
      first | done | rfl
    simp only [Act.put, List.setIfInBounds_toArray, List.set_cons_zero, List.set_cons_succ, List.getElem_toArray, List.getElem_cons_zero, List.getElem_cons_succ]
    refine z_take (i := 12) (v := ?_) rfl (by kernel_rfl) (by kernel_rfl) (by kernel_rfl) (k0 := 12) (by kernel_rfl) (by kernel_rfl) (.inl rfl) (fun _ _ _ h => h) (by rfl) HC.out ?_ ?_
    rotate_left
    · intro W hW
      go_simp
      first | done | rfl
    simp only [Act.put, List.setIfInBounds_toArray, List.set_cons_zero, List.set_cons_succ, List.getElem_toArray, List.getElem_cons_zero, List.getElem_cons_succ]
    refine z_take (i := 13) (v := ?_) rfl (by kernel_rfl) (by kernel_rfl) (by kernel_rfl) (k0 := 13) (by kernel_rfl) (by kernel_rfl) (.inl rfl) (fun _ _ _ h => h) (by rfl) HC.out ?_ ?_
    rotate_left
    · intro W hW
      go_simp
      first | done | rfl
    simp only [Act.put, List.setIfInBounds_toArray, List.set_cons_zero, List.set_cons_succ, List.getElem_toArray, List.getElem_cons_zero, List.getElem_cons_succ]
    refine z_one (i := 14) (by kernel_rfl) ?_
    refine onez_call (i := 14) (f := 13) (args := ?_) rfl (by rfl) ?_ ?_
    rotate_left
    · go_simp
      first | done | rfl
    with_reducible refine (HRO.out _ (HD.out.trans (HC.out.mono HD.out.size))).mono ?_
    rintro e y3 ⟨rfl, hb⟩
    refine ⟨_, rfl, fun _ => HC.out.trans (hb.mono hBz), ?_⟩
    replace HC := Lib.hid (HC.out.trans (hb.mono hBz))
    replace hBz := Nat.le_trans hBz hb.size
    clear hb
    simp only [Act.put, List.setIfInBounds_toArray, List.set_cons_zero, List.set_cons_succ, List.getElem_toArray, List.getElem_cons_zero, List.getElem_cons_succ]
    refine z_take (i := 15) (v := ?_) rfl (by kernel_rfl) (by kernel_rfl) (by kernel_rfl) (k0 := 15) (by kernel_rfl) (by kernel_rfl) (.inl rfl) (fun _ _ _ h => h) (by rfl) HC.out ?_ ?_
    rotate_left
    · intro W hW
      go_simp
      first | done | rfl
    simp only [Act.put, List.setIfInBounds_toArray, List.set_cons_zero, List.set_cons_succ, List.getElem_toArray, List.getElem_cons_zero, List.getElem_cons_succ]
    refine z_take (i := 16) (v := ?_) rfl (by kernel_rfl) (by kernel_rfl) (by kernel_rfl) (k0 := 16) (by kernel_rfl) (by kernel_rfl) (.inl rfl) (fun _ _ _ h => h) (by rfl) HC.out ?_ ?_
    rotate_left
    · intro W hW
      go_simp
      first | done | rfl
    simp only [Act.put, List.setIfInBounds_toArray, List.set_cons_zero, List.set_cons_succ, List.getElem_toArray, List.getElem_cons_zero, List.getElem_cons_succ]
    refine z_take (i := 17) (v := ?_) rfl (by kernel_rfl) (by kernel_rfl) (by kernel_rfl) (k0 := 17) (by kernel_rfl) (by kernel_rfl) (.inl rfl) (fun _ _ _ h => h) (by rfl) HC.out ?_ ?_
    rotate_left
    · intro W hW
      go_simp
      first | done | rfl
    simp only [Act.put, List.setIfInBounds_toArray, List.set_cons_zero, List.set_cons_succ, List.getElem_toArray, List.getElem_cons_zero, List.getElem_cons_succ]
    refine z_take (i := 18) (v := ?_) rfl (by kernel_rfl) (by kernel_rfl) (by kernel_rfl) (k0 := 18) (by kernel_rfl) (by kernel_rfl) (.inl rfl) (fun _ _ _ h => h) (by rfl) HC.out ?_ ?_
    rotate_left
    · intro W hW
      go_simp
      first | done | rfl
    simp only [Act.put, List.setIfInBounds_toArray, List.set_cons_zero, List.set_cons_succ, List.getElem_toArray, List.getElem_cons_zero, List.getElem_cons_succ]
    refine z_one (i := 19) (by kernel_rfl) ?_
    refine onez_call (i := 19) (f := 12) (args := ?_) rfl (by rfl) ?_ ?_
    rotate_left
    · go_simp
      first | done | rfl
    with_reducible refine (HSE.out _ (HD.out.trans (HC.out.mono HD.out.size))).mono ?_
    rintro e y4 ⟨rfl, hb⟩
    refine ⟨_, rfl, fun _ => HC.out.trans (hb.mono hBz), ?_⟩
    replace HC := Lib.hid (HC.out.trans (hb.mono hBz))
    replace hBz := Nat.le_trans hBz hb.size
    clear hb
    simp only [Act.put, List.setIfInBounds_toArray, List.set_cons_zero, List.set_cons_succ, List.getElem_toArray, List.getElem_cons_zero, List.getElem_cons_succ]
    refine z_take (i := 20) (v := ?_) rfl (by kernel_rfl) (by kernel_rfl) (by kernel_rfl) (k0 := 20) (by kernel_rfl) (by kernel_rfl) (.inl rfl) (fun _ _ _ h => h) (by rfl) HC.out ?_ ?_
    rotate_left
    · intro W hW
      go_simp
      first | done | rfl
    simp only [Act.put, List.setIfInBounds_toArray, List.set_cons_zero, List.set_cons_succ, List.getElem_toArray, List.getElem_cons_zero, List.getElem_cons_succ]
    refine z_take (i := 21) (v := ?_) rfl (by kernel_rfl) (by kernel_rfl) (by kernel_rfl) (k0 := 21) (by kernel_rfl) (by kernel_rfl) (.inl rfl) (fun _ _ _ h => h) (by rfl) HC.out ?_ ?_
    rotate_left
    · intro W hW
      go_simp
      first | done | rfl
    simp only [Act.put, List.setIfInBounds_toArray, List.set_cons_zero, List.set_cons_succ, List.getElem_toArray, List.getElem_cons_zero, List.getElem_cons_succ]
    refine z_take (i := 22) (v := ?_) rfl (by kernel_rfl) (by kernel_rfl) (by kernel_rfl) (k0 := 22) (by kernel_rfl) (by kernel_rfl) (.inl rfl) (fun _ _ _ h => h) (by rfl) HC.out ?_ ?_
    rotate_left
    · intro W hW
      go_simp
      first | done | rfl
    simp only [Act.put, List.setIfInBounds_toArray, List.set_cons_zero, List.set_cons_succ, List.getElem_toArray, List.getElem_cons_zero, List.getElem_cons_succ]
    refine z_done (by kernel_rfl) ?_
    have HE := Lib.hid (HD.out.trans (HC.out.mono HD.out.size))
    go_simp
    go_wp2_with fail
    go_ret
    exact ⟨rfl, H5.out.trans (HE.out.mono H5.out.size)⟩
  have ee1 : (f != id) = true := by simpa using h
  clear h
  by_cases h : 1 ≤ f
  rotate_left
  · have ee2 : decide (1 ≤ f) = false := by simpa using h
    have HMN : ¬ Rf.mine n (k, f, o, t, i, u, cm, y, L) := fun hm => by obtain ⟨m0, m1, m2, m3, m4, m5, m6, m7⟩ := hm; simp only at m0 m1 m2 m3 m4 m5 m6 m7; have := HID.out; have := HMY.out; omega
    clear h
    go_wp2_with fail
    refine (HPH.out HMN).mono ?_
    rintro e w5 ⟨v5, rfl, hm5, hs5⟩
    obtain ⟨A5, d5, rfl, -, -⟩ := SlS.form hm5
    obtain ⟨G5, h5G, hp5, hk5⟩ := hs5
    have hz4 := H4.out.size
    have hb5 := hk5.below HGB.out hz4
    have H5 := Lib.hid (H4.out.trans hb5)
    replace HM := Lib.hid (hk5.whole HM.out (fun hg => by have := HGW.out _ hg; omega))
    replace HL := Lib.hid (hk5.whole HL.out (fun hg => by have := HGW.out _ hg; omega))
    have HV := Lib.hid (fun W (hb : Below w5.heap.size w5 W) => Sl.mono (hv0.out W (H5.out.trans (hb.mono H5.out.size))) (Nat.le_trans H5.out.size hb.size))
    have HLG := Lib.hid (fun W (hb : Below w5.heap.size w5 W) => plog_any n G5 _ s HG.out _ W (hp5.stay hb))
    have HRO := Lib.hid (fun W (hb : Below w5.heap.size w5 W) => prole_any n G5 _ s HG.out _ W (hp5.stay hb))
    have HBA := Lib.hid (fun W (hb : Below w5.heap.size w5 W) => pballot_any n G5 _ s HG.out _ W (hp5.stay hb))
    have HSE := Lib.hid (fun W (hb : Below w5.heap.size w5 W) => psettled_any n G5 _ s HG.out _ W (hp5.stay hb))
    rw [HSL.out] at HLG
    rw [HSI.out] at HRO
    rw [HSB.out] at HBA
    rw [HSU.out] at HSE
    clear p0 p1 r0 r1 r2 q0 q1 q2 q3 q4 q5 q6 q7 q8
    clear hp5 hk5 hb5 hm5 h5G
    have h00 : ([] : List Rf.Msg).length = 0 := rfl
    rw [h00]
    clear h00
    have e3 : (b1 == b1) = true := by simp
    have e4 : (b2 == b2) = true := by simp
    go_wp2_with fail
    refine z_start ((w5).drew.heap.size) [] (by kernel_rfl) ?_
    have HC := Lib.hid (Below.refl ((w5).drew.heap.size) (w5).drew)
    have hBz : (w5).drew.heap.size ≤ (w5).drew.heap.size := Nat.le_refl _
    replace HM := Lib.hid (show Whole (w5).drew _ _ _ from HM.out)
    have hltM := HM.out.lt
    replace HL := Lib.hid (show Whole (w5).drew _ _ _ from HL.out)
    have hltL := HL.out.lt
    have HD := Lib.hid ((Below.refl w5.heap.size w5).drew)
    generalize (w5).drew = z1 at *
    refine z_take (i := 0) (v := ?_) rfl (by kernel_rfl) (by kernel_rfl) (by kernel_rfl) (k0 := 0) (by kernel_rfl) (by kernel_rfl) (.inl rfl) (fun _ _ _ h => h) (by rfl) HC.out ?_ ?_
    rotate_left
    · intro W hW
      go_simp
      first | done | rfl
    simp only [Act.put, List.setIfInBounds_toArray, List.set_cons_zero, List.set_cons_succ, List.getElem_toArray, List.getElem_cons_zero]
    refine z_take (i := 2) (v := ?_) rfl (by kernel_rfl) (by kernel_rfl) (by kernel_rfl) (k0 := 2) (by kernel_rfl) (by kernel_rfl) (.inl rfl) (fun _ _ _ h => h) (by rfl) HC.out ?_ ?_
    rotate_left
    · intro W hW
      obtain ⟨r0, r1, r2⟩ := (HL.out.below hW hltL).c3
      go_simp
      first | done | rfl
    simp only [Act.put, List.setIfInBounds_toArray, List.set_cons_zero, List.set_cons_succ, List.getElem_toArray, List.getElem_cons_zero, List.getElem_cons_succ]
    refine z_one (i := 1) (by kernel_rfl) ?_
    refine onez_call (i := 1) (f := 14) (args := ?_) rfl (by rfl) ?_ ?_
    rotate_left
    · go_simp
      first | done | rfl
    with_reducible refine (HLG.out _ (HD.out.trans (HC.out.mono HD.out.size))).mono ?_
    rintro e z2 ⟨v6, rfl, hs, hb⟩
    refine ⟨_, rfl, fun _ => HC.out.trans (hb.mono hBz), ?_⟩
    replace HC := Lib.hid (HC.out.trans (hb.mono hBz))
    replace hBz := Nat.le_trans hBz hb.size
    have HVV := Lib.hid (show Sl z2 (z2).heap.size v6 l from SlS.wide hs (fun _ _ h => h))
    clear hs
    clear hb
    simp only [Act.put, List.setIfInBounds_toArray, List.set_cons_zero, List.set_cons_succ, List.getElem_toArray, List.getElem_cons_zero, List.getElem_cons_succ]
    refine z_one (i := 3) (by kernel_rfl) ?_
    refine onez_call (i := 3) (f := 18) (args := ?_) rfl (by rfl) ?_ ?_
    rotate_left
    · go_simp
      first | done | rfl
    with_reducible refine (logs_any 0 0 _ _ l z2 (z2).heap.size (Nat.le_refl _) HVV.out (HV.out _ (HD.out.trans (HC.out.mono HD.out.size)))).mono ?_
    rintro e z3 ⟨rfl, hb⟩
    refine ⟨_, rfl, fun _ => HC.out.trans (hb.mono hBz), ?_⟩
    replace HC := Lib.hid (HC.out.trans (hb.mono hBz))
    replace hBz := Nat.le_trans hBz hb.size
    clear hb
    simp only [Act.put, List.setIfInBounds_toArray, List.set_cons_zero, List.set_cons_succ, List.getElem_toArray, List.getElem_cons_zero, List.getElem_cons_succ]
    refine z_take (i := 4) (v := ?_) rfl (by kernel_rfl) (by kernel_rfl) (by kernel_rfl) (k0 := 4) (by kernel_rfl) (by kernel_rfl) (.inl rfl) (fun _ _ _ h => h) (by rfl) HC.out ?_ ?_
    rotate_left
    · intro W hW
      go_simp
      first | done | rfl
    simp only [Act.put, List.setIfInBounds_toArray, List.set_cons_zero, List.set_cons_succ, List.getElem_toArray, List.getElem_cons_zero, List.getElem_cons_succ]
    refine z_done (by kernel_rfl) ?_
    replace HD := Lib.hid (HD.out.trans (HC.out.mono HD.out.size))
    replace HM := Lib.hid (HM.out.below HC.out hltM)
    replace HL := Lib.hid (HL.out.below HC.out hltL)
    clear HC hBz hltM hltL HVV
    go_simp
    generalize hw6 : z3 = w6 at *
    clear hw6
    go_wp2_with fail
    refine z_start ((w6).drew.heap.size) [] (by kernel_rfl) ?_
    have HC := Lib.hid (Below.refl ((w6).drew.heap.size) (w6).drew)
    have hBz : (w6).drew.heap.size ≤ (w6).drew.heap.size := Nat.le_refl _
    replace HM := Lib.hid (show Whole (w6).drew _ _ _ from HM.out)
    have hltM := HM.out.lt
    replace HL := Lib.hid (show Whole (w6).drew _ _ _ from HL.out)
    have hltL := HL.out.lt
    replace HD := Lib.hid (HD.out.trans ((Below.refl _ _).drew.mono HD.out.size))
    generalize (w6).drew = y1 at *
    refine z_take (i := 0) (v := ?_) rfl (by kernel_rfl) (by kernel_rfl) (by kernel_rfl) (k0 := 0) (by kernel_rfl) (by kernel_rfl) (.inl rfl) (fun _ _ _ h => h) (by rfl) HC.out ?_ ?_
    rotate_left
    · intro W hW
      go_simp
      first | done | rfl
    simp only [Act.put, List.setIfInBounds_toArray, List.set_cons_zero, List.set_cons_succ, List.getElem_toArray, List.getElem_cons_zero]
    refine z_take (i := 1) (v := ?_) rfl (by kernel_rfl) (by kernel_rfl) (by kernel_rfl) (k0 := 1) (by kernel_rfl) (by kernel_rfl) (.inl rfl) (fun _ _ _ h => h) (by rfl) HC.out ?_ ?_
    rotate_left
    · intro W hW
      go_simp
      first | done | rfl
    simp only [Act.put, List.setIfInBounds_toArray, List.set_cons_zero, List.set_cons_succ, List.getElem_toArray, List.getElem_cons_zero, List.getElem_cons_succ]
    refine z_take (i := 2) (v := ?_) rfl (by kernel_rfl) (by kernel_rfl) (by kernel_rfl) (k0 := 2) (by kernel_rfl) (by kernel_rfl) (.inl rfl) (fun _ _ _ h => h) (by rfl) HC.out ?_ ?_
    rotate_left
    · intro W hW
      go_simp
      first | done | rfl
    simp only [Act.put, List.setIfInBounds_toArray, List.set_cons_zero, List.set_cons_succ, List.getElem_toArray, List.getElem_cons_zero, List.getElem_cons_succ]
    refine z_take (i := 3) (v := ?_) rfl (by kernel_rfl) (by kernel_rfl) (by kernel_rfl) (k0 := 3) (by kernel_rfl) (by kernel_rfl) (.inl rfl) (fun _ _ _ h => h) (by rfl) HC.out ?_ ?_
    rotate_left
    · intro W hW
      go_simp
      first | done | rfl
    simp only [Act.put, List.setIfInBounds_toArray, List.set_cons_zero, List.set_cons_succ, List.getElem_toArray, List.getElem_cons_zero, List.getElem_cons_succ]
    refine z_take (i := 4) (v := ?_) rfl (by kernel_rfl) (by kernel_rfl) (by kernel_rfl) (k0 := 4) (by kernel_rfl) (by kernel_rfl) (.inl rfl) (fun _ _ _ h => h) (by rfl) HC.out ?_ ?_
    rotate_left
    · intro W hW
      go_simp
      first | done | rfl
    simp only [Act.put, List.setIfInBounds_toArray, List.set_cons_zero, List.set_cons_succ, List.getElem_toArray, List.getElem_cons_zero, List.getElem_cons_succ]
    refine z_take (i := 5) (v := ?_) rfl (by kernel_rfl) (by kernel_rfl) (by kernel_rfl) (k0 := 5) (by kernel_rfl) (by kernel_rfl) (.inl rfl) (fun _ _ _ h => h) (by rfl) HC.out ?_ ?_
    rotate_left
    · intro W hW
      go_simp
      first | done | rfl
    simp only [Act.put, List.setIfInBounds_toArray, List.set_cons_zero, List.set_cons_succ, List.getElem_toArray, List.getElem_cons_zero, List.getElem_cons_succ]
    refine z_take (i := 6) (v := ?_) rfl (by kernel_rfl) (by kernel_rfl) (by kernel_rfl) (k0 := 6) (by kernel_rfl) (by kernel_rfl) (.inl rfl) (fun _ _ _ h => h) (by rfl) HC.out ?_ ?_
    rotate_left
    · intro W hW
      go_simp
      first | done | rfl
    simp only [Act.put, List.setIfInBounds_toArray, List.set_cons_zero, List.set_cons_succ, List.getElem_toArray, List.getElem_cons_zero, List.getElem_cons_succ]
    refine z_take (i := 7) (v := ?_) rfl (by kernel_rfl) (by kernel_rfl) (by kernel_rfl) (k0 := 7) (by kernel_rfl) (by kernel_rfl) (.inl rfl) (fun _ _ _ h => h) (by rfl) HC.out ?_ ?_
    rotate_left
    · intro W hW
      go_simp
      first | done | rfl
    simp only [Act.put, List.setIfInBounds_toArray, List.set_cons_zero, List.set_cons_succ, List.getElem_toArray, List.getElem_cons_zero, List.getElem_cons_succ]
    refine z_take (i := 9) (v := ?_) rfl (by kernel_rfl) (by kernel_rfl) (by kernel_rfl) (k0 := 9) (by kernel_rfl) (by kernel_rfl) (.inl rfl) (fun _ _ _ h => h) (by rfl) HC.out ?_ ?_
    rotate_left
    · intro W hW
      obtain ⟨p0, p1⟩ := (HM.out.below hW hltM).c2
      go_simp
      first | done | rfl
    simp only [Act.put, List.setIfInBounds_toArray, List.set_cons_zero, List.set_cons_succ, List.getElem_toArray, List.getElem_cons_zero, List.getElem_cons_succ]
    refine z_one (i := 8) (by kernel_rfl) ?_
    refine onez_call (i := 8) (f := 11) (args := ?_) rfl (by rfl) ?_ ?_
    rotate_left
    · go_simp
      first | done | rfl
    with_reducible refine (HBA.out _ (HD.out.trans (HC.out.mono HD.out.size))).mono ?_
    rintro e y2 ⟨rfl, hb⟩
    refine ⟨_, rfl, fun _ => HC.out.trans (hb.mono hBz), ?_⟩
    replace HC := Lib.hid (HC.out.trans (hb.mono hBz))
    replace hBz := Nat.le_trans hBz hb.size
    clear hb
    simp only [Act.put, List.setIfInBounds_toArray, List.set_cons_zero, List.set_cons_succ, List.getElem_toArray, List.getElem_cons_zero, List.getElem_cons_succ]
    refine z_take (i := 10) (v := ?_) rfl (by kernel_rfl) (by kernel_rfl) (by kernel_rfl) (k0 := 10) (by kernel_rfl) (by kernel_rfl) (.inl rfl) (fun _ _ _ h => h) (by rfl) HC.out ?_ ?_
    rotate_left
    · intro W hW
      go_simp
      first | done | rfl
    simp only [Act.put, List.setIfInBounds_toArray, List.set_cons_zero, List.set_cons_succ, List.getElem_toArray, List.getElem_cons_zero, List.getElem_cons_succ]
    refine z_take (i := 11) (v := ?_) rfl (by kernel_rfl) (by kernel_rfl) (by kernel_rfl) (k0 := 11) (by kernel_rfl) (by kernel_rfl) (.inl rfl) (fun _ _ _ h => h) (by rfl) HC.out ?_ ?_
    rotate_left
    · intro W hW
      go_simp
      first | done | rfl
    simp only [Act.put, List.setIfInBounds_toArray, List.set_cons_zero, List.set_cons_succ, List.getElem_toArray, List.getElem_cons_zero, List.getElem_cons_succ]
    refine z_take (i := 12) (v := ?_) rfl (by kernel_rfl) (by kernel_rfl) (by kernel_rfl) (k0 := 12) (by kernel_rfl) (by kernel_rfl) (.inl rfl) (fun _ _ _ h => h) (by rfl) HC.out ?_ ?_
    rotate_left
    · intro W hW
      go_simp
      first | done | rfl
    simp only [Act.put, List.setIfInBounds_toArray, List.set_cons_zero, List.set_cons_succ, List.getElem_toArray, List.getElem_cons_zero, List.getElem_cons_succ]
    refine z_take (i := 13) (v := ?_) rfl (by kernel_rfl) (by kernel_rfl) (by kernel_rfl) (k0 := 13) (by kernel_rfl) (by kernel_rfl) (.inl rfl) (fun _ _ _ h => h) (by rfl) HC.out ?_ ?_
    rotate_left
    · intro W hW
      go_simp
      first | done | rfl
    simp only [Act.put, List.setIfInBounds_toArray, List.set_cons_zero, List.set_cons_succ, List.getElem_toArray, List.getElem_cons_zero, List.getElem_cons_succ]
    refine z_one (i := 14) (by kernel_rfl) ?_
    refine onez_call (i := 14) (f := 13) (args := ?_) rfl (by rfl) ?_ ?_
    rotate_left
    · go_simp
      first | done | rfl
    with_reducible refine (HRO.out _ (HD.out.trans (HC.out.mono HD.out.size))).mono ?_
    rintro e y3 ⟨rfl, hb⟩
    refine ⟨_, rfl, fun _ => HC.out.trans (hb.mono hBz), ?_⟩
    replace HC := Lib.hid (HC.out.trans (hb.mono hBz))
    replace hBz := Nat.le_trans hBz hb.size
    clear hb
    simp only [Act.put, List.setIfInBounds_toArray, List.set_cons_zero, List.set_cons_succ, List.getElem_toArray, List.getElem_cons_zero, List.getElem_cons_succ]
    refine z_take (i := 15) (v := ?_) rfl (by kernel_rfl) (by kernel_rfl) (by kernel_rfl) (k0 := 15) (by kernel_rfl) (by kernel_rfl) (.inl rfl) (fun _ _ _ h => h) (by rfl) HC.out ?_ ?_
    rotate_left
    · intro W hW
      go_simp
      first | done | rfl
    simp only [Act.put, List.setIfInBounds_toArray, List.set_cons_zero, List.set_cons_succ, List.getElem_toArray, List.getElem_cons_zero, List.getElem_cons_succ]
    refine z_take (i := 16) (v := ?_) rfl (by kernel_rfl) (by kernel_rfl) (by kernel_rfl) (k0 := 16) (by kernel_rfl) (by kernel_rfl) (.inl rfl) (fun _ _ _ h => h) (by rfl) HC.out ?_ ?_
    rotate_left
    · intro W hW
      go_simp
      first | done | rfl
    simp only [Act.put, List.setIfInBounds_toArray, List.set_cons_zero, List.set_cons_succ, List.getElem_toArray, List.getElem_cons_zero, List.getElem_cons_succ]
    refine z_take (i := 17) (v := ?_) rfl (by kernel_rfl) (by kernel_rfl) (by kernel_rfl) (k0 := 17) (by kernel_rfl) (by kernel_rfl) (.inl rfl) (fun _ _ _ h => h) (by rfl) HC.out ?_ ?_
    rotate_left
    · intro W hW
      go_simp
      first | done | rfl
    simp only [Act.put, List.setIfInBounds_toArray, List.set_cons_zero, List.set_cons_succ, List.getElem_toArray, List.getElem_cons_zero, List.getElem_cons_succ]
    refine z_take (i := 18) (v := ?_) rfl (by kernel_rfl) (by kernel_rfl) (by kernel_rfl) (k0 := 18) (by kernel_rfl) (by kernel_rfl) (.inl rfl) (fun _ _ _ h => h) (by rfl) HC.out ?_ ?_
    rotate_left
    · intro W hW
      go_simp
      first | done | rfl
    simp only [Act.put, List.setIfInBounds_toArray, List.set_cons_zero, List.set_cons_succ, List.getElem_toArray, List.getElem_cons_zero, List.getElem_cons_succ]
    refine z_one (i := 19) (by kernel_rfl) ?_
    refine onez_call (i := 19) (f := 12) (args := ?_) rfl (by rfl) ?_ ?_
    rotate_left
    · go_simp
      first | done | rfl
    with_reducible refine (HSE.out _ (HD.out.trans (HC.out.mono HD.out.size))).mono ?_
    rintro e y4 ⟨rfl, hb⟩
    refine ⟨_, rfl, fun _ => HC.out.trans (hb.mono hBz), ?_⟩
    replace HC := Lib.hid (HC.out.trans (hb.mono hBz))
    replace hBz := Nat.le_trans hBz hb.size
    clear hb
    simp only [Act.put, List.setIfInBounds_toArray, List.set_cons_zero, List.set_cons_succ, List.getElem_toArray, List.getElem_cons_zero, List.getElem_cons_succ]
    refine z_take (i := 20) (v := ?_) rfl (by kernel_rfl) (by kernel_rfl) (by kernel_rfl) (k0 := 20) (by kernel_rfl) (by kernel_rfl) (.inl rfl) (fun _ _ _ h => h) (by rfl) HC.out ?_ ?_
    rotate_left
    · intro W hW
      go_simp
      first | done | rfl
    simp only [Act.put, List.setIfInBounds_toArray, List.set_cons_zero, List.set_cons_succ, List.getElem_toArray, List.getElem_cons_zero, List.getElem_cons_succ]
    refine z_take (i := 21) (v := ?_) rfl (by kernel_rfl) (by kernel_rfl) (by kernel_rfl) (k0 := 21) (by kernel_rfl) (by kernel_rfl) (.inl rfl) (fun _ _ _ h => h) (by rfl) HC.out ?_ ?_
    rotate_left
    · intro W hW
      go_simp
      first | done | rfl
    simp only [Act.put, List.setIfInBounds_toArray, List.set_cons_zero, List.set_cons_succ, List.getElem_toArray, List.getElem_cons_zero, List.getElem_cons_succ]
    refine z_take (i := 22) (v := ?_) rfl (by kernel_rfl) (by kernel_rfl) (by kernel_rfl) (k0 := 22) (by kernel_rfl) (by kernel_rfl) (.inl rfl) (fun _ _ _ h => h) (by rfl) HC.out ?_ ?_
    rotate_left
    · intro W hW
      go_simp
      first | done | rfl
    simp only [Act.put, List.setIfInBounds_toArray, List.set_cons_zero, List.set_cons_succ, List.getElem_toArray, List.getElem_cons_zero, List.getElem_cons_succ]
    refine z_done (by kernel_rfl) ?_
    have HE := Lib.hid (HD.out.trans (HC.out.mono HD.out.size))
    go_simp
    go_wp2_with fail
    go_ret
    exact ⟨rfl, H5.out.trans (HE.out.mono H5.out.size)⟩
  have ee2 : decide (1 ≤ f) = true := by simpa using h
  clear h
  by_cases h : f ≤ many
  rotate_left
  · have ee3 : decide (f ≤ many) = false := by simpa using h
    have HMN : ¬ Rf.mine n (k, f, o, t, i, u, cm, y, L) := fun hm => by obtain ⟨m0, m1, m2, m3, m4, m5, m6, m7⟩ := hm; simp only at m0 m1 m2 m3 m4 m5 m6 m7; have := HID.out; have := HMY.out; omega
    clear h
    go_wp2_with fail
    refine (HPH.out HMN).mono ?_
    rintro e w5 ⟨v5, rfl, hm5, hs5⟩
    obtain ⟨A5, d5, rfl, -, -⟩ := SlS.form hm5
    obtain ⟨G5, h5G, hp5, hk5⟩ := hs5
    have hz4 := H4.out.size
    have hb5 := hk5.below HGB.out hz4
    have H5 := Lib.hid (H4.out.trans hb5)
    replace HM := Lib.hid (hk5.whole HM.out (fun hg => by have := HGW.out _ hg; omega))
    replace HL := Lib.hid (hk5.whole HL.out (fun hg => by have := HGW.out _ hg; omega))
    have HV := Lib.hid (fun W (hb : Below w5.heap.size w5 W) => Sl.mono (hv0.out W (H5.out.trans (hb.mono H5.out.size))) (Nat.le_trans H5.out.size hb.size))
    have HLG := Lib.hid (fun W (hb : Below w5.heap.size w5 W) => plog_any n G5 _ s HG.out _ W (hp5.stay hb))
    have HRO := Lib.hid (fun W (hb : Below w5.heap.size w5 W) => prole_any n G5 _ s HG.out _ W (hp5.stay hb))
    have HBA := Lib.hid (fun W (hb : Below w5.heap.size w5 W) => pballot_any n G5 _ s HG.out _ W (hp5.stay hb))
    have HSE := Lib.hid (fun W (hb : Below w5.heap.size w5 W) => psettled_any n G5 _ s HG.out _ W (hp5.stay hb))
    rw [HSL.out] at HLG
    rw [HSI.out] at HRO
    rw [HSB.out] at HBA
    rw [HSU.out] at HSE
    clear p0 p1 r0 r1 r2 q0 q1 q2 q3 q4 q5 q6 q7 q8
    clear hp5 hk5 hb5 hm5 h5G
    have h00 : ([] : List Rf.Msg).length = 0 := rfl
    rw [h00]
    clear h00
    have e3 : (b1 == b1) = true := by simp
    have e4 : (b2 == b2) = true := by simp
    go_wp2_with fail
    refine z_start ((w5).drew.heap.size) [] (by kernel_rfl) ?_
    have HC := Lib.hid (Below.refl ((w5).drew.heap.size) (w5).drew)
    have hBz : (w5).drew.heap.size ≤ (w5).drew.heap.size := Nat.le_refl _
    replace HM := Lib.hid (show Whole (w5).drew _ _ _ from HM.out)
    have hltM := HM.out.lt
    replace HL := Lib.hid (show Whole (w5).drew _ _ _ from HL.out)
    have hltL := HL.out.lt
    have HD := Lib.hid ((Below.refl w5.heap.size w5).drew)
    generalize (w5).drew = z1 at *
    refine z_take (i := 0) (v := ?_) rfl (by kernel_rfl) (by kernel_rfl) (by kernel_rfl) (k0 := 0) (by kernel_rfl) (by kernel_rfl) (.inl rfl) (fun _ _ _ h => h) (by rfl) HC.out ?_ ?_
    rotate_left
    · intro W hW
      go_simp
      first | done | rfl
    simp only [Act.put, List.setIfInBounds_toArray, List.set_cons_zero, List.set_cons_succ, List.getElem_toArray, List.getElem_cons_zero]
    refine z_take (i := 2) (v := ?_) rfl (by kernel_rfl) (by kernel_rfl) (by kernel_rfl) (k0 := 2) (by kernel_rfl) (by kernel_rfl) (.inl rfl) (fun _ _ _ h => h) (by rfl) HC.out ?_ ?_
    rotate_left
    · intro W hW
      obtain ⟨r0, r1, r2⟩ := (HL.out.below hW hltL).c3
      go_simp
      first | done | rfl
    simp only [Act.put, List.setIfInBounds_toArray, List.set_cons_zero, List.set_cons_succ, List.getElem_toArray, List.getElem_cons_zero, List.getElem_cons_succ]
    refine z_one (i := 1) (by kernel_rfl) ?_
    refine onez_call (i := 1) (f := 14) (args := ?_) rfl (by rfl) ?_ ?_
    rotate_left
    · go_simp
      first | done | rfl
    with_reducible refine (HLG.out _ (HD.out.trans (HC.out.mono HD.out.size))).mono ?_
    rintro e z2 ⟨v6, rfl, hs, hb⟩
    refine ⟨_, rfl, fun _ => HC.out.trans (hb.mono hBz), ?_⟩
    replace HC := Lib.hid (HC.out.trans (hb.mono hBz))
    replace hBz := Nat.le_trans hBz hb.size
    have HVV := Lib.hid (show Sl z2 (z2).heap.size v6 l from SlS.wide hs (fun _ _ h => h))
    clear hs
    clear hb
    simp only [Act.put, List.setIfInBounds_toArray, List.set_cons_zero, List.set_cons_succ, List.getElem_toArray, List.getElem_cons_zero, List.getElem_cons_succ]
    refine z_one (i := 3) (by kernel_rfl) ?_
    refine onez_call (i := 3) (f := 18) (args := ?_) rfl (by rfl) ?_ ?_
    rotate_left
    · go_simp
      first | done | rfl
    with_reducible refine (logs_any 0 0 _ _ l z2 (z2).heap.size (Nat.le_refl _) HVV.out (HV.out _ (HD.out.trans (HC.out.mono HD.out.size)))).mono ?_
    rintro e z3 ⟨rfl, hb⟩
    refine ⟨_, rfl, fun _ => HC.out.trans (hb.mono hBz), ?_⟩
    replace HC := Lib.hid (HC.out.trans (hb.mono hBz))
    replace hBz := Nat.le_trans hBz hb.size
    clear hb
    simp only [Act.put, List.setIfInBounds_toArray, List.set_cons_zero, List.set_cons_succ, List.getElem_toArray, List.getElem_cons_zero, List.getElem_cons_succ]
    refine z_take (i := 4) (v := ?_) rfl (by kernel_rfl) (by kernel_rfl) (by kernel_rfl) (k0 := 4) (by kernel_rfl) (by kernel_rfl) (.inl rfl) (fun _ _ _ h => h) (by rfl) HC.out ?_ ?_
    rotate_left
    · intro W hW
      go_simp
      first | done | rfl
    simp only [Act.put, List.setIfInBounds_toArray, List.set_cons_zero, List.set_cons_succ, List.getElem_toArray, List.getElem_cons_zero, List.getElem_cons_succ]
    refine z_done (by kernel_rfl) ?_
    replace HD := Lib.hid (HD.out.trans (HC.out.mono HD.out.size))
    replace HM := Lib.hid (HM.out.below HC.out hltM)
    replace HL := Lib.hid (HL.out.below HC.out hltL)
    clear HC hBz hltM hltL HVV
    go_simp
    generalize hw6 : z3 = w6 at *
    clear hw6
    go_wp2_with fail
    refine z_start ((w6).drew.heap.size) [] (by kernel_rfl) ?_
    have HC := Lib.hid (Below.refl ((w6).drew.heap.size) (w6).drew)
    have hBz : (w6).drew.heap.size ≤ (w6).drew.heap.size := Nat.le_refl _
    replace HM := Lib.hid (show Whole (w6).drew _ _ _ from HM.out)
    have hltM := HM.out.lt
    replace HL := Lib.hid (show Whole (w6).drew _ _ _ from HL.out)
    have hltL := HL.out.lt
    replace HD := Lib.hid (HD.out.trans ((Below.refl _ _).drew.mono HD.out.size))
    generalize (w6).drew = y1 at *
    refine z_take (i := 0) (v := ?_) rfl (by kernel_rfl) (by kernel_rfl) (by kernel_rfl) (k0 := 0) (by kernel_rfl) (by kernel_rfl) (.inl rfl) (fun _ _ _ h => h) (by rfl) HC.out ?_ ?_
    rotate_left
    · intro W hW
      go_simp
      first | done | rfl
    simp only [Act.put, List.setIfInBounds_toArray, List.set_cons_zero, List.set_cons_succ, List.getElem_toArray, List.getElem_cons_zero]
    refine z_take (i := 1) (v := ?_) rfl (by kernel_rfl) (by kernel_rfl) (by kernel_rfl) (k0 := 1) (by kernel_rfl) (by kernel_rfl) (.inl rfl) (fun _ _ _ h => h) (by rfl) HC.out ?_ ?_
    rotate_left
    · intro W hW
      go_simp
      first | done | rfl
    simp only [Act.put, List.setIfInBounds_toArray, List.set_cons_zero, List.set_cons_succ, List.getElem_toArray, List.getElem_cons_zero, List.getElem_cons_succ]
    refine z_take (i := 2) (v := ?_) rfl (by kernel_rfl) (by kernel_rfl) (by kernel_rfl) (k0 := 2) (by kernel_rfl) (by kernel_rfl) (.inl rfl) (fun _ _ _ h => h) (by rfl) HC.out ?_ ?_
    rotate_left
    · intro W hW
      go_simp
      first | done | rfl
    simp only [Act.put, List.setIfInBounds_toArray, List.set_cons_zero, List.set_cons_succ, List.getElem_toArray, List.getElem_cons_zero, List.getElem_cons_succ]
    refine z_take (i := 3) (v := ?_) rfl (by kernel_rfl) (by kernel_rfl) (by kernel_rfl) (k0 := 3) (by kernel_rfl) (by kernel_rfl) (.inl rfl) (fun _ _ _ h => h) (by rfl) HC.out ?_ ?_
    rotate_left
    · intro W hW
      go_simp
      first | done | rfl
    simp only [Act.put, List.setIfInBounds_toArray, List.set_cons_zero, List.set_cons_succ, List.getElem_toArray, List.getElem_cons_zero, List.getElem_cons_succ]
    refine z_take (i := 4) (v := ?_) rfl (by kernel_rfl) (by kernel_rfl) (by kernel_rfl) (k0 := 4) (by kernel_rfl) (by kernel_rfl) (.inl rfl) (fun _ _ _ h => h) (by rfl) HC.out ?_ ?_
    rotate_left
    · intro W hW
      go_simp
      first | done | rfl
    simp only [Act.put, List.setIfInBounds_toArray, List.set_cons_zero, List.set_cons_succ, List.getElem_toArray, List.getElem_cons_zero, List.getElem_cons_succ]
    refine z_take (i := 5) (v := ?_) rfl (by kernel_rfl) (by kernel_rfl) (by kernel_rfl) (k0 := 5) (by kernel_rfl) (by kernel_rfl) (.inl rfl) (fun _ _ _ h => h) (by rfl) HC.out ?_ ?_
    rotate_left
    · intro W hW
      go_simp
      first | done | rfl
    simp only [Act.put, List.setIfInBounds_toArray, List.set_cons_zero, List.set_cons_succ, List.getElem_toArray, List.getElem_cons_zero, List.getElem_cons_succ]
    refine z_take (i := 6) (v := ?_) rfl (by kernel_rfl) (by kernel_rfl) (by kernel_rfl) (k0 := 6) (by kernel_rfl) (by kernel_rfl) (.inl rfl) (fun _ _ _ h => h) (by rfl) HC.out ?_ ?_
    rotate_left
    · intro W hW
      go_simp
      first | done | rfl
    simp only [Act.put, List.setIfInBounds_toArray, List.set_cons_zero, List.set_cons_succ, List.getElem_toArray, List.getElem_cons_zero, List.getElem_cons_succ]
    refine z_take (i := 7) (v := ?_) rfl (by kernel_rfl) (by kernel_rfl) (by kernel_rfl) (k0 := 7) (by kernel_rfl) (by kernel_rfl) (.inl rfl) (fun _ _ _ h => h) (by rfl) HC.out ?_ ?_
    rotate_left
    · intro W hW
      go_simp
      first | done | rfl
    simp only [Act.put, List.setIfInBounds_toArray, List.set_cons_zero, List.set_cons_succ, List.getElem_toArray, List.getElem_cons_zero, List.getElem_cons_succ]
    refine z_take (i := 9) (v := ?_) rfl (by kernel_rfl) (by kernel_rfl) (by kernel_rfl) (k0 := 9) (by kernel_rfl) (by kernel_rfl) (.inl rfl) (fun _ _ _ h => h) (by rfl) HC.out ?_ ?_
    rotate_left
    · intro W hW
      obtain ⟨p0, p1⟩ := (HM.out.below hW hltM).c2
      go_simp
      first | done | rfl
    simp only [Act.put, List.setIfInBounds_toArray, List.set_cons_zero, List.set_cons_succ, List.getElem_toArray, List.getElem_cons_zero, List.getElem_cons_succ]
    refine z_one (i := 8) (by kernel_rfl) ?_
    refine onez_call (i := 8) (f := 11) (args := ?_) rfl (by rfl) ?_ ?_
    rotate_left
    · go_simp
      first | done | rfl
    with_reducible refine (HBA.out _ (HD.out.trans (HC.out.mono HD.out.size))).mono ?_
    rintro e y2 ⟨rfl, hb⟩
    refine ⟨_, rfl, fun _ => HC.out.trans (hb.mono hBz), ?_⟩
    replace HC := Lib.hid (HC.out.trans (hb.mono hBz))
    replace hBz := Nat.le_trans hBz hb.size
    clear hb
    simp only [Act.put, List.setIfInBounds_toArray, List.set_cons_zero, List.set_cons_succ, List.getElem_toArray, List.getElem_cons_zero, List.getElem_cons_succ]
    refine z_take (i := 10) (v := ?_) rfl (by kernel_rfl) (by kernel_rfl) (by kernel_rfl) (k0 := 10) (by kernel_rfl) (by kernel_rfl) (.inl rfl) (fun _ _ _ h => h) (by rfl) HC.out ?_ ?_
    rotate_left
    · intro W hW
      go_simp
      first | done | rfl
    simp only [Act.put, List.setIfInBounds_toArray, List.set_cons_zero, List.set_cons_succ, List.getElem_toArray, List.getElem_cons_zero, List.getElem_cons_succ]
    refine z_take (i := 11) (v := ?_) rfl (by kernel_rfl) (by kernel_rfl) (by kernel_rfl) (k0 := 11) (by kernel_rfl) (by kernel_rfl) (.inl rfl) (fun _ _ _ h => h) (by rfl) HC.out ?_ ?_
    rotate_left
    · intro W hW
      go_simp
      first | done | rfl
    simp only [Act.put, List.setIfInBounds_toArray, List.set_cons_zero, List.set_cons_succ, List.getElem_toArray, List.getElem_cons_zero, List.getElem_cons_succ]
    refine z_take (i := 12) (v := ?_) rfl (by kernel_rfl) (by kernel_rfl) (by kernel_rfl) (k0 := 12) (by kernel_rfl) (by kernel_rfl) (.inl rfl) (fun _ _ _ h => h) (by rfl) HC.out ?_ ?_
    rotate_left
    · intro W hW
      go_simp
      first | done | rfl
    simp only [Act.put, List.setIfInBounds_toArray, List.set_cons_zero, List.set_cons_succ, List.getElem_toArray, List.getElem_cons_zero, List.getElem_cons_succ]
    refine z_take (i := 13) (v := ?_) rfl (by kernel_rfl) (by kernel_rfl) (by kernel_rfl) (k0 := 13) (by kernel_rfl) (by kernel_rfl) (.inl rfl) (fun _ _ _ h => h) (by rfl) HC.out ?_ ?_
    rotate_left
    · intro W hW
      go_simp
      first | done | rfl
    simp only [Act.put, List.setIfInBounds_toArray, List.set_cons_zero, List.set_cons_succ, List.getElem_toArray, List.getElem_cons_zero, List.getElem_cons_succ]
    refine z_one (i := 14) (by kernel_rfl) ?_
    refine onez_call (i := 14) (f := 13) (args := ?_) rfl (by rfl) ?_ ?_
    rotate_left
    · go_simp
      first | done | rfl
    with_reducible refine (HRO.out _ (HD.out.trans (HC.out.mono HD.out.size))).mono ?_
    rintro e y3 ⟨rfl, hb⟩
    refine ⟨_, rfl, fun _ => HC.out.trans (hb.mono hBz), ?_⟩
    replace HC := Lib.hid (HC.out.trans (hb.mono hBz))
    replace hBz := Nat.le_trans hBz hb.size
    clear hb
    simp only [Act.put, List.setIfInBounds_toArray, List.set_cons_zero, List.set_cons_succ, List.getElem_toArray, List.getElem_cons_zero, List.getElem_cons_succ]
    refine z_take (i := 15) (v := ?_) rfl (by kernel_rfl) (by kernel_rfl) (by kernel_rfl) (k0 := 15) (by kernel_rfl) (by kernel_rfl) (.inl rfl) (fun _ _ _ h => h) (by rfl) HC.out ?_ ?_
    rotate_left
    · intro W hW
      go_simp
      first | done | rfl
    simp only [Act.put, List.setIfInBounds_toArray, List.set_cons_zero, List.set_cons_succ, List.getElem_toArray, List.getElem_cons_zero, List.getElem_cons_succ]
    refine z_take (i := 16) (v := ?_) rfl (by kernel_rfl) (by kernel_rfl) (by kernel_rfl) (k0 := 16) (by kernel_rfl) (by kernel_rfl) (.inl rfl) (fun _ _ _ h => h) (by rfl) HC.out ?_ ?_
    rotate_left
    · intro W hW
      go_simp
      first | done | rfl
    simp only [Act.put, List.setIfInBounds_toArray, List.set_cons_zero, List.set_cons_succ, List.getElem_toArray, List.getElem_cons_zero, List.getElem_cons_succ]
    refine z_take (i := 17) (v := ?_) rfl (by kernel_rfl) (by kernel_rfl) (by kernel_rfl) (k0 := 17) (by kernel_rfl) (by kernel_rfl) (.inl rfl) (fun _ _ _ h => h) (by rfl) HC.out ?_ ?_
    rotate_left
    · intro W hW
      go_simp
      first | done | rfl
    simp only [Act.put, List.setIfInBounds_toArray, List.set_cons_zero, List.set_cons_succ, List.getElem_toArray, List.getElem_cons_zero, List.getElem_cons_succ]
    refine z_take (i := 18) (v := ?_) rfl (by kernel_rfl) (by kernel_rfl) (by kernel_rfl) (k0 := 18) (by kernel_rfl) (by kernel_rfl) (.inl rfl) (fun _ _ _ h => h) (by rfl) HC.out ?_ ?_
    rotate_left
    · intro W hW
      go_simp
      first | done | rfl
    simp only [Act.put, List.setIfInBounds_toArray, List.set_cons_zero, List.set_cons_succ, List.getElem_toArray, List.getElem_cons_zero, List.getElem_cons_succ]
    refine z_one (i := 19) (by kernel_rfl) ?_
    refine onez_call (i := 19) (f := 12) (args := ?_) rfl (by rfl) ?_ ?_
    rotate_left
    · go_simp
      first | done | rfl
    with_reducible refine (HSE.out _ (HD.out.trans (HC.out.mono HD.out.size))).mono ?_
    rintro e y4 ⟨rfl, hb⟩
    refine ⟨_, rfl, fun _ => HC.out.trans (hb.mono hBz), ?_⟩
    replace HC := Lib.hid (HC.out.trans (hb.mono hBz))
    replace hBz := Nat.le_trans hBz hb.size
    clear hb
    simp only [Act.put, List.setIfInBounds_toArray, List.set_cons_zero, List.set_cons_succ, List.getElem_toArray, List.getElem_cons_zero, List.getElem_cons_succ]
    refine z_take (i := 20) (v := ?_) rfl (by kernel_rfl) (by kernel_rfl) (by kernel_rfl) (k0 := 20) (by kernel_rfl) (by kernel_rfl) (.inl rfl) (fun _ _ _ h => h) (by rfl) HC.out ?_ ?_
    rotate_left
    · intro W hW
      go_simp
      first | done | rfl
    simp only [Act.put, List.setIfInBounds_toArray, List.set_cons_zero, List.set_cons_succ, List.getElem_toArray, List.getElem_cons_zero, List.getElem_cons_succ]
    refine z_take (i := 21) (v := ?_) rfl (by kernel_rfl) (by kernel_rfl) (by kernel_rfl) (k0 := 21) (by kernel_rfl) (by kernel_rfl) (.inl rfl) (fun _ _ _ h => h) (by rfl) HC.out ?_ ?_
    rotate_left
    · intro W hW
      go_simp
      first | done | rfl
    simp only [Act.put, List.setIfInBounds_toArray, List.set_cons_zero, List.set_cons_succ, List.getElem_toArray, List.getElem_cons_zero, List.getElem_cons_succ]
    refine z_take (i := 22) (v := ?_) rfl (by kernel_rfl) (by kernel_rfl) (by kernel_rfl) (k0 := 22) (by kernel_rfl) (by kernel_rfl) (.inl rfl) (fun _ _ _ h => h) (by rfl) HC.out ?_ ?_
    rotate_left
    · intro W hW
      go_simp
      first | done | rfl
    simp only [Act.put, List.setIfInBounds_toArray, List.set_cons_zero, List.set_cons_succ, List.getElem_toArray, List.getElem_cons_zero, List.getElem_cons_succ]
    refine z_done (by kernel_rfl) ?_
    have HE := Lib.hid (HD.out.trans (HC.out.mono HD.out.size))
    go_simp
    go_wp2_with fail
    go_ret
    exact ⟨rfl, H5.out.trans (HE.out.mono H5.out.size)⟩
  have ee3 : decide (f ≤ many) = true := by simpa using h
  clear h
  by_cases h : 1 ≤ t
  rotate_left
  · have ee4 : decide (1 ≤ t) = false := by simpa using h
    have HMN : ¬ Rf.mine n (k, f, o, t, i, u, cm, y, L) := fun hm => by obtain ⟨m0, m1, m2, m3, m4, m5, m6, m7⟩ := hm; simp only at m0 m1 m2 m3 m4 m5 m6 m7; have := HID.out; have := HMY.out; omega
    clear h
    go_wp2_with fail
    refine (HPH.out HMN).mono ?_
    rintro e w5 ⟨v5, rfl, hm5, hs5⟩
    obtain ⟨A5, d5, rfl, -, -⟩ := SlS.form hm5
    obtain ⟨G5, h5G, hp5, hk5⟩ := hs5
    have hz4 := H4.out.size
    have hb5 := hk5.below HGB.out hz4
    have H5 := Lib.hid (H4.out.trans hb5)
    replace HM := Lib.hid (hk5.whole HM.out (fun hg => by have := HGW.out _ hg; omega))
    replace HL := Lib.hid (hk5.whole HL.out (fun hg => by have := HGW.out _ hg; omega))
    have HV := Lib.hid (fun W (hb : Below w5.heap.size w5 W) => Sl.mono (hv0.out W (H5.out.trans (hb.mono H5.out.size))) (Nat.le_trans H5.out.size hb.size))
    have HLG := Lib.hid (fun W (hb : Below w5.heap.size w5 W) => plog_any n G5 _ s HG.out _ W (hp5.stay hb))
    have HRO := Lib.hid (fun W (hb : Below w5.heap.size w5 W) => prole_any n G5 _ s HG.out _ W (hp5.stay hb))
    have HBA := Lib.hid (fun W (hb : Below w5.heap.size w5 W) => pballot_any n G5 _ s HG.out _ W (hp5.stay hb))
    have HSE := Lib.hid (fun W (hb : Below w5.heap.size w5 W) => psettled_any n G5 _ s HG.out _ W (hp5.stay hb))
    rw [HSL.out] at HLG
    rw [HSI.out] at HRO
    rw [HSB.out] at HBA
    rw [HSU.out] at HSE
    clear p0 p1 r0 r1 r2 q0 q1 q2 q3 q4 q5 q6 q7 q8
    clear hp5 hk5 hb5 hm5 h5G
    have h00 : ([] : List Rf.Msg).length = 0 := rfl
    rw [h00]
    clear h00
    have e3 : (b1 == b1) = true := by simp
    have e4 : (b2 == b2) = true := by simp
    go_wp2_with fail
    refine z_start ((w5).drew.heap.size) [] (by kernel_rfl) ?_
    have HC := Lib.hid (Below.refl ((w5).drew.heap.size) (w5).drew)
    have hBz : (w5).drew.heap.size ≤ (w5).drew.heap.size := Nat.le_refl _
    replace HM := Lib.hid (show Whole (w5).drew _ _ _ from HM.out)
    have hltM := HM.out.lt
    replace HL := Lib.hid (show Whole (w5).drew _ _ _ from HL.out)
    have hltL := HL.out.lt
    have HD := Lib.hid ((Below.refl w5.heap.size w5).drew)
    generalize (w5).drew = z1 at *
    refine z_take (i := 0) (v := ?_) rfl (by kernel_rfl) (by kernel_rfl) (by kernel_rfl) (k0 := 0) (by kernel_rfl) (by kernel_rfl) (.inl rfl) (fun _ _ _ h => h) (by rfl) HC.out ?_ ?_
    rotate_left
    · intro W hW
      go_simp
      first | done | rfl
    simp only [Act.put, List.setIfInBounds_toArray, List.set_cons_zero, List.set_cons_succ, List.getElem_toArray, List.getElem_cons_zero]
    refine z_take (i := 2) (v := ?_) rfl (by kernel_rfl) (by kernel_rfl) (by kernel_rfl) (k0 := 2) (by kernel_rfl) (by kernel_rfl) (.inl rfl) (fun _ _ _ h => h) (by rfl) HC.out ?_ ?_
    rotate_left
    · intro W hW
      obtain ⟨r0, r1, r2⟩ := (HL.out.below hW hltL).c3
      go_simp
      first | done | rfl
    simp only [Act.put, List.setIfInBounds_toArray, List.set_cons_zero, List.set_cons_succ, List.getElem_toArray, List.getElem_cons_zero, List.getElem_cons_succ]
    refine z_one (i := 1) (by kernel_rfl) ?_
    refine onez_call (i := 1) (f := 14) (args := ?_) rfl (by rfl) ?_ ?_
    rotate_left
    · go_simp
      first | done | rfl
    with_reducible refine (HLG.out _ (HD.out.trans (HC.out.mono HD.out.size))).mono ?_
    rintro e z2 ⟨v6, rfl, hs, hb⟩
    refine ⟨_, rfl, fun _ => HC.out.trans (hb.mono hBz), ?_⟩
    replace HC := Lib.hid (HC.out.trans (hb.mono hBz))
    replace hBz := Nat.le_trans hBz hb.size
    have HVV := Lib.hid (show Sl z2 (z2).heap.size v6 l from SlS.wide hs (fun _ _ h => h))
    clear hs
    clear hb
    simp only [Act.put, List.setIfInBounds_toArray, List.set_cons_zero, List.set_cons_succ, List.getElem_toArray, List.getElem_cons_zero, List.getElem_cons_succ]
    refine z_one (i := 3) (by kernel_rfl) ?_
    refine onez_call (i := 3) (f := 18) (args := ?_) rfl (by rfl) ?_ ?_
    rotate_left
    · go_simp
      first | done | rfl
    with_reducible refine (logs_any 0 0 _ _ l z2 (z2).heap.size (Nat.le_refl _) HVV.out (HV.out _ (HD.out.trans (HC.out.mono HD.out.size)))).mono ?_
    rintro e z3 ⟨rfl, hb⟩
    refine ⟨_, rfl, fun _ => HC.out.trans (hb.mono hBz), ?_⟩
    replace HC := Lib.hid (HC.out.trans (hb.mono hBz))
    replace hBz := Nat.le_trans hBz hb.size
    clear hb
    simp only [Act.put, List.setIfInBounds_toArray, List.set_cons_zero, List.set_cons_succ, List.getElem_toArray, List.getElem_cons_zero, List.getElem_cons_succ]
    refine z_take (i := 4) (v := ?_) rfl (by kernel_rfl) (by kernel_rfl) (by kernel_rfl) (k0 := 4) (by kernel_rfl) (by kernel_rfl) (.inl rfl) (fun _ _ _ h => h) (by rfl) HC.out ?_ ?_
    rotate_left
    · intro W hW
      go_simp
      first | done | rfl
    simp only [Act.put, List.setIfInBounds_toArray, List.set_cons_zero, List.set_cons_succ, List.getElem_toArray, List.getElem_cons_zero, List.getElem_cons_succ]
    refine z_done (by kernel_rfl) ?_
    replace HD := Lib.hid (HD.out.trans (HC.out.mono HD.out.size))
    replace HM := Lib.hid (HM.out.below HC.out hltM)
    replace HL := Lib.hid (HL.out.below HC.out hltL)
    clear HC hBz hltM hltL HVV
    go_simp
    generalize hw6 : z3 = w6 at *
    clear hw6
    go_wp2_with fail
    refine z_start ((w6).drew.heap.size) [] (by kernel_rfl) ?_
    have HC := Lib.hid (Below.refl ((w6).drew.heap.size) (w6).drew)
    have hBz : (w6).drew.heap.size ≤ (w6).drew.heap.size := Nat.le_refl _
    replace HM := Lib.hid (show Whole (w6).drew _ _ _ from HM.out)
    have hltM := HM.out.lt
    replace HL := Lib.hid (show Whole (w6).drew _ _ _ from HL.out)
    have hltL := HL.out.lt
    replace HD := Lib.hid (HD.out.trans ((Below.refl _ _).drew.mono HD.out.size))
    generalize (w6).drew = y1 at *
    refine z_take (i := 0) (v := ?_) rfl (by kernel_rfl) (by kernel_rfl) (by kernel_rfl) (k0 := 0) (by kernel_rfl) (by kernel_rfl) (.inl rfl) (fun _ _ _ h => h) (by rfl) HC.out ?_ ?_
    rotate_left
    · intro W hW
      go_simp
      first | done | rfl
    simp only [Act.put, List.setIfInBounds_toArray, List.set_cons_zero, List.set_cons_succ, List.getElem_toArray, List.getElem_cons_zero]
    refine z_take (i := 1) (v := ?_) rfl (by kernel_rfl) (by kernel_rfl) (by kernel_rfl) (k0 := 1) (by kernel_rfl) (by kernel_rfl) (.inl rfl) (fun _ _ _ h => h) (by rfl) HC.out ?_ ?_
    rotate_left
    · intro W hW
      go_simp
      first | done | rfl
    simp only [Act.put, List.setIfInBounds_toArray, List.set_cons_zero, List.set_cons_succ, List.getElem_toArray, List.getElem_cons_zero, List.getElem_cons_succ]
    refine z_take (i := 2) (v := ?_) rfl (by kernel_rfl) (by kernel_rfl) (by kernel_rfl) (k0 := 2) (by kernel_rfl) (by kernel_rfl) (.inl rfl) (fun _ _ _ h => h) (by rfl) HC.out ?_ ?_
    rotate_left
    · intro W hW
      go_simp
      first | done | rfl
    simp only [Act.put, List.setIfInBounds_toArray, List.set_cons_zero, List.set_cons_succ, List.getElem_toArray, List.getElem_cons_zero, List.getElem_cons_succ]
    refine z_take (i := 3) (v := ?_) rfl (by kernel_rfl) (by kernel_rfl) (by kernel_rfl) (k0 := 3) (by kernel_rfl) (by kernel_rfl) (.inl rfl) (fun _ _ _ h => h) (by rfl) HC.out ?_ ?_
    rotate_left
    · intro W hW
      go_simp
      first | done | rfl
    simp only [Act.put, List.setIfInBounds_toArray, List.set_cons_zero, List.set_cons_succ, List.getElem_toArray, List.getElem_cons_zero, List.getElem_cons_succ]
    refine z_take (i := 4) (v := ?_) rfl (by kernel_rfl) (by kernel_rfl) (by kernel_rfl) (k0 := 4) (by kernel_rfl) (by kernel_rfl) (.inl rfl) (fun _ _ _ h => h) (by rfl) HC.out ?_ ?_
    rotate_left
    · intro W hW
      go_simp
      first | done | rfl
    simp only [Act.put, List.setIfInBounds_toArray, List.set_cons_zero, List.set_cons_succ, List.getElem_toArray, List.getElem_cons_zero, List.getElem_cons_succ]
    refine z_take (i := 5) (v := ?_) rfl (by kernel_rfl) (by kernel_rfl) (by kernel_rfl) (k0 := 5) (by kernel_rfl) (by kernel_rfl) (.inl rfl) (fun _ _ _ h => h) (by rfl) HC.out ?_ ?_
    rotate_left
    · intro W hW
      go_simp
      first | done | rfl
    simp only [Act.put, List.setIfInBounds_toArray, List.set_cons_zero, List.set_cons_succ, List.getElem_toArray, List.getElem_cons_zero, List.getElem_cons_succ]
    refine z_take (i := 6) (v := ?_) rfl (by kernel_rfl) (by kernel_rfl) (by kernel_rfl) (k0 := 6) (by kernel_rfl) (by kernel_rfl) (.inl rfl) (fun _ _ _ h => h) (by rfl) HC.out ?_ ?_
    rotate_left
    · intro W hW
      go_simp
      first | done | rfl
    simp only [Act.put, List.setIfInBounds_toArray, List.set_cons_zero, List.set_cons_succ, List.getElem_toArray, List.getElem_cons_zero, List.getElem_cons_succ]
    refine z_take (i := 7) (v := ?_) rfl (by kernel_rfl) (by kernel_rfl) (by kernel_rfl) (k0 := 7) (by kernel_rfl) (by kernel_rfl) (.inl rfl) (fun _ _ _ h => h) (by rfl) HC.out ?_ ?_
    rotate_left
    · intro W hW
      go_simp
      first | done | rfl
    simp only [Act.put, List.setIfInBounds_toArray, List.set_cons_zero, List.set_cons_succ, List.getElem_toArray, List.getElem_cons_zero, List.getElem_cons_succ]
    refine z_take (i := 9) (v := ?_) rfl (by kernel_rfl) (by kernel_rfl) (by kernel_rfl) (k0 := 9) (by kernel_rfl) (by kernel_rfl) (.inl rfl) (fun _ _ _ h => h) (by rfl) HC.out ?_ ?_
    rotate_left
    · intro W hW
      obtain ⟨p0, p1⟩ := (HM.out.below hW hltM).c2
      go_simp
      first | done | rfl
    simp only [Act.put, List.setIfInBounds_toArray, List.set_cons_zero, List.set_cons_succ, List.getElem_toArray, List.getElem_cons_zero, List.getElem_cons_succ]
    refine z_one (i := 8) (by kernel_rfl) ?_
    refine onez_call (i := 8) (f := 11) (args := ?_) rfl (by rfl) ?_ ?_
    rotate_left
    · go_simp
      first | done | rfl
    with_reducible refine (HBA.out _ (HD.out.trans (HC.out.mono HD.out.size))).mono ?_
    rintro e y2 ⟨rfl, hb⟩
    refine ⟨_, rfl, fun _ => HC.out.trans (hb.mono hBz), ?_⟩
    replace HC := Lib.hid (HC.out.trans (hb.mono hBz))
    replace hBz := Nat.le_trans hBz hb.size
    clear hb
    simp only [Act.put, List.setIfInBounds_toArray, List.set_cons_zero, List.set_cons_succ, List.getElem_toArray, List.getElem_cons_zero, List.getElem_cons_succ]
    refine z_take (i := 10) (v := ?_) rfl (by kernel_rfl) (by kernel_rfl) (by kernel_rfl) (k0 := 10) (by kernel_rfl) (by kernel_rfl) (.inl rfl) (fun _ _ _ h => h) (by rfl) HC.out ?_ ?_
    rotate_left
    · intro W hW
      go_simp
      first | done | rfl
    simp only [Act.put, List.setIfInBounds_toArray, List.set_cons_zero, List.set_cons_succ, List.getElem_toArray, List.getElem_cons_zero, List.getElem_cons_succ]
    refine z_take (i := 11) (v := ?_) rfl (by kernel_rfl) (by kernel_rfl) (by kernel_rfl) (k0 := 11) (by kernel_rfl) (by kernel_rfl) (.inl rfl) (fun _ _ _ h => h) (by rfl) HC.out ?_ ?_
    rotate_left
    · intro W hW
      go_simp
      first | done | rfl
    simp only [Act.put, List.setIfInBounds_toArray, List.set_cons_zero, List.set_cons_succ, List.getElem_toArray, List.getElem_cons_zero, List.getElem_cons_succ]
    refine z_take (i := 12) (v := ?_) rfl (by kernel_rfl) (by kernel_rfl) (by kernel_rfl) (k0 := 12) (by kernel_rfl) (by kernel_rfl) (.inl rfl) (fun _ _ _ h => h) (by rfl) HC.out ?_ ?_
    rotate_left
    · intro W hW
      go_simp
      first | done | rfl
    simp only [Act.put, List.setIfInBounds_toArray, List.set_cons_zero, List.set_cons_succ, List.getElem_toArray, List.getElem_cons_zero, List.getElem_cons_succ]
    refine z_take (i := 13) (v := ?_) rfl (by kernel_rfl) (by kernel_rfl) (by kernel_rfl) (k0 := 13) (by kernel_rfl) (by kernel_rfl) (.inl rfl) (fun _ _ _ h => h) (by rfl) HC.out ?_ ?_
    rotate_left
    · intro W hW
      go_simp
      first | done | rfl
    simp only [Act.put, List.setIfInBounds_toArray, List.set_cons_zero, List.set_cons_succ, List.getElem_toArray, List.getElem_cons_zero, List.getElem_cons_succ]
    refine z_one (i := 14) (by kernel_rfl) ?_
    refine onez_call (i := 14) (f := 13) (args := ?_) rfl (by rfl) ?_ ?_
    rotate_left
    · go_simp
      first | done | rfl
    with_reducible refine (HRO.out _ (HD.out.trans (HC.out.mono HD.out.size))).mono ?_
    rintro e y3 ⟨rfl, hb⟩
    refine ⟨_, rfl, fun _ => HC.out.trans (hb.mono hBz), ?_⟩
    replace HC := Lib.hid (HC.out.trans (hb.mono hBz))
    replace hBz := Nat.le_trans hBz hb.size
    clear hb
    simp only [Act.put, List.setIfInBounds_toArray, List.set_cons_zero, List.set_cons_succ, List.getElem_toArray, List.getElem_cons_zero, List.getElem_cons_succ]
    refine z_take (i := 15) (v := ?_) rfl (by kernel_rfl) (by kernel_rfl) (by kernel_rfl) (k0 := 15) (by kernel_rfl) (by kernel_rfl) (.inl rfl) (fun _ _ _ h => h) (by rfl) HC.out ?_ ?_
    rotate_left
    · intro W hW
      go_simp
      first | done | rfl
    simp only [Act.put, List.setIfInBounds_toArray, List.set_cons_zero, List.set_cons_succ, List.getElem_toArray, List.getElem_cons_zero, List.getElem_cons_succ]
    refine z_take (i := 16) (v := ?_) rfl (by kernel_rfl) (by kernel_rfl) (by kernel_rfl) (k0 := 16) (by kernel_rfl) (by kernel_rfl) (.inl rfl) (fun _ _ _ h => h) (by rfl) HC.out ?_ ?_
    rotate_left
    · intro W hW
      go_simp
      first | done | rfl
    simp only [Act.put, List.setIfInBounds_toArray, List.set_cons_zero, List.set_cons_succ, List.getElem_toArray, List.getElem_cons_zero, List.getElem_cons_succ]
    refine z_take (i := 17) (v := ?_) rfl (by kernel_rfl) (by kernel_rfl) (by kernel_rfl) (k0 := 17) (by kernel_rfl) (by kernel_rfl) (.inl rfl) (fun _ _ _ h => h) (by rfl) HC.out ?_ ?_
    rotate_left
    · intro W hW
      go_simp
      first | done | rfl
    simp only [Act.put, List.setIfInBounds_toArray, List.set_cons_zero, List.set_cons_succ, List.getElem_toArray, List.getElem_cons_zero, List.getElem_cons_succ]
    refine z_take (i := 18) (v := ?_) rfl (by kernel_rfl) (by kernel_rfl) (by kernel_rfl) (k0 := 18) (by kernel_rfl) (by kernel_rfl) (.inl rfl) (fun _ _ _ h => h) (by rfl) HC.out ?_ ?_
    rotate_left
    · intro W hW
      go_simp
      first | done | rfl
    simp only [Act.put, List.setIfInBounds_toArray, List.set_cons_zero, List.set_cons_succ, List.getElem_toArray, List.getElem_cons_zero, List.getElem_cons_succ]
    refine z_one (i := 19) (by kernel_rfl) ?_
    refine onez_call (i := 19) (f := 12) (args := ?_) rfl (by rfl) ?_ ?_
    rotate_left
    · go_simp
      first | done | rfl
    with_reducible refine (HSE.out _ (HD.out.trans (HC.out.mono HD.out.size))).mono ?_
    rintro e y4 ⟨rfl, hb⟩
    refine ⟨_, rfl, fun _ => HC.out.trans (hb.mono hBz), ?_⟩
    replace HC := Lib.hid (HC.out.trans (hb.mono hBz))
    replace hBz := Nat.le_trans hBz hb.size
    clear hb
    simp only [Act.put, List.setIfInBounds_toArray, List.set_cons_zero, List.set_cons_succ, List.getElem_toArray, List.getElem_cons_zero, List.getElem_cons_succ]
    refine z_take (i := 20) (v := ?_) rfl (by kernel_rfl) (by kernel_rfl) (by kernel_rfl) (k0 := 20) (by kernel_rfl) (by kernel_rfl) (.inl rfl) (fun _ _ _ h => h) (by rfl) HC.out ?_ ?_
    rotate_left
    · intro W hW
      go_simp
      first | done | rfl
    simp only [Act.put, List.setIfInBounds_toArray, List.set_cons_zero, List.set_cons_succ, List.getElem_toArray, List.getElem_cons_zero, List.getElem_cons_succ]
    refine z_take (i := 21) (v := ?_) rfl (by kernel_rfl) (by kernel_rfl) (by kernel_rfl) (k0 := 21) (by kernel_rfl) (by kernel_rfl) (.inl rfl) (fun _ _ _ h => h) (by rfl) HC.out ?_ ?_
    rotate_left
    · intro W hW
      go_simp
      first | done | rfl
    simp only [Act.put, List.setIfInBounds_toArray, List.set_cons_zero, List.set_cons_succ, List.getElem_toArray, List.getElem_cons_zero, List.getElem_cons_succ]
    refine z_take (i := 22) (v := ?_) rfl (by kernel_rfl) (by kernel_rfl) (by kernel_rfl) (k0 := 22) (by kernel_rfl) (by kernel_rfl) (.inl rfl) (fun _ _ _ h => h) (by rfl) HC.out ?_ ?_
    rotate_left
    · intro W hW
      go_simp
      first | done | rfl
    simp only [Act.put, List.setIfInBounds_toArray, List.set_cons_zero, List.set_cons_succ, List.getElem_toArray, List.getElem_cons_zero, List.getElem_cons_succ]
    refine z_done (by kernel_rfl) ?_
    have HE := Lib.hid (HD.out.trans (HC.out.mono HD.out.size))
    go_simp
    go_wp2_with fail
    go_ret
    exact ⟨rfl, H5.out.trans (HE.out.mono H5.out.size)⟩
  have ee4 : decide (1 ≤ t) = true := by simpa using h
  clear h
  by_cases h : t ≤ 1073741824
  rotate_left
  · have ee5 : decide (t ≤ 1073741824) = false := by simpa using h
    have HMN : ¬ Rf.mine n (k, f, o, t, i, u, cm, y, L) := fun hm => by obtain ⟨m0, m1, m2, m3, m4, m5, m6, m7⟩ := hm; simp only at m0 m1 m2 m3 m4 m5 m6 m7; have := HID.out; have := HMY.out; omega
    clear h
    go_wp2_with fail
    refine (HPH.out HMN).mono ?_
    rintro e w5 ⟨v5, rfl, hm5, hs5⟩
    obtain ⟨A5, d5, rfl, -, -⟩ := SlS.form hm5
    obtain ⟨G5, h5G, hp5, hk5⟩ := hs5
    have hz4 := H4.out.size
    have hb5 := hk5.below HGB.out hz4
    have H5 := Lib.hid (H4.out.trans hb5)
    replace HM := Lib.hid (hk5.whole HM.out (fun hg => by have := HGW.out _ hg; omega))
    replace HL := Lib.hid (hk5.whole HL.out (fun hg => by have := HGW.out _ hg; omega))
    have HV := Lib.hid (fun W (hb : Below w5.heap.size w5 W) => Sl.mono (hv0.out W (H5.out.trans (hb.mono H5.out.size))) (Nat.le_trans H5.out.size hb.size))
    have HLG := Lib.hid (fun W (hb : Below w5.heap.size w5 W) => plog_any n G5 _ s HG.out _ W (hp5.stay hb))
    have HRO := Lib.hid (fun W (hb : Below w5.heap.size w5 W) => prole_any n G5 _ s HG.out _ W (hp5.stay hb))
    have HBA := Lib.hid (fun W (hb : Below w5.heap.size w5 W) => pballot_any n G5 _ s HG.out _ W (hp5.stay hb))
    have HSE := Lib.hid (fun W (hb : Below w5.heap.size w5 W) => psettled_any n G5 _ s HG.out _ W (hp5.stay hb))
    rw [HSL.out] at HLG
    rw [HSI.out] at HRO
    rw [HSB.out] at HBA
    rw [HSU.out] at HSE
    clear p0 p1 r0 r1 r2 q0 q1 q2 q3 q4 q5 q6 q7 q8
    clear hp5 hk5 hb5 hm5 h5G
    have h00 : ([] : List Rf.Msg).length = 0 := rfl
    rw [h00]
    clear h00
    have e3 : (b1 == b1) = true := by simp
    have e4 : (b2 == b2) = true := by simp
    go_wp2_with fail
    refine z_start ((w5).drew.heap.size) [] (by kernel_rfl) ?_
    have HC := Lib.hid (Below.refl ((w5).drew.heap.size) (w5).drew)
    have hBz : (w5).drew.heap.size ≤ (w5).drew.heap.size := Nat.le_refl _
    replace HM := Lib.hid (show Whole (w5).drew _ _ _ from HM.out)
    have hltM := HM.out.lt
    replace HL := Lib.hid (show Whole (w5).drew _ _ _ from HL.out)
    have hltL := HL.out.lt
    have HD := Lib.hid ((Below.refl w5.heap.size w5).drew)
    generalize (w5).drew = z1 at *
    refine z_take (i := 0) (v := ?_) rfl (by kernel_rfl) (by kernel_rfl) (by kernel_rfl) (k0 := 0) (by kernel_rfl) (by kernel_rfl) (.inl rfl) (fun _ _ _ h => h) (by rfl) HC.out ?_ ?_
    rotate_left
    · intro W hW
      go_simp
      first | done | rfl
    simp only [Act.put, List.setIfInBounds_toArray, List.set_cons_zero, List.set_cons_succ, List.getElem_toArray, List.getElem_cons_zero]
    refine z_take (i := 2) (v := ?_) rfl (by kernel_rfl) (by kernel_rfl) (by kernel_rfl) (k0 := 2) (by kernel_rfl) (by kernel_rfl) (.inl rfl) (fun _ _ _ h => h) (by rfl) HC.out ?_ ?_
    rotate_left
    · intro W hW
      obtain ⟨r0, r1, r2⟩ := (HL.out.below hW hltL).c3
      go_simp
      first | done | rfl
    simp only [Act.put, List.setIfInBounds_toArray, List.set_cons_zero, List.set_cons_succ, List.getElem_toArray, List.getElem_cons_zero, List.getElem_cons_succ]
    refine z_one (i := 1) (by kernel_rfl) ?_
    refine onez_call (i := 1) (f := 14) (args := ?_) rfl (by rfl) ?_ ?_
    rotate_left
    · go_simp
      first | done | rfl
    with_reducible refine (HLG.out _ (HD.out.trans (HC.out.mono HD.out.size))).mono ?_
    rintro e z2 ⟨v6, rfl, hs, hb⟩
    refine ⟨_, rfl, fun _ => HC.out.trans (hb.mono hBz), ?_⟩
    replace HC := Lib.hid (HC.out.trans (hb.mono hBz))
    replace hBz := Nat.le_trans hBz hb.size
    have HVV := Lib.hid (show Sl z2 (z2).heap.size v6 l from SlS.wide hs (fun _ _ h => h))
    clear hs
    clear hb
    simp only [Act.put, List.setIfInBounds_toArray, List.set_cons_zero, List.set_cons_succ, List.getElem_toArray, List.getElem_cons_zero, List.getElem_cons_succ]
    refine z_one (i := 3) (by kernel_rfl) ?_
    refine onez_call (i := 3) (f := 18) (args := ?_) rfl (by rfl) ?_ ?_
    rotate_left
    · go_simp
      first | done | rfl
    with_reducible refine (logs_any 0 0 _ _ l z2 (z2).heap.size (Nat.le_refl _) HVV.out (HV.out _ (HD.out.trans (HC.out.mono HD.out.size)))).mono ?_
    rintro e z3 ⟨rfl, hb⟩
    refine ⟨_, rfl, fun _ => HC.out.trans (hb.mono hBz), ?_⟩
    replace HC := Lib.hid (HC.out.trans (hb.mono hBz))
    replace hBz := Nat.le_trans hBz hb.size
    clear hb
    simp only [Act.put, List.setIfInBounds_toArray, List.set_cons_zero, List.set_cons_succ, List.getElem_toArray, List.getElem_cons_zero, List.getElem_cons_succ]
    refine z_take (i := 4) (v := ?_) rfl (by kernel_rfl) (by kernel_rfl) (by kernel_rfl) (k0 := 4) (by kernel_rfl) (by kernel_rfl) (.inl rfl) (fun _ _ _ h => h) (by rfl) HC.out ?_ ?_
    rotate_left
    · intro W hW
      go_simp
      first | done | rfl
    simp only [Act.put, List.setIfInBounds_toArray, List.set_cons_zero, List.set_cons_succ, List.getElem_toArray, List.getElem_cons_zero, List.getElem_cons_succ]
    refine z_done (by kernel_rfl) ?_
    replace HD := Lib.hid (HD.out.trans (HC.out.mono HD.out.size))
    replace HM := Lib.hid (HM.out.below HC.out hltM)
    replace HL := Lib.hid (HL.out.below HC.out hltL)
    clear HC hBz hltM hltL HVV
    go_simp
    generalize hw6 : z3 = w6 at *
    clear hw6
    go_wp2_with fail
    refine z_start ((w6).drew.heap.size) [] (by kernel_rfl) ?_
    have HC := Lib.hid (Below.refl ((w6).drew.heap.size) (w6).drew)
    have hBz : (w6).drew.heap.size ≤ (w6).drew.heap.size := Nat.le_refl _
    replace HM := Lib.hid (show Whole (w6).drew _ _ _ from HM.out)
    have hltM := HM.out.lt
    replace HL := Lib.hid (show Whole (w6).drew _ _ _ from HL.out)
    have hltL := HL.out.lt
    replace HD := Lib.hid (HD.out.trans ((Below.refl _ _).drew.mono HD.out.size))
    generalize (w6).drew = y1 at *
    refine z_take (i := 0) (v := ?_) rfl (by kernel_rfl) (by kernel_rfl) (by kernel_rfl) (k0 := 0) (by kernel_rfl) (by kernel_rfl) (.inl rfl) (fun _ _ _ h => h) (by rfl) HC.out ?_ ?_
    rotate_left
    · intro W hW
      go_simp
      first | done | rfl
    simp only [Act.put, List.setIfInBounds_toArray, List.set_cons_zero, List.set_cons_succ, List.getElem_toArray, List.getElem_cons_zero]
    refine z_take (i := 1) (v := ?_) rfl (by kernel_rfl) (by kernel_rfl) (by kernel_rfl) (k0 := 1) (by kernel_rfl) (by kernel_rfl) (.inl rfl) (fun _ _ _ h => h) (by rfl) HC.out ?_ ?_
    rotate_left
    · intro W hW
      go_simp
      first | done | rfl
    simp only [Act.put, List.setIfInBounds_toArray, List.set_cons_zero, List.set_cons_succ, List.getElem_toArray, List.getElem_cons_zero, List.getElem_cons_succ]
    refine z_take (i := 2) (v := ?_) rfl (by kernel_rfl) (by kernel_rfl) (by kernel_rfl) (k0 := 2) (by kernel_rfl) (by kernel_rfl) (.inl rfl) (fun _ _ _ h => h) (by rfl) HC.out ?_ ?_
    rotate_left
    · intro W hW
      go_simp
      first | done | rfl
    simp only [Act.put, List.setIfInBounds_toArray, List.set_cons_zero, List.set_cons_succ, List.getElem_toArray, List.getElem_cons_zero, List.getElem_cons_succ]
    refine z_take (i := 3) (v := ?_) rfl (by kernel_rfl) (by kernel_rfl) (by kernel_rfl) (k0 := 3) (by kernel_rfl) (by kernel_rfl) (.inl rfl) (fun _ _ _ h => h) (by rfl) HC.out ?_ ?_
    rotate_left
    · intro W hW
      go_simp
      first | done | rfl
    simp only [Act.put, List.setIfInBounds_toArray, List.set_cons_zero, List.set_cons_succ, List.getElem_toArray, List.getElem_cons_zero, List.getElem_cons_succ]
    refine z_take (i := 4) (v := ?_) rfl (by kernel_rfl) (by kernel_rfl) (by kernel_rfl) (k0 := 4) (by kernel_rfl) (by kernel_rfl) (.inl rfl) (fun _ _ _ h => h) (by rfl) HC.out ?_ ?_
    rotate_left
    · intro W hW
      go_simp
      first | done | rfl
    simp only [Act.put, List.setIfInBounds_toArray, List.set_cons_zero, List.set_cons_succ, List.getElem_toArray, List.getElem_cons_zero, List.getElem_cons_succ]
    refine z_take (i := 5) (v := ?_) rfl (by kernel_rfl) (by kernel_rfl) (by kernel_rfl) (k0 := 5) (by kernel_rfl) (by kernel_rfl) (.inl rfl) (fun _ _ _ h => h) (by rfl) HC.out ?_ ?_
    rotate_left
    · intro W hW
      go_simp
      first | done | rfl
    simp only [Act.put, List.setIfInBounds_toArray, List.set_cons_zero, List.set_cons_succ, List.getElem_toArray, List.getElem_cons_zero, List.getElem_cons_succ]
    refine z_take (i := 6) (v := ?_) rfl (by kernel_rfl) (by kernel_rfl) (by kernel_rfl) (k0 := 6) (by kernel_rfl) (by kernel_rfl) (.inl rfl) (fun _ _ _ h => h) (by rfl) HC.out ?_ ?_
    rotate_left
    · intro W hW
      go_simp
      first | done | rfl
    simp only [Act.put, List.setIfInBounds_toArray, List.set_cons_zero, List.set_cons_succ, List.getElem_toArray, List.getElem_cons_zero, List.getElem_cons_succ]
    refine z_take (i := 7) (v := ?_) rfl (by kernel_rfl) (by kernel_rfl) (by kernel_rfl) (k0 := 7) (by kernel_rfl) (by kernel_rfl) (.inl rfl) (fun _ _ _ h => h) (by rfl) HC.out ?_ ?_
    rotate_left
    · intro W hW
      go_simp
      first | done | rfl
    simp only [Act.put, List.setIfInBounds_toArray, List.set_cons_zero, List.set_cons_succ, List.getElem_toArray, List.getElem_cons_zero, List.getElem_cons_succ]
    refine z_take (i := 9) (v := ?_) rfl (by kernel_rfl) (by kernel_rfl) (by kernel_rfl) (k0 := 9) (by kernel_rfl) (by kernel_rfl) (.inl rfl) (fun _ _ _ h => h) (by rfl) HC.out ?_ ?_
    rotate_left
    · intro W hW
      obtain ⟨p0, p1⟩ := (HM.out.below hW hltM).c2
      go_simp
      first | done | rfl
    simp only [Act.put, List.setIfInBounds_toArray, List.set_cons_zero, List.set_cons_succ, List.getElem_toArray, List.getElem_cons_zero, List.getElem_cons_succ]
    refine z_one (i := 8) (by kernel_rfl) ?_
    refine onez_call (i := 8) (f := 11) (args := ?_) rfl (by rfl) ?_ ?_
    rotate_left
    · go_simp
      first | done | rfl
    with_reducible refine (HBA.out _ (HD.out.trans (HC.out.mono HD.out.size))).mono ?_
    rintro e y2 ⟨rfl, hb⟩
    refine ⟨_, rfl, fun _ => HC.out.trans (hb.mono hBz), ?_⟩
    replace HC := Lib.hid (HC.out.trans (hb.mono hBz))
    replace hBz := Nat.le_trans hBz hb.size
    clear hb
    simp only [Act.put, List.setIfInBounds_toArray, List.set_cons_zero, List.set_cons_succ, List.getElem_toArray, List.getElem_cons_zero, List.getElem_cons_succ]
    refine z_take (i := 10) (v := ?_) rfl (by kernel_rfl) (by kernel_rfl) (by kernel_rfl) (k0 := 10) (by kernel_rfl) (by kernel_rfl) (.inl rfl) (fun _ _ _ h => h) (by rfl) HC.out ?_ ?_
    rotate_left
    · intro W hW
      go_simp
      first | done | rfl
    simp only [Act.put, List.setIfInBounds_toArray, List.set_cons_zero, List.set_cons_succ, List.getElem_toArray, List.getElem_cons_zero, List.getElem_cons_succ]
    refine z_take (i := 11) (v := ?_) rfl (by kernel_rfl) (by kernel_rfl) (by kernel_rfl) (k0 := 11) (by kernel_rfl) (by kernel_rfl) (.inl rfl) (fun _ _ _ h => h) (by rfl) HC.out ?_ ?_
    rotate_left
    · intro W hW
      go_simp
      first | done | rfl
    simp only [Act.put, List.setIfInBounds_toArray, List.set_cons_zero, List.set_cons_succ, List.getElem_toArray, List.getElem_cons_zero, List.getElem_cons_succ]
    refine z_take (i := 12) (v := ?_) rfl (by kernel_rfl) (by kernel_rfl) (by kernel_rfl) (k0 := 12) (by kernel_rfl) (by kernel_rfl) (.inl rfl) (fun _ _ _ h => h) (by rfl) HC.out ?_ ?_
    rotate_left
    · intro W hW
      go_simp
      first | done | rfl
    simp only [Act.put, List.setIfInBounds_toArray, List.set_cons_zero, List.set_cons_succ, List.getElem_toArray, List.getElem_cons_zero, List.getElem_cons_succ]
    refine z_take (i := 13) (v := ?_) rfl (by kernel_rfl) (by kernel_rfl) (by kernel_rfl) (k0 := 13) (by kernel_rfl) (by kernel_rfl) (.inl rfl) (fun _ _ _ h => h) (by rfl) HC.out ?_ ?_
    rotate_left
    · intro W hW
      go_simp
      first | done | rfl
    simp only [Act.put, List.setIfInBounds_toArray, List.set_cons_zero, List.set_cons_succ, List.getElem_toArray, List.getElem_cons_zero, List.getElem_cons_succ]
    refine z_one (i := 14) (by kernel_rfl) ?_
    refine onez_call (i := 14) (f := 13) (args := ?_) rfl (by rfl) ?_ ?_
    rotate_left
    · go_simp
      first | done | rfl
    with_reducible refine (HRO.out _ (HD.out.trans (HC.out.mono HD.out.size))).mono ?_
    rintro e y3 ⟨rfl, hb⟩
    refine ⟨_, rfl, fun _ => HC.out.trans (hb.mono hBz), ?_⟩
    replace HC := Lib.hid (HC.out.trans (hb.mono hBz))
    replace hBz := Nat.le_trans hBz hb.size
    clear hb
    simp only [Act.put, List.setIfInBounds_toArray, List.set_cons_zero, List.set_cons_succ, List.getElem_toArray, List.getElem_cons_zero, List.getElem_cons_succ]
    refine z_take (i := 15) (v := ?_) rfl (by kernel_rfl) (by kernel_rfl) (by kernel_rfl) (k0 := 15) (by kernel_rfl) (by kernel_rfl) (.inl rfl) (fun _ _ _ h => h) (by rfl) HC.out ?_ ?_
    rotate_left
    · intro W hW
      go_simp
      first | done | rfl
    simp only [Act.put, List.setIfInBounds_toArray, List.set_cons_zero, List.set_cons_succ, List.getElem_toArray, List.getElem_cons_zero, List.getElem_cons_succ]
    refine z_take (i := 16) (v := ?_) rfl (by kernel_rfl) (by kernel_rfl) (by kernel_rfl) (k0 := 16) (by kernel_rfl) (by kernel_rfl) (.inl rfl) (fun _ _ _ h => h) (by rfl) HC.out ?_ ?_
    rotate_left
    · intro W hW
      go_simp
      first | done | rfl
    simp only [Act.put, List.setIfInBounds_toArray, List.set_cons_zero, List.set_cons_succ, List.getElem_toArray, List.getElem_cons_zero, List.getElem_cons_succ]
    refine z_take (i := 17) (v := ?_) rfl (by kernel_rfl) (by kernel_rfl) (by kernel_rfl) (k0 := 17) (by kernel_rfl) (by kernel_rfl) (.inl rfl) (fun _ _ _ h => h) (by rfl) HC.out ?_ ?_
    rotate_left
    · intro W hW
      go_simp
      first | done | rfl
    simp only [Act.put, List.setIfInBounds_toArray, List.set_cons_zero, List.set_cons_succ, List.getElem_toArray, List.getElem_cons_zero, List.getElem_cons_succ]
    refine z_take (i := 18) (v := ?_) rfl (by kernel_rfl) (by kernel_rfl) (by kernel_rfl) (k0 := 18) (by kernel_rfl) (by kernel_rfl) (.inl rfl) (fun _ _ _ h => h) (by rfl) HC.out ?_ ?_
    rotate_left
    · intro W hW
      go_simp
      first | done | rfl
    simp only [Act.put, List.setIfInBounds_toArray, List.set_cons_zero, List.set_cons_succ, List.getElem_toArray, List.getElem_cons_zero, List.getElem_cons_succ]
    refine z_one (i := 19) (by kernel_rfl) ?_
    refine onez_call (i := 19) (f := 12) (args := ?_) rfl (by rfl) ?_ ?_
    rotate_left
    · go_simp
      first | done | rfl
    with_reducible refine (HSE.out _ (HD.out.trans (HC.out.mono HD.out.size))).mono ?_
    rintro e y4 ⟨rfl, hb⟩
    refine ⟨_, rfl, fun _ => HC.out.trans (hb.mono hBz), ?_⟩
    replace HC := Lib.hid (HC.out.trans (hb.mono hBz))
    replace hBz := Nat.le_trans hBz hb.size
    clear hb
    simp only [Act.put, List.setIfInBounds_toArray, List.set_cons_zero, List.set_cons_succ, List.getElem_toArray, List.getElem_cons_zero, List.getElem_cons_succ]
    refine z_take (i := 20) (v := ?_) rfl (by kernel_rfl) (by kernel_rfl) (by kernel_rfl) (k0 := 20) (by kernel_rfl) (by kernel_rfl) (.inl rfl) (fun _ _ _ h => h) (by rfl) HC.out ?_ ?_
    rotate_left
    · intro W hW
      go_simp
      first | done | rfl
    simp only [Act.put, List.setIfInBounds_toArray, List.set_cons_zero, List.set_cons_succ, List.getElem_toArray, List.getElem_cons_zero, List.getElem_cons_succ]
    refine z_take (i := 21) (v := ?_) rfl (by kernel_rfl) (by kernel_rfl) (by kernel_rfl) (k0 := 21) (by kernel_rfl) (by kernel_rfl) (.inl rfl) (fun _ _ _ h => h) (by rfl) HC.out ?_ ?_
    rotate_left
    · intro W hW
      go_simp
      first | done | rfl
    simp only [Act.put, List.setIfInBounds_toArray, List.set_cons_zero, List.set_cons_succ, List.getElem_toArray, List.getElem_cons_zero, List.getElem_cons_succ]
    refine z_take (i := 22) (v := ?_) rfl (by kernel_rfl) (by kernel_rfl) (by kernel_rfl) (k0 := 22) (by kernel_rfl) (by kernel_rfl) (.inl rfl) (fun _ _ _ h => h) (by rfl) HC.out ?_ ?_
    rotate_left
    · intro W hW
      go_simp
      first | done | rfl
    simp only [Act.put, List.setIfInBounds_toArray, List.set_cons_zero, List.set_cons_succ, List.getElem_toArray, List.getElem_cons_zero, List.getElem_cons_succ]
    refine z_done (by kernel_rfl) ?_
    have HE := Lib.hid (HD.out.trans (HC.out.mono HD.out.size))
    go_simp
    go_wp2_with fail
    go_ret
    exact ⟨rfl, H5.out.trans (HE.out.mono H5.out.size)⟩
  have ee5 : decide (t ≤ 1073741824) = true := by simpa using h
  clear h
  by_cases h : 0 ≤ k
  rotate_left
  · have ee6 : decide (0 ≤ k) = false := by simpa using h
    have HMN : ¬ Rf.mine n (k, f, o, t, i, u, cm, y, L) := fun hm => by obtain ⟨m0, m1, m2, m3, m4, m5, m6, m7⟩ := hm; simp only at m0 m1 m2 m3 m4 m5 m6 m7; have := HID.out; have := HMY.out; omega
    clear h
    go_wp2_with fail
    refine (HPH.out HMN).mono ?_
    rintro e w5 ⟨v5, rfl, hm5, hs5⟩
    obtain ⟨A5, d5, rfl, -, -⟩ := SlS.form hm5
    obtain ⟨G5, h5G, hp5, hk5⟩ := hs5
    have hz4 := H4.out.size
    have hb5 := hk5.below HGB.out hz4
    have H5 := Lib.hid (H4.out.trans hb5)
    replace HM := Lib.hid (hk5.whole HM.out (fun hg => by have := HGW.out _ hg; omega))
    replace HL := Lib.hid (hk5.whole HL.out (fun hg => by have := HGW.out _ hg; omega))
    have HV := Lib.hid (fun W (hb : Below w5.heap.size w5 W) => Sl.mono (hv0.out W (H5.out.trans (hb.mono H5.out.size))) (Nat.le_trans H5.out.size hb.size))
    have HLG := Lib.hid (fun W (hb : Below w5.heap.size w5 W) => plog_any n G5 _ s HG.out _ W (hp5.stay hb))
    have HRO := Lib.hid (fun W (hb : Below w5.heap.size w5 W) => prole_any n G5 _ s HG.out _ W (hp5.stay hb))
    have HBA := Lib.hid (fun W (hb : Below w5.heap.size w5 W) => pballot_any n G5 _ s HG.out _ W (hp5.stay hb))
    have HSE := Lib.hid (fun W (hb : Below w5.heap.size w5 W) => psettled_any n G5 _ s HG.out _ W (hp5.stay hb))
    rw [HSL.out] at HLG
    rw [HSI.out] at HRO
    rw [HSB.out] at HBA
    rw [HSU.out] at HSE
    clear p0 p1 r0 r1 r2 q0 q1 q2 q3 q4 q5 q6 q7 q8
    clear hp5 hk5 hb5 hm5 h5G
    have h00 : ([] : List Rf.Msg).length = 0 := rfl
    rw [h00]
    clear h00
    have e3 : (b1 == b1) = true := by simp
    have e4 : (b2 == b2) = true := by simp
    go_wp2_with fail
    refine z_start ((w5).drew.heap.size) [] (by kernel_rfl) ?_
    have HC := Lib.hid (Below.refl ((w5).drew.heap.size) (w5).drew)
    have hBz : (w5).drew.heap.size ≤ (w5).drew.heap.size := Nat.le_refl _
    replace HM := Lib.hid (show Whole (w5).drew _ _ _ from HM.out)
    have hltM := HM.out.lt
    replace HL := Lib.hid (show Whole (w5).drew _ _ _ from HL.out)
    have hltL := HL.out.lt
    have HD := Lib.hid ((Below.refl w5.heap.size w5).drew)
    generalize (w5).drew = z1 at *
    refine z_take (i := 0) (v := ?_) rfl (by kernel_rfl) (by kernel_rfl) (by kernel_rfl) (k0 := 0) (by kernel_rfl) (by kernel_rfl) (.inl rfl) (fun _ _ _ h => h) (by rfl) HC.out ?_ ?_
    rotate_left
    · intro W hW
      go_simp
      first | done | rfl
    simp only [Act.put, List.setIfInBounds_toArray, List.set_cons_zero, List.set_cons_succ, List.getElem_toArray, List.getElem_cons_zero]
    refine z_take (i := 2) (v := ?_) rfl (by kernel_rfl) (by kernel_rfl) (by kernel_rfl) (k0 := 2) (by kernel_rfl) (by kernel_rfl) (.inl rfl) (fun _ _ _ h => h) (by rfl) HC.out ?_ ?_
    rotate_left
    · intro W hW
      obtain ⟨r0, r1, r2⟩ := (HL.out.below hW hltL).c3
      go_simp
      first | done | rfl
    simp only [Act.put, List.setIfInBounds_toArray, List.set_cons_zero, List.set_cons_succ, List.getElem_toArray, List.getElem_cons_zero, List.getElem_cons_succ]
    refine z_one (i := 1) (by kernel_rfl) ?_
    refine onez_call (i := 1) (f := 14) (args := ?_) rfl (by rfl) ?_ ?_
    rotate_left
    · go_simp
      first | done | rfl
    with_reducible refine (HLG.out _ (HD.out.trans (HC.out.mono HD.out.size))).mono ?_
    rintro e z2 ⟨v6, rfl, hs, hb⟩
    refine ⟨_, rfl, fun _ => HC.out.trans (hb.mono hBz), ?_⟩
    replace HC := Lib.hid (HC.out.trans (hb.mono hBz))
    replace hBz := Nat.le_trans hBz hb.size
    have HVV := Lib.hid (show Sl z2 (z2).heap.size v6 l from SlS.wide hs (fun _ _ h => h))
    clear hs
    clear hb
    simp only [Act.put, List.setIfInBounds_toArray, List.set_cons_zero, List.set_cons_succ, List.getElem_toArray, List.getElem_cons_zero, List.getElem_cons_succ]
    refine z_one (i := 3) (by kernel_rfl) ?_
    refine onez_call (i := 3) (f := 18) (args := ?_) rfl (by rfl) ?_ ?_
    rotate_left
    · go_simp
      first | done | rfl
    with_reducible refine (logs_any 0 0 _ _ l z2 (z2).heap.size (Nat.le_refl _) HVV.out (HV.out _ (HD.out.trans (HC.out.mono HD.out.size)))).mono ?_
    rintro e z3 ⟨rfl, hb⟩
    refine ⟨_, rfl, fun _ => HC.out.trans (hb.mono hBz), ?_⟩
    replace HC := Lib.hid (HC.out.trans (hb.mono hBz))
    replace hBz := Nat.le_trans hBz hb.size
    clear hb
    simp only [Act.put, List.setIfInBounds_toArray, List.set_cons_zero, List.set_cons_succ, List.getElem_toArray, List.getElem_cons_zero, List.getElem_cons_succ]
    refine z_take (i := 4) (v := ?_) rfl (by kernel_rfl) (by kernel_rfl) (by kernel_rfl) (k0 := 4) (by kernel_rfl) (by kernel_rfl) (.inl rfl) (fun _ _ _ h => h) (by rfl) HC.out ?_ ?_
    rotate_left
    · intro W hW
      go_simp
      first | done | rfl
    simp only [Act.put, List.setIfInBounds_toArray, List.set_cons_zero, List.set_cons_succ, List.getElem_toArray, List.getElem_cons_zero, List.getElem_cons_succ]
    refine z_done (by kernel_rfl) ?_
    replace HD := Lib.hid (HD.out.trans (HC.out.mono HD.out.size))
    replace HM := Lib.hid (HM.out.below HC.out hltM)
    replace HL := Lib.hid (HL.out.below HC.out hltL)
    clear HC hBz hltM hltL HVV
    go_simp
    generalize hw6 : z3 = w6 at *
    clear hw6
    go_wp2_with fail
    refine z_start ((w6).drew.heap.size) [] (by kernel_rfl) ?_
    have HC := Lib.hid (Below.refl ((w6).drew.heap.size) (w6).drew)
    have hBz : (w6).drew.heap.size ≤ (w6).drew.heap.size := Nat.le_refl _
    replace HM := Lib.hid (show Whole (w6).drew _ _ _ from HM.out)
    have hltM := HM.out.lt
    replace HL := Lib.hid (show Whole (w6).drew _ _ _ from HL.out)
    have hltL := HL.out.lt
    replace HD := Lib.hid (HD.out.trans ((Below.refl _ _).drew.mono HD.out.size))
    generalize (w6).drew = y1 at *
    refine z_take (i := 0) (v := ?_) rfl (by kernel_rfl) (by kernel_rfl) (by kernel_rfl) (k0 := 0) (by kernel_rfl) (by kernel_rfl) (.inl rfl) (fun _ _ _ h => h) (by rfl) HC.out ?_ ?_
    rotate_left
    · intro W hW
      go_simp
      first | done | rfl
    simp only [Act.put, List.setIfInBounds_toArray, List.set_cons_zero, List.set_cons_succ, List.getElem_toArray, List.getElem_cons_zero]
    refine z_take (i := 1) (v := ?_) rfl (by kernel_rfl) (by kernel_rfl) (by kernel_rfl) (k0 := 1) (by kernel_rfl) (by kernel_rfl) (.inl rfl) (fun _ _ _ h => h) (by rfl) HC.out ?_ ?_
    rotate_left
    · intro W hW
      go_simp
      first | done | rfl
    simp only [Act.put, List.setIfInBounds_toArray, List.set_cons_zero, List.set_cons_succ, List.getElem_toArray, List.getElem_cons_zero, List.getElem_cons_succ]
    refine z_take (i := 2) (v := ?_) rfl (by kernel_rfl) (by kernel_rfl) (by kernel_rfl) (k0 := 2) (by kernel_rfl) (by kernel_rfl) (.inl rfl) (fun _ _ _ h => h) (by rfl) HC.out ?_ ?_
    rotate_left
    · intro W hW
      go_simp
      first | done | rfl
    simp only [Act.put, List.setIfInBounds_toArray, List.set_cons_zero, List.set_cons_succ, List.getElem_toArray, List.getElem_cons_zero, List.getElem_cons_succ]
    refine z_take (i := 3) (v := ?_) rfl (by kernel_rfl) (by kernel_rfl) (by kernel_rfl) (k0 := 3) (by kernel_rfl) (by kernel_rfl) (.inl rfl) (fun _ _ _ h => h) (by rfl) HC.out ?_ ?_
    rotate_left
    · intro W hW
      go_simp
      first | done | rfl
    simp only [Act.put, List.setIfInBounds_toArray, List.set_cons_zero, List.set_cons_succ, List.getElem_toArray, List.getElem_cons_zero, List.getElem_cons_succ]
    refine z_take (i := 4) (v := ?_) rfl (by kernel_rfl) (by kernel_rfl) (by kernel_rfl) (k0 := 4) (by kernel_rfl) (by kernel_rfl) (.inl rfl) (fun _ _ _ h => h) (by rfl) HC.out ?_ ?_
    rotate_left
    · intro W hW
      go_simp
      first | done | rfl
    simp only [Act.put, List.setIfInBounds_toArray, List.set_cons_zero, List.set_cons_succ, List.getElem_toArray, List.getElem_cons_zero, List.getElem_cons_succ]
    refine z_take (i := 5) (v := ?_) rfl (by kernel_rfl) (by kernel_rfl) (by kernel_rfl) (k0 := 5) (by kernel_rfl) (by kernel_rfl) (.inl rfl) (fun _ _ _ h => h) (by rfl) HC.out ?_ ?_
    rotate_left
    · intro W hW
      go_simp
      first | done | rfl
    simp only [Act.put, List.setIfInBounds_toArray, List.set_cons_zero, List.set_cons_succ, List.getElem_toArray, List.getElem_cons_zero, List.getElem_cons_succ]
    refine z_take (i := 6) (v := ?_) rfl (by kernel_rfl) (by kernel_rfl) (by kernel_rfl) (k0 := 6) (by kernel_rfl) (by kernel_rfl) (.inl rfl) (fun _ _ _ h => h) (by rfl) HC.out ?_ ?_
    rotate_left
    · intro W hW
      go_simp
      first | done | rfl
    simp only [Act.put, List.setIfInBounds_toArray, List.set_cons_zero, List.set_cons_succ, List.getElem_toArray, List.getElem_cons_zero, List.getElem_cons_succ]
    refine z_take (i := 7) (v := ?_) rfl (by kernel_rfl) (by kernel_rfl) (by kernel_rfl) (k0 := 7) (by kernel_rfl) (by kernel_rfl) (.inl rfl) (fun _ _ _ h => h) (by rfl) HC.out ?_ ?_
    rotate_left
    · intro W hW
      go_simp
      first | done | rfl
    simp only [Act.put, List.setIfInBounds_toArray, List.set_cons_zero, List.set_cons_succ, List.getElem_toArray, List.getElem_cons_zero, List.getElem_cons_succ]
    refine z_take (i := 9) (v := ?_) rfl (by kernel_rfl) (by kernel_rfl) (by kernel_rfl) (k0 := 9) (by kernel_rfl) (by kernel_rfl) (.inl rfl) (fun _ _ _ h => h) (by rfl) HC.out ?_ ?_
    rotate_left
    · intro W hW
      obtain ⟨p0, p1⟩ := (HM.out.below hW hltM).c2
      go_simp
      first | done | rfl
    simp only [Act.put, List.setIfInBounds_toArray, List.set_cons_zero, List.set_cons_succ, List.getElem_toArray, List.getElem_cons_zero, List.getElem_cons_succ]
    refine z_one (i := 8) (by kernel_rfl) ?_
    refine onez_call (i := 8) (f := 11) (args := ?_) rfl (by rfl) ?_ ?_
    rotate_left
    · go_simp
      first | done | rfl
    with_reducible refine (HBA.out _ (HD.out.trans (HC.out.mono HD.out.size))).mono ?_
    rintro e y2 ⟨rfl, hb⟩
    refine ⟨_, rfl, fun _ => HC.out.trans (hb.mono hBz), ?_⟩
    replace HC := Lib.hid (HC.out.trans (hb.mono hBz))
    replace hBz := Nat.le_trans hBz hb.size
    clear hb
    simp only [Act.put, List.setIfInBounds_toArray, List.set_cons_zero, List.set_cons_succ, List.getElem_toArray, List.getElem_cons_zero, List.getElem_cons_succ]
    refine z_take (i := 10) (v := ?_) rfl (by kernel_rfl) (by kernel_rfl) (by kernel_rfl) (k0 := 10) (by kernel_rfl) (by kernel_rfl) (.inl rfl) (fun _ _ _ h => h) (by rfl) HC.out ?_ ?_
    rotate_left
    · intro W hW
      go_simp
      first | done | rfl
    simp only [Act.put, List.setIfInBounds_toArray, List.set_cons_zero, List.set_cons_succ, List.getElem_toArray, List.getElem_cons_zero, List.getElem_cons_succ]
    refine z_take (i := 11) (v := ?_) rfl (by kernel_rfl) (by kernel_rfl) (by kernel_rfl) (k0 := 11) (by kernel_rfl) (by kernel_rfl) (.inl rfl) (fun _ _ _ h => h) (by rfl) HC.out ?_ ?_
    rotate_left
    · intro W hW
      go_simp
      first | done | rfl
    simp only [Act.put, List.setIfInBounds_toArray, List.set_cons_zero, List.set_cons_succ, List.getElem_toArray, List.getElem_cons_zero, List.getElem_cons_succ]
    refine z_take (i := 12) (v := ?_) rfl (by kernel_rfl) (by kernel_rfl) (by kernel_rfl) (k0 := 12) (by kernel_rfl) (by kernel_rfl) (.inl rfl) (fun _ _ _ h => h) (by rfl) HC.out ?_ ?_
    rotate_left
    · intro W hW
      go_simp
      first | done | rfl
    simp only [Act.put, List.setIfInBounds_toArray, List.set_cons_zero, List.set_cons_succ, List.getElem_toArray, List.getElem_cons_zero, List.getElem_cons_succ]
    refine z_take (i := 13) (v := ?_) rfl (by kernel_rfl) (by kernel_rfl) (by kernel_rfl) (k0 := 13) (by kernel_rfl) (by kernel_rfl) (.inl rfl) (fun _ _ _ h => h) (by rfl) HC.out ?_ ?_
    rotate_left
    · intro W hW
      go_simp
      first | done | rfl
    simp only [Act.put, List.setIfInBounds_toArray, List.set_cons_zero, List.set_cons_succ, List.getElem_toArray, List.getElem_cons_zero, List.getElem_cons_succ]
    refine z_one (i := 14) (by kernel_rfl) ?_
    refine onez_call (i := 14) (f := 13) (args := ?_) rfl (by rfl) ?_ ?_
    rotate_left
    · go_simp
      first | done | rfl
    with_reducible refine (HRO.out _ (HD.out.trans (HC.out.mono HD.out.size))).mono ?_
    rintro e y3 ⟨rfl, hb⟩
    refine ⟨_, rfl, fun _ => HC.out.trans (hb.mono hBz), ?_⟩
    replace HC := Lib.hid (HC.out.trans (hb.mono hBz))
    replace hBz := Nat.le_trans hBz hb.size
    clear hb
    simp only [Act.put, List.setIfInBounds_toArray, List.set_cons_zero, List.set_cons_succ, List.getElem_toArray, List.getElem_cons_zero, List.getElem_cons_succ]
    refine z_take (i := 15) (v := ?_) rfl (by kernel_rfl) (by kernel_rfl) (by kernel_rfl) (k0 := 15) (by kernel_rfl) (by kernel_rfl) (.inl rfl) (fun _ _ _ h => h) (by rfl) HC.out ?_ ?_
    rotate_left
    · intro W hW
      go_simp
      first | done | rfl
    simp only [Act.put, List.setIfInBounds_toArray, List.set_cons_zero, List.set_cons_succ, List.getElem_toArray, List.getElem_cons_zero, List.getElem_cons_succ]
    refine z_take (i := 16) (v := ?_) rfl (by kernel_rfl) (by kernel_rfl) (by kernel_rfl) (k0 := 16) (by kernel_rfl) (by kernel_rfl) (.inl rfl) (fun _ _ _ h => h) (by rfl) HC.out ?_ ?_
    rotate_left
    · intro W hW
      go_simp
      first | done | rfl
    simp only [Act.put, List.setIfInBounds_toArray, List.set_cons_zero, List.set_cons_succ, List.getElem_toArray, List.getElem_cons_zero, List.getElem_cons_succ]
    refine z_take (i := 17) (v := ?_) rfl (by kernel_rfl) (by kernel_rfl) (by kernel_rfl) (k0 := 17) (by kernel_rfl) (by kernel_rfl) (.inl rfl) (fun _ _ _ h => h) (by rfl) HC.out ?_ ?_
    rotate_left
    · intro W hW
      go_simp
      first | done | rfl
    simp only [Act.put, List.setIfInBounds_toArray, List.set_cons_zero, List.set_cons_succ, List.getElem_toArray, List.getElem_cons_zero, List.getElem_cons_succ]
    refine z_take (i := 18) (v := ?_) rfl (by kernel_rfl) (by kernel_rfl) (by kernel_rfl) (k0 := 18) (by kernel_rfl) (by kernel_rfl) (.inl rfl) (fun _ _ _ h => h) (by rfl) HC.out ?_ ?_
    rotate_left
    · intro W hW
      go_simp
      first | done | rfl
    simp only [Act.put, List.setIfInBounds_toArray, List.set_cons_zero, List.set_cons_succ, List.getElem_toArray, List.getElem_cons_zero, List.getElem_cons_succ]
    refine z_one (i := 19) (by kernel_rfl) ?_
    refine onez_call (i := 19) (f := 12) (args := ?_) rfl (by rfl) ?_ ?_
    rotate_left
    · go_simp
      first | done | rfl
    with_reducible refine (HSE.out _ (HD.out.trans (HC.out.mono HD.out.size))).mono ?_
    rintro e y4 ⟨rfl, hb⟩
    refine ⟨_, rfl, fun _ => HC.out.trans (hb.mono hBz), ?_⟩
    replace HC := Lib.hid (HC.out.trans (hb.mono hBz))
    replace hBz := Nat.le_trans hBz hb.size
    clear hb
    simp only [Act.put, List.setIfInBounds_toArray, List.set_cons_zero, List.set_cons_succ, List.getElem_toArray, List.getElem_cons_zero, List.getElem_cons_succ]
    refine z_take (i := 20) (v := ?_) rfl (by kernel_rfl) (by kernel_rfl) (by kernel_rfl) (k0 := 20) (by kernel_rfl) (by kernel_rfl) (.inl rfl) (fun _ _ _ h => h) (by rfl) HC.out ?_ ?_
    rotate_left
    · intro W hW
      go_simp
      first | done | rfl
    simp only [Act.put, List.setIfInBounds_toArray, List.set_cons_zero, List.set_cons_succ, List.getElem_toArray, List.getElem_cons_zero, List.getElem_cons_succ]
    refine z_take (i := 21) (v := ?_) rfl (by kernel_rfl) (by kernel_rfl) (by kernel_rfl) (k0 := 21) (by kernel_rfl) (by kernel_rfl) (.inl rfl) (fun _ _ _ h => h) (by rfl) HC.out ?_ ?_
    rotate_left
    · intro W hW
      go_simp
      first | done | rfl
    simp only [Act.put, List.setIfInBounds_toArray, List.set_cons_zero, List.set_cons_succ, List.getElem_toArray, List.getElem_cons_zero, List.getElem_cons_succ]
    refine z_take (i := 22) (v := ?_) rfl (by kernel_rfl) (by kernel_rfl) (by kernel_rfl) (k0 := 22) (by kernel_rfl) (by kernel_rfl) (.inl rfl) (fun _ _ _ h => h) (by rfl) HC.out ?_ ?_
    rotate_left
    · intro W hW
      go_simp
      first | done | rfl
    simp only [Act.put, List.setIfInBounds_toArray, List.set_cons_zero, List.set_cons_succ, List.getElem_toArray, List.getElem_cons_zero, List.getElem_cons_succ]
    refine z_done (by kernel_rfl) ?_
    have HE := Lib.hid (HD.out.trans (HC.out.mono HD.out.size))
    go_simp
    go_wp2_with fail
    go_ret
    exact ⟨rfl, H5.out.trans (HE.out.mono H5.out.size)⟩
  have ee6 : decide (0 ≤ k) = true := by simpa using h
  clear h
  by_cases h : k ≤ 3
  rotate_left
  · have ee7 : decide (k ≤ 3) = false := by simpa using h
    have HMN : ¬ Rf.mine n (k, f, o, t, i, u, cm, y, L) := fun hm => by obtain ⟨m0, m1, m2, m3, m4, m5, m6, m7⟩ := hm; simp only at m0 m1 m2 m3 m4 m5 m6 m7; have := HID.out; have := HMY.out; omega
    clear h
    go_wp2_with fail
    refine (HPH.out HMN).mono ?_
    rintro e w5 ⟨v5, rfl, hm5, hs5⟩
    obtain ⟨A5, d5, rfl, -, -⟩ := SlS.form hm5
    obtain ⟨G5, h5G, hp5, hk5⟩ := hs5
    have hz4 := H4.out.size
    have hb5 := hk5.below HGB.out hz4
    have H5 := Lib.hid (H4.out.trans hb5)
    replace HM := Lib.hid (hk5.whole HM.out (fun hg => by have := HGW.out _ hg; omega))
    replace HL := Lib.hid (hk5.whole HL.out (fun hg => by have := HGW.out _ hg; omega))
    have HV := Lib.hid (fun W (hb : Below w5.heap.size w5 W) => Sl.mono (hv0.out W (H5.out.trans (hb.mono H5.out.size))) (Nat.le_trans H5.out.size hb.size))
    have HLG := Lib.hid (fun W (hb : Below w5.heap.size w5 W) => plog_any n G5 _ s HG.out _ W (hp5.stay hb))
    have HRO := Lib.hid (fun W (hb : Below w5.heap.size w5 W) => prole_any n G5 _ s HG.out _ W (hp5.stay hb))
    have HBA := Lib.hid (fun W (hb : Below w5.heap.size w5 W) => pballot_any n G5 _ s HG.out _ W (hp5.stay hb))
    have HSE := Lib.hid (fun W (hb : Below w5.heap.size w5 W) => psettled_any n G5 _ s HG.out _ W (hp5.stay hb))
    rw [HSL.out] at HLG
    rw [HSI.out] at HRO
    rw [HSB.out] at HBA
    rw [HSU.out] at HSE
    clear p0 p1 r0 r1 r2 q0 q1 q2 q3 q4 q5 q6 q7 q8
    clear hp5 hk5 hb5 hm5 h5G
    have h00 : ([] : List Rf.Msg).length = 0 := rfl
    rw [h00]
    clear h00
    have e3 : (b1 == b1) = true := by simp
    have e4 : (b2 == b2) = true := by simp
    go_wp2_with fail
    refine z_start ((w5).drew.heap.size) [] (by kernel_rfl) ?_
    have HC := Lib.hid (Below.refl ((w5).drew.heap.size) (w5).drew)
    have hBz : (w5).drew.heap.size ≤ (w5).drew.heap.size := Nat.le_refl _
    replace HM := Lib.hid (show Whole (w5).drew _ _ _ from HM.out)
    have hltM := HM.out.lt
    replace HL := Lib.hid (show Whole (w5).drew _ _ _ from HL.out)
    have hltL := HL.out.lt
    have HD := Lib.hid ((Below.refl w5.heap.size w5).drew)
    generalize (w5).drew = z1 at *
    refine z_take (i := 0) (v := ?_) rfl (by kernel_rfl) (by kernel_rfl) (by kernel_rfl) (k0 := 0) (by kernel_rfl) (by kernel_rfl) (.inl rfl) (fun _ _ _ h => h) (by rfl) HC.out ?_ ?_
    rotate_left
    · intro W hW
      go_simp
      first | done | rfl
    simp only [Act.put, List.setIfInBounds_toArray, List.set_cons_zero, List.set_cons_succ, List.getElem_toArray, List.getElem_cons_zero]
    refine z_take (i := 2) (v := ?_) rfl (by kernel_rfl) (by kernel_rfl) (by kernel_rfl) (k0 := 2) (by kernel_rfl) (by kernel_rfl) (.inl rfl) (fun _ _ _ h => h) (by rfl) HC.out ?_ ?_
    rotate_left
    · intro W hW
      obtain ⟨r0, r1, r2⟩ := (HL.out.below hW hltL).c3
      go_simp
      first | done | rfl
    simp only [Act.put, List.setIfInBounds_toArray, List.set_cons_zero, List.set_cons_succ, List.getElem_toArray, List.getElem_cons_zero, List.getElem_cons_succ]
    refine z_one (i := 1) (by kernel_rfl) ?_
    refine onez_call (i := 1) (f := 14) (args := ?_) rfl (by rfl) ?_ ?_
    rotate_left
    · go_simp
      first | done | rfl
    with_reducible refine (HLG.out _ (HD.out.trans (HC.out.mono HD.out.size))).mono ?_
    rintro e z2 ⟨v6, rfl, hs, hb⟩
    refine ⟨_, rfl, fun _ => HC.out.trans (hb.mono hBz), ?_⟩
    replace HC := Lib.hid (HC.out.trans (hb.mono hBz))
    replace hBz := Nat.le_trans hBz hb.size
    have HVV := Lib.hid (show Sl z2 (z2).heap.size v6 l from SlS.wide hs (fun _ _ h => h))
    clear hs
    clear hb
    simp only [Act.put, List.setIfInBounds_toArray, List.set_cons_zero, List.set_cons_succ, List.getElem_toArray, List.getElem_cons_zero, List.getElem_cons_succ]
    refine z_one (i := 3) (by kernel_rfl) ?_
    refine onez_call (i := 3) (f := 18) (args := ?_) rfl (by rfl) ?_ ?_
    rotate_left
    · go_simp
      first | done | rfl
    with_reducible refine (logs_any 0 0 _ _ l z2 (z2).heap.size (Nat.le_refl _) HVV.out (HV.out _ (HD.out.trans (HC.out.mono HD.out.size)))).mono ?_
    rintro e z3 ⟨rfl, hb⟩
    refine ⟨_, rfl, fun _ => HC.out.trans (hb.mono hBz), ?_⟩
    replace HC := Lib.hid (HC.out.trans (hb.mono hBz))
    replace hBz := Nat.le_trans hBz hb.size
    clear hb
    simp only [Act.put, List.setIfInBounds_toArray, List.set_cons_zero, List.set_cons_succ, List.getElem_toArray, List.getElem_cons_zero, List.getElem_cons_succ]
    refine z_take (i := 4) (v := ?_) rfl (by kernel_rfl) (by kernel_rfl) (by kernel_rfl) (k0 := 4) (by kernel_rfl) (by kernel_rfl) (.inl rfl) (fun _ _ _ h => h) (by rfl) HC.out ?_ ?_
    rotate_left
    · intro W hW
      go_simp
      first | done | rfl
    simp only [Act.put, List.setIfInBounds_toArray, List.set_cons_zero, List.set_cons_succ, List.getElem_toArray, List.getElem_cons_zero, List.getElem_cons_succ]
    refine z_done (by kernel_rfl) ?_
    replace HD := Lib.hid (HD.out.trans (HC.out.mono HD.out.size))
    replace HM := Lib.hid (HM.out.below HC.out hltM)
    replace HL := Lib.hid (HL.out.below HC.out hltL)
    clear HC hBz hltM hltL HVV
    go_simp
    generalize hw6 : z3 = w6 at *
    clear hw6
    go_wp2_with fail
    refine z_start ((w6).drew.heap.size) [] (by kernel_rfl) ?_
    have HC := Lib.hid (Below.refl ((w6).drew.heap.size) (w6).drew)
    have hBz : (w6).drew.heap.size ≤ (w6).drew.heap.size := Nat.le_refl _
    replace HM := Lib.hid (show Whole (w6).drew _ _ _ from HM.out)
    have hltM := HM.out.lt
    replace HL := Lib.hid (show Whole (w6).drew _ _ _ from HL.out)
    have hltL := HL.out.lt
    replace HD := Lib.hid (HD.out.trans ((Below.refl _ _).drew.mono HD.out.size))
    generalize (w6).drew = y1 at *
    refine z_take (i := 0) (v := ?_) rfl (by kernel_rfl) (by kernel_rfl) (by kernel_rfl) (k0 := 0) (by kernel_rfl) (by kernel_rfl) (.inl rfl) (fun _ _ _ h => h) (by rfl) HC.out ?_ ?_
    rotate_left
    · intro W hW
      go_simp
      first | done | rfl
    simp only [Act.put, List.setIfInBounds_toArray, List.set_cons_zero, List.set_cons_succ, List.getElem_toArray, List.getElem_cons_zero]
    refine z_take (i := 1) (v := ?_) rfl (by kernel_rfl) (by kernel_rfl) (by kernel_rfl) (k0 := 1) (by kernel_rfl) (by kernel_rfl) (.inl rfl) (fun _ _ _ h => h) (by rfl) HC.out ?_ ?_
    rotate_left
    · intro W hW
      go_simp
      first | done | rfl
    simp only [Act.put, List.setIfInBounds_toArray, List.set_cons_zero, List.set_cons_succ, List.getElem_toArray, List.getElem_cons_zero, List.getElem_cons_succ]
    refine z_take (i := 2) (v := ?_) rfl (by kernel_rfl) (by kernel_rfl) (by kernel_rfl) (k0 := 2) (by kernel_rfl) (by kernel_rfl) (.inl rfl) (fun _ _ _ h => h) (by rfl) HC.out ?_ ?_
    rotate_left
    · intro W hW
      go_simp
      first | done | rfl
    simp only [Act.put, List.setIfInBounds_toArray, List.set_cons_zero, List.set_cons_succ, List.getElem_toArray, List.getElem_cons_zero, List.getElem_cons_succ]
    refine z_take (i := 3) (v := ?_) rfl (by kernel_rfl) (by kernel_rfl) (by kernel_rfl) (k0 := 3) (by kernel_rfl) (by kernel_rfl) (.inl rfl) (fun _ _ _ h => h) (by rfl) HC.out ?_ ?_
    rotate_left
    · intro W hW
      go_simp
      first | done | rfl
    simp only [Act.put, List.setIfInBounds_toArray, List.set_cons_zero, List.set_cons_succ, List.getElem_toArray, List.getElem_cons_zero, List.getElem_cons_succ]
    refine z_take (i := 4) (v := ?_) rfl (by kernel_rfl) (by kernel_rfl) (by kernel_rfl) (k0 := 4) (by kernel_rfl) (by kernel_rfl) (.inl rfl) (fun _ _ _ h => h) (by rfl) HC.out ?_ ?_
    rotate_left
    · intro W hW
      go_simp
      first | done | rfl
    simp only [Act.put, List.setIfInBounds_toArray, List.set_cons_zero, List.set_cons_succ, List.getElem_toArray, List.getElem_cons_zero, List.getElem_cons_succ]
    refine z_take (i := 5) (v := ?_) rfl (by kernel_rfl) (by kernel_rfl) (by kernel_rfl) (k0 := 5) (by kernel_rfl) (by kernel_rfl) (.inl rfl) (fun _ _ _ h => h) (by rfl) HC.out ?_ ?_
    rotate_left
    · intro W hW
      go_simp
      first | done | rfl
    simp only [Act.put, List.setIfInBounds_toArray, List.set_cons_zero, List.set_cons_succ, List.getElem_toArray, List.getElem_cons_zero, List.getElem_cons_succ]
    refine z_take (i := 6) (v := ?_) rfl (by kernel_rfl) (by kernel_rfl) (by kernel_rfl) (k0 := 6) (by kernel_rfl) (by kernel_rfl) (.inl rfl) (fun _ _ _ h => h) (by rfl) HC.out ?_ ?_
    rotate_left
    · intro W hW
      go_simp
      first | done | rfl
    simp only [Act.put, List.setIfInBounds_toArray, List.set_cons_zero, List.set_cons_succ, List.getElem_toArray, List.getElem_cons_zero, List.getElem_cons_succ]
    refine z_take (i := 7) (v := ?_) rfl (by kernel_rfl) (by kernel_rfl) (by kernel_rfl) (k0 := 7) (by kernel_rfl) (by kernel_rfl) (.inl rfl) (fun _ _ _ h => h) (by rfl) HC.out ?_ ?_
    rotate_left
    · intro W hW
      go_simp
      first | done | rfl
    simp only [Act.put, List.setIfInBounds_toArray, List.set_cons_zero, List.set_cons_succ, List.getElem_toArray, List.getElem_cons_zero, List.getElem_cons_succ]
    refine z_take (i := 9) (v := ?_) rfl (by kernel_rfl) (by kernel_rfl) (by kernel_rfl) (k0 := 9) (by kernel_rfl) (by kernel_rfl) (.inl rfl) (fun _ _ _ h => h) (by rfl) HC.out ?_ ?_
    rotate_left
    · intro W hW
      obtain ⟨p0, p1⟩ := (HM.out.below hW hltM).c2
      go_simp
      first | done | rfl
    simp only [Act.put, List.setIfInBounds_toArray, List.set_cons_zero, List.set_cons_succ, List.getElem_toArray, List.getElem_cons_zero, List.getElem_cons_succ]
    refine z_one (i := 8) (by kernel_rfl) ?_
    refine onez_call (i := 8) (f := 11) (args := ?_) rfl (by rfl) ?_ ?_
    rotate_left
    · go_simp
      first | done | rfl
    with_reducible refine (HBA.out _ (HD.out.trans (HC.out.mono HD.out.size))).mono ?_
    rintro e y2 ⟨rfl, hb⟩
    refine ⟨_, rfl, fun _ => HC.out.trans (hb.mono hBz), ?_⟩
    replace HC := Lib.hid (HC.out.trans (hb.mono hBz))
    replace hBz := Nat.le_trans hBz hb.size
    clear hb
    simp only [Act.put, List.setIfInBounds_toArray, List.set_cons_zero, List.set_cons_succ, List.getElem_toArray, List.getElem_cons_zero, List.getElem_cons_succ]
    refine z_take (i := 10) (v := ?_) rfl (by kernel_rfl) (by kernel_rfl) (by kernel_rfl) (k0 := 10) (by kernel_rfl) (by kernel_rfl) (.inl rfl) (fun _ _ _ h => h) (by rfl) HC.out ?_ ?_
    rotate_left
    · intro W hW
      go_simp
      first | done | rfl
    simp only [Act.put, List.setIfInBounds_toArray, List.set_cons_zero, List.set_cons_succ, List.getElem_toArray, List.getElem_cons_zero, List.getElem_cons_succ]
    refine z_take (i := 11) (v := ?_) rfl (by kernel_rfl) (by kernel_rfl) (by kernel_rfl) (k0 := 11) (by kernel_rfl) (by kernel_rfl) (.inl rfl) (fun _ _ _ h => h) (by rfl) HC.out ?_ ?_
    rotate_left
    · intro W hW
      go_simp
      first | done | rfl
    simp only [Act.put, List.setIfInBounds_toArray, List.set_cons_zero, List.set_cons_succ, List.getElem_toArray, List.getElem_cons_zero, List.getElem_cons_succ]
    refine z_take (i := 12) (v := ?_) rfl (by kernel_rfl) (by kernel_rfl) (by kernel_rfl) (k0 := 12) (by kernel_rfl) (by kernel_rfl) (.inl rfl) (fun _ _ _ h => h) (by rfl) HC.out ?_ ?_
    rotate_left
    · intro W hW
      go_simp
      first | done | rfl
    simp only [Act.put, List.setIfInBounds_toArray, List.set_cons_zero, List.set_cons_succ, List.getElem_toArray, List.getElem_cons_zero, List.getElem_cons_succ]
    refine z_take (i := 13) (v := ?_) rfl (by kernel_rfl) (by kernel_rfl) (by kernel_rfl) (k0 := 13) (by kernel_rfl) (by kernel_rfl) (.inl rfl) (fun _ _ _ h => h) (by rfl) HC.out ?_ ?_
    rotate_left
    · intro W hW
      go_simp
      first | done | rfl
    simp only [Act.put, List.setIfInBounds_toArray, List.set_cons_zero, List.set_cons_succ, List.getElem_toArray, List.getElem_cons_zero, List.getElem_cons_succ]
    refine z_one (i := 14) (by kernel_rfl) ?_
    refine onez_call (i := 14) (f := 13) (args := ?_) rfl (by rfl) ?_ ?_
    rotate_left
    · go_simp
      first | done | rfl
    with_reducible refine (HRO.out _ (HD.out.trans (HC.out.mono HD.out.size))).mono ?_
    rintro e y3 ⟨rfl, hb⟩
    refine ⟨_, rfl, fun _ => HC.out.trans (hb.mono hBz), ?_⟩
    replace HC := Lib.hid (HC.out.trans (hb.mono hBz))
    replace hBz := Nat.le_trans hBz hb.size
    clear hb
    simp only [Act.put, List.setIfInBounds_toArray, List.set_cons_zero, List.set_cons_succ, List.getElem_toArray, List.getElem_cons_zero, List.getElem_cons_succ]
    refine z_take (i := 15) (v := ?_) rfl (by kernel_rfl) (by kernel_rfl) (by kernel_rfl) (k0 := 15) (by kernel_rfl) (by kernel_rfl) (.inl rfl) (fun _ _ _ h => h) (by rfl) HC.out ?_ ?_
    rotate_left
    · intro W hW
      go_simp
      first | done | rfl
    simp only [Act.put, List.setIfInBounds_toArray, List.set_cons_zero, List.set_cons_succ, List.getElem_toArray, List.getElem_cons_zero, List.getElem_cons_succ]
    refine z_take (i := 16) (v := ?_) rfl (by kernel_rfl) (by kernel_rfl) (by kernel_rfl) (k0 := 16) (by kernel_rfl) (by kernel_rfl) (.inl rfl) (fun _ _ _ h => h) (by rfl) HC.out ?_ ?_
    rotate_left
    · intro W hW
      go_simp
      first | done | rfl
    simp only [Act.put, List.setIfInBounds_toArray, List.set_cons_zero, List.set_cons_succ, List.getElem_toArray, List.getElem_cons_zero, List.getElem_cons_succ]
    refine z_take (i := 17) (v := ?_) rfl (by kernel_rfl) (by kernel_rfl) (by kernel_rfl) (k0 := 17) (by kernel_rfl) (by kernel_rfl) (.inl rfl) (fun _ _ _ h => h) (by rfl) HC.out ?_ ?_
    rotate_left
    · intro W hW
      go_simp
      first | done | rfl
    simp only [Act.put, List.setIfInBounds_toArray, List.set_cons_zero, List.set_cons_succ, List.getElem_toArray, List.getElem_cons_zero, List.getElem_cons_succ]
    refine z_take (i := 18) (v := ?_) rfl (by kernel_rfl) (by kernel_rfl) (by kernel_rfl) (k0 := 18) (by kernel_rfl) (by kernel_rfl) (.inl rfl) (fun _ _ _ h => h) (by rfl) HC.out ?_ ?_
    rotate_left
    · intro W hW
      go_simp
      first | done | rfl
    simp only [Act.put, List.setIfInBounds_toArray, List.set_cons_zero, List.set_cons_succ, List.getElem_toArray, List.getElem_cons_zero, List.getElem_cons_succ]
    refine z_one (i := 19) (by kernel_rfl) ?_
    refine onez_call (i := 19) (f := 12) (args := ?_) rfl (by rfl) ?_ ?_
    rotate_left
    · go_simp
      first | done | rfl
    with_reducible refine (HSE.out _ (HD.out.trans (HC.out.mono HD.out.size))).mono ?_
    rintro e y4 ⟨rfl, hb⟩
    refine ⟨_, rfl, fun _ => HC.out.trans (hb.mono hBz), ?_⟩
    replace HC := Lib.hid (HC.out.trans (hb.mono hBz))
    replace hBz := Nat.le_trans hBz hb.size
    clear hb
    simp only [Act.put, List.setIfInBounds_toArray, List.set_cons_zero, List.set_cons_succ, List.getElem_toArray, List.getElem_cons_zero, List.getElem_cons_succ]
    refine z_take (i := 20) (v := ?_) rfl (by kernel_rfl) (by kernel_rfl) (by kernel_rfl) (k0 := 20) (by kernel_rfl) (by kernel_rfl) (.inl rfl) (fun _ _ _ h => h) (by rfl) HC.out ?_ ?_
    rotate_left
    · intro W hW
      go_simp
      first | done | rfl
    simp only [Act.put, List.setIfInBounds_toArray, List.set_cons_zero, List.set_cons_succ, List.getElem_toArray, List.getElem_cons_zero, List.getElem_cons_succ]
    refine z_take (i := 21) (v := ?_) rfl (by kernel_rfl) (by kernel_rfl) (by kernel_rfl) (k0 := 21) (by kernel_rfl) (by kernel_rfl) (.inl rfl) (fun _ _ _ h => h) (by rfl) HC.out ?_ ?_
    rotate_left
    · intro W hW
      go_simp
      first | done | rfl
    simp only [Act.put, List.setIfInBounds_toArray, List.set_cons_zero, List.set_cons_succ, List.getElem_toArray, List.getElem_cons_zero, List.getElem_cons_succ]
    refine z_take (i := 22) (v := ?_) rfl (by kernel_rfl) (by kernel_rfl) (by kernel_rfl) (k0 := 22) (by kernel_rfl) (by kernel_rfl) (.inl rfl) (fun _ _ _ h => h) (by rfl) HC.out ?_ ?_
    rotate_left
    · intro W hW
      go_simp
      first | done | rfl
    simp only [Act.put, List.setIfInBounds_toArray, List.set_cons_zero, List.set_cons_succ, List.getElem_toArray, List.getElem_cons_zero, List.getElem_cons_succ]
    refine z_done (by kernel_rfl) ?_
    have HE := Lib.hid (HD.out.trans (HC.out.mono HD.out.size))
    go_simp
    go_wp2_with fail
    go_ret
    exact ⟨rfl, H5.out.trans (HE.out.mono H5.out.size)⟩
  have ee7 : decide (k ≤ 3) = true := by simpa using h
  clear h
  go_wp2_with fail
  go_ret
  exact ⟨rfl, H4.out⟩
end Go.Proofs.Ytjcljkbalpgfdaa
