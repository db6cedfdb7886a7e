/-
  Parts that the statement rests on, joined: Rnew, Rbeat, Rpropose, Rdid.
-/
import Derived.Test.YtjcljkbalpgfdaaGreatZ5
import Derived.Test.YtjcljkbalpgfdaaGreatZ10
import Derived.Test.YtjcljkbalpgfdaaGreatZ11
import Derived.Test.YtjcljkbalpgfdaaGreatZ19
import Derived.Test.YtjcljkbalpgfdaaGreatZ28
import Derived.Test.YtjcljkbalpgfdaaGreatZ32
/-
  What the reference's New answers: a member in memory of its own.
-/



namespace Go.Proofs.YtjcljkbalpgfdaaGreat
open Go.RowKit

/-- What New answers: none, or a member that lies in memory made anew, but for its log. -/
def NewOut (w : World) (S : Nat → Prop) (r : Option (Rf.Id × Rf.St)) (e : Ending) (w' : World) : Prop := match r with
  | none => e = .returned (.tuple #[.pointer none, .int .i64 1]) ∧ Below w.heap.size w w'
  | some (n, s) => ∃ F A c, e = .returned (.tuple #[.pointer (some ⟨F.g, 0, none⟩), .int .i64 0]) ∧ (∀ b, F.has b → w.heap.size ≤ b) ∧ RMem n F (fun b => S b ∧ b < w.heap.size) w' s A c ∧ Below w.heap.size w w'

set_option maxRecDepth 100000 in
set_option maxHeartbeats 4000000 in
theorem rnew_any (id many b1 b2 l1 l2 : Int) (v : Value) (l : List E) (S : Nat → Prop) (w : World) (hL : SlS w S v l) :
    Calls Tryz.prog 7 #[.int .i64 id, .int .i64 many, bv b1 b2, lv l1 l2 v] w (NewOut w S (Rf.new id many (b1, b2) (l1, l2, l))) := by
  obtain ⟨A, c, rfl, hc, hm⟩ := hL.form
  unfold maxLen at hm
  have HMA := Lib.hid (fun W => rbmay_any b1 b2 W)
  have HMY := Lib.hid (fun W (hb : Below w.heap.size w W) => rmay_any l1 l2 _ l W W.heap.size (Nat.le_refl _) (SlS.wide (hL.stay (fun b _ hlt => hb.block b hlt)) (fun _ _ h => h)))
  have HLA := Lib.hid (fun W (hb : Below w.heap.size w W) => rlast_any l1 l2 _ l W W.heap.size (Nat.le_refl _) (SlS.wide (hL.stay (fun b _ hlt => hb.block b hlt)) (fun _ _ h => h)))
  have hb1 : Below w.heap.size w (w.alloc (.cells #[.int .i64 b1, .int .i64 b2] 23)) := (Below.refl _ _).alloc (Nat.le_refl _) _
  have HB1 := Lib.hid ((Whole.new w 23 #[.int .i64 b1, .int .i64 b2]).alloc (.cells #[.int .i64 l1, .int .i64 l2, .slice A l.length c] 26))
  have HB2 := Lib.hid (Whole.new1 w (.cells #[.int .i64 b1, .int .i64 b2] 23) 26 #[.int .i64 l1, .int .i64 l2, .slice A l.length c])
  have HBD := Lib.hid (hb1.alloc hb1.size (.cells #[.int .i64 l1, .int .i64 l2, .slice A l.length c] 26))
  have HLS := Lib.hid (show SlS _ (fun b => S b ∧ b < w.heap.size) (.slice A l.length c) l from (hL.wide (fun b hb hlt => ⟨hb, hlt⟩)).stay (fun b _ hlt => HBD.out.block b hlt))
  clear hb1
  have hz5 := HBD.out.size
  obtain ⟨mb, hmb⟩ : ∃ mb, mb = Vt.may (b1, b2) := ⟨_, rfl⟩
  obtain ⟨ml, hml⟩ : ∃ ml, ml = Lg.may (l1, l2, l) := ⟨_, rfl⟩
  have HMB := Lib.hid hmb.symm
  have HML := Lib.hid hml.symm
  generalize hlq : Lg.last (l1, l2, l) = q at *
  obtain ⟨q1, q2⟩ := q
  have HLQ := Lib.hid hlq
  rw [← hmb] at HMA
  rw [← hml] at HMY
  simp only at HLA
  clear hmb hml hlq hL
  obtain ⟨p0, p1⟩ := HB1.out.c2
  obtain ⟨r0, r1, r2⟩ := HB2.out.c3
  go_enter Tryz.func7, Tryz.ntmps7
  go_wp2_with fail
  with_reducible refine (HMA.out _).mono ?_
  rintro e w5 ⟨rfl, hb⟩
  replace HB1 := Lib.hid (HB1.out.below hb HB1.out.lt)
  replace HB2 := Lib.hid (HB2.out.below hb HB2.out.lt)
  replace HLS := Lib.hid (HLS.out.stay (fun b _ hlt => hb.block b hlt))
  replace HBD := Lib.hid (HBD.out.trans (hb.mono hz5))
  replace hz5 := HBD.out.size
  clear hb
  clear p0 p1 r0 r1 r2
  obtain ⟨p0, p1⟩ := HB1.out.c2
  obtain ⟨r0, r1, r2⟩ := HB2.out.c3
  go_wp2_with fail
  with_reducible refine (HMY.out _ HBD.out).mono ?_
  rintro e w5 ⟨rfl, hb⟩
  replace HB1 := Lib.hid (HB1.out.below hb HB1.out.lt)
  replace HB2 := Lib.hid (HB2.out.below hb HB2.out.lt)
  replace HLS := Lib.hid (HLS.out.stay (fun b _ hlt => hb.block b hlt))
  replace HBD := Lib.hid (HBD.out.trans (hb.mono hz5))
  replace hz5 := HBD.out.size
  clear hb
  clear p0 p1 r0 r1 r2
  obtain ⟨p0, p1⟩ := HB1.out.c2
  obtain ⟨r0, r1, r2⟩ := HB2.out.c3
  go_wp2_with fail
  with_reducible refine (HLA.out _ HBD.out).mono ?_
  rintro e w5 ⟨rfl, hb⟩
  replace HB1 := Lib.hid (HB1.out.below hb HB1.out.lt)
  replace HB2 := Lib.hid (HB2.out.below hb HB2.out.lt)
  replace HLS := Lib.hid (HLS.out.stay (fun b _ hlt => hb.block b hlt))
  replace HBD := Lib.hid (HBD.out.trans (hb.mono hz5))
  replace hz5 := HBD.out.size
  clear hb
  clear p0 p1 r0 r1 r2 HMA HMY HLA
  obtain ⟨p0, p1⟩ := HB1.out.c2
  obtain ⟨r0, r1, r2⟩ := HB2.out.c3
  by_cases h : many < 1
  · have hno : Rf.new id many (b1, b2) (l1, l2, l) = none := if_pos (.inl h)
    have HNO := Lib.hid hno
    have ee : decide (many < 1) = true := by simpa using h
    clear h hno
    go_wp2_with fail
    go_ret2
    rw [HNO.out]
    unfold NewOut
    exact ⟨rfl, HBD.out⟩
  have hn0 := Lib.hid h
  have ee0 : decide (many < 1) = false := by simpa using h
  clear h
  by_cases h : 16 < many
  · have hno : Rf.new id many (b1, b2) (l1, l2, l) = none := if_pos (.inr (.inl h))
    have HNO := Lib.hid hno
    have ee : decide (16 < many) = true := by simpa using h
    clear h hno
    go_wp2_with fail
    go_ret2
    rw [HNO.out]
    unfold NewOut
    exact ⟨rfl, HBD.out⟩
  have hn1 := Lib.hid h
  have ee1 : decide (16 < many) = false := by simpa using h
  clear h
  by_cases h : id < 1
  · have hno : Rf.new id many (b1, b2) (l1, l2, l) = none := if_pos (.inr (.inr (.inl h)))
    have HNO := Lib.hid hno
    have ee : decide (id < 1) = true := by simpa using h
    clear h hno
    go_wp2_with fail
    go_ret2
    rw [HNO.out]
    unfold NewOut
    exact ⟨rfl, HBD.out⟩
  have hn2 := Lib.hid h
  have ee2 : decide (id < 1) = false := by simpa using h
  clear h
  by_cases h : many < id
  · have hno : Rf.new id many (b1, b2) (l1, l2, l) = none := if_pos (.inr (.inr (.inr (.inl h))))
    have HNO := Lib.hid hno
    have ee : decide (many < id) = true := by simpa using h
    clear h hno
    go_wp2_with fail
    go_ret2
    rw [HNO.out]
    unfold NewOut
    exact ⟨rfl, HBD.out⟩
  have hn3 := Lib.hid h
  have ee3 : decide (many < id) = false := by simpa using h
  clear h
  by_cases h : mb = false
  · have hno : Rf.new id many (b1, b2) (l1, l2, l) = none := if_pos (.inr (.inr (.inr (.inr (.inl (HMB.out.trans h))))))
    have HNO := Lib.hid hno
    have ee : mb = false := by simpa using h
    clear h hno
    subst ee
    go_wp2_with fail
    go_ret2
    rw [HNO.out]
    unfold NewOut
    exact ⟨rfl, HBD.out⟩
  have hn4 := Lib.hid h
  have ee4 : mb = true := by simpa using h
  clear h
  subst ee4
  by_cases h : ml = false
  · have hno : Rf.new id many (b1, b2) (l1, l2, l) = none := if_pos (.inr (.inr (.inr (.inr (.inr (.inl (HML.out.trans h)))))))
    have HNO := Lib.hid hno
    have ee : ml = false := by simpa using h
    clear h hno
    subst ee
    go_wp2_with fail
    go_ret2
    rw [HNO.out]
    unfold NewOut
    exact ⟨rfl, HBD.out⟩
  have hn5 := Lib.hid h
  have ee5 : ml = true := by simpa using h
  clear h
  subst ee5
  by_cases h : l1 ≠ 0
  · have hno : Rf.new id many (b1, b2) (l1, l2, l) = none := if_pos (.inr (.inr (.inr (.inr (.inr (.inr (.inl h)))))))
    have HNO := Lib.hid hno
    have ee : (l1 != 0) = true := by simpa using h
    clear h hno
    go_wp2_with fail
    go_ret2
    rw [HNO.out]
    unfold NewOut
    exact ⟨rfl, HBD.out⟩
  have hn6 := Lib.hid h
  have ee6 : (l1 != 0) = false := by simpa using h
  clear h
  by_cases h : b1 < q2
  · have hno : Rf.new id many (b1, b2) (l1, l2, l) = none := if_pos (.inr (.inr (.inr (.inr (.inr (.inr (.inr (by rw [HLQ.out]; exact h))))))))
    have HNO := Lib.hid hno
    have ee : decide (b1 < q2) = true := by simpa using h
    clear h hno
    go_wp2_with fail
    go_ret2
    rw [HNO.out]
    unfold NewOut
    exact ⟨rfl, HBD.out⟩
  have hn7 := Lib.hid h
  have ee7 : decide (b1 < q2) = false := by simpa using h
  clear h
  have hmn : 1 ≤ many ∧ many ≤ 16 := by have := hn0.out; have := hn1.out; omega
  have hidn : 1 ≤ id ∧ id ≤ many := by have := hn2.out; have := hn3.out; omega
  obtain ⟨mn, rfl⟩ : ∃ mn : Nat, many = (mn : Int) := ⟨many.toNat, by omega⟩
  obtain ⟨idn, rfl⟩ : ∃ idn : Nat, id = (idn : Int) := ⟨id.toNat, by omega⟩
  have hl1 : l1 = 0 := Classical.not_not.1 hn6.out
  have hl2 : l2 = 0 := by have := (Lg.may_iff _).1 HML.out; simp only at this; omega
  have hnw : Rf.new (idn : Int) (mn : Int) (b1, b2) (l1, l2, l) = some (⟨idn, mn⟩, { b := (b1, b2), l := l, is := 0, upto := 0, votes := List.replicate mn false, mt := List.replicate mn 0, nx := List.replicate mn 0 }) := if_neg (fun h => by
    rcases h with h | h | h | h | h | h | h | h
    · exact hn0.out h
    · exact hn1.out h
    · exact hn2.out h
    · exact hn3.out h
    · rw [HMB.out] at h; cases h
    · rw [HML.out] at h; cases h
    · exact hn6.out h
    · exact hn7.out (by rw [HLQ.out] at h; exact h))
  have HNW := Lib.hid hnw
  clear hn0 hn1 hn2 hn3 hn4 hn5 hn6 hn7 hnw HMB HML HLQ
  subst hl1 hl2
  go_wp2_with fail
  clear ee0 ee1 ee2 ee3 ee6 ee7 p0 p1 r0 r1 r2
  refine z_start ((w5).drew.heap.size) [] (by kernel_rfl) ?_
  have HC := Lib.hid (Below.refl ((w5).drew.heap.size) (w5).drew)
  have hBz : (w5).drew.heap.size ≤ (w5).drew.heap.size := Nat.le_refl _
  replace HB1 := Lib.hid (show Whole (w5).drew _ _ _ from HB1.out)
  have hlt1 := HB1.out.lt
  replace HB2 := Lib.hid (show Whole (w5).drew _ _ _ from HB2.out)
  have hlt2 := HB2.out.lt
  replace HBD := Lib.hid (HBD.out.trans (Below.refl _ _).drew)
  have hz1w : w.heap.size ≤ (w5).drew.heap.size := HBD.out.size
  replace HLS := Lib.hid (show SlS (w5).drew _ _ _ from HLS.out.stay (fun b _ hlt => (Below.refl _ _).drew.block b hlt))
  generalize (w5).drew = z1 at *
  refine z_take (i := 0) (v := ?_) rfl (by kernel_rfl) (by kernel_rfl) (by kernel_rfl) (k0 := 0) (by kernel_rfl) (by kernel_rfl) (.inl rfl) (fun _ _ _ h => h) (by rfl) HC.out ?_ ?_
  rotate_left
  · intro W hW
    go_simp
    first | done | rfl
  simp only [Act.put, List.setIfInBounds_toArray, List.set_cons_zero, List.set_cons_succ, List.getElem_toArray, List.getElem_cons_zero, List.getElem_cons_succ]
  refine z_take (i := 1) (v := ?_) rfl (by kernel_rfl) (by kernel_rfl) (by kernel_rfl) (k0 := 1) (by kernel_rfl) (by kernel_rfl) (.inl rfl) (fun _ _ _ h => h) (by rfl) HC.out ?_ ?_
  rotate_left
  · intro W hW
    go_simp
    first | done | rfl
  simp only [Act.put, List.setIfInBounds_toArray, List.set_cons_zero, List.set_cons_succ, List.getElem_toArray, List.getElem_cons_zero, List.getElem_cons_succ]
  refine z_take (i := 2) (v := ?_) rfl (by kernel_rfl) (by kernel_rfl) (by kernel_rfl) (k0 := 2) (by kernel_rfl) (by kernel_rfl) (.inl rfl) (fun _ _ _ h => h) (by rfl) HC.out ?_ ?_
  rotate_left
  · intro W hW
    obtain ⟨p0, p1⟩ := (HB1.out.below hW hlt1).c2
    go_simp
    first | done | rfl
  simp only [Act.put, List.setIfInBounds_toArray, List.set_cons_zero, List.set_cons_succ, List.getElem_toArray, List.getElem_cons_zero, List.getElem_cons_succ]
  refine z_take (i := 3) (v := ?_) rfl (by kernel_rfl) (by kernel_rfl) (by kernel_rfl) (k0 := 3) (by kernel_rfl) (by kernel_rfl) (.inl rfl) (fun _ _ _ h => h) (by rfl) HC.out ?_ ?_
  rotate_left
  · intro W hW
    obtain ⟨r0, r1, r2⟩ := (HB2.out.below hW hlt2).c3
    go_simp
    first | done | rfl
  simp only [Act.put, List.setIfInBounds_toArray, List.set_cons_zero, List.set_cons_succ, List.getElem_toArray, List.getElem_cons_zero, List.getElem_cons_succ]
  refine z_take (i := 4) (v := ?_) rfl (by kernel_rfl) (by kernel_rfl) (by kernel_rfl) (k0 := 4) (by kernel_rfl) (by kernel_rfl) (.inl rfl) (fun _ _ _ h => h) (by rfl) HC.out ?_ ?_
  rotate_left
  · intro W hW
    go_simp
    first | done | rfl
  simp only [Act.put, List.setIfInBounds_toArray, List.set_cons_zero, List.set_cons_succ, List.getElem_toArray, List.getElem_cons_zero, List.getElem_cons_succ]
  refine z_take (i := 6) (v := ?_) rfl (by kernel_rfl) (by kernel_rfl) (by kernel_rfl) (k0 := 6) (by kernel_rfl) (by kernel_rfl) (.inl rfl) (fun _ _ _ h => h) (by rfl) HC.out ?_ ?_
  rotate_left
  · intro W hW
    go_simp
    first | done | rfl
  simp only [Act.put, List.setIfInBounds_toArray, List.set_cons_zero, List.set_cons_succ, List.getElem_toArray, List.getElem_cons_zero, List.getElem_cons_succ]
  refine z_take (i := 8) (v := ?_) rfl (by kernel_rfl) (by kernel_rfl) (by kernel_rfl) (k0 := 8) (by kernel_rfl) (by kernel_rfl) (.inl rfl) (fun _ _ _ h => h) (by rfl) HC.out ?_ ?_
  rotate_left
  · intro W hW
    go_simp
    first | done | rfl
  simp only [Act.put, List.setIfInBounds_toArray, List.set_cons_zero, List.set_cons_succ, List.getElem_toArray, List.getElem_cons_zero, List.getElem_cons_succ]
  refine z_three (i := 5) (j := 7) (k := 9) (by kernel_rfl) ?_ ?_ ?_
  · refine onez_make_sl (i := 5) rfl (by rfl) rowZO trivial (.tmp 61) (.tmp 61) rfl .i64 .i64 _ _ mn rfl rfl rfl rfl (by omega) (by unfold maxLen; omega) hBz HC.out ?_
    intro z2 hown hb
    have HOV := Lib.hid (own_whole hown)
    have hltV := HOV.out.lt
    clear hown
    simp only [Act.put, List.setIfInBounds_toArray, List.set_cons_zero, List.set_cons_succ, List.getElem_toArray, List.getElem_cons_zero, List.getElem_cons_succ]
    have hgeV := hBz
    replace HC := Lib.hid (HC.out.trans (hb.mono hBz))
    replace hBz := HC.out.size
    clear hb
    refine z_two (i := 7) (j := 9) (by kernel_rfl) ?_ ?_
    · refine onez_make_sl (i := 7) rfl (by rfl) rowZI ⟨by omega, by omega⟩ (.tmp 63) (.tmp 63) rfl .i64 .i64 _ _ mn rfl rfl rfl rfl (by omega) (by unfold maxLen; omega) hBz HC.out ?_
      intro z3 hown hb
      have HOM := Lib.hid (own_wholeN hown)
      have hltM := HOM.out.lt
      clear hown
      simp only [Act.put, List.setIfInBounds_toArray, List.set_cons_zero, List.set_cons_succ, List.getElem_toArray, List.getElem_cons_zero, List.getElem_cons_succ]
      replace HOV := Lib.hid (HOV.out.below hb (by omega))
      have hgeM := hBz
      replace HC := Lib.hid (HC.out.trans (hb.mono hBz))
      replace hBz := HC.out.size
      clear hb
      generalize hgg : (z2).heap.size = gM at *
      clear hgg
      refine z_one (i := 9) (by kernel_rfl) ?_
      refine onez_make_sl (i := 9) rfl (by rfl) rowZI ⟨by omega, by omega⟩ (.tmp 65) (.tmp 65) rfl .i64 .i64 _ _ mn rfl rfl rfl rfl (by omega) (by unfold maxLen; omega) hBz HC.out ?_
      intro z4 hown hb
      have HOX := Lib.hid (own_wholeN hown)
      have hltX := HOX.out.lt
      clear hown
      simp only [Act.put, List.setIfInBounds_toArray, List.set_cons_zero, List.set_cons_succ, List.getElem_toArray, List.getElem_cons_zero, List.getElem_cons_succ]
      replace HOV := Lib.hid (HOV.out.below hb (by omega))
      replace HOM := Lib.hid (HOM.out.below hb (by omega))
      have hgeX := hBz
      replace HC := Lib.hid (HC.out.trans (hb.mono hBz))
      replace hBz := HC.out.size
      clear hb
      generalize hgg : (z3).heap.size = gX at *
      clear hgg
      refine z_take (i := 10) (v := ?_) rfl (by kernel_rfl) (by kernel_rfl) (by kernel_rfl) (k0 := 10) (by kernel_rfl) (by kernel_rfl) (.inl rfl) (fun _ _ _ h => h) (by rfl) HC.out ?_ ?_
      rotate_left
      · intro W hW
        go_simp
        first | done | rfl
      simp only [Act.put, List.setIfInBounds_toArray, List.set_cons_zero, List.set_cons_succ, List.getElem_toArray, List.getElem_cons_zero, List.getElem_cons_succ]
      refine z_one (i := 11) (by kernel_rfl) ?_
      refine onez_run (i := 11) (v := ?_) (w' := World.alloc (z4) (.cells #[.int .i64 (idn : Int), .int .i64 (mn : Int), .int .i64 b1, .int .i64 b2, .int .i64 0, .int .i64 0, .slice A l.length c, .int .i64 0, .int .i64 0, at0 (z1.heap.size) mn, at0 (gM) mn, at0 (gX) mn] 66)) rfl (by rfl) ?_ ?_ ?_
      rotate_left 1
      · go_simp
        first | done | rfl | (constructor <;> rfl)
      · exact fun _ => HC.out.alloc hBz _
      simp only [Act.put, List.setIfInBounds_toArray, List.set_cons_zero, List.set_cons_succ, List.getElem_toArray, List.getElem_cons_zero, List.getElem_cons_succ]
      have hgeG := hBz
      have HG := Lib.hid (Whole.new (z4) 66 #[.int .i64 (idn : Int), .int .i64 (mn : Int), .int .i64 b1, .int .i64 b2, .int .i64 0, .int .i64 0, .slice A l.length c, .int .i64 0, .int .i64 0, at0 (z1.heap.size) mn, at0 (gM) mn, at0 (gX) mn])
      have hltG := HG.out.lt
      replace HOV := Lib.hid (HOV.out.alloc (.cells #[.int .i64 (idn : Int), .int .i64 (mn : Int), .int .i64 b1, .int .i64 b2, .int .i64 0, .int .i64 0, .slice A l.length c, .int .i64 0, .int .i64 0, at0 (z1.heap.size) mn, at0 (gM) mn, at0 (gX) mn] 66))
      replace HOM := Lib.hid (HOM.out.alloc (.cells #[.int .i64 (idn : Int), .int .i64 (mn : Int), .int .i64 b1, .int .i64 b2, .int .i64 0, .int .i64 0, .slice A l.length c, .int .i64 0, .int .i64 0, at0 (z1.heap.size) mn, at0 (gM) mn, at0 (gX) mn] 66))
      replace HOX := Lib.hid (HOX.out.alloc (.cells #[.int .i64 (idn : Int), .int .i64 (mn : Int), .int .i64 b1, .int .i64 b2, .int .i64 0, .int .i64 0, .slice A l.length c, .int .i64 0, .int .i64 0, at0 (z1.heap.size) mn, at0 (gM) mn, at0 (gX) mn] 66))
      replace HC := Lib.hid (HC.out.alloc hBz (.cells #[.int .i64 (idn : Int), .int .i64 (mn : Int), .int .i64 b1, .int .i64 b2, .int .i64 0, .int .i64 0, .slice A l.length c, .int .i64 0, .int .i64 0, at0 (z1.heap.size) mn, at0 (gM) mn, at0 (gX) mn] 66))
      replace hBz := HC.out.size
      generalize hwx : World.alloc (z4) _ = z5 at *
      clear hwx
      generalize hgg : (z4).heap.size = gG at *
      clear hgg
      refine z_take (i := 12) (v := ?_) rfl (by kernel_rfl) (by kernel_rfl) (by kernel_rfl) (k0 := 12) (by kernel_rfl) (by kernel_rfl) (.inl rfl) (fun _ _ _ h => h) (by rfl) HC.out ?_ ?_
      rotate_left
      · intro W hW
        go_simp
        first | done | rfl
      simp only [Act.put, List.setIfInBounds_toArray, List.set_cons_zero, List.set_cons_succ, List.getElem_toArray, List.getElem_cons_zero, List.getElem_cons_succ]
      refine z_take (i := 13) (v := ?_) rfl (by kernel_rfl) (by kernel_rfl) (by kernel_rfl) (k0 := 13) (by kernel_rfl) (by kernel_rfl) (.inl rfl) (fun _ _ _ h => h) (by rfl) HC.out ?_ ?_
      rotate_left
      · intro W hW
        go_simp
        first | done | rfl
      simp only [Act.put, List.setIfInBounds_toArray, List.set_cons_zero, List.set_cons_succ, List.getElem_toArray, List.getElem_cons_zero, List.getElem_cons_succ]
      refine z_done (by kernel_rfl) ?_
      clear hgeV
      have HS2 := Lib.hid (HLS.out.stay (fun b _ hlt => HC.out.block b hlt))
      have HBB := Lib.hid (HBD.out.trans (HC.out.mono hz1w))
      clear HC hBz
      generalize hgg : z1.heap.size = gV at *
      clear hgg
      go_simp
      go_wp2_with fail
      go_ret2
      rw [HNW.out]
      unfold NewOut
      refine ⟨(⟨gG, gV, gM, gX⟩ : Foot), A, c, rfl, fun b hb => ?_, ⟨HG.out, HOV.out, HOM.out, HOX.out, HS2.out, ⟨?_, ?_, ?_, ?_, ?_, ?_⟩, fun b hb hf => ?_⟩, HBB.out⟩
      case refine_1 => rcases hb with rfl | rfl | rfl | rfl <;> omega
      case refine_8 => rcases hf with rfl | rfl | rfl | rfl <;> (have := hb.2; omega)
      all_goals (simp only; omega)
    · refine onez_make_sl (i := 9) rfl (by rfl) rowZI ⟨by omega, by omega⟩ (.tmp 65) (.tmp 65) rfl .i64 .i64 _ _ mn rfl rfl rfl rfl (by omega) (by unfold maxLen; omega) hBz HC.out ?_
      intro z6 hown hb
      have HOX := Lib.hid (own_wholeN hown)
      have hltX := HOX.out.lt
      clear hown
      simp only [Act.put, List.setIfInBounds_toArray, List.set_cons_zero, List.set_cons_succ, List.getElem_toArray, List.getElem_cons_zero, List.getElem_cons_succ]
      replace HOV := Lib.hid (HOV.out.below hb (by omega))
      have hgeX := hBz
      replace HC := Lib.hid (HC.out.trans (hb.mono hBz))
      replace hBz := HC.out.size
      clear hb
      generalize hgg : (z2).heap.size = gX at *
      clear hgg
      refine z_one (i := 7) (by kernel_rfl) ?_
      refine onez_make_sl (i := 7) rfl (by rfl) rowZI ⟨by omega, by omega⟩ (.tmp 63) (.tmp 63) rfl .i64 .i64 _ _ mn rfl rfl rfl rfl (by omega) (by unfold maxLen; omega) hBz HC.out ?_
      intro z7 hown hb
      have HOM := Lib.hid (own_wholeN hown)
      have hltM := HOM.out.lt
      clear hown
      simp only [Act.put, List.setIfInBounds_toArray, List.set_cons_zero, List.set_cons_succ, List.getElem_toArray, List.getElem_cons_zero, List.getElem_cons_succ]
      replace HOV := Lib.hid (HOV.out.below hb (by omega))
      replace HOX := Lib.hid (HOX.out.below hb (by omega))
      have hgeM := hBz
      replace HC := Lib.hid (HC.out.trans (hb.mono hBz))
      replace hBz := HC.out.size
      clear hb
      generalize hgg : (z6).heap.size = gM at *
      clear hgg
      refine z_take (i := 10) (v := ?_) rfl (by kernel_rfl) (by kernel_rfl) (by kernel_rfl) (k0 := 10) (by kernel_rfl) (by kernel_rfl) (.inl rfl) (fun _ _ _ h => h) (by rfl) HC.out ?_ ?_
      rotate_left
      · intro W hW
        go_simp
        first | done | rfl
      simp only [Act.put, List.setIfInBounds_toArray, List.set_cons_zero, List.set_cons_succ, List.getElem_toArray, List.getElem_cons_zero, List.getElem_cons_succ]
      refine z_one (i := 11) (by kernel_rfl) ?_
      refine onez_run (i := 11) (v := ?_) (w' := World.alloc (z7) (.cells #[.int .i64 (idn : Int), .int .i64 (mn : Int), .int .i64 b1, .int .i64 b2, .int .i64 0, .int .i64 0, .slice A l.length c, .int .i64 0, .int .i64 0, at0 (z1.heap.size) mn, at0 (gM) mn, at0 (gX) mn] 66)) rfl (by rfl) ?_ ?_ ?_
      rotate_left 1
      · go_simp
        first | done | rfl | (constructor <;> rfl)
      · exact fun _ => HC.out.alloc hBz _
      simp only [Act.put, List.setIfInBounds_toArray, List.set_cons_zero, List.set_cons_succ, List.getElem_toArray, List.getElem_cons_zero, List.getElem_cons_succ]
      have hgeG := hBz
      have HG := Lib.hid (Whole.new (z7) 66 #[.int .i64 (idn : Int), .int .i64 (mn : Int), .int .i64 b1, .int .i64 b2, .int .i64 0, .int .i64 0, .slice A l.length c, .int .i64 0, .int .i64 0, at0 (z1.heap.size) mn, at0 (gM) mn, at0 (gX) mn])
      have hltG := HG.out.lt
      replace HOV := Lib.hid (HOV.out.alloc (.cells #[.int .i64 (idn : Int), .int .i64 (mn : Int), .int .i64 b1, .int .i64 b2, .int .i64 0, .int .i64 0, .slice A l.length c, .int .i64 0, .int .i64 0, at0 (z1.heap.size) mn, at0 (gM) mn, at0 (gX) mn] 66))
      replace HOX := Lib.hid (HOX.out.alloc (.cells #[.int .i64 (idn : Int), .int .i64 (mn : Int), .int .i64 b1, .int .i64 b2, .int .i64 0, .int .i64 0, .slice A l.length c, .int .i64 0, .int .i64 0, at0 (z1.heap.size) mn, at0 (gM) mn, at0 (gX) mn] 66))
      replace HOM := Lib.hid (HOM.out.alloc (.cells #[.int .i64 (idn : Int), .int .i64 (mn : Int), .int .i64 b1, .int .i64 b2, .int .i64 0, .int .i64 0, .slice A l.length c, .int .i64 0, .int .i64 0, at0 (z1.heap.size) mn, at0 (gM) mn, at0 (gX) mn] 66))
      replace HC := Lib.hid (HC.out.alloc hBz (.cells #[.int .i64 (idn : Int), .int .i64 (mn : Int), .int .i64 b1, .int .i64 b2, .int .i64 0, .int .i64 0, .slice A l.length c, .int .i64 0, .int .i64 0, at0 (z1.heap.size) mn, at0 (gM) mn, at0 (gX) mn] 66))
      replace hBz := HC.out.size
      generalize hwx : World.alloc (z7) _ = z8 at *
      clear hwx
      generalize hgg : (z7).heap.size = gG at *
      clear hgg
      refine z_take (i := 12) (v := ?_) rfl (by kernel_rfl) (by kernel_rfl) (by kernel_rfl) (k0 := 12) (by kernel_rfl) (by kernel_rfl) (.inl rfl) (fun _ _ _ h => h) (by rfl) HC.out ?_ ?_
      rotate_left
      · intro W hW
        go_simp
        first | done | rfl
      simp only [Act.put, List.setIfInBounds_toArray, List.set_cons_zero, List.set_cons_succ, List.getElem_toArray, List.getElem_cons_zero, List.getElem_cons_succ]
      refine z_take (i := 13) (v := ?_) rfl (by kernel_rfl) (by kernel_rfl) (by kernel_rfl) (k0 := 13) (by kernel_rfl) (by kernel_rfl) (.inl rfl) (fun _ _ _ h => h) (by rfl) HC.out ?_ ?_
      rotate_left
      · intro W hW
        go_simp
        first | done | rfl
      simp only [Act.put, List.setIfInBounds_toArray, List.set_cons_zero, List.set_cons_succ, List.getElem_toArray, List.getElem_cons_zero, List.getElem_cons_succ]
      refine z_done (by kernel_rfl) ?_
      clear hgeV
      have HS2 := Lib.hid (HLS.out.stay (fun b _ hlt => HC.out.block b hlt))
      have HBB := Lib.hid (HBD.out.trans (HC.out.mono hz1w))
      clear HC hBz
      generalize hgg : z1.heap.size = gV at *
      clear hgg
      go_simp
      go_wp2_with fail
      go_ret2
      rw [HNW.out]
      unfold NewOut
      refine ⟨(⟨gG, gV, gM, gX⟩ : Foot), A, c, rfl, fun b hb => ?_, ⟨HG.out, HOV.out, HOM.out, HOX.out, HS2.out, ⟨?_, ?_, ?_, ?_, ?_, ?_⟩, fun b hb hf => ?_⟩, HBB.out⟩
      case refine_1 => rcases hb with rfl | rfl | rfl | rfl <;> omega
      case refine_8 => rcases hf with rfl | rfl | rfl | rfl <;> (have := hb.2; omega)
      all_goals (simp only; omega)
  · refine onez_make_sl (i := 7) rfl (by rfl) rowZI ⟨by omega, by omega⟩ (.tmp 63) (.tmp 63) rfl .i64 .i64 _ _ mn rfl rfl rfl rfl (by omega) (by unfold maxLen; omega) hBz HC.out ?_
    intro z9 hown hb
    have HOM := Lib.hid (own_wholeN hown)
    have hltM := HOM.out.lt
    clear hown
    simp only [Act.put, List.setIfInBounds_toArray, List.set_cons_zero, List.set_cons_succ, List.getElem_toArray, List.getElem_cons_zero, List.getElem_cons_succ]
    have hgeM := hBz
    replace HC := Lib.hid (HC.out.trans (hb.mono hBz))
    replace hBz := HC.out.size
    clear hb
    refine z_two (i := 5) (j := 9) (by kernel_rfl) ?_ ?_
    · refine onez_make_sl (i := 5) rfl (by rfl) rowZO trivial (.tmp 61) (.tmp 61) rfl .i64 .i64 _ _ mn rfl rfl rfl rfl (by omega) (by unfold maxLen; omega) hBz HC.out ?_
      intro z10 hown hb
      have HOV := Lib.hid (own_whole hown)
      have hltV := HOV.out.lt
      clear hown
      simp only [Act.put, List.setIfInBounds_toArray, List.set_cons_zero, List.set_cons_succ, List.getElem_toArray, List.getElem_cons_zero, List.getElem_cons_succ]
      replace HOM := Lib.hid (HOM.out.below hb (by omega))
      have hgeV := hBz
      replace HC := Lib.hid (HC.out.trans (hb.mono hBz))
      replace hBz := HC.out.size
      clear hb
      generalize hgg : (z9).heap.size = gV at *
      clear hgg
      refine z_one (i := 9) (by kernel_rfl) ?_
      refine onez_make_sl (i := 9) rfl (by rfl) rowZI ⟨by omega, by omega⟩ (.tmp 65) (.tmp 65) rfl .i64 .i64 _ _ mn rfl rfl rfl rfl (by omega) (by unfold maxLen; omega) hBz HC.out ?_
      intro z11 hown hb
      have HOX := Lib.hid (own_wholeN hown)
      have hltX := HOX.out.lt
      clear hown
      simp only [Act.put, List.setIfInBounds_toArray, List.set_cons_zero, List.set_cons_succ, List.getElem_toArray, List.getElem_cons_zero, List.getElem_cons_succ]
      replace HOM := Lib.hid (HOM.out.below hb (by omega))
      replace HOV := Lib.hid (HOV.out.below hb (by omega))
      have hgeX := hBz
      replace HC := Lib.hid (HC.out.trans (hb.mono hBz))
      replace hBz := HC.out.size
      clear hb
      generalize hgg : (z10).heap.size = gX at *
      clear hgg
      refine z_take (i := 10) (v := ?_) rfl (by kernel_rfl) (by kernel_rfl) (by kernel_rfl) (k0 := 10) (by kernel_rfl) (by kernel_rfl) (.inl rfl) (fun _ _ _ h => h) (by rfl) HC.out ?_ ?_
      rotate_left
      · intro W hW
        go_simp
        first | done | rfl
      simp only [Act.put, List.setIfInBounds_toArray, List.set_cons_zero, List.set_cons_succ, List.getElem_toArray, List.getElem_cons_zero, List.getElem_cons_succ]
      refine z_one (i := 11) (by kernel_rfl) ?_
      refine onez_run (i := 11) (v := ?_) (w' := World.alloc (z11) (.cells #[.int .i64 (idn : Int), .int .i64 (mn : Int), .int .i64 b1, .int .i64 b2, .int .i64 0, .int .i64 0, .slice A l.length c, .int .i64 0, .int .i64 0, at0 (gV) mn, at0 (z1.heap.size) mn, at0 (gX) mn] 66)) rfl (by rfl) ?_ ?_ ?_
      rotate_left 1
      · go_simp
        first | done | rfl | (constructor <;> rfl)
      · exact fun _ => HC.out.alloc hBz _
      simp only [Act.put, List.setIfInBounds_toArray, List.set_cons_zero, List.set_cons_succ, List.getElem_toArray, List.getElem_cons_zero, List.getElem_cons_succ]
      have hgeG := hBz
      have HG := Lib.hid (Whole.new (z11) 66 #[.int .i64 (idn : Int), .int .i64 (mn : Int), .int .i64 b1, .int .i64 b2, .int .i64 0, .int .i64 0, .slice A l.length c, .int .i64 0, .int .i64 0, at0 (gV) mn, at0 (z1.heap.size) mn, at0 (gX) mn])
      have hltG := HG.out.lt
      replace HOM := Lib.hid (HOM.out.alloc (.cells #[.int .i64 (idn : Int), .int .i64 (mn : Int), .int .i64 b1, .int .i64 b2, .int .i64 0, .int .i64 0, .slice A l.length c, .int .i64 0, .int .i64 0, at0 (gV) mn, at0 (z1.heap.size) mn, at0 (gX) mn] 66))
      replace HOV := Lib.hid (HOV.out.alloc (.cells #[.int .i64 (idn : Int), .int .i64 (mn : Int), .int .i64 b1, .int .i64 b2, .int .i64 0, .int .i64 0, .slice A l.length c, .int .i64 0, .int .i64 0, at0 (gV) mn, at0 (z1.heap.size) mn, at0 (gX) mn] 66))
      replace HOX := Lib.hid (HOX.out.alloc (.cells #[.int .i64 (idn : Int), .int .i64 (mn : Int), .int .i64 b1, .int .i64 b2, .int .i64 0, .int .i64 0, .slice A l.length c, .int .i64 0, .int .i64 0, at0 (gV) mn, at0 (z1.heap.size) mn, at0 (gX) mn] 66))
      replace HC := Lib.hid (HC.out.alloc hBz (.cells #[.int .i64 (idn : Int), .int .i64 (mn : Int), .int .i64 b1, .int .i64 b2, .int .i64 0, .int .i64 0, .slice A l.length c, .int .i64 0, .int .i64 0, at0 (gV) mn, at0 (z1.heap.size) mn, at0 (gX) mn] 66))
      replace hBz := HC.out.size
      generalize hwx : World.alloc (z11) _ = z12 at *
      clear hwx
      generalize hgg : (z11).heap.size = gG at *
      clear hgg
      refine z_take (i := 12) (v := ?_) rfl (by kernel_rfl) (by kernel_rfl) (by kernel_rfl) (k0 := 12) (by kernel_rfl) (by kernel_rfl) (.inl rfl) (fun _ _ _ h => h) (by rfl) HC.out ?_ ?_
      rotate_left
      · intro W hW
        go_simp
        first | done | rfl
      simp only [Act.put, List.setIfInBounds_toArray, List.set_cons_zero, List.set_cons_succ, List.getElem_toArray, List.getElem_cons_zero, List.getElem_cons_succ]
      refine z_take (i := 13) (v := ?_) rfl (by kernel_rfl) (by kernel_rfl) (by kernel_rfl) (k0 := 13) (by kernel_rfl) (by kernel_rfl) (.inl rfl) (fun _ _ _ h => h) (by rfl) HC.out ?_ ?_
      rotate_left
      · intro W hW
        go_simp
        first | done | rfl
      simp only [Act.put, List.setIfInBounds_toArray, List.set_cons_zero, List.set_cons_succ, List.getElem_toArray, List.getElem_cons_zero, List.getElem_cons_succ]
      refine z_done (by kernel_rfl) ?_
      clear hgeM
      have HS2 := Lib.hid (HLS.out.stay (fun b _ hlt => HC.out.block b hlt))
      have HBB := Lib.hid (HBD.out.trans (HC.out.mono hz1w))
      clear HC hBz
      generalize hgg : z1.heap.size = gM at *
      clear hgg
      go_simp
      go_wp2_with fail
      go_ret2
      rw [HNW.out]
      unfold NewOut
      refine ⟨(⟨gG, gV, gM, gX⟩ : Foot), A, c, rfl, fun b hb => ?_, ⟨HG.out, HOV.out, HOM.out, HOX.out, HS2.out, ⟨?_, ?_, ?_, ?_, ?_, ?_⟩, fun b hb hf => ?_⟩, HBB.out⟩
      case refine_1 => rcases hb with rfl | rfl | rfl | rfl <;> omega
      case refine_8 => rcases hf with rfl | rfl | rfl | rfl <;> (have := hb.2; omega)
      all_goals (simp only; omega)
    · refine onez_make_sl (i := 9) rfl (by rfl) rowZI ⟨by omega, by omega⟩ (.tmp 65) (.tmp 65) rfl .i64 .i64 _ _ mn rfl rfl rfl rfl (by omega) (by unfold maxLen; omega) hBz HC.out ?_
      intro z13 hown hb
      have HOX := Lib.hid (own_wholeN hown)
      have hltX := HOX.out.lt
      clear hown
      simp only [Act.put, List.setIfInBounds_toArray, List.set_cons_zero, List.set_cons_succ, List.getElem_toArray, List.getElem_cons_zero, List.getElem_cons_succ]
      replace HOM := Lib.hid (HOM.out.below hb (by omega))
      have hgeX := hBz
      replace HC := Lib.hid (HC.out.trans (hb.mono hBz))
      replace hBz := HC.out.size
      clear hb
      generalize hgg : (z9).heap.size = gX at *
      clear hgg
      refine z_one (i := 5) (by kernel_rfl) ?_
      refine onez_make_sl (i := 5) rfl (by rfl) rowZO trivial (.tmp 61) (.tmp 61) rfl .i64 .i64 _ _ mn rfl rfl rfl rfl (by omega) (by unfold maxLen; omega) hBz HC.out ?_
      intro z14 hown hb
      have HOV := Lib.hid (own_whole hown)
      have hltV := HOV.out.lt
      clear hown
      simp only [Act.put, List.setIfInBounds_toArray, List.set_cons_zero, List.set_cons_succ, List.getElem_toArray, List.getElem_cons_zero, List.getElem_cons_succ]
      replace HOM := Lib.hid (HOM.out.below hb (by omega))
      replace HOX := Lib.hid (HOX.out.below hb (by omega))
      have hgeV := hBz
      replace HC := Lib.hid (HC.out.trans (hb.mono hBz))
      replace hBz := HC.out.size
      clear hb
      generalize hgg : (z13).heap.size = gV at *
      clear hgg
      refine z_take (i := 10) (v := ?_) rfl (by kernel_rfl) (by kernel_rfl) (by kernel_rfl) (k0 := 10) (by kernel_rfl) (by kernel_rfl) (.inl rfl) (fun _ _ _ h => h) (by rfl) HC.out ?_ ?_
      rotate_left
      · intro W hW
        go_simp
        first | done | rfl
      simp only [Act.put, List.setIfInBounds_toArray, List.set_cons_zero, List.set_cons_succ, List.getElem_toArray, List.getElem_cons_zero, List.getElem_cons_succ]
      refine z_one (i := 11) (by kernel_rfl) ?_
      refine onez_run (i := 11) (v := ?_) (w' := World.alloc (z14) (.cells #[.int .i64 (idn : Int), .int .i64 (mn : Int), .int .i64 b1, .int .i64 b2, .int .i64 0, .int .i64 0, .slice A l.length c, .int .i64 0, .int .i64 0, at0 (gV) mn, at0 (z1.heap.size) mn, at0 (gX) mn] 66)) rfl (by rfl) ?_ ?_ ?_
      rotate_left 1
      · go_simp
        first | done | rfl | (constructor <;> rfl)
      · exact fun _ => HC.out.alloc hBz _
      simp only [Act.put, List.setIfInBounds_toArray, List.set_cons_zero, List.set_cons_succ, List.getElem_toArray, List.getElem_cons_zero, List.getElem_cons_succ]
      have hgeG := hBz
      have HG := Lib.hid (Whole.new (z14) 66 #[.int .i64 (idn : Int), .int .i64 (mn : Int), .int .i64 b1, .int .i64 b2, .int .i64 0, .int .i64 0, .slice A l.length c, .int .i64 0, .int .i64 0, at0 (gV) mn, at0 (z1.heap.size) mn, at0 (gX) mn])
      have hltG := HG.out.lt
      replace HOM := Lib.hid (HOM.out.alloc (.cells #[.int .i64 (idn : Int), .int .i64 (mn : Int), .int .i64 b1, .int .i64 b2, .int .i64 0, .int .i64 0, .slice A l.length c, .int .i64 0, .int .i64 0, at0 (gV) mn, at0 (z1.heap.size) mn, at0 (gX) mn] 66))
      replace HOX := Lib.hid (HOX.out.alloc (.cells #[.int .i64 (idn : Int), .int .i64 (mn : Int), .int .i64 b1, .int .i64 b2, .int .i64 0, .int .i64 0, .slice A l.length c, .int .i64 0, .int .i64 0, at0 (gV) mn, at0 (z1.heap.size) mn, at0 (gX) mn] 66))
      replace HOV := Lib.hid (HOV.out.alloc (.cells #[.int .i64 (idn : Int), .int .i64 (mn : Int), .int .i64 b1, .int .i64 b2, .int .i64 0, .int .i64 0, .slice A l.length c, .int .i64 0, .int .i64 0, at0 (gV) mn, at0 (z1.heap.size) mn, at0 (gX) mn] 66))
      replace HC := Lib.hid (HC.out.alloc hBz (.cells #[.int .i64 (idn : Int), .int .i64 (mn : Int), .int .i64 b1, .int .i64 b2, .int .i64 0, .int .i64 0, .slice A l.length c, .int .i64 0, .int .i64 0, at0 (gV) mn, at0 (z1.heap.size) mn, at0 (gX) mn] 66))
      replace hBz := HC.out.size
      generalize hwx : World.alloc (z14) _ = z15 at *
      clear hwx
      generalize hgg : (z14).heap.size = gG at *
      clear hgg
      refine z_take (i := 12) (v := ?_) rfl (by kernel_rfl) (by kernel_rfl) (by kernel_rfl) (k0 := 12) (by kernel_rfl) (by kernel_rfl) (.inl rfl) (fun _ _ _ h => h) (by rfl) HC.out ?_ ?_
      rotate_left
      · intro W hW
        go_simp
        first | done | rfl
      simp only [Act.put, List.setIfInBounds_toArray, List.set_cons_zero, List.set_cons_succ, List.getElem_toArray, List.getElem_cons_zero, List.getElem_cons_succ]
      refine z_take (i := 13) (v := ?_) rfl (by kernel_rfl) (by kernel_rfl) (by kernel_rfl) (k0 := 13) (by kernel_rfl) (by kernel_rfl) (.inl rfl) (fun _ _ _ h => h) (by rfl) HC.out ?_ ?_
      rotate_left
      · intro W hW
        go_simp
        first | done | rfl
      simp only [Act.put, List.setIfInBounds_toArray, List.set_cons_zero, List.set_cons_succ, List.getElem_toArray, List.getElem_cons_zero, List.getElem_cons_succ]
      refine z_done (by kernel_rfl) ?_
      clear hgeM
      have HS2 := Lib.hid (HLS.out.stay (fun b _ hlt => HC.out.block b hlt))
      have HBB := Lib.hid (HBD.out.trans (HC.out.mono hz1w))
      clear HC hBz
      generalize hgg : z1.heap.size = gM at *
      clear hgg
      go_simp
      go_wp2_with fail
      go_ret2
      rw [HNW.out]
      unfold NewOut
      refine ⟨(⟨gG, gV, gM, gX⟩ : Foot), A, c, rfl, fun b hb => ?_, ⟨HG.out, HOV.out, HOM.out, HOX.out, HS2.out, ⟨?_, ?_, ?_, ?_, ?_, ?_⟩, fun b hb hf => ?_⟩, HBB.out⟩
      case refine_1 => rcases hb with rfl | rfl | rfl | rfl <;> omega
      case refine_8 => rcases hf with rfl | rfl | rfl | rfl <;> (have := hb.2; omega)
      all_goals (simp only; omega)
  · refine onez_make_sl (i := 9) rfl (by rfl) rowZI ⟨by omega, by omega⟩ (.tmp 65) (.tmp 65) rfl .i64 .i64 _ _ mn rfl rfl rfl rfl (by omega) (by unfold maxLen; omega) hBz HC.out ?_
    intro z16 hown hb
    have HOX := Lib.hid (own_wholeN hown)
    have hltX := HOX.out.lt
    clear hown
    simp only [Act.put, List.setIfInBounds_toArray, List.set_cons_zero, List.set_cons_succ, List.getElem_toArray, List.getElem_cons_zero, List.getElem_cons_succ]
    have hgeX := hBz
    replace HC := Lib.hid (HC.out.trans (hb.mono hBz))
    replace hBz := HC.out.size
    clear hb
    refine z_two (i := 5) (j := 7) (by kernel_rfl) ?_ ?_
    · refine onez_make_sl (i := 5) rfl (by rfl) rowZO trivial (.tmp 61) (.tmp 61) rfl .i64 .i64 _ _ mn rfl rfl rfl rfl (by omega) (by unfold maxLen; omega) hBz HC.out ?_
      intro z17 hown hb
      have HOV := Lib.hid (own_whole hown)
      have hltV := HOV.out.lt
      clear hown
      simp only [Act.put, List.setIfInBounds_toArray, List.set_cons_zero, List.set_cons_succ, List.getElem_toArray, List.getElem_cons_zero, List.getElem_cons_succ]
      replace HOX := Lib.hid (HOX.out.below hb (by omega))
      have hgeV := hBz
      replace HC := Lib.hid (HC.out.trans (hb.mono hBz))
      replace hBz := HC.out.size
      clear hb
      generalize hgg : (z16).heap.size = gV at *
      clear hgg
      refine z_one (i := 7) (by kernel_rfl) ?_
      refine onez_make_sl (i := 7) rfl (by rfl) rowZI ⟨by omega, by omega⟩ (.tmp 63) (.tmp 63) rfl .i64 .i64 _ _ mn rfl rfl rfl rfl (by omega) (by unfold maxLen; omega) hBz HC.out ?_
      intro z18 hown hb
      have HOM := Lib.hid (own_wholeN hown)
      have hltM := HOM.out.lt
      clear hown
      simp only [Act.put, List.setIfInBounds_toArray, List.set_cons_zero, List.set_cons_succ, List.getElem_toArray, List.getElem_cons_zero, List.getElem_cons_succ]
      replace HOX := Lib.hid (HOX.out.below hb (by omega))
      replace HOV := Lib.hid (HOV.out.below hb (by omega))
      have hgeM := hBz
      replace HC := Lib.hid (HC.out.trans (hb.mono hBz))
      replace hBz := HC.out.size
      clear hb
      generalize hgg : (z17).heap.size = gM at *
      clear hgg
      refine z_take (i := 10) (v := ?_) rfl (by kernel_rfl) (by kernel_rfl) (by kernel_rfl) (k0 := 10) (by kernel_rfl) (by kernel_rfl) (.inl rfl) (fun _ _ _ h => h) (by rfl) HC.out ?_ ?_
      rotate_left
      · intro W hW
        go_simp
        first | done | rfl
      simp only [Act.put, List.setIfInBounds_toArray, List.set_cons_zero, List.set_cons_succ, List.getElem_toArray, List.getElem_cons_zero, List.getElem_cons_succ]
      refine z_one (i := 11) (by kernel_rfl) ?_
      refine onez_run (i := 11) (v := ?_) (w' := World.alloc (z18) (.cells #[.int .i64 (idn : Int), .int .i64 (mn : Int), .int .i64 b1, .int .i64 b2, .int .i64 0, .int .i64 0, .slice A l.length c, .int .i64 0, .int .i64 0, at0 (gV) mn, at0 (gM) mn, at0 (z1.heap.size) mn] 66)) rfl (by rfl) ?_ ?_ ?_
      rotate_left 1
      · go_simp
        first | done | rfl | (constructor <;> rfl)
      · exact fun _ => HC.out.alloc hBz _
      simp only [Act.put, List.setIfInBounds_toArray, List.set_cons_zero, List.set_cons_succ, List.getElem_toArray, List.getElem_cons_zero, List.getElem_cons_succ]
      have hgeG := hBz
      have HG := Lib.hid (Whole.new (z18) 66 #[.int .i64 (idn : Int), .int .i64 (mn : Int), .int .i64 b1, .int .i64 b2, .int .i64 0, .int .i64 0, .slice A l.length c, .int .i64 0, .int .i64 0, at0 (gV) mn, at0 (gM) mn, at0 (z1.heap.size) mn])
      have hltG := HG.out.lt
      replace HOX := Lib.hid (HOX.out.alloc (.cells #[.int .i64 (idn : Int), .int .i64 (mn : Int), .int .i64 b1, .int .i64 b2, .int .i64 0, .int .i64 0, .slice A l.length c, .int .i64 0, .int .i64 0, at0 (gV) mn, at0 (gM) mn, at0 (z1.heap.size) mn] 66))
      replace HOV := Lib.hid (HOV.out.alloc (.cells #[.int .i64 (idn : Int), .int .i64 (mn : Int), .int .i64 b1, .int .i64 b2, .int .i64 0, .int .i64 0, .slice A l.length c, .int .i64 0, .int .i64 0, at0 (gV) mn, at0 (gM) mn, at0 (z1.heap.size) mn] 66))
      replace HOM := Lib.hid (HOM.out.alloc (.cells #[.int .i64 (idn : Int), .int .i64 (mn : Int), .int .i64 b1, .int .i64 b2, .int .i64 0, .int .i64 0, .slice A l.length c, .int .i64 0, .int .i64 0, at0 (gV) mn, at0 (gM) mn, at0 (z1.heap.size) mn] 66))
      replace HC := Lib.hid (HC.out.alloc hBz (.cells #[.int .i64 (idn : Int), .int .i64 (mn : Int), .int .i64 b1, .int .i64 b2, .int .i64 0, .int .i64 0, .slice A l.length c, .int .i64 0, .int .i64 0, at0 (gV) mn, at0 (gM) mn, at0 (z1.heap.size) mn] 66))
      replace hBz := HC.out.size
      generalize hwx : World.alloc (z18) _ = z19 at *
      clear hwx
      generalize hgg : (z18).heap.size = gG at *
      clear hgg
      refine z_take (i := 12) (v := ?_) rfl (by kernel_rfl) (by kernel_rfl) (by kernel_rfl) (k0 := 12) (by kernel_rfl) (by kernel_rfl) (.inl rfl) (fun _ _ _ h => h) (by rfl) HC.out ?_ ?_
      rotate_left
      · intro W hW
        go_simp
        first | done | rfl
      simp only [Act.put, List.setIfInBounds_toArray, List.set_cons_zero, List.set_cons_succ, List.getElem_toArray, List.getElem_cons_zero, List.getElem_cons_succ]
      refine z_take (i := 13) (v := ?_) rfl (by kernel_rfl) (by kernel_rfl) (by kernel_rfl) (k0 := 13) (by kernel_rfl) (by kernel_rfl) (.inl rfl) (fun _ _ _ h => h) (by rfl) HC.out ?_ ?_
      rotate_left
      · intro W hW
        go_simp
        first | done | rfl
      simp only [Act.put, List.setIfInBounds_toArray, List.set_cons_zero, List.set_cons_succ, List.getElem_toArray, List.getElem_cons_zero, List.getElem_cons_succ]
      refine z_done (by kernel_rfl) ?_
      clear hgeX
      have HS2 := Lib.hid (HLS.out.stay (fun b _ hlt => HC.out.block b hlt))
      have HBB := Lib.hid (HBD.out.trans (HC.out.mono hz1w))
      clear HC hBz
      generalize hgg : z1.heap.size = gX at *
      clear hgg
      go_simp
      go_wp2_with fail
      go_ret2
      rw [HNW.out]
      unfold NewOut
      refine ⟨(⟨gG, gV, gM, gX⟩ : Foot), A, c, rfl, fun b hb => ?_, ⟨HG.out, HOV.out, HOM.out, HOX.out, HS2.out, ⟨?_, ?_, ?_, ?_, ?_, ?_⟩, fun b hb hf => ?_⟩, HBB.out⟩
      case refine_1 => rcases hb with rfl | rfl | rfl | rfl <;> omega
      case refine_8 => rcases hf with rfl | rfl | rfl | rfl <;> (have := hb.2; omega)
      all_goals (simp only; omega)
    · refine onez_make_sl (i := 7) rfl (by rfl) rowZI ⟨by omega, by omega⟩ (.tmp 63) (.tmp 63) rfl .i64 .i64 _ _ mn rfl rfl rfl rfl (by omega) (by unfold maxLen; omega) hBz HC.out ?_
      intro z20 hown hb
      have HOM := Lib.hid (own_wholeN hown)
      have hltM := HOM.out.lt
      clear hown
      simp only [Act.put, List.setIfInBounds_toArray, List.set_cons_zero, List.set_cons_succ, List.getElem_toArray, List.getElem_cons_zero, List.getElem_cons_succ]
      replace HOX := Lib.hid (HOX.out.below hb (by omega))
      have hgeM := hBz
      replace HC := Lib.hid (HC.out.trans (hb.mono hBz))
      replace hBz := HC.out.size
      clear hb
      generalize hgg : (z16).heap.size = gM at *
      clear hgg
      refine z_one (i := 5) (by kernel_rfl) ?_
      refine onez_make_sl (i := 5) rfl (by rfl) rowZO trivial (.tmp 61) (.tmp 61) rfl .i64 .i64 _ _ mn rfl rfl rfl rfl (by omega) (by unfold maxLen; omega) hBz HC.out ?_
      intro z21 hown hb
      have HOV := Lib.hid (own_whole hown)
      have hltV := HOV.out.lt
      clear hown
      simp only [Act.put, List.setIfInBounds_toArray, List.set_cons_zero, List.set_cons_succ, List.getElem_toArray, List.getElem_cons_zero, List.getElem_cons_succ]
      replace HOX := Lib.hid (HOX.out.below hb (by omega))
      replace HOM := Lib.hid (HOM.out.below hb (by omega))
      have hgeV := hBz
      replace HC := Lib.hid (HC.out.trans (hb.mono hBz))
      replace hBz := HC.out.size
      clear hb
      generalize hgg : (z20).heap.size = gV at *
      clear hgg
      refine z_take (i := 10) (v := ?_) rfl (by kernel_rfl) (by kernel_rfl) (by kernel_rfl) (k0 := 10) (by kernel_rfl) (by kernel_rfl) (.inl rfl) (fun _ _ _ h => h) (by rfl) HC.out ?_ ?_
      rotate_left
      · intro W hW
        go_simp
        first | done | rfl
      simp only [Act.put, List.setIfInBounds_toArray, List.set_cons_zero, List.set_cons_succ, List.getElem_toArray, List.getElem_cons_zero, List.getElem_cons_succ]
      refine z_one (i := 11) (by kernel_rfl) ?_
      refine onez_run (i := 11) (v := ?_) (w' := World.alloc (z21) (.cells #[.int .i64 (idn : Int), .int .i64 (mn : Int), .int .i64 b1, .int .i64 b2, .int .i64 0, .int .i64 0, .slice A l.length c, .int .i64 0, .int .i64 0, at0 (gV) mn, at0 (gM) mn, at0 (z1.heap.size) mn] 66)) rfl (by rfl) ?_ ?_ ?_
      rotate_left 1
      · go_simp
        first | done | rfl | (constructor <;> rfl)
      · exact fun _ => HC.out.alloc hBz _
      simp only [Act.put, List.setIfInBounds_toArray, List.set_cons_zero, List.set_cons_succ, List.getElem_toArray, List.getElem_cons_zero, List.getElem_cons_succ]
      have hgeG := hBz
      have HG := Lib.hid (Whole.new (z21) 66 #[.int .i64 (idn : Int), .int .i64 (mn : Int), .int .i64 b1, .int .i64 b2, .int .i64 0, .int .i64 0, .slice A l.length c, .int .i64 0, .int .i64 0, at0 (gV) mn, at0 (gM) mn, at0 (z1.heap.size) mn])
      have hltG := HG.out.lt
      replace HOX := Lib.hid (HOX.out.alloc (.cells #[.int .i64 (idn : Int), .int .i64 (mn : Int), .int .i64 b1, .int .i64 b2, .int .i64 0, .int .i64 0, .slice A l.length c, .int .i64 0, .int .i64 0, at0 (gV) mn, at0 (gM) mn, at0 (z1.heap.size) mn] 66))
      replace HOM := Lib.hid (HOM.out.alloc (.cells #[.int .i64 (idn : Int), .int .i64 (mn : Int), .int .i64 b1, .int .i64 b2, .int .i64 0, .int .i64 0, .slice A l.length c, .int .i64 0, .int .i64 0, at0 (gV) mn, at0 (gM) mn, at0 (z1.heap.size) mn] 66))
      replace HOV := Lib.hid (HOV.out.alloc (.cells #[.int .i64 (idn : Int), .int .i64 (mn : Int), .int .i64 b1, .int .i64 b2, .int .i64 0, .int .i64 0, .slice A l.length c, .int .i64 0, .int .i64 0, at0 (gV) mn, at0 (gM) mn, at0 (z1.heap.size) mn] 66))
      replace HC := Lib.hid (HC.out.alloc hBz (.cells #[.int .i64 (idn : Int), .int .i64 (mn : Int), .int .i64 b1, .int .i64 b2, .int .i64 0, .int .i64 0, .slice A l.length c, .int .i64 0, .int .i64 0, at0 (gV) mn, at0 (gM) mn, at0 (z1.heap.size) mn] 66))
      replace hBz := HC.out.size
      generalize hwx : World.alloc (z21) _ = z22 at *
      clear hwx
      generalize hgg : (z21).heap.size = gG at *
      clear hgg
      refine z_take (i := 12) (v := ?_) rfl (by kernel_rfl) (by kernel_rfl) (by kernel_rfl) (k0 := 12) (by kernel_rfl) (by kernel_rfl) (.inl rfl) (fun _ _ _ h => h) (by rfl) HC.out ?_ ?_
      rotate_left
      · intro W hW
        go_simp
        first | done | rfl
      simp only [Act.put, List.setIfInBounds_toArray, List.set_cons_zero, List.set_cons_succ, List.getElem_toArray, List.getElem_cons_zero, List.getElem_cons_succ]
      refine z_take (i := 13) (v := ?_) rfl (by kernel_rfl) (by kernel_rfl) (by kernel_rfl) (k0 := 13) (by kernel_rfl) (by kernel_rfl) (.inl rfl) (fun _ _ _ h => h) (by rfl) HC.out ?_ ?_
      rotate_left
      · intro W hW
        go_simp
        first | done | rfl
      simp only [Act.put, List.setIfInBounds_toArray, List.set_cons_zero, List.set_cons_succ, List.getElem_toArray, List.getElem_cons_zero, List.getElem_cons_succ]
      refine z_done (by kernel_rfl) ?_
      clear hgeX
      have HS2 := Lib.hid (HLS.out.stay (fun b _ hlt => HC.out.block b hlt))
      have HBB := Lib.hid (HBD.out.trans (HC.out.mono hz1w))
      clear HC hBz
      generalize hgg : z1.heap.size = gX at *
      clear hgg
      go_simp
      go_wp2_with fail
      go_ret2
      rw [HNW.out]
      unfold NewOut
      refine ⟨(⟨gG, gV, gM, gX⟩ : Foot), A, c, rfl, fun b hb => ?_, ⟨HG.out, HOV.out, HOM.out, HOX.out, HS2.out, ⟨?_, ?_, ?_, ?_, ?_, ?_⟩, fun b hb hf => ?_⟩, HBB.out⟩
      case refine_1 => rcases hb with rfl | rfl | rfl | rfl <;> omega
      case refine_8 => rcases hf with rfl | rfl | rfl | rfl <;> (have := hb.2; omega)
      all_goals (simp only; omega)
end Go.Proofs.YtjcljkbalpgfdaaGreat

/-
  What the reference's Beat answers.
-/

namespace Go.Proofs.YtjcljkbalpgfdaaGreat
open Go.RowKit

set_option maxRecDepth 100000 in
theorem rbeat_any (n : Rf.Id) (F : Foot) (S : Nat → Prop) (s : Rf.St) (hg : Rf.Good n s) (A : Option Addr) (c : Nat) (w : World) (h : RMem n F S w s A c) :
    Calls Tryz.prog 29 #[.pointer (some ⟨F.g, 0, none⟩)] w fun e w' => ∃ v, e = .returned v ∧ MsgsOut w (Rf.beat n s).2 v w' ∧ Below w.heap.size w w' := by
  have HA := Lib.hid (rall_any n F S s hg A c w h)
  have hst := h.st
  dsimp only [rmc] at hst
  obtain ⟨k0, k1, k2, k3, k4, k5, k6, k7, k8, k9, k10, k11⟩ := hst.c12
  clear hst h hg
  by_cases h2 : s.is = 2
  · have hbt : Rf.beat n s = (s, Rf.all n s) := by unfold Rf.beat; rw [if_pos h2]
    rw [hbt]
    have e2 : (s.is != 2) = false := by simpa using h2
    clear hbt h2
    go_enter Tryz.func29, Tryz.ntmps29
    go_wp2_with fail
    refine HA.out.mono ?_
    rintro e w1 ⟨v, rfl, hv, hb⟩
    go_wp2_with fail
    go_ret
    exact ⟨v, rfl, hv, hb⟩
  · have hbt : Rf.beat n s = (s, []) := by unfold Rf.beat; rw [if_neg h2]
    rw [hbt]
    have e2 : (s.is != 2) = true := by simpa using h2
    clear hbt h2
    go_enter Tryz.func29, Tryz.ntmps29
    go_wp2_with fail
    go_ret
    exact ⟨_, rfl, msgsOut_nil _ _, Below.refl _ _⟩
end Go.Proofs.YtjcljkbalpgfdaaGreat

/-
  What the reference's Propose answers and leaves.
-/



namespace Go.Proofs.YtjcljkbalpgfdaaGreat
open Go.RowKit

set_option maxRecDepth 100000 in
set_option maxHeartbeats 800000 in
theorem rpropose_any (n : Rf.Id) (F : Foot) (S : Nat → Prop) (s : Rf.St) (hg : Rf.Good n s) (A : Option Addr) (c : Nat) (w : World) (h : RMem n F S w s A c) (c1 c2 c3 c4 c5 c6 : Int) (hcf : CmdFit (c1, c2, c3, c4, c5, c6)) :
    Calls Tryz.prog 30 #[.pointer (some ⟨F.g, 0, none⟩), .agg #[.int .i64 c1, .int .i64 c2, .int .i64 c3, .int .i64 c4, .int .i64 c5, .int .i64 c6]] w fun e w' => ∃ v, e = .returned (.tuple #[.int .i64 (Rf.propose n s (c1, c2, c3, c4, c5, c6)).2.1, v, .int .i64 (Rf.propose n s (c1, c2, c3, c4, c5, c6)).2.2.2]) ∧ MsgsOut w (Rf.propose n s (c1, c2, c3, c4, c5, c6)).2.2.1 v w' ∧ (∃ A2 d2, RMem n F (fun b => S b ∨ w.heap.size ≤ b) w' (Rf.propose n s (c1, c2, c3, c4, c5, c6)).1 A2 d2) ∧ Kept F.has w w' := by
  have hFlt := Foot.lt h
  have HOFF := Lib.hid h.off
  have HB := Lib.hid ((Below.refl w.heap.size w).alloc (Nat.le_refl _) (.cells #[.int .i64 c1, .int .i64 c2, .int .i64 c3, .int .i64 c4, .int .i64 c5, .int .i64 c6] 43))
  have HX := Lib.hid (Whole.new w 43 #[.int .i64 c1, .int .i64 c2, .int .i64 c3, .int .i64 c4, .int .i64 c5, .int .i64 c6])
  have hRW := (h.stay HB.out).wide (S' := fun b => S b ∨ w.heap.size ≤ b) (fun b hb _ => .inl hb) (fun b hb hf => by
    rcases hb with hb | hb
    · exact HOFF.out b hb hf
    · have := hFlt b hf; omega)
  have HRW := Lib.hid hRW
  have HR0 := Lib.hid (h.stay HB.out)
  have hid1 := hg.id1
  have hid2 := hg.id2
  have hmany := hg.many
  clear h hRW
  have hst := HR0.out.st
  dsimp only [rmc] at hst
  obtain ⟨k0, k1, k2, k3, k4, k5, k6, k7, k8, k9, k10, k11⟩ := hst.c12
  obtain ⟨j0, j1, j2, j3, j4, j5⟩ := HX.out.c6
  clear hst
  go_enter Tryz.func30, Tryz.ntmps30
  by_cases h2 : s.is = 2
  rotate_left
  · have hpr : Rf.propose n s (c1, c2, c3, c4, c5, c6) = (s, 0, [], 8) := by unfold Rf.propose; rw [if_pos h2]
    rw [hpr]
    have e2 : (s.is != 2) = true := by simpa using h2
    clear hpr h2
    go_wp2_with fail
    go_ret3
    exact ⟨_, rfl, msgsOut_nil _ _, ⟨A, c, HRW.out⟩, Below.kept HB.out⟩
  have e2 : (s.is != 2) = false := by simpa using h2
  by_cases h64 : 64 ≤ s.l.length
  · have hpr : Rf.propose n s (c1, c2, c3, c4, c5, c6) = (s, 0, [], 7) := by unfold Rf.propose; rw [if_neg (by simpa using h2), if_pos h64]
    rw [hpr]
    clear hpr h2
    go_wp2_with fail
    go_ret3
    exact ⟨_, rfl, msgsOut_nil _ _, ⟨A, c, HRW.out⟩, Below.kept HB.out⟩
  have hpr : Rf.propose n s (c1, c2, c3, c4, c5, c6) = (Rf.settle (Rf.own n (Rf.put s (c1, c2, c3, c4, c5, c6))), (Rf.last (Rf.settle (Rf.own n (Rf.put s (c1, c2, c3, c4, c5, c6))))).1, Rf.all n (Rf.settle (Rf.own n (Rf.put s (c1, c2, c3, c4, c5, c6)))), 0) := by unfold Rf.propose; rw [if_neg (by simpa using h2), if_neg h64]
  rw [hpr]
  clear hpr
  have d64 : decide (64 ≤ (s.l.length : Int)) = false := by simp; omega
  have hgp := hg.put (by omega) (hg.pos (by omega)) (c1, c2, c3, c4, c5, c6)
  have HGF := Lib.hid hgp
  have HGO := Lib.hid hgp.own
  have HGS := Lib.hid hgp.own.settle
  have hpl := rput_any n F S s hg A c _ HR0.out (by omega) c1 c2 c3 c4 c5 c6 hcf
  have HPL := Lib.hid hpl
  clear hpl hgp hg h2 HRW
  have HQ1 := Lib.hid (show (Rf.last (Rf.settle (Rf.own n (Rf.put s (c1, c2, c3, c4, c5, c6))))).1 = (Rf.last (Rf.put s (c1, c2, c3, c4, c5, c6))).1 from rfl)
  generalize Rf.put s (c1, c2, c3, c4, c5, c6) = sf at *
  have HQ : Hid ({ sf with mt := sf.mt.set (n.id - 1) (Rf.last sf).1 } = Rf.own n sf) := Lib.hid rfl
  go_wp2_with fail
  refine HPL.out.mono ?_
  rintro e w3 ⟨rfl, A2, d2, hr3, hk3⟩
  have hzw := HB.out.size
  replace HR0 := Lib.hid (hr3.wide (S' := fun b => S b ∨ w.heap.size ≤ b) (fun b hb _ => hb.imp id (fun h => Nat.le_trans hzw h)) (fun b hb hf => by
    rcases hb with hb | hb
    · exact HOFF.out b hb hf
    · have := hFlt b hf; omega))
  have HK := Lib.hid ((Below.kept HB.out : Kept F.has w _).trans hk3)
  clear hr3 hk3 HPL k0 k1 k2 k3 k4 k5 k6 k7 k8 k9 k10 k11 j0 j1 j2 j3 j4 j5
  have hst := HR0.out.st
  dsimp only [rmc] at hst
  obtain ⟨k0, k1, k2, k3, k4, k5, k6, k7, k8, k9, k10, k11⟩ := hst.c12
  clear hst
  have HLL := Lib.hid (rlast_any 0 0 _ sf.l _ _ (Nat.le_refl _) HR0.out.sl)
  unfold Rf.last Rf.lg at HQ
  generalize hq : Lg.last (0, 0, sf.l) = q at *
  obtain ⟨q1, q2⟩ := q
  replace HQ1 := Lib.hid (show (Rf.last (Rf.settle (Rf.own n sf))).1 = q1 by rw [HQ1.out]; show (Lg.last (0, 0, sf.l)).1 = q1; rw [hq])
  clear hq
  simp only at HLL HQ
  go_wp2_with fail
  with_reducible refine HLL.out.mono ?_
  rintro e w4 ⟨rfl, hb⟩
  replace HR0 := Lib.hid (HR0.out.stay hb)
  replace HK := Lib.hid (HK.out.trans (Below.kept hb))
  clear k0 k1 k2 k3 k4 k5 k6 k7 k8 k9 k10 k11 hb HLL
  go_wp2_with fail
  have HM := Lib.hid HR0.out.st
  dsimp only [rmc] at HM
  have HN := Lib.hid HR0.out.m
  have HML2 := Lib.hid HGF.out.mt
  have hkw : IntKind.i64.wrap ((n.id : Int) - 1) = (n.id : Int) - 1 := by rw [IntKind.wrap_i64]; omega
  have hkn : ((n.id : Int) - 1).toNat = n.id - 1 := by omega
  have hki : (1 : Int) ≤ (n.id : Int) := by omega
  have hki2 : (n.id : Int) - 1 < (n.many : Int) := by omega
  refine z_start ((w4).drew.heap.size) [11] (by kernel_rfl) ?_
  have HC := Lib.hid (Below.refl ((w4).drew.heap.size) (w4).drew)
  have hBz : (w4).drew.heap.size ≤ (w4).drew.heap.size := Nat.le_refl _
  replace HM := Lib.hid (show Whole (w4).drew _ _ _ from HM.out)
  have hltM := HM.out.lt
  replace HN := Lib.hid (show Whole (w4).drew _ _ _ from HN.out)
  have hltN := HN.out.lt
  replace HK := Lib.hid (HK.out.trans (Below.kept (Below.refl _ _).drew))
  replace HR0 := Lib.hid (HR0.out.stay (Below.refl _ _).drew)
  generalize (w4).drew = y1 at *
  refine z_take (i := 0) (v := ?_) rfl (by kernel_rfl) (by kernel_rfl) (by kernel_rfl) (k0 := 0) (by kernel_rfl) (by kernel_rfl) (.inl rfl) (fun _ _ _ h => h) (by rfl) HC.out ?_ ?_
  rotate_left
  · intro W hW
    go_simp
    first | done | rfl
  simp only [Act.put, List.setIfInBounds_toArray, List.set_cons_zero, List.set_cons_succ, List.getElem_toArray, List.getElem_cons_zero, List.getElem_cons_succ]
  refine z_take (i := 1) (v := ?_) rfl (by kernel_rfl) (by kernel_rfl) (by kernel_rfl) (k0 := 1) (by kernel_rfl) (by kernel_rfl) (.inl rfl) (fun _ _ _ h => h) (by rfl) HC.out ?_ ?_
  rotate_left
  · intro W hW
    go_simp
    first | done | rfl
  simp only [Act.put, List.setIfInBounds_toArray, List.set_cons_zero, List.set_cons_succ, List.getElem_toArray, List.getElem_cons_zero, List.getElem_cons_succ]
  refine z_take (i := 2) (v := ?_) rfl (by kernel_rfl) (by kernel_rfl) (by kernel_rfl) (k0 := 2) (by kernel_rfl) (by kernel_rfl) (.inl rfl) (fun _ _ _ h => h) (by rfl) HC.out ?_ ?_
  rotate_left
  · intro W hW
    go_simp
    first | done | rfl
  simp only [Act.put, List.setIfInBounds_toArray, List.set_cons_zero, List.set_cons_succ, List.getElem_toArray, List.getElem_cons_zero, List.getElem_cons_succ]
  refine z_take (i := 3) (v := ?_) rfl (by kernel_rfl) (by kernel_rfl) (by kernel_rfl) (k0 := 3) (by kernel_rfl) (by kernel_rfl) (.inl rfl) (fun _ _ _ h => h) (by rfl) HC.out ?_ ?_
  rotate_left
  · intro W hW
    obtain ⟨k0, k1, k2, k3, k4, k5, k6, k7, k8, k9, k10, k11⟩ := (HM.out.below hW hltM).c12
    go_simp
    first | done | rfl
  simp only [Act.put, List.setIfInBounds_toArray, List.set_cons_zero, List.set_cons_succ, List.getElem_toArray, List.getElem_cons_zero, List.getElem_cons_succ]
  refine z_take (i := 4) (v := ?_) rfl (by kernel_rfl) (by kernel_rfl) (by kernel_rfl) (k0 := 4) (by kernel_rfl) (by kernel_rfl) (.inl rfl) (fun _ _ _ h => h) (by rfl) HC.out ?_ ?_
  rotate_left
  · intro W hW
    go_simp
    first | done | rfl
  simp only [Act.put, List.setIfInBounds_toArray, List.set_cons_zero, List.set_cons_succ, List.getElem_toArray, List.getElem_cons_zero, List.getElem_cons_succ]
  refine z_take (i := 5) (v := ?_) rfl (by kernel_rfl) (by kernel_rfl) (by kernel_rfl) (k0 := 5) (by kernel_rfl) (by kernel_rfl) (.inl rfl) (fun _ _ _ h => h) (by rfl) HC.out ?_ ?_
  rotate_left
  · intro W hW
    go_simp
    first | done | rfl
  simp only [Act.put, List.setIfInBounds_toArray, List.set_cons_zero, List.set_cons_succ, List.getElem_toArray, List.getElem_cons_zero, List.getElem_cons_succ]
  refine z_take (i := 6) (v := ?_) rfl (by kernel_rfl) (by kernel_rfl) (by kernel_rfl) (k0 := 6) (by kernel_rfl) (by kernel_rfl) (.inl rfl) (fun _ _ _ h => h) (by rfl) HC.out ?_ ?_
  rotate_left
  · intro W hW
    go_simp
    first | done | rfl
  simp only [Act.put, List.setIfInBounds_toArray, List.set_cons_zero, List.set_cons_succ, List.getElem_toArray, List.getElem_cons_zero, List.getElem_cons_succ]
  refine z_take (i := 7) (v := ?_) rfl (by kernel_rfl) (by kernel_rfl) (by kernel_rfl) (k0 := 7) (by kernel_rfl) (by kernel_rfl) (.inl rfl) (fun _ _ _ h => h) (by rfl) HC.out ?_ ?_
  rotate_left
  · intro W hW
    obtain ⟨k0, k1, k2, k3, k4, k5, k6, k7, k8, k9, k10, k11⟩ := (HM.out.below hW hltM).c12
    go_simp
    first | done | rfl
  simp only [Act.put, List.setIfInBounds_toArray, List.set_cons_zero, List.set_cons_succ, List.getElem_toArray, List.getElem_cons_zero, List.getElem_cons_succ]
  refine z_take (i := 8) (v := ?_) rfl (by kernel_rfl) (by kernel_rfl) (by kernel_rfl) (k0 := 8) (by kernel_rfl) (by kernel_rfl) (.inl rfl) (fun _ _ _ h => h) (by rfl) HC.out ?_ ?_
  rotate_left
  · intro W hW
    go_simp
    first | done | rfl
  simp only [Act.put, List.setIfInBounds_toArray, List.set_cons_zero, List.set_cons_succ, List.getElem_toArray, List.getElem_cons_zero, List.getElem_cons_succ]
  refine z_take (i := 9) (v := ?_) rfl (by kernel_rfl) (by kernel_rfl) (by kernel_rfl) (k0 := 9) (by kernel_rfl) (by kernel_rfl) (.inl rfl) (fun _ _ _ h => h) (by rfl) HC.out ?_ ?_
  rotate_left
  · intro W hW
    go_simp
    first | done | rfl
  simp only [Act.put, List.setIfInBounds_toArray, List.set_cons_zero, List.set_cons_succ, List.getElem_toArray, List.getElem_cons_zero, List.getElem_cons_succ]
  refine z_take (i := 10) (v := ?_) rfl (by kernel_rfl) (by kernel_rfl) (by kernel_rfl) (k0 := 10) (by kernel_rfl) (by kernel_rfl) (.inl rfl) (fun _ _ _ h => h) (by rfl) HC.out ?_ ?_
  rotate_left
  · intro W hW
    go_simp
    first | done | rfl
  simp only [Act.put, List.setIfInBounds_toArray, List.set_cons_zero, List.set_cons_succ, List.getElem_toArray, List.getElem_cons_zero, List.getElem_cons_succ]
  refine z_one (i := 11) (by kernel_rfl) ?_
  have kn := (HN.out.below HC.out hltN).rowN (n.id - 1) (by rw [HML2.out]; omega)
  have fn := (HN.out.below HC.out hltN).free (n.id - 1)
  refine onez_skip (i := 11) (w' := ?_) rfl (by rfl) ?_ ?_ ?_
  rotate_left 1
  · go_simp
    first | done | rfl
  · exact fun h => absurd (by decide) h
  simp only [Act.put, List.setIfInBounds_toArray, List.set_cons_zero, List.set_cons_succ, List.getElem_toArray, List.getElem_cons_zero, List.getElem_cons_succ]
  clear kn fn
  refine z_done (by kernel_rfl) ?_
  replace HR0 := Lib.hid ((HR0.out.stay HC.out).setM (n.id - 1) q1)
  replace HK := Lib.hid ((HK.out.trans (Below.kept HC.out)).set (p := ⟨F.gm, n.id - 1, none⟩) (.inl (.inr (.inr (.inl rfl)))) (.int .i64 q1))
  clear HC hBz HM hltM HN hltN
  go_simp
  rw [HQ.out] at HR0
  generalize hw5 : World.setCell _ _ _ = w5 at *
  clear hw5
  go_wp2_with fail
  with_reducible refine (rsettle_any n F _ _ HGO.out A2 d2 _ HR0.out).mono ?_
  rintro e w6 ⟨rfl, hr6, hk6⟩
  replace HR0 := Lib.hid hr6
  replace HK := Lib.hid (HK.out.trans hk6)
  clear hr6 hk6
  go_wp2_with fail
  refine (rall_any n F _ _ HGS.out A2 d2 _ HR0.out).mono ?_
  rintro e w7 ⟨v7, rfl, hv7, hb7⟩
  replace HR0 := Lib.hid (HR0.out.stay hb7)
  have hz7 := HK.out.size
  replace HK := Lib.hid (HK.out.trans (Below.kept hb7))
  have HV := Lib.hid (SlS.wide hv7 (fun b hb _ => Nat.le_trans hz7 hb) : MsgsOut w _ v7 w7)
  clear hv7 hb7 hz7
  go_wp2_with fail
  go_ret3
  exact ⟨v7, by rw [HQ1.out]; rfl, HV.out, ⟨A2, d2, HR0.out⟩, HK.out⟩
end Go.Proofs.YtjcljkbalpgfdaaGreat

/-
  What the reference does with what happens.
-/




namespace Go.Proofs.YtjcljkbalpgfdaaGreat
open Go.RowKit

set_option maxRecDepth 100000 in
set_option maxHeartbeats 1600000 in
theorem rdid_any (n : Rf.Id) (F : Foot) (S : Nat → Prop) (s : Rf.St) (hg : Rf.Good n s) (A : Option Addr) (c : Nat) (w : World) (h : RMem n F S w s A c) (ek k f o t i u cm : Int) (y : Bool) (L : List E) (A2 : Option Addr) (c2 : Nat) (c1 c2_ c3 c4 c5 c6 : Int)
    (hii : -9223372036854775808 ≤ i ∧ i ≤ 9223372036854775807) (hcf : CmdFit (c1, c2_, c3, c4, c5, c6)) (hLl : L.length ≤ 100000) (hL : SlS w S (.slice A2 L.length c2) L) :
    Calls Tryz.prog 9 #[.pointer (some ⟨F.g, 0, none⟩), .agg (evc ek (k, f, o, t, i, u, cm, y, L) (.slice A2 L.length c2) (c1, c2_, c3, c4, c5, c6))] w fun e w' => ∃ v, e = .returned (.tuple #[.int .i64 (Rf.did n s (ek, (k, f, o, t, i, u, cm, y, L), (c1, c2_, c3, c4, c5, c6))).2.1, v, .int .i64 (Rf.did n s (ek, (k, f, o, t, i, u, cm, y, L), (c1, c2_, c3, c4, c5, c6))).2.2.2]) ∧ MsgsOut w (Rf.did n s (ek, (k, f, o, t, i, u, cm, y, L), (c1, c2_, c3, c4, c5, c6))).2.2.1 v w' ∧ StepTo n F S w (Rf.did n s (ek, (k, f, o, t, i, u, cm, y, L), (c1, c2_, c3, c4, c5, c6))).1 w' := by
  have HB := Lib.hid ((Below.refl w.heap.size w).alloc (Nat.le_refl _) (.cells (evc ek (k, f, o, t, i, u, cm, y, L) (.slice A2 L.length c2) (c1, c2_, c3, c4, c5, c6)) 45))
  have HX := Lib.hid (Whole.new w 45 (evc ek (k, f, o, t, i, u, cm, y, L) (.slice A2 L.length c2) (c1, c2_, c3, c4, c5, c6)))
  have hz := HB.out.size
  have HK := Lib.hid (show Kept F.has w _ from Below.kept HB.out)
  have HLS := Lib.hid (show SlS (w.alloc (.cells (evc ek (k, f, o, t, i, u, cm, y, L) (.slice A2 L.length c2) (c1, c2_, c3, c4, c5, c6)) 45)) S (.slice A2 L.length c2) L from hL.stay (fun b _ hlt => HB.out.block b hlt))
  have HR := Lib.hid (h.stay HB.out)
  have HG := Lib.hid hg
  have HOFF := Lib.hid h.off
  have hFlt := Foot.lt h
  have HLL := Lib.hid hLl
  have HCF := Lib.hid hcf
  have HII := Lib.hid hii
  clear h hL hg hLl hcf hii
  obtain ⟨r0, r1, r2, r3, r4, r5, r6, r7, r8, r9, r10, r11, r12, r13, r14, r15⟩ := HX.out.c16
  clear HX
  go_enter Tryz.func9, Tryz.ntmps9
  by_cases h0 : ek = 0
  · subst h0
    have hres : Rf.did n s (0, (k, f, o, t, i, u, cm, y, L), (c1, c2_, c3, c4, c5, c6)) = ((Rf.hear n s (k, f, o, t, i, u, cm, y, L)).1, 0, (Rf.hear n s (k, f, o, t, i, u, cm, y, L)).2, 0) := rfl
    have HRES := Lib.hid hres
    have HH := Lib.hid (rhear_any n F S s HG.out A c _ HR.out k f o t i u cm y L A2 _ c2 HII.out HLL.out HLS.out)
    clear hres
    go_wp2_with fail
    refine HH.out.mono ?_
    rintro e w9 ⟨v9, rfl, hv9, hs9⟩
    have HV9 := Lib.hid hv9
    have HS9 := Lib.hid hs9
    clear hv9 hs9 HH
    go_wp2_with fail
    go_ret3
    rw [HRES.out]
    exact ⟨v9, rfl, SlS.wide HV9.out (fun b hb _ => Nat.le_trans hz hb), HS9.out.from_ HK.out (fun b hb => hb)⟩
  have e0 : (ek == 0) = false := by simpa using h0
  by_cases h1 : ek = 1
  · have hres : Rf.did n s (ek, (k, f, o, t, i, u, cm, y, L), (c1, c2_, c3, c4, c5, c6)) = ((Rf.timeout n s).1, 0, (Rf.timeout n s).2, 0) := by unfold Rf.did; simp only; rw [if_neg h0, if_pos h1]
    have HRES := Lib.hid hres
    have HH := Lib.hid (rtimeout_any n F S s HG.out A c _ HR.out)
    have e1 : (ek == 1) = true := by simpa using h1
    clear hres h0 h1
    go_wp2_with fail
    refine HH.out.mono ?_
    rintro e w9 ⟨v9, rfl, hv9, hs9⟩
    have HV9 := Lib.hid hv9
    have HS9 := Lib.hid hs9
    clear hv9 hs9 HH
    go_wp2_with fail
    go_ret3
    rw [HRES.out]
    exact ⟨v9, rfl, SlS.wide HV9.out (fun b hb _ => Nat.le_trans hz hb), HS9.out.from_ HK.out (fun b hb => hb)⟩
  have e1 : (ek == 1) = false := by simpa using h1
  by_cases h2 : ek = 2
  · have hres : Rf.did n s (ek, (k, f, o, t, i, u, cm, y, L), (c1, c2_, c3, c4, c5, c6)) = ((Rf.beat n s).1, 0, (Rf.beat n s).2, 0) := by unfold Rf.did; simp only; rw [if_neg h0, if_neg h1, if_pos h2]
    have HRES := Lib.hid hres
    have hsame : (Rf.beat n s).1 = s := by unfold Rf.beat; split <;> rfl
    have HSM := Lib.hid hsame
    have HH := Lib.hid (rbeat_any n F S s HG.out A c _ HR.out)
    have e2 : (ek == 2) = true := by simpa using h2
    clear hres h0 h1 h2 hsame
    go_wp2_with fail
    refine HH.out.mono ?_
    rintro e w9 ⟨v9, rfl, hv9, hb9⟩
    have HV9 := Lib.hid hv9
    have HB9 := Lib.hid hb9
    clear hv9 hb9 HH
    go_wp2_with fail
    go_ret3
    rw [HRES.out]
    refine ⟨v9, rfl, SlS.wide HV9.out (fun b hb _ => Nat.le_trans hz hb), ?_⟩
    rw [HSM.out]
    exact (stepTo_of ((HR.out.stay HB9.out).wide (fun b hb _ => .inl hb) (fun b hb hf => by
      rcases hb with hb | hb
      · exact HOFF.out b hb hf
      · have := hFlt b hf; omega)) (Below.kept HB9.out)).from_ HK.out (fun b hb => hb)
  have e2 : (ek == 2) = false := by simpa using h2
  have hres : Rf.did n s (ek, (k, f, o, t, i, u, cm, y, L), (c1, c2_, c3, c4, c5, c6)) = Rf.propose n s (c1, c2_, c3, c4, c5, c6) := by unfold Rf.did; simp only; rw [if_neg h0, if_neg h1, if_neg h2]
  have HRES := Lib.hid hres
  have HH := Lib.hid (rpropose_any n F S s HG.out A c _ HR.out c1 c2_ c3 c4 c5 c6 HCF.out)
  clear hres h0 h1 h2
  rw [HRES.out]
  clear HRES
  go_wp2_with fail
  refine HH.out.mono ?_
  rintro e w9 ⟨v9, rfl, hv9, ⟨A9, c9, hr9⟩, hk9⟩
  have HV9 := Lib.hid hv9
  have HR9 := Lib.hid hr9
  have HK9 := Lib.hid hk9
  clear hv9 hr9 hk9 HH
  go_wp2_with fail
  go_ret3
  exact ⟨v9, rfl, SlS.wide HV9.out (fun b hb _ => Nat.le_trans hz hb), (stepTo_of (HR9.out.wide (fun b hb _ => hb) (fun b hb hf => by
      rcases hb with hb | hb
      · exact HOFF.out b hb hf
      · have := hFlt b hf; omega)) HK9.out).from_ HK.out (fun b hb => hb)⟩
end Go.Proofs.YtjcljkbalpgfdaaGreat
