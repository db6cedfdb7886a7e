/-
  Parts that the statement rests on, joined: Pnew, Pget, Rone, Rtimes.
-/
import Derived.Test.YtjcljkbalpgfdaaM2
import Derived.Test.YtjcljkbalpgfdaaM4
import Derived.Test.YtjcljkbalpgfdaaM5
import Derived.Test.YtjcljkbalpgfdaaM7
import Derived.Test.YtjcljkbalpgfdaaM10
import Derived.Test.YtjcljkbalpgfdaaM11
import Derived.Test.YtjcljkbalpgfdaaM14
/-
  What New answers: a member in memory of its own.
-/







namespace Go.Proofs.Ytjcljkbalpgfdaa
open Go.RowKit

/-- What New answers: none, or a member that lies in memory made anew. -/
def QNewOut (w : World) (r : Option (Rf.Id × Rf.St)) (e : Ending) (w' : World) : Prop := match r with
  | none => e = .returned (.tuple #[.pointer none, .int .i64 1]) ∧ Below w.heap.size w w'
  | some (n, s) => ∃ F A c, e = .returned (.tuple #[.pointer (some ⟨F.g, 0, none⟩), .int .i64 0]) ∧ (∀ b, Gof F A b → w.heap.size ≤ b) ∧ QMem n F w' s A c ∧ Below w.heap.size w w'

set_option maxRecDepth 100000 in
set_option maxHeartbeats 4000000 in
theorem pnew_q (id many b1 b2 l1 l2 : Int) (v : Value) (l : List E) (hl : l.length ≤ 100000) (S : Nat → Prop) (w : World) (hL : SlS w S v l) :
    Calls Try.prog 10 #[.int .i64 id, .int .i64 many, bv b1 b2, lv l1 l2 v] w (QNewOut w (Rf.new id many (b1, b2) (l1, l2, l))) := by
  obtain ⟨A, c, rfl, hc, hm⟩ := hL.form
  unfold maxLen at hm
  have HMA := Lib.hid (fun W => bmay_any b1 b2 W)
  have HMY := Lib.hid (fun W (hb : Below w.heap.size w W) => may_any l1 l2 _ l W W.heap.size (Nat.le_refl _) (SlS.wide (hL.stay (fun b _ hlt => hb.block b hlt)) (fun _ _ h => h)))
  have HLA := Lib.hid (fun W (hb : Below w.heap.size w W) => last_any l1 l2 _ l W W.heap.size (Nat.le_refl _) (SlS.wide (hL.stay (fun b _ hlt => hb.block b hlt)) (fun _ _ h => h)))
  have HCL := Lib.hid (fun W (hb : Below w.heap.size w W) => clone_any _ l hl W W.heap.size (Nat.le_refl _) (SlS.wide (hL.stay (fun b _ hlt => hb.block b hlt)) (fun _ _ h => h)))
  have hb1 : Below w.heap.size w (w.alloc (.cells #[.int .i64 b1, .int .i64 b2] 23)) := (Below.refl _ _).alloc (Nat.le_refl _) _
  have HB1 := Lib.hid ((Whole.new w 23 #[.int .i64 b1, .int .i64 b2]).alloc (.cells #[.int .i64 l1, .int .i64 l2, .slice A l.length c] 26))
  have HB2 := Lib.hid (Whole.new1 w (.cells #[.int .i64 b1, .int .i64 b2] 23) 26 #[.int .i64 l1, .int .i64 l2, .slice A l.length c])
  have HBD := Lib.hid (hb1.alloc hb1.size (.cells #[.int .i64 l1, .int .i64 l2, .slice A l.length c] 26))
  clear hb1
  have hz5 := HBD.out.size
  obtain ⟨mb, hmb⟩ : ∃ mb, mb = Vt.may (b1, b2) := ⟨_, rfl⟩
  obtain ⟨ml, hml⟩ : ∃ ml, ml = Lg.may (l1, l2, l) := ⟨_, rfl⟩
  have HMB := Lib.hid hmb.symm
  have HML := Lib.hid hml.symm
  generalize hlq : Lg.last (l1, l2, l) = q at *
  obtain ⟨q1, q2⟩ := q
  have HLQ := Lib.hid hlq
  rw [← hmb] at HMA
  rw [← hml] at HMY
  simp only at HLA
  clear hmb hml hlq hL
  obtain ⟨p0, p1⟩ := HB1.out.c2
  obtain ⟨r0, r1, r2⟩ := HB2.out.c3
  go_enter Try.func10, Try.ntmps10
  go_wp2_with fail
  refine wp_scope_ahead fun J hgo => ?_
  go_wp2_with fail
  with_reducible refine (HLA.out _ HBD.out).mono ?_
  rintro e w5 ⟨rfl, hb⟩
  replace HB1 := Lib.hid (HB1.out.below hb HB1.out.lt)
  replace HB2 := Lib.hid (HB2.out.below hb HB2.out.lt)
  replace HBD := Lib.hid (HBD.out.trans (hb.mono hz5))
  replace hz5 := HBD.out.size
  clear hb p0 p1 r0 r1 r2
  obtain ⟨p0, p1⟩ := HB1.out.c2
  obtain ⟨r0, r1, r2⟩ := HB2.out.c3
  by_cases h : many < 1
  · have hno : Rf.new id many (b1, b2) (l1, l2, l) = none := if_pos (.inl h)
    have HNO := Lib.hid hno
    have ee : decide (many < 1) = true := by simpa using h
    clear h hno
    go_wp2_with fail
    go_step3
    refine hgo 0 _ _ _ rfl ?_
    go_wp2_with fail
    refine end_ret ?_
    go_ret2
    rw [HNO.out]
    unfold QNewOut
    exact ⟨rfl, HBD.out⟩
  have hn0 := Lib.hid h
  have ee0 : decide (many < 1) = false := by simpa using h
  clear h
  by_cases h : 16 < many
  · have hno : Rf.new id many (b1, b2) (l1, l2, l) = none := if_pos (.inr (.inl h))
    have HNO := Lib.hid hno
    have ee : decide (16 < many) = true := by simpa using h
    clear h hno
    go_wp2_with fail
    go_step3
    refine hgo 0 _ _ _ rfl ?_
    go_wp2_with fail
    refine end_ret ?_
    go_ret2
    rw [HNO.out]
    unfold QNewOut
    exact ⟨rfl, HBD.out⟩
  have hn1 := Lib.hid h
  have ee1 : decide (16 < many) = false := by simpa using h
  clear h
  by_cases h : id < 1
  · have hno : Rf.new id many (b1, b2) (l1, l2, l) = none := if_pos (.inr (.inr (.inl h)))
    have HNO := Lib.hid hno
    have ee : decide (id < 1) = true := by simpa using h
    clear h hno
    go_wp2_with fail
    go_step3
    refine hgo 0 _ _ _ rfl ?_
    go_wp2_with fail
    refine end_ret ?_
    go_ret2
    rw [HNO.out]
    unfold QNewOut
    exact ⟨rfl, HBD.out⟩
  have hn2 := Lib.hid h
  have ee2 : decide (id < 1) = false := by simpa using h
  clear h
  by_cases h : many < id
  · have hno : Rf.new id many (b1, b2) (l1, l2, l) = none := if_pos (.inr (.inr (.inr (.inl h))))
    have HNO := Lib.hid hno
    have ee : decide (many < id) = true := by simpa using h
    clear h hno
    go_wp2_with fail
    go_step3
    refine hgo 0 _ _ _ rfl ?_
    go_wp2_with fail
    refine end_ret ?_
    go_ret2
    rw [HNO.out]
    unfold QNewOut
    exact ⟨rfl, HBD.out⟩
  have hn3 := Lib.hid h
  have ee3 : decide (many < id) = false := by simpa using h
  clear h
  by_cases h : mb = false
  · have hno : Rf.new id many (b1, b2) (l1, l2, l) = none := if_pos (.inr (.inr (.inr (.inr (.inl (HMB.out.trans h))))))
    have HNO := Lib.hid hno
    have ee : mb = false := by simpa using h
    clear h hno
    subst ee
    go_wp2_with fail
    with_reducible refine (HMA.out _).mono ?_
    rintro e w5 ⟨rfl, hb⟩
    replace HB1 := Lib.hid (HB1.out.below hb HB1.out.lt)
    replace HB2 := Lib.hid (HB2.out.below hb HB2.out.lt)
    replace HBD := Lib.hid (HBD.out.trans (hb.mono hz5))
    replace hz5 := HBD.out.size
    clear hb p0 p1 r0 r1 r2
    obtain ⟨p0, p1⟩ := HB1.out.c2
    obtain ⟨r0, r1, r2⟩ := HB2.out.c3
    go_wp2_with fail
    go_step3
    refine hgo 0 _ _ _ rfl ?_
    go_wp2_with fail
    refine end_ret ?_
    go_ret2
    rw [HNO.out]
    unfold QNewOut
    exact ⟨rfl, HBD.out⟩
  have hn4 := Lib.hid h
  have ee4 : mb = true := by simpa using h
  clear h
  subst ee4
  by_cases h : ml = false
  · have hno : Rf.new id many (b1, b2) (l1, l2, l) = none := if_pos (.inr (.inr (.inr (.inr (.inr (.inl (HML.out.trans h)))))))
    have HNO := Lib.hid hno
    have ee : ml = false := by simpa using h
    clear h hno
    subst ee
    go_wp2_with fail
    with_reducible refine (HMA.out _).mono ?_
    rintro e w5 ⟨rfl, hb⟩
    replace HB1 := Lib.hid (HB1.out.below hb HB1.out.lt)
    replace HB2 := Lib.hid (HB2.out.below hb HB2.out.lt)
    replace HBD := Lib.hid (HBD.out.trans (hb.mono hz5))
    replace hz5 := HBD.out.size
    clear hb p0 p1 r0 r1 r2
    obtain ⟨p0, p1⟩ := HB1.out.c2
    obtain ⟨r0, r1, r2⟩ := HB2.out.c3
    go_wp2_with fail
    with_reducible refine (HMY.out _ HBD.out).mono ?_
    rintro e w5 ⟨rfl, hb⟩
    replace HB1 := Lib.hid (HB1.out.below hb HB1.out.lt)
    replace HB2 := Lib.hid (HB2.out.below hb HB2.out.lt)
    replace HBD := Lib.hid (HBD.out.trans (hb.mono hz5))
    replace hz5 := HBD.out.size
    clear hb p0 p1 r0 r1 r2
    obtain ⟨p0, p1⟩ := HB1.out.c2
    obtain ⟨r0, r1, r2⟩ := HB2.out.c3
    go_wp2_with fail
    go_step3
    refine hgo 0 _ _ _ rfl ?_
    go_wp2_with fail
    refine end_ret ?_
    go_ret2
    rw [HNO.out]
    unfold QNewOut
    exact ⟨rfl, HBD.out⟩
  have hn5 := Lib.hid h
  have ee5 : ml = true := by simpa using h
  clear h
  subst ee5
  by_cases h : l1 ≠ 0
  · have hno : Rf.new id many (b1, b2) (l1, l2, l) = none := if_pos (.inr (.inr (.inr (.inr (.inr (.inr (.inl h)))))))
    have HNO := Lib.hid hno
    have ee : (l1 != 0) = true := by simpa using h
    clear h hno
    go_wp2_with fail
    with_reducible refine (HMA.out _).mono ?_
    rintro e w5 ⟨rfl, hb⟩
    replace HB1 := Lib.hid (HB1.out.below hb HB1.out.lt)
    replace HB2 := Lib.hid (HB2.out.below hb HB2.out.lt)
    replace HBD := Lib.hid (HBD.out.trans (hb.mono hz5))
    replace hz5 := HBD.out.size
    clear hb p0 p1 r0 r1 r2
    obtain ⟨p0, p1⟩ := HB1.out.c2
    obtain ⟨r0, r1, r2⟩ := HB2.out.c3
    go_wp2_with fail
    with_reducible refine (HMY.out _ HBD.out).mono ?_
    rintro e w5 ⟨rfl, hb⟩
    replace HB1 := Lib.hid (HB1.out.below hb HB1.out.lt)
    replace HB2 := Lib.hid (HB2.out.below hb HB2.out.lt)
    replace HBD := Lib.hid (HBD.out.trans (hb.mono hz5))
    replace hz5 := HBD.out.size
    clear hb p0 p1 r0 r1 r2
    obtain ⟨p0, p1⟩ := HB1.out.c2
    obtain ⟨r0, r1, r2⟩ := HB2.out.c3
    go_wp2_with fail
    go_step3
    refine hgo 0 _ _ _ rfl ?_
    go_wp2_with fail
    refine end_ret ?_
    go_ret2
    rw [HNO.out]
    unfold QNewOut
    exact ⟨rfl, HBD.out⟩
  have hn6 := Lib.hid h
  have ee6 : (l1 != 0) = false := by simpa using h
  clear h
  by_cases h : b1 < q2
  · have hno : Rf.new id many (b1, b2) (l1, l2, l) = none := if_pos (.inr (.inr (.inr (.inr (.inr (.inr (.inr (by rw [HLQ.out]; exact h))))))))
    have HNO := Lib.hid hno
    have ee : decide (b1 < q2) = true := by simpa using h
    clear h hno
    go_wp2_with fail
    with_reducible refine (HMA.out _).mono ?_
    rintro e w5 ⟨rfl, hb⟩
    replace HB1 := Lib.hid (HB1.out.below hb HB1.out.lt)
    replace HB2 := Lib.hid (HB2.out.below hb HB2.out.lt)
    replace HBD := Lib.hid (HBD.out.trans (hb.mono hz5))
    replace hz5 := HBD.out.size
    clear hb p0 p1 r0 r1 r2
    obtain ⟨p0, p1⟩ := HB1.out.c2
    obtain ⟨r0, r1, r2⟩ := HB2.out.c3
    go_wp2_with fail
    with_reducible refine (HMY.out _ HBD.out).mono ?_
    rintro e w5 ⟨rfl, hb⟩
    replace HB1 := Lib.hid (HB1.out.below hb HB1.out.lt)
    replace HB2 := Lib.hid (HB2.out.below hb HB2.out.lt)
    replace HBD := Lib.hid (HBD.out.trans (hb.mono hz5))
    replace hz5 := HBD.out.size
    clear hb p0 p1 r0 r1 r2
    obtain ⟨p0, p1⟩ := HB1.out.c2
    obtain ⟨r0, r1, r2⟩ := HB2.out.c3
    go_wp2_with fail
    go_step3
    refine hgo 0 _ _ _ rfl ?_
    go_wp2_with fail
    refine end_ret ?_
    go_ret2
    rw [HNO.out]
    unfold QNewOut
    exact ⟨rfl, HBD.out⟩
  have hn7 := Lib.hid h
  have ee7 : decide (b1 < q2) = false := by simpa using h
  clear h
  have hmn : 1 ≤ many ∧ many ≤ 16 := by have := hn0.out; have := hn1.out; omega
  have hidn : 1 ≤ id ∧ id ≤ many := by have := hn2.out; have := hn3.out; omega
  obtain ⟨mn, rfl⟩ : ∃ mn : Nat, many = (mn : Int) := ⟨many.toNat, by omega⟩
  obtain ⟨idn, rfl⟩ : ∃ idn : Nat, id = (idn : Int) := ⟨id.toNat, by omega⟩
  have hl1 : l1 = 0 := Classical.not_not.1 hn6.out
  have hl2 : l2 = 0 := by have := (Lg.may_iff _).1 HML.out; simp only at this; omega
  have hnw : Rf.new (idn : Int) (mn : Int) (b1, b2) (l1, l2, l) = some (⟨idn, mn⟩, { b := (b1, b2), l := l, is := 0, upto := 0, votes := List.replicate mn false, mt := List.replicate mn 0, nx := List.replicate mn 0 }) := if_neg (fun h => by
    rcases h with h | h | h | h | h | h | h | h
    · exact hn0.out h
    · exact hn1.out h
    · exact hn2.out h
    · exact hn3.out h
    · rw [HMB.out] at h; cases h
    · rw [HML.out] at h; cases h
    · exact hn6.out h
    · exact hn7.out (by rw [HLQ.out] at h; exact h))
  have HNW := Lib.hid hnw
  clear hn0 hn1 hn2 hn3 hn4 hn5 hn6 hn7 hnw HMB HML HLQ
  subst hl1 hl2
  go_wp2_with fail
  with_reducible refine (HMA.out _).mono ?_
  rintro e w5 ⟨rfl, hb⟩
  replace HB1 := Lib.hid (HB1.out.below hb HB1.out.lt)
  replace HB2 := Lib.hid (HB2.out.below hb HB2.out.lt)
  replace HBD := Lib.hid (HBD.out.trans (hb.mono hz5))
  replace hz5 := HBD.out.size
  clear hb p0 p1 r0 r1 r2
  obtain ⟨p0, p1⟩ := HB1.out.c2
  obtain ⟨r0, r1, r2⟩ := HB2.out.c3
  go_wp2_with fail
  with_reducible refine (HMY.out _ HBD.out).mono ?_
  rintro e w5 ⟨rfl, hb⟩
  replace HB1 := Lib.hid (HB1.out.below hb HB1.out.lt)
  replace HB2 := Lib.hid (HB2.out.below hb HB2.out.lt)
  replace HBD := Lib.hid (HBD.out.trans (hb.mono hz5))
  replace hz5 := HBD.out.size
  clear hb p0 p1 r0 r1 r2
  obtain ⟨p0, p1⟩ := HB1.out.c2
  obtain ⟨r0, r1, r2⟩ := HB2.out.c3
  go_wp2_with fail
  with_reducible refine (HCL.out _ HBD.out).mono ?_
  rintro e w6 ⟨A9, c9, rfl, ho9, hb⟩
  have hlo9 : ∀ b, lbk A9 = some b → w.heap.size ≤ b ∧ b < w6.heap.size := fun b hb => by
    have := ho9.lt b (by rw [own_lbk]; exact hb)
    omega
  have HLO := Lib.hid hlo9
  have hb2lt := HB2.out.lt
  have hoB : (Value.slice A9 l.length c9).ownBlock ≠ some (w.heap.size + 1) := by
    intro e
    have := ho9.lt _ e
    omega
  replace HB1 := Lib.hid ((HB1.out.below hb HB1.out.lt).far (p := ⟨w.heap.size + 1, 2, none⟩) (by simp) (.slice A9 l.length c9))
  have HB2a := Lib.hid (HB2.out.below hb HB2.out.lt)
  replace HB2 := Lib.hid (Whole.setTo HB2a.out 2 (.slice A9 l.length c9) (cs2 := #[.int .i64 0, .int .i64 0, .slice A9 l.length c9]) rfl)
  replace HBD := Lib.hid ((HBD.out.trans (hb.mono hz5)).setCell (p := ⟨w.heap.size + 1, 2, none⟩) (show w.heap.size ≤ w.heap.size + 1 by omega) (.slice A9 l.length c9))
  have HO := Lib.hid (own_far ho9 (p := ⟨w.heap.size + 1, 2, none⟩) hoB (.slice A9 l.length c9))
  replace HLO := Lib.hid (show ∀ b, lbk A9 = some b → w.heap.size ≤ b ∧ b < (w6.setCell ⟨w.heap.size + 1, 2, none⟩ (.slice A9 l.length c9)).heap.size by simpa using HLO.out)
  clear hb ho9 hlo9 HCL p0 p1 r0 r1 r2
  obtain ⟨r0, r1, r2⟩ := HB2a.out.c3
  obtain ⟨rf0, rf1, rf2⟩ := HB2a.out.f3
  generalize hln : l.length = ln at *
  have HLN := Lib.hid hln
  clear hln
  clear HB2a
  go_wp2_with fail
  clear r0 r1 r2 rf0 rf1 rf2 ee0 ee1 ee2 ee3 ee6 ee7 hb2lt hoB
  generalize hw7 : World.setCell _ _ _ = w7 at *
  clear hw7
  refine z_start ((w7).drew.heap.size) [] (by kernel_rfl) ?_
  have HC := Lib.hid (Below.refl ((w7).drew.heap.size) (w7).drew)
  have hBz : (w7).drew.heap.size ≤ (w7).drew.heap.size := Nat.le_refl _
  replace HB1 := Lib.hid (show Whole (w7).drew _ _ _ from HB1.out)
  have hlt1 := HB1.out.lt
  replace HB2 := Lib.hid (show Whole (w7).drew _ _ _ from HB2.out)
  have hlt2 := HB2.out.lt
  replace HBD := Lib.hid (HBD.out.trans (Below.refl _ _).drew)
  have hz1w : w.heap.size ≤ (w7).drew.heap.size := HBD.out.size
  replace HO := Lib.hid HO.out.drew
  replace HLO := Lib.hid (show ∀ b, lbk A9 = some b → w.heap.size ≤ b ∧ b < (w7).drew.heap.size from HLO.out)
  generalize (w7).drew = z1 at *
  refine z_take (i := 0) (v := ?_) rfl (by kernel_rfl) (by kernel_rfl) (by kernel_rfl) (k0 := 0) (by kernel_rfl) (by kernel_rfl) (.inl rfl) (fun _ _ _ h => h) (by rfl) HC.out ?_ ?_
  rotate_left
  · intro W hW
    go_simp
    first | done | rfl
  simp only [Act.put, List.setIfInBounds_toArray, List.set_cons_zero, List.set_cons_succ, List.getElem_toArray, List.getElem_cons_zero]
  refine z_take (i := 1) (v := ?_) rfl (by kernel_rfl) (by kernel_rfl) (by kernel_rfl) (k0 := 1) (by kernel_rfl) (by kernel_rfl) (.inl rfl) (fun _ _ _ h => h) (by rfl) HC.out ?_ ?_
  rotate_left
  · intro W hW
    go_simp
    first | done | rfl
  simp only [Act.put, List.setIfInBounds_toArray, List.set_cons_zero, List.set_cons_succ, List.getElem_toArray, List.getElem_cons_zero, List.getElem_cons_succ]
  refine z_take (i := 2) (v := ?_) rfl (by kernel_rfl) (by kernel_rfl) (by kernel_rfl) (k0 := 2) (by kernel_rfl) (by kernel_rfl) (.inl rfl) (fun _ _ _ h => h) (by rfl) HC.out ?_ ?_
  rotate_left
  · intro W hW
    obtain ⟨p0, p1⟩ := (HB1.out.below hW hlt1).c2
    go_simp
    first | done | rfl
  simp only [Act.put, List.setIfInBounds_toArray, List.set_cons_zero, List.set_cons_succ, List.getElem_toArray, List.getElem_cons_zero, List.getElem_cons_succ]
  refine z_take (i := 3) (v := ?_) rfl (by kernel_rfl) (by kernel_rfl) (by kernel_rfl) (k0 := 3) (by kernel_rfl) (by kernel_rfl) (.inl rfl) (fun _ _ _ h => h) (by rfl) HC.out ?_ ?_
  rotate_left
  · intro W hW
    obtain ⟨r0, r1, r2⟩ := (HB2.out.below hW hlt2).c3
    go_simp
    first | done | rfl
  simp only [Act.put, List.setIfInBounds_toArray, List.set_cons_zero, List.set_cons_succ, List.getElem_toArray, List.getElem_cons_zero, List.getElem_cons_succ]
  refine z_take (i := 4) (v := ?_) rfl (by kernel_rfl) (by kernel_rfl) (by kernel_rfl) (k0 := 4) (by kernel_rfl) (by kernel_rfl) (.inl rfl) (fun _ _ _ h => h) (by rfl) HC.out ?_ ?_
  rotate_left
  · intro W hW
    go_simp
    first | done | rfl
  simp only [Act.put, List.setIfInBounds_toArray, List.set_cons_zero, List.set_cons_succ, List.getElem_toArray, List.getElem_cons_zero, List.getElem_cons_succ]
  refine z_take (i := 6) (v := ?_) rfl (by kernel_rfl) (by kernel_rfl) (by kernel_rfl) (k0 := 6) (by kernel_rfl) (by kernel_rfl) (.inl rfl) (fun _ _ _ h => h) (by rfl) HC.out ?_ ?_
  rotate_left
  · intro W hW
    go_simp
    first | done | rfl
  simp only [Act.put, List.setIfInBounds_toArray, List.set_cons_zero, List.set_cons_succ, List.getElem_toArray, List.getElem_cons_zero, List.getElem_cons_succ]
  refine z_take (i := 8) (v := ?_) rfl (by kernel_rfl) (by kernel_rfl) (by kernel_rfl) (k0 := 8) (by kernel_rfl) (by kernel_rfl) (.inl rfl) (fun _ _ _ h => h) (by rfl) HC.out ?_ ?_
  rotate_left
  · intro W hW
    go_simp
    first | done | rfl
  simp only [Act.put, List.setIfInBounds_toArray, List.set_cons_zero, List.set_cons_succ, List.getElem_toArray, List.getElem_cons_zero, List.getElem_cons_succ]
  refine z_three (i := 5) (j := 7) (k := 9) (by kernel_rfl) ?_ ?_ ?_
  · refine onez_make_sl (i := 5) rfl (by rfl) rowZI ⟨by omega, by omega⟩ (.tmp 55) (.tmp 55) rfl .i64 .i64 _ _ mn rfl rfl rfl rfl (by omega) (by unfold maxLen; omega) hBz HC.out ?_
    intro z2 hown hb
    have HOV := Lib.hid (own_wholeN hown)
    have hltV := HOV.out.lt
    clear hown
    simp only [Act.put, List.setIfInBounds_toArray, List.set_cons_zero, List.set_cons_succ, List.getElem_toArray, List.getElem_cons_zero, List.getElem_cons_succ]
    have hgeV := hBz
    replace HC := Lib.hid (HC.out.trans (hb.mono hBz))
    replace hBz := HC.out.size
    clear hb
    refine z_two (i := 7) (j := 9) (by kernel_rfl) ?_ ?_
    · refine onez_make_sl (i := 7) rfl (by rfl) rowZI ⟨by omega, by omega⟩ (.tmp 57) (.tmp 57) rfl .i64 .i64 _ _ mn rfl rfl rfl rfl (by omega) (by unfold maxLen; omega) hBz HC.out ?_
      intro z3 hown hb
      have HOM := Lib.hid (own_wholeN hown)
      have hltM := HOM.out.lt
      clear hown
      simp only [Act.put, List.setIfInBounds_toArray, List.set_cons_zero, List.set_cons_succ, List.getElem_toArray, List.getElem_cons_zero, List.getElem_cons_succ]
      replace HOV := Lib.hid (HOV.out.below hb (by omega))
      have hgeM := hBz
      replace HC := Lib.hid (HC.out.trans (hb.mono hBz))
      replace hBz := HC.out.size
      clear hb
      generalize hgg : (z2).heap.size = gM at *
      clear hgg
      refine z_one (i := 9) (by kernel_rfl) ?_
      refine onez_make_sl (i := 9) rfl (by rfl) rowZI ⟨by omega, by omega⟩ (.tmp 59) (.tmp 59) rfl .i64 .i64 _ _ mn rfl rfl rfl rfl (by omega) (by unfold maxLen; omega) hBz HC.out ?_
      intro z4 hown hb
      have HOX := Lib.hid (own_wholeN hown)
      have hltX := HOX.out.lt
      clear hown
      simp only [Act.put, List.setIfInBounds_toArray, List.set_cons_zero, List.set_cons_succ, List.getElem_toArray, List.getElem_cons_zero, List.getElem_cons_succ]
      replace HOV := Lib.hid (HOV.out.below hb (by omega))
      replace HOM := Lib.hid (HOM.out.below hb (by omega))
      have hgeX := hBz
      replace HC := Lib.hid (HC.out.trans (hb.mono hBz))
      replace hBz := HC.out.size
      clear hb
      generalize hgg : (z3).heap.size = gX at *
      clear hgg
      refine z_take (i := 10) (v := ?_) rfl (by kernel_rfl) (by kernel_rfl) (by kernel_rfl) (k0 := 10) (by kernel_rfl) (by kernel_rfl) (.inl rfl) (fun _ _ _ h => h) (by rfl) HC.out ?_ ?_
      rotate_left
      · intro W hW
        go_simp
        first | done | rfl
      simp only [Act.put, List.setIfInBounds_toArray, List.set_cons_zero, List.set_cons_succ, List.getElem_toArray, List.getElem_cons_zero, List.getElem_cons_succ]
      refine z_one (i := 11) (by kernel_rfl) ?_
      refine onez_run (i := 11) (v := ?_) (w' := World.alloc (z4) (.cells #[.int .i64 (idn : Int), .int .i64 (mn : Int), .int .i64 b1, .int .i64 b2, .int .i64 0, .int .i64 0, .slice A9 ln c9, .int .i64 0, .int .i64 0, at0 (z1.heap.size) mn, at0 (gM) mn, at0 (gX) mn] 65)) rfl (by rfl) ?_ ?_ ?_
      rotate_left 1
      · go_simp
        first | done | rfl | (constructor <;> rfl)
      · exact fun _ => HC.out.alloc hBz _
      simp only [Act.put, List.setIfInBounds_toArray, List.set_cons_zero, List.set_cons_succ, List.getElem_toArray, List.getElem_cons_zero, List.getElem_cons_succ]
      have hgeG := hBz
      have HG := Lib.hid (Whole.new (z4) 65 #[.int .i64 (idn : Int), .int .i64 (mn : Int), .int .i64 b1, .int .i64 b2, .int .i64 0, .int .i64 0, .slice A9 ln c9, .int .i64 0, .int .i64 0, at0 (z1.heap.size) mn, at0 (gM) mn, at0 (gX) mn])
      have hltG := HG.out.lt
      replace HOV := Lib.hid (HOV.out.alloc (.cells #[.int .i64 (idn : Int), .int .i64 (mn : Int), .int .i64 b1, .int .i64 b2, .int .i64 0, .int .i64 0, .slice A9 ln c9, .int .i64 0, .int .i64 0, at0 (z1.heap.size) mn, at0 (gM) mn, at0 (gX) mn] 65))
      replace HOM := Lib.hid (HOM.out.alloc (.cells #[.int .i64 (idn : Int), .int .i64 (mn : Int), .int .i64 b1, .int .i64 b2, .int .i64 0, .int .i64 0, .slice A9 ln c9, .int .i64 0, .int .i64 0, at0 (z1.heap.size) mn, at0 (gM) mn, at0 (gX) mn] 65))
      replace HOX := Lib.hid (HOX.out.alloc (.cells #[.int .i64 (idn : Int), .int .i64 (mn : Int), .int .i64 b1, .int .i64 b2, .int .i64 0, .int .i64 0, .slice A9 ln c9, .int .i64 0, .int .i64 0, at0 (z1.heap.size) mn, at0 (gM) mn, at0 (gX) mn] 65))
      replace HC := Lib.hid (HC.out.alloc hBz (.cells #[.int .i64 (idn : Int), .int .i64 (mn : Int), .int .i64 b1, .int .i64 b2, .int .i64 0, .int .i64 0, .slice A9 ln c9, .int .i64 0, .int .i64 0, at0 (z1.heap.size) mn, at0 (gM) mn, at0 (gX) mn] 65))
      replace hBz := HC.out.size
      generalize hwx : World.alloc (z4) _ = z5 at *
      clear hwx
      generalize hgg : (z4).heap.size = gG at *
      clear hgg
      refine z_take (i := 12) (v := ?_) rfl (by kernel_rfl) (by kernel_rfl) (by kernel_rfl) (k0 := 12) (by kernel_rfl) (by kernel_rfl) (.inl rfl) (fun _ _ _ h => h) (by rfl) HC.out ?_ ?_
      rotate_left
      · intro W hW
        go_simp
        first | done | rfl
      simp only [Act.put, List.setIfInBounds_toArray, List.set_cons_zero, List.set_cons_succ, List.getElem_toArray, List.getElem_cons_zero, List.getElem_cons_succ]
      refine z_take (i := 13) (v := ?_) rfl (by kernel_rfl) (by kernel_rfl) (by kernel_rfl) (k0 := 13) (by kernel_rfl) (by kernel_rfl) (.inl rfl) (fun _ _ _ h => h) (by rfl) HC.out ?_ ?_
      rotate_left
      · intro W hW
        go_simp
        first | done | rfl
      simp only [Act.put, List.setIfInBounds_toArray, List.set_cons_zero, List.set_cons_succ, List.getElem_toArray, List.getElem_cons_zero, List.getElem_cons_succ]
      refine z_done (by kernel_rfl) ?_
      clear hgeV
      have HL2 := Lib.hid (HO.out.below HC.out)
      have HBB := Lib.hid (HBD.out.trans (HC.out.mono hz1w))
      have hlo := HLO.out
      clear HC hBz
      generalize hgg : z1.heap.size = gV at *
      clear hgg
      go_simp
      go_wp2_with fail
      refine jumps_ret ?_
      go_ret2
      rw [HNW.out]
      unfold QNewOut
      obtain rfl := HLN.out
      refine ⟨(⟨gG, gV, gM, gX⟩ : Foot), A9, c9, rfl, fun b hb => ?_, ⟨⟨HG.out, by rw [vi_rep]; exact HOV.out, HOM.out, HOX.out, ⟨?_, ?_, ?_, ?_, ?_, ?_⟩⟩, HL2.out.down (Nat.zero_le _), fun b hb hf => ?_⟩, HBB.out⟩
      case refine_1 =>
        rcases hb with (rfl | rfl | rfl | rfl) | hb
        · omega
        · omega
        · omega
        · omega
        · have := hlo b hb; omega
      case refine_8 =>
        have := hlo b hb
        rcases hf with rfl | rfl | rfl | rfl <;> omega
      all_goals (simp only; omega)
    · refine onez_make_sl (i := 9) rfl (by rfl) rowZI ⟨by omega, by omega⟩ (.tmp 59) (.tmp 59) rfl .i64 .i64 _ _ mn rfl rfl rfl rfl (by omega) (by unfold maxLen; omega) hBz HC.out ?_
      intro z6 hown hb
      have HOX := Lib.hid (own_wholeN hown)
      have hltX := HOX.out.lt
      clear hown
      simp only [Act.put, List.setIfInBounds_toArray, List.set_cons_zero, List.set_cons_succ, List.getElem_toArray, List.getElem_cons_zero, List.getElem_cons_succ]
      replace HOV := Lib.hid (HOV.out.below hb (by omega))
      have hgeX := hBz
      replace HC := Lib.hid (HC.out.trans (hb.mono hBz))
      replace hBz := HC.out.size
      clear hb
      generalize hgg : (z2).heap.size = gX at *
      clear hgg
      refine z_one (i := 7) (by kernel_rfl) ?_
      refine onez_make_sl (i := 7) rfl (by rfl) rowZI ⟨by omega, by omega⟩ (.tmp 57) (.tmp 57) rfl .i64 .i64 _ _ mn rfl rfl rfl rfl (by omega) (by unfold maxLen; omega) hBz HC.out ?_
      intro z7 hown hb
      have HOM := Lib.hid (own_wholeN hown)
      have hltM := HOM.out.lt
      clear hown
      simp only [Act.put, List.setIfInBounds_toArray, List.set_cons_zero, List.set_cons_succ, List.getElem_toArray, List.getElem_cons_zero, List.getElem_cons_succ]
      replace HOV := Lib.hid (HOV.out.below hb (by omega))
      replace HOX := Lib.hid (HOX.out.below hb (by omega))
      have hgeM := hBz
      replace HC := Lib.hid (HC.out.trans (hb.mono hBz))
      replace hBz := HC.out.size
      clear hb
      generalize hgg : (z6).heap.size = gM at *
      clear hgg
      refine z_take (i := 10) (v := ?_) rfl (by kernel_rfl) (by kernel_rfl) (by kernel_rfl) (k0 := 10) (by kernel_rfl) (by kernel_rfl) (.inl rfl) (fun _ _ _ h => h) (by rfl) HC.out ?_ ?_
      rotate_left
      · intro W hW
        go_simp
        first | done | rfl
      simp only [Act.put, List.setIfInBounds_toArray, List.set_cons_zero, List.set_cons_succ, List.getElem_toArray, List.getElem_cons_zero, List.getElem_cons_succ]
      refine z_one (i := 11) (by kernel_rfl) ?_
      refine onez_run (i := 11) (v := ?_) (w' := World.alloc (z7) (.cells #[.int .i64 (idn : Int), .int .i64 (mn : Int), .int .i64 b1, .int .i64 b2, .int .i64 0, .int .i64 0, .slice A9 ln c9, .int .i64 0, .int .i64 0, at0 (z1.heap.size) mn, at0 (gM) mn, at0 (gX) mn] 65)) rfl (by rfl) ?_ ?_ ?_
      rotate_left 1
      · go_simp
        first | done | rfl | (constructor <;> rfl)
      · exact fun _ => HC.out.alloc hBz _
      simp only [Act.put, List.setIfInBounds_toArray, List.set_cons_zero, List.set_cons_succ, List.getElem_toArray, List.getElem_cons_zero, List.getElem_cons_succ]
      have hgeG := hBz
      have HG := Lib.hid (Whole.new (z7) 65 #[.int .i64 (idn : Int), .int .i64 (mn : Int), .int .i64 b1, .int .i64 b2, .int .i64 0, .int .i64 0, .slice A9 ln c9, .int .i64 0, .int .i64 0, at0 (z1.heap.size) mn, at0 (gM) mn, at0 (gX) mn])
      have hltG := HG.out.lt
      replace HOV := Lib.hid (HOV.out.alloc (.cells #[.int .i64 (idn : Int), .int .i64 (mn : Int), .int .i64 b1, .int .i64 b2, .int .i64 0, .int .i64 0, .slice A9 ln c9, .int .i64 0, .int .i64 0, at0 (z1.heap.size) mn, at0 (gM) mn, at0 (gX) mn] 65))
      replace HOX := Lib.hid (HOX.out.alloc (.cells #[.int .i64 (idn : Int), .int .i64 (mn : Int), .int .i64 b1, .int .i64 b2, .int .i64 0, .int .i64 0, .slice A9 ln c9, .int .i64 0, .int .i64 0, at0 (z1.heap.size) mn, at0 (gM) mn, at0 (gX) mn] 65))
      replace HOM := Lib.hid (HOM.out.alloc (.cells #[.int .i64 (idn : Int), .int .i64 (mn : Int), .int .i64 b1, .int .i64 b2, .int .i64 0, .int .i64 0, .slice A9 ln c9, .int .i64 0, .int .i64 0, at0 (z1.heap.size) mn, at0 (gM) mn, at0 (gX) mn] 65))
      replace HC := Lib.hid (HC.out.alloc hBz (.cells #[.int .i64 (idn : Int), .int .i64 (mn : Int), .int .i64 b1, .int .i64 b2, .int .i64 0, .int .i64 0, .slice A9 ln c9, .int .i64 0, .int .i64 0, at0 (z1.heap.size) mn, at0 (gM) mn, at0 (gX) mn] 65))
      replace hBz := HC.out.size
      generalize hwx : World.alloc (z7) _ = z8 at *
      clear hwx
      generalize hgg : (z7).heap.size = gG at *
      clear hgg
      refine z_take (i := 12) (v := ?_) rfl (by kernel_rfl) (by kernel_rfl) (by kernel_rfl) (k0 := 12) (by kernel_rfl) (by kernel_rfl) (.inl rfl) (fun _ _ _ h => h) (by rfl) HC.out ?_ ?_
      rotate_left
      · intro W hW
        go_simp
        first | done | rfl
      simp only [Act.put, List.setIfInBounds_toArray, List.set_cons_zero, List.set_cons_succ, List.getElem_toArray, List.getElem_cons_zero, List.getElem_cons_succ]
      refine z_take (i := 13) (v := ?_) rfl (by kernel_rfl) (by kernel_rfl) (by kernel_rfl) (k0 := 13) (by kernel_rfl) (by kernel_rfl) (.inl rfl) (fun _ _ _ h => h) (by rfl) HC.out ?_ ?_
      rotate_left
      · intro W hW
        go_simp
        first | done | rfl
      simp only [Act.put, List.setIfInBounds_toArray, List.set_cons_zero, List.set_cons_succ, List.getElem_toArray, List.getElem_cons_zero, List.getElem_cons_succ]
      refine z_done (by kernel_rfl) ?_
      clear hgeV
      have HL2 := Lib.hid (HO.out.below HC.out)
      have HBB := Lib.hid (HBD.out.trans (HC.out.mono hz1w))
      have hlo := HLO.out
      clear HC hBz
      generalize hgg : z1.heap.size = gV at *
      clear hgg
      go_simp
      go_wp2_with fail
      refine jumps_ret ?_
      go_ret2
      rw [HNW.out]
      unfold QNewOut
      obtain rfl := HLN.out
      refine ⟨(⟨gG, gV, gM, gX⟩ : Foot), A9, c9, rfl, fun b hb => ?_, ⟨⟨HG.out, by rw [vi_rep]; exact HOV.out, HOM.out, HOX.out, ⟨?_, ?_, ?_, ?_, ?_, ?_⟩⟩, HL2.out.down (Nat.zero_le _), fun b hb hf => ?_⟩, HBB.out⟩
      case refine_1 =>
        rcases hb with (rfl | rfl | rfl | rfl) | hb
        · omega
        · omega
        · omega
        · omega
        · have := hlo b hb; omega
      case refine_8 =>
        have := hlo b hb
        rcases hf with rfl | rfl | rfl | rfl <;> omega
      all_goals (simp only; omega)
  · refine onez_make_sl (i := 7) rfl (by rfl) rowZI ⟨by omega, by omega⟩ (.tmp 57) (.tmp 57) rfl .i64 .i64 _ _ mn rfl rfl rfl rfl (by omega) (by unfold maxLen; omega) hBz HC.out ?_
    intro z9 hown hb
    have HOM := Lib.hid (own_wholeN hown)
    have hltM := HOM.out.lt
    clear hown
    simp only [Act.put, List.setIfInBounds_toArray, List.set_cons_zero, List.set_cons_succ, List.getElem_toArray, List.getElem_cons_zero, List.getElem_cons_succ]
    have hgeM := hBz
    replace HC := Lib.hid (HC.out.trans (hb.mono hBz))
    replace hBz := HC.out.size
    clear hb
    refine z_two (i := 5) (j := 9) (by kernel_rfl) ?_ ?_
    · refine onez_make_sl (i := 5) rfl (by rfl) rowZI ⟨by omega, by omega⟩ (.tmp 55) (.tmp 55) rfl .i64 .i64 _ _ mn rfl rfl rfl rfl (by omega) (by unfold maxLen; omega) hBz HC.out ?_
      intro z10 hown hb
      have HOV := Lib.hid (own_wholeN hown)
      have hltV := HOV.out.lt
      clear hown
      simp only [Act.put, List.setIfInBounds_toArray, List.set_cons_zero, List.set_cons_succ, List.getElem_toArray, List.getElem_cons_zero, List.getElem_cons_succ]
      replace HOM := Lib.hid (HOM.out.below hb (by omega))
      have hgeV := hBz
      replace HC := Lib.hid (HC.out.trans (hb.mono hBz))
      replace hBz := HC.out.size
      clear hb
      generalize hgg : (z9).heap.size = gV at *
      clear hgg
      refine z_one (i := 9) (by kernel_rfl) ?_
      refine onez_make_sl (i := 9) rfl (by rfl) rowZI ⟨by omega, by omega⟩ (.tmp 59) (.tmp 59) rfl .i64 .i64 _ _ mn rfl rfl rfl rfl (by omega) (by unfold maxLen; omega) hBz HC.out ?_
      intro z11 hown hb
      have HOX := Lib.hid (own_wholeN hown)
      have hltX := HOX.out.lt
      clear hown
      simp only [Act.put, List.setIfInBounds_toArray, List.set_cons_zero, List.set_cons_succ, List.getElem_toArray, List.getElem_cons_zero, List.getElem_cons_succ]
      replace HOM := Lib.hid (HOM.out.below hb (by omega))
      replace HOV := Lib.hid (HOV.out.below hb (by omega))
      have hgeX := hBz
      replace HC := Lib.hid (HC.out.trans (hb.mono hBz))
      replace hBz := HC.out.size
      clear hb
      generalize hgg : (z10).heap.size = gX at *
      clear hgg
      refine z_take (i := 10) (v := ?_) rfl (by kernel_rfl) (by kernel_rfl) (by kernel_rfl) (k0 := 10) (by kernel_rfl) (by kernel_rfl) (.inl rfl) (fun _ _ _ h => h) (by rfl) HC.out ?_ ?_
      rotate_left
      · intro W hW
        go_simp
        first | done | rfl
      simp only [Act.put, List.setIfInBounds_toArray, List.set_cons_zero, List.set_cons_succ, List.getElem_toArray, List.getElem_cons_zero, List.getElem_cons_succ]
      refine z_one (i := 11) (by kernel_rfl) ?_
      refine onez_run (i := 11) (v := ?_) (w' := World.alloc (z11) (.cells #[.int .i64 (idn : Int), .int .i64 (mn : Int), .int .i64 b1, .int .i64 b2, .int .i64 0, .int .i64 0, .slice A9 ln c9, .int .i64 0, .int .i64 0, at0 (gV) mn, at0 (z1.heap.size) mn, at0 (gX) mn] 65)) rfl (by rfl) ?_ ?_ ?_
      rotate_left 1
      · go_simp
        first | done | rfl | (constructor <;> rfl)
      · exact fun _ => HC.out.alloc hBz _
      simp only [Act.put, List.setIfInBounds_toArray, List.set_cons_zero, List.set_cons_succ, List.getElem_toArray, List.getElem_cons_zero, List.getElem_cons_succ]
      have hgeG := hBz
      have HG := Lib.hid (Whole.new (z11) 65 #[.int .i64 (idn : Int), .int .i64 (mn : Int), .int .i64 b1, .int .i64 b2, .int .i64 0, .int .i64 0, .slice A9 ln c9, .int .i64 0, .int .i64 0, at0 (gV) mn, at0 (z1.heap.size) mn, at0 (gX) mn])
      have hltG := HG.out.lt
      replace HOM := Lib.hid (HOM.out.alloc (.cells #[.int .i64 (idn : Int), .int .i64 (mn : Int), .int .i64 b1, .int .i64 b2, .int .i64 0, .int .i64 0, .slice A9 ln c9, .int .i64 0, .int .i64 0, at0 (gV) mn, at0 (z1.heap.size) mn, at0 (gX) mn] 65))
      replace HOV := Lib.hid (HOV.out.alloc (.cells #[.int .i64 (idn : Int), .int .i64 (mn : Int), .int .i64 b1, .int .i64 b2, .int .i64 0, .int .i64 0, .slice A9 ln c9, .int .i64 0, .int .i64 0, at0 (gV) mn, at0 (z1.heap.size) mn, at0 (gX) mn] 65))
      replace HOX := Lib.hid (HOX.out.alloc (.cells #[.int .i64 (idn : Int), .int .i64 (mn : Int), .int .i64 b1, .int .i64 b2, .int .i64 0, .int .i64 0, .slice A9 ln c9, .int .i64 0, .int .i64 0, at0 (gV) mn, at0 (z1.heap.size) mn, at0 (gX) mn] 65))
      replace HC := Lib.hid (HC.out.alloc hBz (.cells #[.int .i64 (idn : Int), .int .i64 (mn : Int), .int .i64 b1, .int .i64 b2, .int .i64 0, .int .i64 0, .slice A9 ln c9, .int .i64 0, .int .i64 0, at0 (gV) mn, at0 (z1.heap.size) mn, at0 (gX) mn] 65))
      replace hBz := HC.out.size
      generalize hwx : World.alloc (z11) _ = z12 at *
      clear hwx
      generalize hgg : (z11).heap.size = gG at *
      clear hgg
      refine z_take (i := 12) (v := ?_) rfl (by kernel_rfl) (by kernel_rfl) (by kernel_rfl) (k0 := 12) (by kernel_rfl) (by kernel_rfl) (.inl rfl) (fun _ _ _ h => h) (by rfl) HC.out ?_ ?_
      rotate_left
      · intro W hW
        go_simp
        first | done | rfl
      simp only [Act.put, List.setIfInBounds_toArray, List.set_cons_zero, List.set_cons_succ, List.getElem_toArray, List.getElem_cons_zero, List.getElem_cons_succ]
      refine z_take (i := 13) (v := ?_) rfl (by kernel_rfl) (by kernel_rfl) (by kernel_rfl) (k0 := 13) (by kernel_rfl) (by kernel_rfl) (.inl rfl) (fun _ _ _ h => h) (by rfl) HC.out ?_ ?_
      rotate_left
      · intro W hW
        go_simp
        first | done | rfl
      simp only [Act.put, List.setIfInBounds_toArray, List.set_cons_zero, List.set_cons_succ, List.getElem_toArray, List.getElem_cons_zero, List.getElem_cons_succ]
      refine z_done (by kernel_rfl) ?_
      clear hgeM
      have HL2 := Lib.hid (HO.out.below HC.out)
      have HBB := Lib.hid (HBD.out.trans (HC.out.mono hz1w))
      have hlo := HLO.out
      clear HC hBz
      generalize hgg : z1.heap.size = gM at *
      clear hgg
      go_simp
      go_wp2_with fail
      refine jumps_ret ?_
      go_ret2
      rw [HNW.out]
      unfold QNewOut
      obtain rfl := HLN.out
      refine ⟨(⟨gG, gV, gM, gX⟩ : Foot), A9, c9, rfl, fun b hb => ?_, ⟨⟨HG.out, by rw [vi_rep]; exact HOV.out, HOM.out, HOX.out, ⟨?_, ?_, ?_, ?_, ?_, ?_⟩⟩, HL2.out.down (Nat.zero_le _), fun b hb hf => ?_⟩, HBB.out⟩
      case refine_1 =>
        rcases hb with (rfl | rfl | rfl | rfl) | hb
        · omega
        · omega
        · omega
        · omega
        · have := hlo b hb; omega
      case refine_8 =>
        have := hlo b hb
        rcases hf with rfl | rfl | rfl | rfl <;> omega
      all_goals (simp only; omega)
    · refine onez_make_sl (i := 9) rfl (by rfl) rowZI ⟨by omega, by omega⟩ (.tmp 59) (.tmp 59) rfl .i64 .i64 _ _ mn rfl rfl rfl rfl (by omega) (by unfold maxLen; omega) hBz HC.out ?_
      intro z13 hown hb
      have HOX := Lib.hid (own_wholeN hown)
      have hltX := HOX.out.lt
      clear hown
      simp only [Act.put, List.setIfInBounds_toArray, List.set_cons_zero, List.set_cons_succ, List.getElem_toArray, List.getElem_cons_zero, List.getElem_cons_succ]
      replace HOM := Lib.hid (HOM.out.below hb (by omega))
      have hgeX := hBz
      replace HC := Lib.hid (HC.out.trans (hb.mono hBz))
      replace hBz := HC.out.size
      clear hb
      generalize hgg : (z9).heap.size = gX at *
      clear hgg
      refine z_one (i := 5) (by kernel_rfl) ?_
      refine onez_make_sl (i := 5) rfl (by rfl) rowZI ⟨by omega, by omega⟩ (.tmp 55) (.tmp 55) rfl .i64 .i64 _ _ mn rfl rfl rfl rfl (by omega) (by unfold maxLen; omega) hBz HC.out ?_
      intro z14 hown hb
      have HOV := Lib.hid (own_wholeN hown)
      have hltV := HOV.out.lt
      clear hown
      simp only [Act.put, List.setIfInBounds_toArray, List.set_cons_zero, List.set_cons_succ, List.getElem_toArray, List.getElem_cons_zero, List.getElem_cons_succ]
      replace HOM := Lib.hid (HOM.out.below hb (by omega))
      replace HOX := Lib.hid (HOX.out.below hb (by omega))
      have hgeV := hBz
      replace HC := Lib.hid (HC.out.trans (hb.mono hBz))
      replace hBz := HC.out.size
      clear hb
      generalize hgg : (z13).heap.size = gV at *
      clear hgg
      refine z_take (i := 10) (v := ?_) rfl (by kernel_rfl) (by kernel_rfl) (by kernel_rfl) (k0 := 10) (by kernel_rfl) (by kernel_rfl) (.inl rfl) (fun _ _ _ h => h) (by rfl) HC.out ?_ ?_
      rotate_left
      · intro W hW
        go_simp
        first | done | rfl
      simp only [Act.put, List.setIfInBounds_toArray, List.set_cons_zero, List.set_cons_succ, List.getElem_toArray, List.getElem_cons_zero, List.getElem_cons_succ]
      refine z_one (i := 11) (by kernel_rfl) ?_
      refine onez_run (i := 11) (v := ?_) (w' := World.alloc (z14) (.cells #[.int .i64 (idn : Int), .int .i64 (mn : Int), .int .i64 b1, .int .i64 b2, .int .i64 0, .int .i64 0, .slice A9 ln c9, .int .i64 0, .int .i64 0, at0 (gV) mn, at0 (z1.heap.size) mn, at0 (gX) mn] 65)) rfl (by rfl) ?_ ?_ ?_
      rotate_left 1
      · go_simp
        first | done | rfl | (constructor <;> rfl)
      · exact fun _ => HC.out.alloc hBz _
      simp only [Act.put, List.setIfInBounds_toArray, List.set_cons_zero, List.set_cons_succ, List.getElem_toArray, List.getElem_cons_zero, List.getElem_cons_succ]
      have hgeG := hBz
      have HG := Lib.hid (Whole.new (z14) 65 #[.int .i64 (idn : Int), .int .i64 (mn : Int), .int .i64 b1, .int .i64 b2, .int .i64 0, .int .i64 0, .slice A9 ln c9, .int .i64 0, .int .i64 0, at0 (gV) mn, at0 (z1.heap.size) mn, at0 (gX) mn])
      have hltG := HG.out.lt
      replace HOM := Lib.hid (HOM.out.alloc (.cells #[.int .i64 (idn : Int), .int .i64 (mn : Int), .int .i64 b1, .int .i64 b2, .int .i64 0, .int .i64 0, .slice A9 ln c9, .int .i64 0, .int .i64 0, at0 (gV) mn, at0 (z1.heap.size) mn, at0 (gX) mn] 65))
      replace HOX := Lib.hid (HOX.out.alloc (.cells #[.int .i64 (idn : Int), .int .i64 (mn : Int), .int .i64 b1, .int .i64 b2, .int .i64 0, .int .i64 0, .slice A9 ln c9, .int .i64 0, .int .i64 0, at0 (gV) mn, at0 (z1.heap.size) mn, at0 (gX) mn] 65))
      replace HOV := Lib.hid (HOV.out.alloc (.cells #[.int .i64 (idn : Int), .int .i64 (mn : Int), .int .i64 b1, .int .i64 b2, .int .i64 0, .int .i64 0, .slice A9 ln c9, .int .i64 0, .int .i64 0, at0 (gV) mn, at0 (z1.heap.size) mn, at0 (gX) mn] 65))
      replace HC := Lib.hid (HC.out.alloc hBz (.cells #[.int .i64 (idn : Int), .int .i64 (mn : Int), .int .i64 b1, .int .i64 b2, .int .i64 0, .int .i64 0, .slice A9 ln c9, .int .i64 0, .int .i64 0, at0 (gV) mn, at0 (z1.heap.size) mn, at0 (gX) mn] 65))
      replace hBz := HC.out.size
      generalize hwx : World.alloc (z14) _ = z15 at *
      clear hwx
      generalize hgg : (z14).heap.size = gG at *
      clear hgg
      refine z_take (i := 12) (v := ?_) rfl (by kernel_rfl) (by kernel_rfl) (by kernel_rfl) (k0 := 12) (by kernel_rfl) (by kernel_rfl) (.inl rfl) (fun _ _ _ h => h) (by rfl) HC.out ?_ ?_
      rotate_left
      · intro W hW
        go_simp
        first | done | rfl
      simp only [Act.put, List.setIfInBounds_toArray, List.set_cons_zero, List.set_cons_succ, List.getElem_toArray, List.getElem_cons_zero, List.getElem_cons_succ]
      refine z_take (i := 13) (v := ?_) rfl (by kernel_rfl) (by kernel_rfl) (by kernel_rfl) (k0 := 13) (by kernel_rfl) (by kernel_rfl) (.inl rfl) (fun _ _ _ h => h) (by rfl) HC.out ?_ ?_
      rotate_left
      · intro W hW
        go_simp
        first | done | rfl
      simp only [Act.put, List.setIfInBounds_toArray, List.set_cons_zero, List.set_cons_succ, List.getElem_toArray, List.getElem_cons_zero, List.getElem_cons_succ]
      refine z_done (by kernel_rfl) ?_
      clear hgeM
      have HL2 := Lib.hid (HO.out.below HC.out)
      have HBB := Lib.hid (HBD.out.trans (HC.out.mono hz1w))
      have hlo := HLO.out
      clear HC hBz
      generalize hgg : z1.heap.size = gM at *
      clear hgg
      go_simp
      go_wp2_with fail
      refine jumps_ret ?_
      go_ret2
      rw [HNW.out]
      unfold QNewOut
      obtain rfl := HLN.out
      refine ⟨(⟨gG, gV, gM, gX⟩ : Foot), A9, c9, rfl, fun b hb => ?_, ⟨⟨HG.out, by rw [vi_rep]; exact HOV.out, HOM.out, HOX.out, ⟨?_, ?_, ?_, ?_, ?_, ?_⟩⟩, HL2.out.down (Nat.zero_le _), fun b hb hf => ?_⟩, HBB.out⟩
      case refine_1 =>
        rcases hb with (rfl | rfl | rfl | rfl) | hb
        · omega
        · omega
        · omega
        · omega
        · have := hlo b hb; omega
      case refine_8 =>
        have := hlo b hb
        rcases hf with rfl | rfl | rfl | rfl <;> omega
      all_goals (simp only; omega)
  · refine onez_make_sl (i := 9) rfl (by rfl) rowZI ⟨by omega, by omega⟩ (.tmp 59) (.tmp 59) rfl .i64 .i64 _ _ mn rfl rfl rfl rfl (by omega) (by unfold maxLen; omega) hBz HC.out ?_
    intro z16 hown hb
    have HOX := Lib.hid (own_wholeN hown)
    have hltX := HOX.out.lt
    clear hown
    simp only [Act.put, List.setIfInBounds_toArray, List.set_cons_zero, List.set_cons_succ, List.getElem_toArray, List.getElem_cons_zero, List.getElem_cons_succ]
    have hgeX := hBz
    replace HC := Lib.hid (HC.out.trans (hb.mono hBz))
    replace hBz := HC.out.size
    clear hb
    refine z_two (i := 5) (j := 7) (by kernel_rfl) ?_ ?_
    · refine onez_make_sl (i := 5) rfl (by rfl) rowZI ⟨by omega, by omega⟩ (.tmp 55) (.tmp 55) rfl .i64 .i64 _ _ mn rfl rfl rfl rfl (by omega) (by unfold maxLen; omega) hBz HC.out ?_
      intro z17 hown hb
      have HOV := Lib.hid (own_wholeN hown)
      have hltV := HOV.out.lt
      clear hown
      simp only [Act.put, List.setIfInBounds_toArray, List.set_cons_zero, List.set_cons_succ, List.getElem_toArray, List.getElem_cons_zero, List.getElem_cons_succ]
      replace HOX := Lib.hid (HOX.out.below hb (by omega))
      have hgeV := hBz
      replace HC := Lib.hid (HC.out.trans (hb.mono hBz))
      replace hBz := HC.out.size
      clear hb
      generalize hgg : (z16).heap.size = gV at *
      clear hgg
      refine z_one (i := 7) (by kernel_rfl) ?_
      refine onez_make_sl (i := 7) rfl (by rfl) rowZI ⟨by omega, by omega⟩ (.tmp 57) (.tmp 57) rfl .i64 .i64 _ _ mn rfl rfl rfl rfl (by omega) (by unfold maxLen; omega) hBz HC.out ?_
      intro z18 hown hb
      have HOM := Lib.hid (own_wholeN hown)
      have hltM := HOM.out.lt
      clear hown
      simp only [Act.put, List.setIfInBounds_toArray, List.set_cons_zero, List.set_cons_succ, List.getElem_toArray, List.getElem_cons_zero, List.getElem_cons_succ]
      replace HOX := Lib.hid (HOX.out.below hb (by omega))
      replace HOV := Lib.hid (HOV.out.below hb (by omega))
      have hgeM := hBz
      replace HC := Lib.hid (HC.out.trans (hb.mono hBz))
      replace hBz := HC.out.size
      clear hb
      generalize hgg : (z17).heap.size = gM at *
      clear hgg
      refine z_take (i := 10) (v := ?_) rfl (by kernel_rfl) (by kernel_rfl) (by kernel_rfl) (k0 := 10) (by kernel_rfl) (by kernel_rfl) (.inl rfl) (fun _ _ _ h => h) (by rfl) HC.out ?_ ?_
      rotate_left
      · intro W hW
        go_simp
        first | done | rfl
      simp only [Act.put, List.setIfInBounds_toArray, List.set_cons_zero, List.set_cons_succ, List.getElem_toArray, List.getElem_cons_zero, List.getElem_cons_succ]
      refine z_one (i := 11) (by kernel_rfl) ?_
      refine onez_run (i := 11) (v := ?_) (w' := World.alloc (z18) (.cells #[.int .i64 (idn : Int), .int .i64 (mn : Int), .int .i64 b1, .int .i64 b2, .int .i64 0, .int .i64 0, .slice A9 ln c9, .int .i64 0, .int .i64 0, at0 (gV) mn, at0 (gM) mn, at0 (z1.heap.size) mn] 65)) rfl (by rfl) ?_ ?_ ?_
      rotate_left 1
      · go_simp
        first | done | rfl | (constructor <;> rfl)
      · exact fun _ => HC.out.alloc hBz _
      simp only [Act.put, List.setIfInBounds_toArray, List.set_cons_zero, List.set_cons_succ, List.getElem_toArray, List.getElem_cons_zero, List.getElem_cons_succ]
      have hgeG := hBz
      have HG := Lib.hid (Whole.new (z18) 65 #[.int .i64 (idn : Int), .int .i64 (mn : Int), .int .i64 b1, .int .i64 b2, .int .i64 0, .int .i64 0, .slice A9 ln c9, .int .i64 0, .int .i64 0, at0 (gV) mn, at0 (gM) mn, at0 (z1.heap.size) mn])
      have hltG := HG.out.lt
      replace HOX := Lib.hid (HOX.out.alloc (.cells #[.int .i64 (idn : Int), .int .i64 (mn : Int), .int .i64 b1, .int .i64 b2, .int .i64 0, .int .i64 0, .slice A9 ln c9, .int .i64 0, .int .i64 0, at0 (gV) mn, at0 (gM) mn, at0 (z1.heap.size) mn] 65))
      replace HOV := Lib.hid (HOV.out.alloc (.cells #[.int .i64 (idn : Int), .int .i64 (mn : Int), .int .i64 b1, .int .i64 b2, .int .i64 0, .int .i64 0, .slice A9 ln c9, .int .i64 0, .int .i64 0, at0 (gV) mn, at0 (gM) mn, at0 (z1.heap.size) mn] 65))
      replace HOM := Lib.hid (HOM.out.alloc (.cells #[.int .i64 (idn : Int), .int .i64 (mn : Int), .int .i64 b1, .int .i64 b2, .int .i64 0, .int .i64 0, .slice A9 ln c9, .int .i64 0, .int .i64 0, at0 (gV) mn, at0 (gM) mn, at0 (z1.heap.size) mn] 65))
      replace HC := Lib.hid (HC.out.alloc hBz (.cells #[.int .i64 (idn : Int), .int .i64 (mn : Int), .int .i64 b1, .int .i64 b2, .int .i64 0, .int .i64 0, .slice A9 ln c9, .int .i64 0, .int .i64 0, at0 (gV) mn, at0 (gM) mn, at0 (z1.heap.size) mn] 65))
      replace hBz := HC.out.size
      generalize hwx : World.alloc (z18) _ = z19 at *
      clear hwx
      generalize hgg : (z18).heap.size = gG at *
      clear hgg
      refine z_take (i := 12) (v := ?_) rfl (by kernel_rfl) (by kernel_rfl) (by kernel_rfl) (k0 := 12) (by kernel_rfl) (by kernel_rfl) (.inl rfl) (fun _ _ _ h => h) (by rfl) HC.out ?_ ?_
      rotate_left
      · intro W hW
        go_simp
        first | done | rfl
      simp only [Act.put, List.setIfInBounds_toArray, List.set_cons_zero, List.set_cons_succ, List.getElem_toArray, List.getElem_cons_zero, List.getElem_cons_succ]
      refine z_take (i := 13) (v := ?_) rfl (by kernel_rfl) (by kernel_rfl) (by kernel_rfl) (k0 := 13) (by kernel_rfl) (by kernel_rfl) (.inl rfl) (fun _ _ _ h => h) (by rfl) HC.out ?_ ?_
      rotate_left
      · intro W hW
        go_simp
        first | done | rfl
      simp only [Act.put, List.setIfInBounds_toArray, List.set_cons_zero, List.set_cons_succ, List.getElem_toArray, List.getElem_cons_zero, List.getElem_cons_succ]
      refine z_done (by kernel_rfl) ?_
      clear hgeX
      have HL2 := Lib.hid (HO.out.below HC.out)
      have HBB := Lib.hid (HBD.out.trans (HC.out.mono hz1w))
      have hlo := HLO.out
      clear HC hBz
      generalize hgg : z1.heap.size = gX at *
      clear hgg
      go_simp
      go_wp2_with fail
      refine jumps_ret ?_
      go_ret2
      rw [HNW.out]
      unfold QNewOut
      obtain rfl := HLN.out
      refine ⟨(⟨gG, gV, gM, gX⟩ : Foot), A9, c9, rfl, fun b hb => ?_, ⟨⟨HG.out, by rw [vi_rep]; exact HOV.out, HOM.out, HOX.out, ⟨?_, ?_, ?_, ?_, ?_, ?_⟩⟩, HL2.out.down (Nat.zero_le _), fun b hb hf => ?_⟩, HBB.out⟩
      case refine_1 =>
        rcases hb with (rfl | rfl | rfl | rfl) | hb
        · omega
        · omega
        · omega
        · omega
        · have := hlo b hb; omega
      case refine_8 =>
        have := hlo b hb
        rcases hf with rfl | rfl | rfl | rfl <;> omega
      all_goals (simp only; omega)
    · refine onez_make_sl (i := 7) rfl (by rfl) rowZI ⟨by omega, by omega⟩ (.tmp 57) (.tmp 57) rfl .i64 .i64 _ _ mn rfl rfl rfl rfl (by omega) (by unfold maxLen; omega) hBz HC.out ?_
      intro z20 hown hb
      have HOM := Lib.hid (own_wholeN hown)
      have hltM := HOM.out.lt
      clear hown
      simp only [Act.put, List.setIfInBounds_toArray, List.set_cons_zero, List.set_cons_succ, List.getElem_toArray, List.getElem_cons_zero, List.getElem_cons_succ]
      replace HOX := Lib.hid (HOX.out.below hb (by omega))
      have hgeM := hBz
      replace HC := Lib.hid (HC.out.trans (hb.mono hBz))
      replace hBz := HC.out.size
      clear hb
      generalize hgg : (z16).heap.size = gM at *
      clear hgg
      refine z_one (i := 5) (by kernel_rfl) ?_
      refine onez_make_sl (i := 5) rfl (by rfl) rowZI ⟨by omega, by omega⟩ (.tmp 55) (.tmp 55) rfl .i64 .i64 _ _ mn rfl rfl rfl rfl (by omega) (by unfold maxLen; omega) hBz HC.out ?_
      intro z21 hown hb
      have HOV := Lib.hid (own_wholeN hown)
      have hltV := HOV.out.lt
      clear hown
      simp only [Act.put, List.setIfInBounds_toArray, List.set_cons_zero, List.set_cons_succ, List.getElem_toArray, List.getElem_cons_zero, List.getElem_cons_succ]
      replace HOX := Lib.hid (HOX.out.below hb (by omega))
      replace HOM := Lib.hid (HOM.out.below hb (by omega))
      have hgeV := hBz
      replace HC := Lib.hid (HC.out.trans (hb.mono hBz))
      replace hBz := HC.out.size
      clear hb
      generalize hgg : (z20).heap.size = gV at *
      clear hgg
      refine z_take (i := 10) (v := ?_) rfl (by kernel_rfl) (by kernel_rfl) (by kernel_rfl) (k0 := 10) (by kernel_rfl) (by kernel_rfl) (.inl rfl) (fun _ _ _ h => h) (by rfl) HC.out ?_ ?_
      rotate_left
      · intro W hW
        go_simp
        first | done | rfl
      simp only [Act.put, List.setIfInBounds_toArray, List.set_cons_zero, List.set_cons_succ, List.getElem_toArray, List.getElem_cons_zero, List.getElem_cons_succ]
      refine z_one (i := 11) (by kernel_rfl) ?_
      refine onez_run (i := 11) (v := ?_) (w' := World.alloc (z21) (.cells #[.int .i64 (idn : Int), .int .i64 (mn : Int), .int .i64 b1, .int .i64 b2, .int .i64 0, .int .i64 0, .slice A9 ln c9, .int .i64 0, .int .i64 0, at0 (gV) mn, at0 (gM) mn, at0 (z1.heap.size) mn] 65)) rfl (by rfl) ?_ ?_ ?_
      rotate_left 1
      · go_simp
        first | done | rfl | (constructor <;> rfl)
      · exact fun _ => HC.out.alloc hBz _
      simp only [Act.put, List.setIfInBounds_toArray, List.set_cons_zero, List.set_cons_succ, List.getElem_toArray, List.getElem_cons_zero, List.getElem_cons_succ]
      have hgeG := hBz
      have HG := Lib.hid (Whole.new (z21) 65 #[.int .i64 (idn : Int), .int .i64 (mn : Int), .int .i64 b1, .int .i64 b2, .int .i64 0, .int .i64 0, .slice A9 ln c9, .int .i64 0, .int .i64 0, at0 (gV) mn, at0 (gM) mn, at0 (z1.heap.size) mn])
      have hltG := HG.out.lt
      replace HOX := Lib.hid (HOX.out.alloc (.cells #[.int .i64 (idn : Int), .int .i64 (mn : Int), .int .i64 b1, .int .i64 b2, .int .i64 0, .int .i64 0, .slice A9 ln c9, .int .i64 0, .int .i64 0, at0 (gV) mn, at0 (gM) mn, at0 (z1.heap.size) mn] 65))
      replace HOM := Lib.hid (HOM.out.alloc (.cells #[.int .i64 (idn : Int), .int .i64 (mn : Int), .int .i64 b1, .int .i64 b2, .int .i64 0, .int .i64 0, .slice A9 ln c9, .int .i64 0, .int .i64 0, at0 (gV) mn, at0 (gM) mn, at0 (z1.heap.size) mn] 65))
      replace HOV := Lib.hid (HOV.out.alloc (.cells #[.int .i64 (idn : Int), .int .i64 (mn : Int), .int .i64 b1, .int .i64 b2, .int .i64 0, .int .i64 0, .slice A9 ln c9, .int .i64 0, .int .i64 0, at0 (gV) mn, at0 (gM) mn, at0 (z1.heap.size) mn] 65))
      replace HC := Lib.hid (HC.out.alloc hBz (.cells #[.int .i64 (idn : Int), .int .i64 (mn : Int), .int .i64 b1, .int .i64 b2, .int .i64 0, .int .i64 0, .slice A9 ln c9, .int .i64 0, .int .i64 0, at0 (gV) mn, at0 (gM) mn, at0 (z1.heap.size) mn] 65))
      replace hBz := HC.out.size
      generalize hwx : World.alloc (z21) _ = z22 at *
      clear hwx
      generalize hgg : (z21).heap.size = gG at *
      clear hgg
      refine z_take (i := 12) (v := ?_) rfl (by kernel_rfl) (by kernel_rfl) (by kernel_rfl) (k0 := 12) (by kernel_rfl) (by kernel_rfl) (.inl rfl) (fun _ _ _ h => h) (by rfl) HC.out ?_ ?_
      rotate_left
      · intro W hW
        go_simp
        first | done | rfl
      simp only [Act.put, List.setIfInBounds_toArray, List.set_cons_zero, List.set_cons_succ, List.getElem_toArray, List.getElem_cons_zero, List.getElem_cons_succ]
      refine z_take (i := 13) (v := ?_) rfl (by kernel_rfl) (by kernel_rfl) (by kernel_rfl) (k0 := 13) (by kernel_rfl) (by kernel_rfl) (.inl rfl) (fun _ _ _ h => h) (by rfl) HC.out ?_ ?_
      rotate_left
      · intro W hW
        go_simp
        first | done | rfl
      simp only [Act.put, List.setIfInBounds_toArray, List.set_cons_zero, List.set_cons_succ, List.getElem_toArray, List.getElem_cons_zero, List.getElem_cons_succ]
      refine z_done (by kernel_rfl) ?_
      clear hgeX
      have HL2 := Lib.hid (HO.out.below HC.out)
      have HBB := Lib.hid (HBD.out.trans (HC.out.mono hz1w))
      have hlo := HLO.out
      clear HC hBz
      generalize hgg : z1.heap.size = gX at *
      clear hgg
      go_simp
      go_wp2_with fail
      refine jumps_ret ?_
      go_ret2
      rw [HNW.out]
      unfold QNewOut
      obtain rfl := HLN.out
      refine ⟨(⟨gG, gV, gM, gX⟩ : Foot), A9, c9, rfl, fun b hb => ?_, ⟨⟨HG.out, by rw [vi_rep]; exact HOV.out, HOM.out, HOX.out, ⟨?_, ?_, ?_, ?_, ?_, ?_⟩⟩, HL2.out.down (Nat.zero_le _), fun b hb hf => ?_⟩, HBB.out⟩
      case refine_1 =>
        rcases hb with (rfl | rfl | rfl | rfl) | hb
        · omega
        · omega
        · omega
        · omega
        · have := hlo b hb; omega
      case refine_8 =>
        have := hlo b hb
        rcases hf with rfl | rfl | rfl | rfl <;> omega
      all_goals (simp only; omega)
end Go.Proofs.Ytjcljkbalpgfdaa

/-
  What Role, Settled, Ballot and Log answer.
-/




namespace Go.Proofs.Ytjcljkbalpgfdaa
open Go.RowKit

set_option maxRecDepth 100000 in
theorem prole_q (n : Rf.Id) (F : Foot) (s : Rf.St) (_hg : Rf.Good n s) (A : Option Addr) (c : Nat) (w : World) (h : QMem n F w s A c) :
    Calls Try.prog 13 #[.pointer (some ⟨F.g, 0, none⟩)] w fun e w' => e = .returned (.int .i64 s.is) ∧ Below w.heap.size w w' := by
  have hst := h.st
  dsimp only [rmc] at hst
  obtain ⟨k0, k1, k2, k3, k4, k5, k6, k7, k8, k9, k10, k11⟩ := hst.c12
  clear hst h _hg
  go_enter Try.func13, Try.ntmps13
  go_wp2_with fail
  go_ret
  exact ⟨rfl, Below.refl _ _⟩
set_option maxRecDepth 100000 in
theorem psettled_q (n : Rf.Id) (F : Foot) (s : Rf.St) (_hg : Rf.Good n s) (A : Option Addr) (c : Nat) (w : World) (h : QMem n F w s A c) :
    Calls Try.prog 12 #[.pointer (some ⟨F.g, 0, none⟩)] w fun e w' => e = .returned (.int .i64 s.upto) ∧ Below w.heap.size w w' := by
  have hst := h.st
  dsimp only [rmc] at hst
  obtain ⟨k0, k1, k2, k3, k4, k5, k6, k7, k8, k9, k10, k11⟩ := hst.c12
  clear hst h _hg
  go_enter Try.func12, Try.ntmps12
  go_wp2_with fail
  go_ret
  exact ⟨rfl, Below.refl _ _⟩
set_option maxRecDepth 100000 in
theorem pballot_q (n : Rf.Id) (F : Foot) (s : Rf.St) (_hg : Rf.Good n s) (A : Option Addr) (c : Nat) (w : World) (h : QMem n F w s A c) :
    Calls Try.prog 11 #[.pointer (some ⟨F.g, 0, none⟩)] w fun e w' => e = .returned (bv s.b.1 s.b.2) ∧ Below w.heap.size w w' := by
  have HR := Lib.hid (h.stay ((Below.refl w.heap.size w).alloc (Nat.le_refl _) (.cells #[.int .i64 0, .int .i64 0] 23)))
  have HB := Lib.hid ((Whole.new w 23 #[.int .i64 0, .int .i64 0]).set2 (.int .i64 s.b.1) (.int .i64 s.b.2))
  have HBB := Lib.hid (below_set2 ((Below.refl w.heap.size w).alloc (Nat.le_refl _) (.cells #[.int .i64 0, .int .i64 0] 23)) (g := w.heap.size) (Nat.le_refl _) (.int .i64 s.b.1) (.int .i64 s.b.2))
  have hst := HR.out.st
  dsimp only [rmc] at hst
  obtain ⟨k0, k1, k2, k3, k4, k5, k6, k7, k8, k9, k10, k11⟩ := hst.c12
  obtain ⟨q0, q1⟩ := (Whole.new w 23 #[.int .i64 0, .int .i64 0]).c2
  obtain ⟨f0, f1⟩ := (Whole.new w 23 #[.int .i64 0, .int .i64 0]).f2
  clear hst h _hg
  go_enter Try.func11, Try.ntmps11
  go_wp2_with fail
  first | exact bodyPost_ret (results_ballot rfl rfl (Whole.new w 23 #[.int .i64 s.b.1, .int .i64 s.b.2])) rfl ⟨rfl, (Below.refl _ _).alloc (Nat.le_refl _) _⟩ | exact bodyPost_ret (results_ballot rfl rfl HB.out) rfl ⟨rfl, HBB.out⟩
set_option maxRecDepth 100000 in
theorem plog_q (n : Rf.Id) (F : Foot) (s : Rf.St) (hg : Rf.Good n s) (A : Option Addr) (c : Nat) (w : World) (h : QMem n F w s A c) :
    Calls Try.prog 14 #[.pointer (some ⟨F.g, 0, none⟩)] w fun e w' => ∃ v, e = .returned (lv 0 0 v) ∧ SlS w' (w.heap.size ≤ ·) v s.l ∧ Below w.heap.size w w' := by
  have hlen := hg.len
  have hb1 : Below w.heap.size w (w.alloc (.cells #[.int .i64 0, .int .i64 0, .slice none 0 0] 26)) := (Below.refl _ _).alloc (Nat.le_refl _) _
  have HR := Lib.hid (h.stay hb1)
  have HB2 := Lib.hid (hb1.alloc hb1.size (.cells #[.int .i64 0, .int .i64 0, .slice A s.l.length c] 26))
  have HL1 := Lib.hid ((Whole.new w 26 #[.int .i64 0, .int .i64 0, .slice none 0 0]).alloc (.cells #[.int .i64 0, .int .i64 0, .slice A s.l.length c] 26))
  have HL2 := Lib.hid (Whole.new1 w (.cells #[.int .i64 0, .int .i64 0, .slice none 0 0] 26) 26 #[.int .i64 0, .int .i64 0, .slice A s.l.length c])
  have HCL := Lib.hid (fun W (hb : Below w.heap.size w W) => clone_any _ s.l (by omega) W W.heap.size (Nat.le_refl _) (h.stay hb).sl)
  have hst := HR.out.st
  dsimp only [rmc] at hst
  obtain ⟨k0, k1, k2, k3, k4, k5, k6, k7, k8, k9, k10, k11⟩ := hst.c12
  obtain ⟨q0, q1, q2⟩ := HL2.out.c3
  clear hst h hg hb1
  go_enter Try.func14, Try.ntmps14
  go_wp2_with fail
  with_reducible refine (HCL.out _ HB2.out).mono ?_
  rintro e w3 ⟨A9, c9, rfl, ho, hb⟩
  have hz := HB2.out.size
  have hl1 := HL1.out.lt
  have hl2 := HL2.out.lt
  have HB3 := Lib.hid (HB2.out.trans (hb.mono hz))
  have HL13 := Lib.hid (HL1.out.below hb hl1)
  have HL23 := Lib.hid (HL2.out.below hb hl2)
  have HO := Lib.hid ho
  rw [World.size_alloc, World.size_alloc] at hl1 hl2
  clear ho hb HCL HL1 HL2 k0 k1 k2 k3 k4 k5 k6 k7 k8 k9 k10 k11 q0 q1 q2
  have HL24 := Lib.hid (Whole.setTo HL23.out 2 (.slice A9 s.l.length c9) (cs2 := #[.int .i64 0, .int .i64 0, .slice A9 s.l.length c9]) rfl)
  have HL14 := Lib.hid (HL13.out.far (p := ⟨w.heap.size + 1, 2, none⟩) (by simp) (.slice A9 s.l.length c9))
  obtain ⟨f0, f1, f2⟩ := HL23.out.f3
  obtain ⟨q0, q1, q2⟩ := HL23.out.c3
  obtain ⟨r0, r1, r2⟩ := HL24.out.c3
  obtain ⟨d0, d1, d2⟩ := HL14.out.f3
  obtain ⟨e0, e1, e2⟩ := HL14.out.c3
  go_wp2_with fail
  refine bodyPost_ret (results_log rfl rfl (HL14.out.set3 _ _ _)) rfl ?_
  exact ⟨_, rfl, SlS.wide ((((HO.out.set (p := ⟨w.heap.size + 1, 2, none⟩) (by simp) _).set (p := ⟨w.heap.size, 0, none⟩) (by simp; omega) _).set (p := ⟨w.heap.size, 1, none⟩) (by simp; omega) _).set (p := ⟨w.heap.size, 2, none⟩) (by simp; omega) _).slS (fun _ h _ => Nat.le_trans hz h), below_set3 (HB3.out.setCell (Nat.le_succ _) _) (Nat.le_refl _) _ _ _⟩
end Go.Proofs.Ytjcljkbalpgfdaa

/-
  Who alone is the group: it leads as soon as it times out, and settles each command at once. As plain mathematics.
-/

namespace Go.Proofs.Ytjcljkbalpgfdaa.Rf

abbrev one : Id := ⟨1, 1⟩
section
variable {s : St}
theorem one_mt (h : s.mt.length = 1) (v : Int) : s.mt.set 0 v = [v] := by
  match hm : s.mt, h with
  | [x], _ => rfl
theorem most_one (v : Int) : Qr.most [v] = v := by simpa using Qr.most_mem (l := [v]) (by simp)
theorem all_one (t : St) : all one t = [] := by
  unfold all
  show each one (addition one t) 1 = []
  rw [each_me rfl]
  rfl
theorem term_end {l : List E} {e : E} (h : Lg.may (0, 0, l ++ [e]) = true) : Lg.term (0, 0, l ++ [e]) ((l.length : Int) + 1) = (e.1, true) := by
  rw [Lg.term_eq h, if_neg (by omega), if_neg (by simp; omega)]
  have : ((l.length : Int) + 1 - 0 - 1).toNat = l.length := by omega
  rw [this, Lg.tm_append_right (Nat.le_refl _), Nat.sub_self]
  rfl
/-- What is put is settled at once. -/
theorem one_settle (h : Good one s) (hb : 1 ≤ s.b.1) (hl : s.l.length < 64) (hu : s.upto ≤ s.l.length) (c : Cmd) :
    settle (own one (put s c)) = { s with l := s.l ++ [(s.b.1, c)], mt := [(s.l.length : Int) + 1], upto := (s.l.length : Int) + 1 } ∧ (last (settle (own one (put s c)))).1 = (s.l.length : Int) + 1 := by
  have hp := h.put hl hb c
  have hl1 := hp.last1
  have hlen : (put s c).l.length = s.l.length + 1 := by show (s.l ++ [_]).length = _; simp
  have hown : own one (put s c) = { s with l := s.l ++ [(s.b.1, c)], mt := [(s.l.length : Int) + 1] } := by
    unfold own
    show ({ put s c with mt := (put s c).mt.set 0 (last (put s c)).1 } : St) = _
    rw [one_mt (s := put s c) h.mt, hl1, hlen]
    rfl
  have hmay : Lg.may (0, 0, s.l ++ [(s.b.1, c)]) = true := hp.l
  have hlast : (Lg.last (0, 0, s.l ++ [(s.b.1, c)])).1 = (s.l.length : Int) + 1 := by rw [last_eq hmay]; simp
  have hc : Qr.commit (0, 0, s.l ++ [(s.b.1, c)]) [(s.l.length : Int) + 1] s.b.1 s.upto = (s.l.length : Int) + 1 := by
    have hg := Qr.goes_start (0, 0, s.l ++ [(s.b.1, c)]) [(s.l.length : Int) + 1] s.b.1 s.upto
    rw [most_one, hlast, Int.min_self] at hg
    have ht := term_end hmay
    exact Qr.goes_here hg (by omega) (by rw [ht]) (by rw [ht])
  have hs : settle (own one (put s c)) = { s with l := s.l ++ [(s.b.1, c)], mt := [(s.l.length : Int) + 1], upto := (s.l.length : Int) + 1 } := by
    rw [hown]
    unfold settle lg
    simp only
    rw [hc]
  refine ⟨hs, ?_⟩
  rw [hs]
  exact hlast
theorem one_propose (h : Good one s) (h2 : s.is = 2) (hl : s.l.length < 64) (hu : s.upto ≤ s.l.length) (c : Cmd) :
    propose one s c = ({ s with l := s.l ++ [(s.b.1, c)], mt := [(s.l.length : Int) + 1], upto := (s.l.length : Int) + 1 }, (s.l.length : Int) + 1, [], 0) := by
  obtain ⟨h1, h3⟩ := one_settle h (h.pos (by omega)) hl hu c
  unfold propose
  rw [if_neg (by omega), if_neg (by omega)]
  simp only
  rw [all_one, h3, h1]
theorem one_full (h2 : s.is = 2) (hl : 64 ≤ s.l.length) (c : Cmd) : propose one s c = (s, 0, [], 7) := by
  unfold propose
  rw [if_neg (by omega), if_pos hl]
/-- Timed out. -/
theorem one_timeout (h : Good one s) (h0 : s.is = 0) (hu : s.upto = 0) (hb : s.b.1 < 1073741824) :
    (timeout one s).2 = [] ∧ (timeout one s).1.is = 2 ∧ (timeout one s).1.b = (s.b.1 + 1, 1) ∧ (timeout one s).1.upto ≤ (timeout one s).1.l.length ∧
      (s.l.length < 64 → (timeout one s).1.l = s.l ++ [(s.b.1 + 1, (0, 0, 0, 0, 0, 0))] ∧ (timeout one s).1.upto = (s.l.length : Int) + 1) ∧ (64 ≤ s.l.length → (timeout one s).1.l = s.l) := by
  have ht : timeout one s = lead one (stand one s) := by
    unfold timeout
    rw [if_neg (by omega), if_pos (by decide)]
  have hgs := h.stand hb
  have hpos := h.b.1
  have hgb := hgs.begin_ (by show 1 ≤ s.b.1 + 1; omega)
  rw [ht]
  unfold lead
  simp only
  rw [all_one]
  by_cases hl : s.l.length < 64
  · have hf : first (begin_ one (stand one s)) = put (begin_ one (stand one s)) (0, 0, 0, 0, 0, 0) := if_pos hl
    rw [hf]
    obtain ⟨h1, _⟩ := one_settle hgb (by show 1 ≤ s.b.1 + 1; omega) hl (by show s.upto ≤ _; omega) (0, 0, 0, 0, 0, 0)
    rw [h1]
    refine ⟨rfl, rfl, rfl, ?_, fun _ => ⟨rfl, rfl⟩, fun h => by omega⟩
    show (s.l.length : Int) + 1 ≤ ((s.l ++ [_]).length : Nat)
    simp
  · have hf : first (begin_ one (stand one s)) = begin_ one (stand one s) := if_neg hl
    rw [hf]
    have hup := (hgb.own).settle
    refine ⟨rfl, rfl, rfl, ?_, fun h => absurd h hl, fun _ => rfl⟩
    have := hup.upto
    have hll : (settle (own one (begin_ one (stand one s)))).l.length = s.l.length := rfl
    omega
end
end Go.Proofs.Ytjcljkbalpgfdaa.Rf

/-
  Each time that one of many times out, its term is one more and it asks each of the others once. As plain mathematics.
-/

namespace Go.Proofs.Ytjcljkbalpgfdaa.Rf
section
variable {n : Id} {s : St}
theorem each_count (f : Nat → Msg) : ∀ k, (each n f k).length = if n.id ≤ k ∧ 1 ≤ n.id then k - 1 else k
  | 0 => by rw [each]; split <;> rfl
  | k + 1 => by
    have := each_count f k
    rw [each]
    split
    · rw [this]
      split
      · omega
      · split <;> omega
    · rw [List.length_append, this, List.length_singleton]
      split
      · split <;> omega
      · split <;> omega
/-- Whom the j-th goes to. -/
def whom (n : Id) (j : Nat) : Nat := if j + 1 < n.id then j + 1 else j + 2
theorem each_at (h1 : 1 ≤ n.id) (f : Nat → Msg) : ∀ k j, j < (each n f k).length → (each n f k)[j]? = some (f (whom n j))
  | 0, j, h => by rw [each] at h; cases h
  | k + 1, j, h => by
    have hc := each_count (n := n) f k
    rw [each] at h ⊢
    split
    · rename_i hk
      rw [if_pos hk] at h
      exact each_at h1 f k j h
    · rename_i hk
      rw [if_neg hk, List.length_append, List.length_singleton] at h
      by_cases hj : j < (each n f k).length
      · rw [List.getElem?_append_left hj]
        exact each_at h1 f k j hj
      · have e : j = (each n f k).length := by omega
        rw [List.getElem?_append_right (by omega), e, Nat.sub_self]
        simp only [List.getElem?_cons_zero]
        congr 2
        unfold whom
        rw [hc]
        split
        · split <;> omega
        · split <;> omega
theorem whom_ne (j : Nat) : whom n j ≠ n.id := by unfold whom; split <;> omega
theorem whom_up {j k : Nat} (h : j < k) : whom n j < whom n k := by unfold whom; split <;> split <;> omega
/-- The state behind so many times. -/
def timed (n : Id) (s : St) (i : Nat) : St := if i = 0 then s else { s with b := (s.b.1 + i, (n.id : Int)), is := 1, votes := (List.replicate n.many false).set (n.id - 1) true }
theorem timed_l (i : Nat) : (timed n s i).l = s.l ∧ (timed n s i).upto = s.upto := by unfold timed; split <;> exact ⟨rfl, rfl⟩
theorem timed_step (h0 : s.is = 0) (hm : 2 ≤ n.many) {i : Nat} (hb : s.b.1 + i < 1073741824) : timeout n (timed n s i) = (timed n s (i + 1), each n (ask n (timed n s (i + 1))) n.many) := by
  have hb2 : (timed n s i).b.1 = s.b.1 + i := by unfold timed; split <;> simp_all
  have hi2 : (timed n s i).is ≠ 2 := by unfold timed; split <;> simp_all
  have hs : stand n (timed n s i) = timed n s (i + 1) := by
    unfold stand
    rw [hb2]
    unfold timed
    rw [if_neg (Nat.succ_ne_zero i)]
    have e : s.b.1 + (i : Int) + 1 = s.b.1 + ((i + 1 : Nat) : Int) := by omega
    rw [e]
    split <;> rfl
  unfold timeout
  rw [if_neg (by rw [hb2]; omega), if_neg (by omega), hs]
theorem timed_good (h : Good n s) (h0 : s.is = 0) : ∀ i : Nat, s.b.1 + i ≤ 1073741824 → Good n (timed n s i)
  | 0, _ => by unfold timed; rw [if_pos rfl]; exact h
  | i + 1, hb => by
    have hi := timed_good h h0 i (by omega)
    have hb2 : (timed n s i).b.1 = s.b.1 + i := by unfold timed; split <;> simp_all
    have := hi.stand (by rw [hb2]; omega)
    have hs : stand n (timed n s i) = timed n s (i + 1) := by
      unfold stand
      rw [hb2]
      unfold timed
      rw [if_neg (Nat.succ_ne_zero i)]
      have e : s.b.1 + (i : Int) + 1 = s.b.1 + ((i + 1 : Nat) : Int) := by omega
      rw [e]
      split <;> rfl
    rw [hs] at this
    exact this
end
end Go.Proofs.Ytjcljkbalpgfdaa.Rf
