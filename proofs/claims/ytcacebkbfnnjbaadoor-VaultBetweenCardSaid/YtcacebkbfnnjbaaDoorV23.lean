/-
  Parts that the statement rests on, joined: Pack, Rpack.
-/
import Derived.Test.YtcacebkbfnnjbaaDoorV20
import Derived.Test.YtcacebkbfnnjbaaDoorV21
import Derived.Test.YtcacebkbfnnjbaaDoorV22
/-
  What Pack answers.
-/


namespace Go.Proofs.YtcacebkbfnnjbaaDoor
open Go.RowKit

def PackOut (w : World) (p : List UInt8 × Int) (e : Ending) (w' : World) : Prop :=
  ∃ A c, e = .returned (.tuple #[.slice A p.1.length c, .int .i64 p.2]) ∧ Own w' w.heap.size 5 (.slice A p.1.length c) p.1 ∧ Below w.heap.size w w'

theorem packOut_err (w w' : World) (er : Int) (h : Below w.heap.size w w') : PackOut w ([], er) (.returned (.tuple #[.slice none 0 0, .int .i64 er])) w' :=
  ⟨none, 0, rfl, Own.nil _ _ _, h⟩
theorem pack_full {N : List Int} {D : List UInt8} (h : 255 < N.length ∨ 4096 < D.length) : Fm.pack N D = ([], 7) := by unfold Fm.pack; rw [if_pos h]
theorem pack_arg {N : List Int} {D : List UInt8} (h : ¬ (255 < N.length ∨ 4096 < D.length)) (h2 : ¬ ∀ n ∈ N, Fm.may n) : Fm.pack N D = ([], 1) := by
  unfold Fm.pack; rw [if_neg h, if_neg]; simpa using h2

set_option maxRecDepth 100000 in
theorem pack_big (sN sD : Value) (N : List Int) (D : List UInt8) (w : World) (B : Nat) (hN : Sl w B sN N) (hD : Sl w B sD D) (h : 255 < N.length ∨ 4096 < D.length) :
    Calls Tryd.prog 54 #[.agg #[sN, sD]] w (PackOut w (Fm.pack N D)) := by
  rw [pack_full h]
  obtain ⟨A, c, rfl, _, hm⟩ := hN.form
  obtain ⟨A2, c2, rfl, _, hm2⟩ := hD.form
  unfold maxLen at hm hm2
  clear hN hD
  generalize N.length = n at *
  generalize D.length = d at *
  by_cases h1 : 255 < n
  · clear h
    go_enter Tryd.func54, Tryd.ntmps54
    go_wp2_with fail
    go_ret2
    exact packOut_err _ _ _ ((Below.refl _ _).alloc (Nat.le_refl _) _)
  · have h2 : 4096 < d := by omega
    clear h
    go_enter Tryd.func54, Tryd.ntmps54
    go_wp2_with fail
    go_ret2
    exact packOut_err _ _ _ ((Below.refl _ _).alloc (Nat.le_refl _) _)

/-- The first k numbers have an encoding. -/
def MayTo (N : List Int) (k : Nat) : Prop := ∀ i (hi : i < N.length), i < k → Fm.may N[i]
theorem mayTo_zero (N : List Int) : MayTo N 0 := fun _ _ h => absurd h (by omega)
theorem mayTo_succ {N : List Int} {k : Nat} (h : MayTo N k) (hk : k < N.length) (hm : Fm.may N[k]) : MayTo N (k + 1) := fun i hi hik => by
  by_cases e : i = k
  · subst e; exact hm
  · exact h i hi (by omega)
theorem mayTo_all {N : List Int} {k : Nat} (h : MayTo N k) (hk : N.length ≤ k) : ∀ n ∈ N, Fm.may n := fun n hn => by
  obtain ⟨i, hi, rfl⟩ := List.getElem_of_mem hn
  exact h i hi (by omega)
theorem mayTo_of {N : List Int} (h : ∀ n ∈ N, Fm.may n) (k : Nat) : MayTo N k := fun _ hi _ => h _ (List.getElem_mem hi)

set_option maxRecDepth 100000 in
theorem pack_bad (sN sD : Value) (N : List Int) (D : List UInt8) (w : World) (B : Nat) (hB : B ≤ w.heap.size) (hN : Sl w B sN N) (hD : Sl w B sD D) (h : ¬ (255 < N.length ∨ 4096 < D.length)) (h2 : ¬ ∀ n ∈ N, Fm.may n) :
    Calls Tryd.prog 54 #[.agg #[sN, sD]] w (PackOut w (Fm.pack N D)) := by
  rw [pack_arg h h2]
  obtain ⟨A, c, rfl, _, hm⟩ := hN.form
  obtain ⟨A2, c2, rfl, _, hm2⟩ := hD.form
  have hb0 : Below w.heap.size w (w.alloc (.cells #[.slice A N.length c, .slice A2 D.length c2] 88)) := (Below.refl _ _).alloc (Nat.le_refl _) _
  have HN := Lib.hid (hN.below (hb0.mono hB))
  have hl1 : N.length ≤ 255 := by omega
  have hl2 : D.length ≤ 4096 := by omega
  have hno : ∀ k, MayTo N k → k < N.length := by
    intro k hk
    rcases Nat.lt_or_ge k N.length with hlt | hge
    · exact hlt
    · exact absurd (mayTo_all hk hge) h2
  clear h h2 hN hD
  go_enter Tryd.func54, Tryd.ntmps54
  go_wp2_with fail
  go_loop [22] (fun i => ∃ k : Nat, i = .int .i64 k ∧ MayTo N k) (fun i => N.length - (intOf i).toNat)
  case atStart => exact ⟨0, rfl, mayTo_zero N⟩
  case round =>
    obtain ⟨k, rfl, hk⟩ := hrel
    have hlt := hno k hk
    obtain ⟨b, off, rfl, _, hc, hg1, hg2⟩ := HN.out.int k hlt
    have HS := Lib.hid (fun W => size_any N[k] hg1 hg2 W)
    have hneg := Fm.size_neg N[k]
    have HR := Lib.hid (fun hm => mayTo_succ hk hlt hm)
    clear hk hno HN
    generalize N[k] = x at *
    generalize N.length = n at *
    generalize D.length = d at *
    by_cases hm : Fm.may x
    · have hd : decide (Fm.size x < 0) = false := by simp; rcases Int.lt_or_le (Fm.size x) 0 with h | h; exact absurd hm (hneg.1 h); exact h
      clear hneg
      generalize Fm.size x = s at *
      go_wp2_with fail
      refine (HS.out _).mono ?_
      rintro e w' ⟨rfl, hw⟩
      subst hw
      go_wp2_with fail
      go_round
      case rel => exact ⟨k + 1, by go_num, HR.out hm⟩
      case measure => simp [intOf]; omega
    · have hd : decide (Fm.size x < 0) = true := by simp; exact hneg.2 hm
      clear hneg
      generalize Fm.size x = s at *
      go_wp2_with fail
      refine (HS.out _).mono ?_
      rintro e w' ⟨rfl, hw⟩
      subst hw
      go_wp2_with fail
      go_ret2
      exact packOut_err _ _ _ hb0
theorem encs_take_succ (N : List Int) (k : Nat) (h : k < N.length) : Fm.encs (N.take (k + 1)) = Fm.encs (N.take k) ++ Fm.enc N[k] := by
  rw [List.take_succ_eq_append_getElem h, Fm.encs_snoc]
theorem encs_take_le (N : List Int) (k : Nat) (h : ∀ n ∈ N, Fm.may n) (hl : N.length ≤ 255) : (Fm.encs (N.take k)).length ≤ 2040 := by
  have h1 : ∀ n ∈ N.take k, Fm.may n := fun n hn => h n (List.mem_of_mem_take hn)
  have h2 := Fm.sum_le h1
  have h3 := Fm.bytes_length (N.take k) []
  have h4 : (N.take k).length ≤ 255 := by rw [List.length_take]; omega
  generalize N.take k = M at *
  simp only [Fm.bytes, Fm.digs_length, List.length_cons, List.length_append, List.length_nil] at h3
  omega

set_option maxRecDepth 100000 in
theorem pack_good (sN sD : Value) (N : List Int) (D : List UInt8) (w : World) (B : Nat) (hB : B ≤ w.heap.size) (hN : Sl w B sN N) (hD : Sl w B sD D) (h : ¬ (255 < N.length ∨ 4096 < D.length)) (h2 : ∀ n ∈ N, Fm.may n) :
    Calls Tryd.prog 54 #[.agg #[sN, sD]] w (PackOut w (Fm.pack N D)) := by
  rw [Fm.pack_of (by omega) (by omega) h2]
  obtain ⟨A, c, rfl, _, hm⟩ := hN.form
  obtain ⟨A2, c2, rfl, _, hm2⟩ := hD.form
  have hb0 : Below w.heap.size w (w.alloc (.cells #[.slice A N.length c, .slice A2 D.length c2] 88)) := (Below.refl _ _).alloc (Nat.le_refl _) _
  have HN := Lib.hid (hN.below (hb0.mono hB))
  have HD := Lib.hid (hD.below (hb0.mono hB))
  have hl1 : N.length ≤ 255 := by omega
  have hl2 : D.length ≤ 4096 := by omega
  have HM := Lib.hid h2
  have HLE := Lib.hid (fun k => encs_take_le N k h2 hl1)
  have hN0 := Lib.hid (fun W (hW : Below w.heap.size w W) => hN.below (hW.mono hB))
  have hD0 := Lib.hid (fun W (hW : Below w.heap.size w W) => hD.below (hW.mono hB))
  have hW0 := Lib.hid (Whole.new w 88 #[.slice A N.length c, .slice A2 D.length c2])
  clear h h2 hN hD
  go_enter Tryd.func54, Tryd.ntmps54
  go_wp2_with fail
  go_loop [22] (fun i => ∃ k : Nat, i = .int .i64 k ∧ k ≤ N.length) (fun i => N.length - (intOf i).toNat)
  case atStart => exact ⟨0, rfl, Nat.zero_le _⟩
  case round =>
    obtain ⟨k, rfl, hk⟩ := hrel
    by_cases hlt : k < N.length
    · obtain ⟨b, off, rfl, _, hc, hg1, hg2⟩ := HN.out.int k hlt
      have HS := Lib.hid (fun W => size_any N[k] hg1 hg2 W)
      have hd : decide (Fm.size N[k] < 0) = false := by
        simp
        rcases Int.lt_or_le (Fm.size N[k]) 0 with h | h
        · exact absurd (HM.out _ (List.getElem_mem hlt)) ((Fm.size_neg _).1 h)
        · exact h
      clear HN HM hN0 hD0
      generalize N[k] = x at *
      generalize N.length = n at *
      generalize D.length = d at *
      generalize Fm.size x = s at *
      go_wp2_with fail
      refine (HS.out _).mono ?_
      rintro e w' ⟨rfl, hw⟩
      subst hw
      go_wp2_with fail
      go_round
      case rel => exact ⟨k + 1, by go_num, hlt⟩
      case measure => simp [intOf]; omega
    · go_wp2_with fail
      have hb1 : Below w.heap.size w ((w.alloc (.cells #[.slice A N.length c, .slice A2 D.length c2] 88)).alloc (.cells #[.int .u8 (N.length : Int)] 5)) := hb0.alloc (by simp) _
      have ho1 := Own.new1 (w.alloc (.cells #[.slice A N.length c, .slice A2 D.length c2] 88)) (w.heap.size + 1) 5 (UInt8.ofNat N.length) #[.int .u8 (N.length : Int)] trivial (u8_cell rfl (by omega)) (by simp)
      rw [World.size_alloc] at ho1
      have hw1 := hW0.out.alloc (.cells #[.int .u8 (N.length : Int)] 5)
      have HB1 := Lib.hid hb1
      have HO1 := Lib.hid ho1
      have HW1 := Lib.hid hw1
      clear hb1 ho1 hw1 hW0 hb0
      go_loopw [6, 38] (fun x i wr => ∃ k : Nat, k ≤ N.length ∧ i = .int .i64 k ∧ Own wr (w.heap.size + 1) 5 x (UInt8.ofNat N.length :: Fm.encs (N.take k)) ∧ Whole wr w.heap.size 88 #[.slice A N.length c, .slice A2 D.length c2] ∧ Below w.heap.size w wr) (fun _ i _ => N.length - (intOf i).toNat)
      case atStart => exact ⟨0, Nat.zero_le _, rfl, HO1.out, HW1.out, HB1.out⟩
      case round =>
        obtain ⟨j, hj, rfl, hown, hwh, hb⟩ := hrel
        have hlen : (UInt8.ofNat N.length :: Fm.encs (N.take j)).length ≤ 2041 := by have := HLE.out j; simp; omega
        have hz := hb.size
        by_cases hlt2 : j < N.length
        · obtain ⟨b, off, rfl, _, hc, hg1, hg2⟩ := (hN0.out wr hb).int j hlt2
          have hmay := HM.out _ (List.getElem_mem hlt2)
          have hs : Fm.size N[j] = (Fm.sz (N[j]).toNat : Int) := by unfold Fm.size; rw [if_pos hmay]
          have hz7 := Fm.sz_le7 (Fm.toNat_lt hmay)
          have htl := Fm.toNat_lt hmay
          have hsn := encs_take_succ N j hlt2
          have henc : Fm.enc N[j] = UInt8.ofNat (Fm.sz (N[j]).toNat) :: Fm.digs (N[j]).toNat (Fm.sz (N[j]).toNat) := rfl
          rw [henc] at hsn
          have HS := fun W => size_any N[j] hg1 hg2 W
          simp only [hs] at HS
          clear henc hs hg1 hg2
          have hx : N[j] = ((N[j]).toNat : Int) := by unfold Fm.may at hmay; omega
          generalize (N[j]).toNat = m at *
          rw [hx] at hc
          simp only [hx] at HS
          have HS2 := Lib.hid HS
          have HSN := Lib.hid hsn
          clear hx HS hsn hmay
          generalize Fm.sz m = z at *
          have HOWN := Lib.hid hown
          have HWH := Lib.hid hwh
          clear hown hwh
          go_wp2_with fail
          refine (HS2.out _).mono ?_
          rintro e w' ⟨rfl, hw⟩
          subst hw
          go_wp2_with (at_builtin; refine wpList_append_sl rfl _ (.tmp 46) rfl rowB (w.heap.size + 1) _ _ rfl (HOWN.out.alloc _) (wr.heap.size + 1) _ [UInt8.ofNat z] rfl (Sl.new1 wr _ _ _ trivial (u8_cell rfl (by omega))) (by unfold maxLen; simp at hlen ⊢; omega) (by simp at hlen ⊢; omega) (by have := HWH.out.lt; simp; omega) ?_; intro v2 w2 hown2 hg2 hat2; have hb2 := below_of_own ((Below.refl _ _).alloc (by have := HWH.out.lt; omega) _) (HOWN.out.alloc _) hg2 (by have := HWH.out.lt; simp; omega); have HO2 := Lib.hid hown2; clear hg2 hat2 hown2)
          refine (HS2.out _).mono ?_
          rintro e w' ⟨rfl, hw⟩
          subst hw
          go_wp2_with fail
          have hbase2 : w.heap.size + 1 ≤ w2.heap.size := by have := HWH.out.lt; have := hb2.size; omega
          refine (appendDigits_any m htl z hz7 w2 (w.heap.size + 1) v2 _ HO2.out (by simp at hlen ⊢; omega) hbase2).mono ?_
          rintro e w3 ⟨v3, rfl, hown3, hb3⟩
          have hb23 := hb2.trans hb3
          go_wp2_with fail
          go_roundw
          case rel =>
            refine ⟨j + 1, hlt2, by go_num, ?_, HWH.out.below hb23 (by omega), hb.trans (hb23.mono (by omega))⟩
            rw [HSN.out]
            simpa using hown3
          case measure => simp [intOf]; omega
        · obtain rfl : j = N.length := by omega
          have hk1 := hwh.cell 1
          have hk1' : wr.cell? ⟨w.heap.size, 1, none⟩ = some (.slice A2 D.length c2) := hk1
          have hlw := hwh.lt
          have hown' : Own wr (w.heap.size + 1) 5 u6 (UInt8.ofNat N.length :: Fm.encs N) := by rw [List.take_of_length_le (Nat.le_refl _)] at hown; exact hown
          rw [List.take_of_length_le (Nat.le_refl _)] at hlen
          have HOWN := Lib.hid hown'
          have HWH := Lib.hid hwh
          clear hown hown' hk1 hwh
          go_wp2_with fail
          refine (appendDigits_any D.length (by omega) 2 (by omega) wr (w.heap.size + 1) _ _ HOWN.out (by omega) (by omega)).mono ?_
          rintro e w3 ⟨v3, rfl, hown3, hb3⟩
          have hk3 : w3.cell? ⟨w.heap.size, 1, none⟩ = some (.slice A2 D.length c2) := (HWH.out.below hb3 (by omega)).cell 1
          have hbb := hb.trans (hb3.mono (by omega))
          have hd3 := Lib.hid (hD0.out w3 hbb)
          have hz3 := hb3.size
          have HO3 := Lib.hid (hown3.down (base' := w.heap.size) (by omega))
          clear hown3
          go_wp2_with (at_builtin; refine wpList_append_sl rfl _ (.tmp 61) rfl rowB w.heap.size _ _ rfl HO3.out B _ D rfl hd3.out (by unfold maxLen; simp [Fm.digs_length] at hlen ⊢; omega) (by simp [Fm.digs_length] at hlen ⊢; omega) (by omega) ?_; intro v4 w4 hown4 hg4 hat4; have hb4 := below_of_own hbb HO3.out hg4 (by omega); clear hg4 hat4)
          go_ret2
          have e : UInt8.ofNat N.length :: Fm.encs N ++ Fm.digs D.length 2 ++ D = Fm.bytes N D := by simp [Fm.bytes]
          rw [e] at hown4
          obtain ⟨A5, c5, rfl, _, _⟩ := hown4.sl.form
          exact ⟨A5, c5, rfl, hown4, hb4⟩

theorem pack_any (sN sD : Value) (N : List Int) (D : List UInt8) (w : World) (B : Nat) (hB : B ≤ w.heap.size) (hN : Sl w B sN N) (hD : Sl w B sD D) :
    Calls Tryd.prog 54 #[.agg #[sN, sD]] w (PackOut w (Fm.pack N D)) := by
  by_cases h : 255 < N.length ∨ 4096 < D.length
  · exact pack_big sN sD N D w B hN hD h
  · by_cases h2 : ∀ n ∈ N, Fm.may n
    · exact pack_good sN sD N D w B hB hN hD h h2
    · exact pack_bad sN sD N D w B hB hN hD h h2
end Go.Proofs.YtcacebkbfnnjbaaDoor

/-
  What the reference's Pack answers.
-/


namespace Go.Proofs.YtcacebkbfnnjbaaDoor
open Go.RowKit

set_option maxRecDepth 100000 in
theorem refPack_big (sN sD : Value) (N : List Int) (D : List UInt8) (w : World) (B : Nat) (hN : Sl w B sN N) (hD : Sl w B sD D) (h : 255 < N.length ∨ 4096 < D.length) :
    Calls Tryd.prog 43 #[.agg #[sN, sD]] w (PackOut w (Fm.pack N D)) := by
  rw [pack_full h]
  obtain ⟨A, c, rfl, _, hm⟩ := hN.form
  obtain ⟨A2, c2, rfl, _, hm2⟩ := hD.form
  unfold maxLen at hm hm2
  clear hN hD
  generalize N.length = n at *
  generalize D.length = d at *
  by_cases h1 : 255 < n
  · clear h
    go_enter Tryd.func43, Tryd.ntmps43
    go_wp2_with fail
    go_ret2
    exact packOut_err _ _ _ ((Below.refl _ _).alloc (Nat.le_refl _) _)
  · have h2 : 4096 < d := by omega
    clear h
    go_enter Tryd.func43, Tryd.ntmps43
    go_wp2_with fail
    go_ret2
    exact packOut_err _ _ _ ((Below.refl _ _).alloc (Nat.le_refl _) _)

theorem encs_take_le2 (N : List Int) (k : Nat) (h : MayTo N k) (hl : N.length ≤ 255) : (Fm.encs (N.take k)).length ≤ 2040 := by
  have h1 : ∀ n ∈ N.take k, Fm.may n := fun n hn => by
    obtain ⟨i, hi, rfl⟩ := List.getElem_of_mem hn
    rw [List.length_take] at hi
    rw [List.getElem_take]
    exact h i (by omega) (by omega)
  have := encs_take_le (N.take k) k h1 (by rw [List.length_take]; omega)
  rwa [List.take_take, Nat.min_self] at this

set_option maxRecDepth 100000 in
set_option maxHeartbeats 1000000 in
theorem refPack_small (sN sD : Value) (N : List Int) (D : List UInt8) (w : World) (B : Nat) (hB : B ≤ w.heap.size) (hN : Sl w B sN N) (hD : Sl w B sD D) (h : ¬ (255 < N.length ∨ 4096 < D.length)) :
    Calls Tryd.prog 43 #[.agg #[sN, sD]] w (PackOut w (Fm.pack N D)) := by
  have hbad := Lib.hid (fun h2 => pack_arg (N := N) (D := D) h h2)
  have hgood := Lib.hid (fun h2 => Fm.pack_of (N := N) (D := D) (by omega) (by omega) h2)
  obtain ⟨A, c, rfl, _, hm⟩ := hN.form
  obtain ⟨A2, c2, rfl, _, hm2⟩ := hD.form
  have hb0 : Below w.heap.size w (w.alloc (.cells #[.slice A N.length c, .slice A2 D.length c2] 88)) := (Below.refl _ _).alloc (Nat.le_refl _) _
  have hl1 : N.length ≤ 255 := by omega
  have hl2 : D.length ≤ 4096 := by omega
  have hN0 := Lib.hid (fun W (hW : Below w.heap.size w W) => hN.below (hW.mono hB))
  have hD0 := Lib.hid (fun W (hW : Below w.heap.size w W) => hD.below (hW.mono hB))
  have hW0 := Lib.hid (Whole.new w 88 #[.slice A N.length c, .slice A2 D.length c2])
  have hb1 : Below w.heap.size w ((w.alloc (.cells #[.slice A N.length c, .slice A2 D.length c2] 88)).alloc (.cells #[.int .u8 (N.length : Int)] 5)) := hb0.alloc (by simp) _
  have ho1 := Own.new1 (w.alloc (.cells #[.slice A N.length c, .slice A2 D.length c2] 88)) (w.heap.size + 1) 5 (UInt8.ofNat N.length) #[.int .u8 (N.length : Int)] trivial (u8_cell rfl (by omega)) (by simp)
  rw [World.size_alloc] at ho1
  have hw1 := hW0.out.alloc (.cells #[.int .u8 (N.length : Int)] 5)
  have HB1 := Lib.hid hb1
  have HO1 := Lib.hid ho1
  have HW1 := Lib.hid hw1
  clear hb1 ho1 hw1 hW0 hb0
  clear h hN hD
  go_enter Tryd.func43, Tryd.ntmps43
  go_wp2_with fail
  go_loopw [4, 5] (fun x i wr => ∃ k : Nat, k ≤ N.length ∧ MayTo N k ∧ i = .int .i64 k ∧ Own wr (w.heap.size + 1) 5 x (UInt8.ofNat N.length :: Fm.encs (N.take k)) ∧ Whole wr w.heap.size 88 #[.slice A N.length c, .slice A2 D.length c2] ∧ Below w.heap.size w wr) (fun _ i _ => N.length - (intOf i).toNat)
  case atStart => exact ⟨0, Nat.zero_le _, mayTo_zero N, rfl, HO1.out, HW1.out, HB1.out⟩
  case round =>
    obtain ⟨j, hj, hmt, rfl, hown, hwh, hb⟩ := hrel
    have hlen : (UInt8.ofNat N.length :: Fm.encs (N.take j)).length ≤ 2041 := by have := encs_take_le2 N j hmt hl1; simp; omega
    have hz := hb.size
    have hk0 : wr.cell? ⟨w.heap.size, 0, none⟩ = some (.slice A N.length c) := hwh.cell 0
    have hk1 : wr.cell? ⟨w.heap.size, 1, none⟩ = some (.slice A2 D.length c2) := hwh.cell 1
    have hlw := hwh.lt
    by_cases hlt2 : j < N.length
    · obtain ⟨b, off, rfl, _, hc, hg1, hg2⟩ := (hN0.out wr hb).int j hlt2
      by_cases hmay : Fm.may N[j]
      · have hs : Fm.size N[j] = (Fm.sz (N[j]).toNat : Int) := by unfold Fm.size; rw [if_pos hmay]
        have hz7 := Fm.sz_le7 (Fm.toNat_lt hmay)
        have htl := Fm.toNat_lt hmay
        have hsn := encs_take_succ N j hlt2
        have henc : Fm.enc N[j] = UInt8.ofNat (Fm.sz (N[j]).toNat) :: Fm.digs (N[j]).toNat (Fm.sz (N[j]).toNat) := rfl
        rw [henc] at hsn
        have HMT := Lib.hid (mayTo_succ hmt hlt2 hmay)
        have HS := fun W => refSize_any N[j] hg1 hg2 W
        simp only [hs] at HS
        clear henc hs hg1 hg2 hmt
        have hx : N[j] = ((N[j]).toNat : Int) := by unfold Fm.may at hmay; omega
        generalize (N[j]).toNat = m at *
        rw [hx] at hc
        simp only [hx] at HS
        have HS2 := Lib.hid HS
        have HSN := Lib.hid hsn
        clear hx HS hsn hmay
        generalize Fm.sz m = z at *
        have HOWN := Lib.hid hown
        have HWH := Lib.hid hwh
        clear hown hwh
        go_wp2_with fail
        refine (HS2.out _).mono ?_
        rintro e w' ⟨rfl, hw⟩
        subst hw
        go_wp2_with (at_builtin; refine wpList_append_sl rfl _ (.tmp 40) rfl rowB (w.heap.size + 1) _ _ rfl (HOWN.out.alloc _) (wr.heap.size + 1) _ [UInt8.ofNat z] rfl (Sl.new1 wr _ _ _ trivial (u8_cell rfl (by omega))) (by unfold maxLen; simp at hlen ⊢; omega) (by simp at hlen ⊢; omega) (by simp; omega) ?_; intro v2 w2 hown2 hg2 hat2; have hb2 := below_of_own ((Below.refl _ _).alloc (by omega) _) (HOWN.out.alloc _) hg2 (by simp; omega); have HO2 := Lib.hid hown2; have hq0 : w2.cell? ⟨w.heap.size, 0, none⟩ = some (.slice (some ⟨b, off, none⟩) N.length c) := (hb2.cell (by simp)).trans hk0; have hq1 : w2.cell? ⟨b, off + j, none⟩ = some (.int .i64 (m : Int)) := (hb2.cell (by simp; omega)).trans hc; clear hg2 hat2 hown2)
        have hz2 := hb2.size
        refine (refDigits_any m htl z hz7 w2).mono ?_
        rintro e w3 ⟨A3, c3, rfl, hown3, hb3⟩
        have hs3 := hown3.sl
        have hz3 := hb3.size
        have HO3 := Lib.hid (HO2.out.below hb3)
        have hb23 := hb2.trans (hb3.mono (by omega))
        have hfl : (Fm.digs m z).length = z := Fm.digs_length m z
        have HFL := Lib.hid hfl
        clear hown3 hfl
        go_wp2_with (at_builtin; refine wpList_append_sl rfl _ (.tmp 49) rfl rowB (w.heap.size + 1) _ _ rfl HO3.out w3.heap.size _ (Fm.digs m z) rfl hs3 (by rw [HFL.out]; unfold maxLen; simp at hlen ⊢; omega) (by rw [HFL.out]; simp at hlen ⊢; omega) (by omega) ?_; intro v4 w4 hown4 hg4 hat4; have hb4 := below_of_own hb23 HO3.out hg4 (by omega); clear hg4 hat4)
        go_roundw
        case rel =>
          refine ⟨j + 1, hlt2, HMT.out, by go_num, ?_, HWH.out.below hb4 (by omega), hb.trans (hb4.mono (by omega))⟩
          rw [HSN.out]
          simpa using hown4
        case measure => simp [intOf]; omega
      · have hp := hbad.out (fun h => hmay (h _ (List.getElem_mem hlt2)))
        have hs : Fm.size N[j] = -1 := by unfold Fm.size; rw [if_neg hmay]
        have HS := fun W => refSize_any N[j] hg1 hg2 W
        simp only [hs] at HS
        have HS2 := Lib.hid HS
        have HP := Lib.hid hp
        clear HS hs hp hmay hown hwh
        generalize N[j] = x at *
        go_wp2_with fail
        refine (HS2.out _).mono ?_
        rintro e w' ⟨rfl, hw⟩
        subst hw
        go_wp2_with fail
        go_ret2
        rw [HP.out]
        exact packOut_err _ _ _ hb
    · obtain rfl : j = N.length := by omega
      have hp := hgood.out (mayTo_all hmt (Nat.le_refl _))
      have HP := Lib.hid hp
      have hown' : Own wr (w.heap.size + 1) 5 u4 (UInt8.ofNat N.length :: Fm.encs N) := by rw [List.take_of_length_le (Nat.le_refl _)] at hown; exact hown
      rw [List.take_of_length_le (Nat.le_refl _)] at hlen
      have HOWN := Lib.hid hown'
      have HWH := Lib.hid hwh
      clear hown hown' hwh hp
      go_wp2_with fail
      refine (refDigits_any D.length (by omega) 2 (by omega) wr).mono ?_
      rintro e w3 ⟨A3, c3, rfl, hown3, hb3⟩
      have hs3 := hown3.sl
      have hz3 := hb3.size
      have hk3 : w3.cell? ⟨w.heap.size, 1, none⟩ = some (.slice A2 D.length c2) := (HWH.out.below hb3 (by omega)).cell 1
      have hbb := hb.trans (hb3.mono (by omega))
      have HO3 := Lib.hid (HOWN.out.below hb3)
      clear hown3
      have tok : True := trivial
      go_wp2_with (first | (at_builtin; have _t := tok; refine wpList_append_sl rfl _ (.tmp 55) rfl rowB (w.heap.size + 1) _ _ rfl HO3.out w3.heap.size _ (Fm.digs D.length 2) rfl hs3 (by rw [Fm.digs_length]; unfold maxLen; simp at hlen ⊢; omega) (by rw [Fm.digs_length]; simp at hlen ⊢; omega) (by omega) ?_; intro v4 w4 hown4 hg4 hat4; have hb34 := below_of_own (Below.refl _ _) HO3.out hg4 (by omega); have hk4 : w4.cell? ⟨w.heap.size, 1, none⟩ = some (.slice A2 D.length c2) := (hb34.cell (by simp)).trans hk3; clear hg4 hat4 tok; have hbb4 := hbb.trans (hb34.mono (by omega)); have hd4 := Lib.hid (hD0.out w4 hbb4); have hz4 := hb34.size; have HO4 := Lib.hid (hown4.down (base' := w.heap.size) (by omega)); clear hown4) | (at_builtin; refine wpList_append_sl rfl _ (.tmp 59) rfl rowB w.heap.size _ _ rfl HO4.out B _ D rfl hd4.out (by unfold maxLen; simp [Fm.digs_length] at hlen ⊢; omega) (by simp [Fm.digs_length] at hlen ⊢; omega) (by omega) ?_; intro v5 w5 hown5 hg5 hat5; have hb5 := below_of_own hbb4 HO4.out hg5 (by omega); clear hg5 hat5))
      go_ret2
      rw [HP.out]
      have e : UInt8.ofNat N.length :: Fm.encs N ++ Fm.digs D.length 2 ++ D = Fm.bytes N D := by simp [Fm.bytes]
      rw [e] at hown5
      obtain ⟨A5, c5, rfl, _, _⟩ := hown5.sl.form
      exact ⟨A5, c5, rfl, hown5, hb5⟩

theorem refPack_any (sN sD : Value) (N : List Int) (D : List UInt8) (w : World) (B : Nat) (hB : B ≤ w.heap.size) (hN : Sl w B sN N) (hD : Sl w B sD D) :
    Calls Tryd.prog 43 #[.agg #[sN, sD]] w (PackOut w (Fm.pack N D)) := by
  by_cases h : 255 < N.length ∨ 4096 < D.length
  · exact refPack_big sN sD N D w B hN hD h
  · exact refPack_small sN sD N D w B hB hN hD h
end Go.Proofs.YtcacebkbfnnjbaaDoor
