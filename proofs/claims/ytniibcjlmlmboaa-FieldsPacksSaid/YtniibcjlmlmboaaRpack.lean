/-
  What the reference's Pack answers.
-/
import Derived.Test.YtniibcjlmlmboaaRdigs
import Derived.Test.YtniibcjlmlmboaaPack
namespace Go.Proofs.Ytniibcjlmlmboaa
open Go.RowKit

set_option maxRecDepth 100000 in
theorem refPack_big (sN sD : Value) (N : List Int) (D : List UInt8) (w : World) (B : Nat) (hN : Sl w B sN N) (hD : Sl w B sD D) (h : 255 < N.length ∨ 4096 < D.length) :
    Calls Try.prog 13 #[.agg #[sN, sD]] w (PackOut w (Fm.pack N D)) := by
  rw [pack_full h]
  obtain ⟨A, c, rfl, _, hm⟩ := hN.form
  obtain ⟨A2, c2, rfl, _, hm2⟩ := hD.form
  unfold maxLen at hm hm2
  clear hN hD
  generalize N.length = n at *
  generalize D.length = d at *
  by_cases h1 : 255 < n
  · clear h
    go_enter Try.func13, Try.ntmps13
    go_wp2_with fail
    go_ret2
    exact packOut_err _ _ _ ((Below.refl _ _).alloc (Nat.le_refl _) _)
  · have h2 : 4096 < d := by omega
    clear h
    go_enter Try.func13, Try.ntmps13
    go_wp2_with fail
    go_ret2
    exact packOut_err _ _ _ ((Below.refl _ _).alloc (Nat.le_refl _) _)

theorem encs_take_le2 (N : List Int) (k : Nat) (h : MayTo N k) (hl : N.length ≤ 255) : (Fm.encs (N.take k)).length ≤ 2040 := by
  have h1 : ∀ n ∈ N.take k, Fm.may n := fun n hn => by
    obtain ⟨i, hi, rfl⟩ := List.getElem_of_mem hn
    rw [List.length_take] at hi
    rw [List.getElem_take]
    exact h i (by omega) (by omega)
  have := encs_take_le (N.take k) k h1 (by rw [List.length_take]; omega)
  rwa [List.take_take, Nat.min_self] at this

set_option maxRecDepth 100000 in
set_option maxHeartbeats 1000000 in
theorem refPack_small (sN sD : Value) (N : List Int) (D : List UInt8) (w : World) (B : Nat) (hB : B ≤ w.heap.size) (hN : Sl w B sN N) (hD : Sl w B sD D) (h : ¬ (255 < N.length ∨ 4096 < D.length)) :
    Calls Try.prog 13 #[.agg #[sN, sD]] w (PackOut w (Fm.pack N D)) := by
  have hbad := Lib.hid (fun h2 => pack_arg (N := N) (D := D) h h2)
  have hgood := Lib.hid (fun h2 => Fm.pack_of (N := N) (D := D) (by omega) (by omega) h2)
  obtain ⟨A, c, rfl, _, hm⟩ := hN.form
  obtain ⟨A2, c2, rfl, _, hm2⟩ := hD.form
  have hb0 : Below w.heap.size w (w.alloc (.cells #[.slice A N.length c, .slice A2 D.length c2] 25)) := (Below.refl _ _).alloc (Nat.le_refl _) _
  have hl1 : N.length ≤ 255 := by omega
  have hl2 : D.length ≤ 4096 := by omega
  have hN0 := Lib.hid (fun W (hW : Below w.heap.size w W) => hN.below (hW.mono hB))
  have hD0 := Lib.hid (fun W (hW : Below w.heap.size w W) => hD.below (hW.mono hB))
  have hW0 := Lib.hid (Whole.new w 25 #[.slice A N.length c, .slice A2 D.length c2])
  have hb1 : Below w.heap.size w ((w.alloc (.cells #[.slice A N.length c, .slice A2 D.length c2] 25)).alloc (.cells #[.int .u8 (N.length : Int)] 5)) := hb0.alloc (by simp) _
  have ho1 := Own.new1 (w.alloc (.cells #[.slice A N.length c, .slice A2 D.length c2] 25)) (w.heap.size + 1) 5 (UInt8.ofNat N.length) #[.int .u8 (N.length : Int)] trivial (u8_cell rfl (by omega)) (by simp)
  rw [World.size_alloc] at ho1
  have hw1 := hW0.out.alloc (.cells #[.int .u8 (N.length : Int)] 5)
  have HB1 := Lib.hid hb1
  have HO1 := Lib.hid ho1
  have HW1 := Lib.hid hw1
  clear hb1 ho1 hw1 hW0 hb0
  clear h hN hD
  go_enter Try.func13, Try.ntmps13
  go_wp2_with fail
  go_loopw [4, 5] (fun x i wr => ∃ k : Nat, k ≤ N.length ∧ MayTo N k ∧ i = .int .i64 k ∧ Own wr (w.heap.size + 1) 5 x (UInt8.ofNat N.length :: Fm.encs (N.take k)) ∧ Whole wr w.heap.size 25 #[.slice A N.length c, .slice A2 D.length c2] ∧ Below w.heap.size w wr) (fun _ i _ => N.length - (intOf i).toNat)
  case atStart => exact ⟨0, Nat.zero_le _, mayTo_zero N, rfl, HO1.out, HW1.out, HB1.out⟩
  case round =>
    obtain ⟨j, hj, hmt, rfl, hown, hwh, hb⟩ := hrel
    have hlen : (UInt8.ofNat N.length :: Fm.encs (N.take j)).length ≤ 2041 := by have := encs_take_le2 N j hmt hl1; simp; omega
    have hz := hb.size
    have hk0 : wr.cell? ⟨w.heap.size, 0, none⟩ = some (.slice A N.length c) := hwh.cell 0
    have hk1 : wr.cell? ⟨w.heap.size, 1, none⟩ = some (.slice A2 D.length c2) := hwh.cell 1
    have hlw := hwh.lt
    by_cases hlt2 : j < N.length
    · obtain ⟨b, off, rfl, _, hc, hg1, hg2⟩ := (hN0.out wr hb).int j hlt2
      by_cases hmay : Fm.may N[j]
      · have hs : Fm.size N[j] = (Fm.sz (N[j]).toNat : Int) := by unfold Fm.size; rw [if_pos hmay]
        have hz7 := Fm.sz_le7 (Fm.toNat_lt hmay)
        have htl := Fm.toNat_lt hmay
        have hsn := encs_take_succ N j hlt2
        have henc : Fm.enc N[j] = UInt8.ofNat (Fm.sz (N[j]).toNat) :: Fm.digs (N[j]).toNat (Fm.sz (N[j]).toNat) := rfl
        rw [henc] at hsn
        have HMT := Lib.hid (mayTo_succ hmt hlt2 hmay)
        have HS := fun W => refSize_any N[j] hg1 hg2 W
        simp only [hs] at HS
        clear henc hs hg1 hg2 hmt
        have hx : N[j] = ((N[j]).toNat : Int) := by unfold Fm.may at hmay; omega
        generalize (N[j]).toNat = m at *
        rw [hx] at hc
        simp only [hx] at HS
        have HS2 := Lib.hid HS
        have HSN := Lib.hid hsn
        clear hx HS hsn hmay
        generalize Fm.sz m = z at *
        have HOWN := Lib.hid hown
        have HWH := Lib.hid hwh
        clear hown hwh
        go_wp2_with fail
        refine (HS2.out _).mono ?_
        rintro e w' ⟨rfl, hw⟩
        subst hw
        go_wp2_with (at_builtin; refine wpList_append_sl rfl _ (.tmp 40) rfl rowB (w.heap.size + 1) _ _ rfl (HOWN.out.alloc _) (wr.heap.size + 1) _ [UInt8.ofNat z] rfl (Sl.new1 wr _ _ _ trivial (u8_cell rfl (by omega))) (by unfold maxLen; simp at hlen ⊢; omega) (by simp at hlen ⊢; omega) (by simp; omega) ?_; intro v2 w2 hown2 hg2 hat2; have hb2 := below_of_own ((Below.refl _ _).alloc (by omega) _) (HOWN.out.alloc _) hg2 (by simp; omega); have HO2 := Lib.hid hown2; have hq0 : w2.cell? ⟨w.heap.size, 0, none⟩ = some (.slice (some ⟨b, off, none⟩) N.length c) := (hb2.cell (by simp)).trans hk0; have hq1 : w2.cell? ⟨b, off + j, none⟩ = some (.int .i64 (m : Int)) := (hb2.cell (by simp; omega)).trans hc; clear hg2 hat2 hown2)
        have hz2 := hb2.size
        refine (refDigits_any m htl z hz7 w2).mono ?_
        rintro e w3 ⟨A3, c3, rfl, hown3, hb3⟩
        have hs3 := hown3.sl
        have hz3 := hb3.size
        have HO3 := Lib.hid (HO2.out.below hb3)
        have hb23 := hb2.trans (hb3.mono (by omega))
        have hfl : (Fm.digs m z).length = z := Fm.digs_length m z
        have HFL := Lib.hid hfl
        clear hown3 hfl
        go_wp2_with (at_builtin; refine wpList_append_sl rfl _ (.tmp 49) rfl rowB (w.heap.size + 1) _ _ rfl HO3.out w3.heap.size _ (Fm.digs m z) rfl hs3 (by rw [HFL.out]; unfold maxLen; simp at hlen ⊢; omega) (by rw [HFL.out]; simp at hlen ⊢; omega) (by omega) ?_; intro v4 w4 hown4 hg4 hat4; have hb4 := below_of_own hb23 HO3.out hg4 (by omega); clear hg4 hat4)
        go_roundw
        case rel =>
          refine ⟨j + 1, hlt2, HMT.out, by go_num, ?_, HWH.out.below hb4 (by omega), hb.trans (hb4.mono (by omega))⟩
          rw [HSN.out]
          simpa using hown4
        case measure => simp [intOf]; omega
      · have hp := hbad.out (fun h => hmay (h _ (List.getElem_mem hlt2)))
        have hs : Fm.size N[j] = -1 := by unfold Fm.size; rw [if_neg hmay]
        have HS := fun W => refSize_any N[j] hg1 hg2 W
        simp only [hs] at HS
        have HS2 := Lib.hid HS
        have HP := Lib.hid hp
        clear HS hs hp hmay hown hwh
        generalize N[j] = x at *
        go_wp2_with fail
        refine (HS2.out _).mono ?_
        rintro e w' ⟨rfl, hw⟩
        subst hw
        go_wp2_with fail
        go_ret2
        rw [HP.out]
        exact packOut_err _ _ _ hb
    · obtain rfl : j = N.length := by omega
      have hp := hgood.out (mayTo_all hmt (Nat.le_refl _))
      have HP := Lib.hid hp
      have hown' : Own wr (w.heap.size + 1) 5 u4 (UInt8.ofNat N.length :: Fm.encs N) := by rw [List.take_of_length_le (Nat.le_refl _)] at hown; exact hown
      rw [List.take_of_length_le (Nat.le_refl _)] at hlen
      have HOWN := Lib.hid hown'
      have HWH := Lib.hid hwh
      clear hown hown' hwh hp
      go_wp2_with fail
      refine (refDigits_any D.length (by omega) 2 (by omega) wr).mono ?_
      rintro e w3 ⟨A3, c3, rfl, hown3, hb3⟩
      have hs3 := hown3.sl
      have hz3 := hb3.size
      have hk3 : w3.cell? ⟨w.heap.size, 1, none⟩ = some (.slice A2 D.length c2) := (HWH.out.below hb3 (by omega)).cell 1
      have hbb := hb.trans (hb3.mono (by omega))
      have HO3 := Lib.hid (HOWN.out.below hb3)
      clear hown3
      have tok : True := trivial
      go_wp2_with (first | (at_builtin; have _t := tok; refine wpList_append_sl rfl _ (.tmp 55) rfl rowB (w.heap.size + 1) _ _ rfl HO3.out w3.heap.size _ (Fm.digs D.length 2) rfl hs3 (by rw [Fm.digs_length]; unfold maxLen; simp at hlen ⊢; omega) (by rw [Fm.digs_length]; simp at hlen ⊢; omega) (by omega) ?_; intro v4 w4 hown4 hg4 hat4; have hb34 := below_of_own (Below.refl _ _) HO3.out hg4 (by omega); have hk4 : w4.cell? ⟨w.heap.size, 1, none⟩ = some (.slice A2 D.length c2) := (hb34.cell (by simp)).trans hk3; clear hg4 hat4 tok; have hbb4 := hbb.trans (hb34.mono (by omega)); have hd4 := Lib.hid (hD0.out w4 hbb4); have hz4 := hb34.size; have HO4 := Lib.hid (hown4.down (base' := w.heap.size) (by omega)); clear hown4) | (at_builtin; refine wpList_append_sl rfl _ (.tmp 59) rfl rowB w.heap.size _ _ rfl HO4.out B _ D rfl hd4.out (by unfold maxLen; simp [Fm.digs_length] at hlen ⊢; omega) (by simp [Fm.digs_length] at hlen ⊢; omega) (by omega) ?_; intro v5 w5 hown5 hg5 hat5; have hb5 := below_of_own hbb4 HO4.out hg5 (by omega); clear hg5 hat5))
      go_ret2
      rw [HP.out]
      have e : UInt8.ofNat N.length :: Fm.encs N ++ Fm.digs D.length 2 ++ D = Fm.bytes N D := by simp [Fm.bytes]
      rw [e] at hown5
      obtain ⟨A5, c5, rfl, _, _⟩ := hown5.sl.form
      exact ⟨A5, c5, rfl, hown5, hb5⟩

theorem refPack_any (sN sD : Value) (N : List Int) (D : List UInt8) (w : World) (B : Nat) (hB : B ≤ w.heap.size) (hN : Sl w B sN N) (hD : Sl w B sD D) :
    Calls Try.prog 13 #[.agg #[sN, sD]] w (PackOut w (Fm.pack N D)) := by
  by_cases h : 255 < N.length ∨ 4096 < D.length
  · exact refPack_big sN sD N D w B hN hD h
  · exact refPack_small sN sD N D w B hB hN hD h
end Go.Proofs.Ytniibcjlmlmboaa
