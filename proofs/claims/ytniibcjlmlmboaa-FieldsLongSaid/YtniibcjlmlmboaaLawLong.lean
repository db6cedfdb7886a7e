/-
  Fields need one byte for each number, and as many as it needs, and three more, and their data: what the law's text comes to.
-/
import Derived.Test.YtniibcjlmlmboaaAwk
namespace Go.Proofs.Ytniibcjlmlmboaa
open Go.RowKit

theorem sum_take_succ (N : List Int) (k : Nat) (h : k < N.length) : ((N.take (k + 1)).map fun n => Fm.sz n.toNat).sum = ((N.take k).map fun n => Fm.sz n.toNat).sum + Fm.sz (N[k]).toNat := by
  rw [List.take_succ_eq_append_getElem h, List.map_append, List.sum_append]
  simp

set_option maxRecDepth 100000 in
theorem long_law (w : World) (sN sD : Value) (N : List Int) (D : List UInt8) (hN : Sl w w.heap.size sN N) (hD : Sl w w.heap.size sD D) :
    Calls Try.prog 10 #[.agg #[sN, sD]] w fun e w' => e = .returned (.bool true) ∧ Below w.heap.size w w' := by
  obtain ⟨A, c, rfl, hc1, hm⟩ := hN.form
  obtain ⟨A2, c2, rfl, hc2, hm2⟩ := hD.form
  unfold maxLen at hm hm2
  have hb0 : Below w.heap.size w (w.alloc (.cells #[.slice A N.length c, .slice A2 D.length c2] 25)) := (Below.refl _ _).alloc (Nat.le_refl _) _
  have HK := Lib.hid (awake_any (w.alloc (.cells #[.slice A N.length c, .slice A2 D.length c2] 25)))
  have HW := Lib.hid (Whole.new w 25 #[.slice A N.length c, .slice A2 D.length c2])
  have HP := Lib.hid (fun W (hb : Below w.heap.size w W) => pack_any _ _ N D W w.heap.size hb.size (hN.below hb) (hD.below hb))
  have HN := Lib.hid (fun W (hb : Below w.heap.size w W) => (hN.below hb))
  have hgood : (Fm.pack N D).2 = 0 → (Fm.pack N D).1.length = 3 + D.length + N.length + (N.map fun n => Fm.sz n.toNat).sum ∧ (∀ n ∈ N, Fm.may n) ∧ N.length ≤ 255 ∧ D.length ≤ 4096 := by
    intro h
    obtain ⟨e, g1, g2, g3⟩ := Fm.pack_ok (b := (Fm.pack N D).1) (by rw [← h])
    rw [e]
    exact ⟨Fm.bytes_length N D, g3, g1, g2⟩
  have hbad := @Fm.pack_err N D
  clear hN hD
  generalize hnl : N.length = nl at *
  generalize D.length = dl at *
  generalize Fm.pack N D = p at *
  obtain ⟨b, er⟩ := p
  simp only at hgood hbad HP
  have HNL := Lib.hid hnl
  clear hnl
  by_cases hout : 300 < nl ∨ 5000 < dl
  · clear hgood hbad
    rcases (show 300 < nl ∨ (nl ≤ 300 ∧ 5000 < dl) by omega) with h1 | ⟨h1, h2⟩
    all_goals
      clear hout
      go_enter Try.func10, Try.ntmps10
      go_wp2_with fail
      refine HK.out.mono ?_
      rintro e w1 ⟨rfl, hb1⟩
      have hW1 := HW.out.below hb1 (by simp)
      have k0 : w1.cell? ⟨w.heap.size, 0, none⟩ = some (.slice A nl c) := hW1.cell 0
      have k1 : w1.cell? ⟨w.heap.size, 1, none⟩ = some (.slice A2 dl c2) := hW1.cell 1
      have hb := hb0.trans (hb1.mono (by simp))
      clear hW1
      go_wp2_with fail
      go_ret
      exact ⟨rfl, hb⟩
  · have h1 : nl ≤ 300 := by omega
    have h2 : dl ≤ 5000 := by omega
    clear hout
    by_cases her : er = 0
    · subst her
      obtain ⟨hlen, hmay, hn255, hd4096⟩ := hgood rfl
      clear hgood hbad
      have HMAY := Lib.hid hmay
      have hsum : ∀ k, ((N.take k).map fun n => Fm.sz n.toNat).sum ≤ 1785 := fun k => by
        have := Fm.sum_le (N := N.take k) (fun n hn => hmay n (List.mem_of_mem_take hn))
        have h3 : (N.take k).length ≤ 255 := by rw [List.length_take, HNL.out]; omega
        omega
      have HSUM := Lib.hid hsum
      have HLEN := Lib.hid hlen
      clear hmay hsum hlen
      generalize hbl : b.length = bl at *
      have HBL := Lib.hid hbl
      clear hbl
      go_enter Try.func10, Try.ntmps10
      go_wp2_with fail
      refine HK.out.mono ?_
      rintro e w1 ⟨rfl, hb1⟩
      have hW1 := HW.out.below hb1 (by simp)
      have k0 : w1.cell? ⟨w.heap.size, 0, none⟩ = some (.slice A nl c) := hW1.cell 0
      have k1 : w1.cell? ⟨w.heap.size, 1, none⟩ = some (.slice A2 dl c2) := hW1.cell 1
      have hb := hb0.trans (hb1.mono (by simp))
      have HP1 := Lib.hid (HP.out w1 hb)
      have HW1 := Lib.hid hW1
      clear hW1
      go_wp2_with fail
      with_reducible refine HP1.out.mono ?_
      rintro e w2 ⟨A4, c4, rfl, ho4, hb2⟩
      simp only [HBL.out] at ho4 ⊢
      have hW2 := HW1.out.below hb2 HW1.out.lt
      have l0 : w2.cell? ⟨w.heap.size, 0, none⟩ = some (.slice A nl c) := hW2.cell 0
      have l1 : w2.cell? ⟨w.heap.size, 1, none⟩ = some (.slice A2 dl c2) := hW2.cell 1
      have hbw2 := hb.trans (hb2.mono hb.size)
      clear ho4 hW2 k0 k1 HP1 HP
      go_wp2_with fail
      go_loop [6, 7] (fun x i => ∃ k : Nat, k ≤ nl ∧ i = .int .i64 (k : Int) ∧ x = .int .i64 ((3 + dl + nl + ((N.take k).map fun n => Fm.sz n.toNat).sum : Nat) : Int)) (fun _ i => nl - (intOf i).toNat)
      case atStart => exact ⟨0, Nat.zero_le _, rfl, by simp⟩
      case round =>
        obtain ⟨k, hk, rfl, rfl⟩ := hrel
        have hs := HSUM.out k
        by_cases hlt : k < nl
        · have hkl : k < N.length := by have := HNL.out; omega
          have hst := Lib.hid (sum_take_succ N k hkl)
          obtain ⟨b', o', rfl, _, g1, g2, g3⟩ := (HN.out w2 hbw2).int k hkl
          have hm := HMAY.out _ (List.getElem_mem hkl)
          have hz7 := Fm.sz_le7 (Fm.toNat_lt hm)
          have hsz : Fm.size N[k] = (Fm.sz (N[k]).toNat : Int) := by unfold Fm.size; rw [if_pos hm]
          have h1 := fun W => size_any N[k] g2 g3 W
          rw [hsz] at h1
          have HS := Lib.hid h1
          clear h1 hsz hm g2 g3
          generalize Fm.sz (N[k]).toNat = z at *
          generalize N[k] = x at *
          generalize ((N.take k).map fun n => Fm.sz n.toNat).sum = s at *
          go_wp2_with fail
          refine (HS.out _).mono ?_
          rintro e w3 ⟨rfl, hw⟩
          subst hw
          go_wp2_with fail
          go_round
          case rel => exact ⟨k + 1, by omega, by go_num, by rw [hst.out]; congr 1; omega⟩
          case measure => simp [intOf]; omega
        · obtain rfl : k = nl := by omega
          have hl := HLEN.out
          have htk : N.take k = N := List.take_of_length_le (by have := HNL.out; omega)
          rw [htk] at hs ⊢
          have he : ((bl : Int) == ((3 + dl + k + (N.map fun n => Fm.sz n.toNat).sum : Nat) : Int)) = true := by rw [beq_iff_eq, hl]
          clear hl htk
          generalize 3 + dl + k + (N.map fun n => Fm.sz n.toNat).sum = t at *
          go_wp2_with fail
          go_ret
          exact ⟨rfl, hbw2⟩
    · have hb0l := hbad her
      subst hb0l
      have hne : (er != 0) = true := by simpa using her
      clear hbad hgood her
      go_enter Try.func10, Try.ntmps10
      go_wp2_with fail
      refine HK.out.mono ?_
      rintro e w1 ⟨rfl, hb1⟩
      have hW1 := HW.out.below hb1 (by simp)
      have k0 : w1.cell? ⟨w.heap.size, 0, none⟩ = some (.slice A nl c) := hW1.cell 0
      have k1 : w1.cell? ⟨w.heap.size, 1, none⟩ = some (.slice A2 dl c2) := hW1.cell 1
      have hb := hb0.trans (hb1.mono (by simp))
      have HP1 := Lib.hid (HP.out w1 hb)
      clear hW1
      go_wp2_with fail
      with_reducible refine HP1.out.mono ?_
      rintro e w2 ⟨A4, c4, rfl, ho4, hb2⟩
      go_wp2_with fail
      go_ret
      exact ⟨rfl, hb.trans (hb2.mono hb.size)⟩
end Go.Proofs.Ytniibcjlmlmboaa
