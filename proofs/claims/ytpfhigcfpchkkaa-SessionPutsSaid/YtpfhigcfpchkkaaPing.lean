/-
  slices.Insert of sessions ahead of the end, where there is no room: a new row; and all ways in one.
-/
import Derived.Test.YtpfhigcfpchkkaaPinr
namespace Go.Proofs.Ytpfhigcfpchkkaa
open Go.RowKit

set_option maxRecDepth 100000 in
theorem insert_grow (g n : Nat) (l : List Se) (base : Nat) (w : World) (hbase : base ≤ w.heap.size) (hown : Own w base 37 (.slice (some ⟨g, 0, none⟩) n n) l) (hlen : l.length ≤ 100000) (i : Nat) (hi : i < n) (z : Se) (hz : Flat.wf z) (vb : Nat) (hvb : Whole w vb 37 (sc z)) :
    Calls Try.prog 23 #[.slice (some ⟨g, 0, none⟩) n n, .int .i64 i, .slice (some ⟨vb, 0, none⟩) 1 1] w (InsOut w base (l.take i ++ [z] ++ l.drop i)) := by
  have hnl := hown.sl.room.1
  have hwf := hown.2
  obtain ⟨hxl, ho⟩ := hown.1
  rcases ho with ⟨h, _⟩ | ⟨g', cap, cur, h, hbg, hg, hnc, hcm, hcs, htake⟩
  · cases h
  simp only [Value.slice.injEq, Option.some.injEq, Addr.mk.injEq, and_true] at h
  obtain ⟨rfl, -, rfl⟩ := h
  clear hcm
  have hcl : (cells l).length = n * 3 := by rw [hxl, hnl]; rfl
  rw [hnl] at htake
  have htake : cur.toList.take (n * 3) = cells l := htake
  have hcs : cur.size = n * 3 := hcs
  have hgs : g < w.heap.size := by
    rcases Nat.lt_or_ge g w.heap.size with h | h
    · exact h
    · rw [Array.getElem?_eq_none h] at hg; cases hg
  have hold : ∀ j u, (cells l)[j]? = some u → w.cell? ⟨g, j, none⟩ = some u := fun j u h => by
    have hj : j < n * 3 := by rw [← hcl]; exact (List.getElem?_eq_some_iff.1 h).1
    rw [cell_of_row w g j cur _ _ hg]
    rw [← htake, List.getElem?_take, if_pos hj] at h
    simpa using h
  have hdl : ((cells l).drop (i * 3)).length = (n - i) * 3 := by rw [List.length_drop, hcl, Nat.sub_mul]
  have htl : ((cells l).take (i * 3)).length = i * 3 := by rw [List.length_take, hcl]; omega
  obtain ⟨info, hinfo, hiz, hisz, hiby⟩ := info_parts (show (Try.prog.info? 37).map (fun i => (i.zero, i.size, i.bytes)) = some (some (.agg #[.int .i64 0, .int .i64 0, .int .i64 0]), 3, 24) by kernel_rfl)
  have hfc : (Builtin.firstCells info.size i (.slice (some ⟨g, 0, none⟩) i n)).run Try.prog w.drew = .ok ((cells l).take (i * 3)).toArray w.drew := by
    rw [hisz]
    exact run_firstCells_some w.drew 3 i ⟨g, 0, none⟩ i n ((cells l).take (i * 3)) htl (fun j u hj => by
      rw [add_at, Nat.zero_add]
      rw [List.getElem?_take] at hj
      split at hj
      · exact hold j u hj
      · cases hj)
  obtain ⟨G, hG⟩ : ∃ G, G = grownCap w (n + 1) n 37 := ⟨_, rfl⟩
  have hGn : n + 1 ≤ G := by rw [hG]; exact grownCap_ge w _ _ _
  have hGm : G ≤ maxLen := by rw [hG]; exact grownCap_le_maxLen w (n + 1) n _ (by unfold maxLen; omega)
  obtain ⟨ROW, hROW⟩ : ∃ ROW : Array Value, ROW = ((cells l).take (i * 3)).toArray ++ Builtin.zeroCells (Value.agg #[.int .i64 0, .int .i64 0, .int .i64 0]).cells (n + 1 - i) ++ Builtin.zeroCells (Value.agg #[.int .i64 0, .int .i64 0, .int .i64 0]).cells (G - (n + 1)) := ⟨_, rfl⟩
  have hzs : (Value.agg #[.int .i64 0, .int .i64 0, .int .i64 0]).cells.size = 3 := rfl
  have hRs : ROW.size = G * 3 := by
    rw [hROW, Array.size_append, Array.size_append, size_zeroCells, size_zeroCells, hzs, List.size_toArray, htl]
    omega
  have hRh : ∀ k, k < i * 3 → ROW.toList[k]? = (cells l)[k]? := fun k hk => by
    rw [hROW, Array.toList_append, Array.toList_append, List.append_assoc, List.getElem?_append_left (by rw [htl]; exact hk), List.getElem?_take, if_pos hk]
  obtain ⟨W1, hW1⟩ : ∃ W1, W1 = w.drew.alloc (.cells ROW 37) := ⟨_, rfl⟩
  have hrz : ∀ ty, (Builtin.append_ #[22, 3] ty #[.slice (some ⟨g, 0, none⟩) i n, .int .i64 ((n : Int) + 1 - (i : Int))]).run Try.prog w = .ok (.slice (some ⟨w.heap.size, 0, none⟩) (n + 1) G) W1 := fun ty => by
    have h := Lib.run_append_grow_zeros (P := Try.prog) w 22 3 ty 37 info _ .i64 .i64 Try.underlying22 Try.underlying3 hinfo hiz (some ⟨g, 0, none⟩) i n ((cells l).take (i * 3)) hfc (n + 1 - i) (by omega) (by omega) (by omega) (by omega) (by rw [hiby]; omega) (by rw [hiby, show i + (n + 1 - i) = n + 1 by omega]; exact growslice_fits (by omega) (by omega))
    rw [show i + (n + 1 - i) = n + 1 by omega, ← hG, ← hROW, ← hW1] at h
    rw [show ((n : Int) + 1 - (i : Int)) = ((n + 1 - i : Nat) : Int) by omega]
    exact h
  have hg1 : W1.heap[w.heap.size]? = some (.cells ROW 37 (0, 0)) := by rw [hW1]; exact heap_alloc_new w.drew _
  have hb1 : Below base w W1 := by rw [hW1]; exact (Below.refl base w).drew.alloc hbase _
  have hbw : Below w.heap.size w W1 := by rw [hW1]; exact (Below.refl w.heap.size w).drew.alloc (Nat.le_refl _) _
  have hv1 : Whole W1 vb 37 (sc z) := hvb.below hbw hvb.lt
  obtain ⟨W2, hW2⟩ : ∃ W2, W2 = W1.setCells w.heap.size (i * 3) (sc z).toList := ⟨_, rfl⟩
  have hcp1 : ∀ ty dc, (Builtin.copy_ #[22, 22] ty #[.slice (some ⟨w.heap.size, i * 3, none⟩) (n + 1 - i) dc, .slice (some ⟨vb, 0, none⟩) 1 1]).run Try.prog W1 = .ok (goInt (Nat.min 1 (n + 1 - i))) W2 := fun ty dc => by
    rw [hW2]
    refine run_copy_k W1 _ _ ty 37 w.heap.size (i * 3) (n + 1 - i) dc ⟨vb, 0, none⟩ 1 1 3 (sc z).toList Try.underlying22 info_s ?_ ?_ ?_ ?_ ?_
    · simp only [Nat.min_def]; split
      · rfl
      · omega
    · intro j u hj
      rw [add_at, Nat.zero_add, hv1.cell]
      simpa using hj
    · intro j hj
      have hj : j < 3 := hj
      rw [cell_of_row W1 _ _ _ _ _ hg1, Array.getElem?_eq_getElem (by omega)]
      rfl
    · intro j hj
      exact frozen_of_row W1 _ _ _ _ hg1
    · intro u hu
      simp at hu
      rcases hu with rfl | rfl | rfl <;> rfl
  have hg2 : W2.heap[w.heap.size]? = some (.cells (patch ROW.toList (i * 3) (sc z).toList).toArray 37 (0, 0)) := by
    rw [hW2]
    exact heap_setCells _ _ (sc z).toList (i * 3) W1 _ hg1 (by show _ + 3 ≤ _; omega)
  have hpl : (patch ROW.toList (i * 3) (sc z).toList).length = G * 3 := by
    rw [patch_len _ _ _ (by rw [Array.length_toList (xs := ROW)]; show _ + 3 ≤ _; omega), Array.length_toList (xs := ROW), hRs]
  have hb2 : Below base w W2 := by rw [hW2]; exact below_setCells hb1 hbase _ _
  have hbw2 : Below w.heap.size w W2 := by rw [hW2]; exact below_setCells hbw (Nat.le_refl _) _ _
  obtain ⟨W3, hW3⟩ : ∃ W3, W3 = W2.drew.setCells w.heap.size ((i + 1) * 3) ((cells l).drop (i * 3)) := ⟨_, rfl⟩
  have hcp2 : ∀ ty dc sc, (Builtin.copy_ #[22, 22] ty #[.slice (some ⟨w.heap.size, (i + 1) * 3, none⟩) (n - i) dc, .slice (some ⟨g, i * 3, none⟩) (n - i) sc]).run Try.prog W2.drew = .ok (goInt (Nat.min (n - i) (n - i))) W3 := fun ty dc sc => by
    rw [hW3]
    refine run_copy_k W2.drew _ _ ty 37 w.heap.size ((i + 1) * 3) (n - i) dc ⟨g, i * 3, none⟩ (n - i) sc 3 ((cells l).drop (i * 3)) Try.underlying22 info_s ?_ ?_ ?_ ?_ ?_
    · rw [hdl]; congr 1; simp only [Nat.min_def]; split <;> omega
    · intro j u hj
      rw [add_at]
      refine (Below.cell hbw2.drew (p := ⟨g, i * 3 + j, none⟩) hgs).trans ?_
      exact hold _ u (by rwa [List.getElem?_drop] at hj)
    · intro j hj
      rw [cell_of_row W2.drew _ _ _ _ _ hg2]
      simp only [List.getElem?_toArray]
      rw [List.getElem?_eq_getElem (by rw [show (patch ROW.toList (i * 3) _).length = G * 3 from hpl]; omega)]
      rfl
    · intro j hj
      exact frozen_of_row W2.drew _ _ _ _ hg2
    · intro u hu
      exact cells_one l u (List.mem_of_mem_drop hu)
  have hb3 : Below base w W3 := by rw [hW3]; exact below_setCells hb2.drew hbase _ _
  have hg3 : W3.heap[w.heap.size]? = some (.cells (patch (patch ROW.toList (i * 3) (sc z).toList) ((i + 1) * 3) ((cells l).drop (i * 3))).toArray 37 (0, 0)) := by
    rw [hW3]
    have := heap_setCells w.heap.size 37 ((cells l).drop (i * 3)) ((i + 1) * 3) W2.drew _ hg2 (by rw [List.size_toArray, hpl, hdl]; omega)
    simpa using this
  have hnew : Own W3 base 37 (.slice (some ⟨w.heap.size, 0, none⟩) (n + 1) G) (l.take i ++ [z] ++ l.drop i) := by
    have hll : (l.take i ++ [z] ++ l.drop i).length = n + 1 := by simp; omega
    have hwf2 : ∀ a ∈ l.take i ++ [z] ++ l.drop i, Flat.wf a := by
      intro a ha
      rcases List.mem_append.1 ha with ha | ha
      · rcases List.mem_append.1 ha with ha | ha
        · exact hwf a (List.mem_of_mem_take ha)
        · rw [List.mem_singleton.1 ha]; exact hz
      · exact hwf a (List.mem_of_mem_drop ha)
    refine ⟨⟨cells_len _ hwf2, .inr ⟨w.heap.size, G, _, by rw [hll], hbase, hg3, by omega, hGm, ?_, ?_⟩⟩, hwf2⟩
    · show (patch _ _ _).toArray.size = G * 3
      simp only [List.size_toArray]
      rw [patch_len _ _ _ (by rw [hpl]; omega), hpl]
    · rw [hll, cells_append, cells_append, cells_take l hwf i (by omega), cells_drop l hwf i (by omega)]
      have h3 : cells [z] = (sc z).toList := by simp [cells]; exact sc_enc z
      rw [h3]
      have := (laid_in (R := ROW.toList) (cs := cells l) (vc := (sc z).toList) (a := i * 3) (n := n * 3) (by rw [Array.length_toList (xs := ROW)]; show _ + 3 ≤ _; omega) (by omega) hcl hRh).2
      have e1 : (i + 1) * 3 = i * 3 + (sc z).toList.length := by show _ = _ + 3; omega
      have e2 : (n + 1) * Rep.sz Se = n * 3 + (sc z).toList.length := by show (n + 1) * 3 = _ + 3; omega
      rw [e1, e2]
      exact this
  have HN := Lib.hid hnew
  have HB := Lib.hid hb3
  unfold maxLen at hGm
  have hsA := fun W => run_from_g g n n i (i : Int) rfl (by omega) (by omega) W
  have hsE := fun W => run_upto_g g n n i (i : Int) rfl (by omega) W
  have hsB := fun W => run_from_g w.heap.size (n + 1) G i (i : Int) rfl (by omega) (by omega) W
  have hsC := fun W => run_from_g w.heap.size (n + 1) G (i + 1) ((i : Int) + 1) (by omega) (by omega) (by omega) W
  rw [Nat.add_sub_add_right] at hsC
  have d1 : ((i : Int) == (n : Int)) = false := by simp; omega
  have hw1 : IntKind.i64.wrap ((i : Int) + 1) = (i : Int) + 1 := by rw [IntKind.wrap_i64]; omega
  have hw2 : IntKind.i64.wrap ((n : Int) + 1) = (n : Int) + 1 := by rw [IntKind.wrap_i64]; omega
  have HCP1 := Lib.hid hcp1
  have HCP2 := Lib.hid hcp2
  have HRZ := Lib.hid hrz
  clear hrz hcp1 hcp2 hnew hb3 hg3 hW3 hb2 hbw2 hg2 hW2 hpl hg1 hv1 hb1 hbw hW1 hdl hold htake hcs hcl hg hxl hwf hnl hown hz hvb htl hfc hG hROW hRs hRh hinfo hiz hisz hiby hzs
  generalize w.heap.size = N at *
  go_enter Try.func23, Try.ntmps23
  go_wp2_with (first
    | (at_builtin; refine Lib.wpList_append_run _ rfl _ _ _ _ rfl _ _ rfl rfl _ _ (HRZ.out _) ?_)
    | (refine wpList_copy_k _ rfl _ _ 22 22 rfl _ _ rfl rfl (HCP1.out _ _) ?_))
  go_still_tail 8, (by kernel_rfl)
  change wpList _ _ _ _ _ W2.drew
  generalize W2.drew = wd at *
  refine wpList_copy_k _ rfl _ _ 22 22 rfl _ _ rfl rfl (HCP2.out _ _ _) ?_
  go_wp2_with fail
  go_ret
  exact insOut_of HN.out HB.out

/-- slices.Insert, wherever the element goes. -/
theorem insert_any (v : Value) (l : List Se) (base : Nat) (w : World) (hbase : base ≤ w.heap.size) (hown : Own w base 37 v l) (hlen : l.length ≤ 100000) (i : Nat) (hi : i ≤ l.length) (z : Se) (hz : Flat.wf z) (vb : Nat) (hvb : Whole w vb 37 (sc z)) (hne : v.ownBlock ≠ some vb) :
    Calls Try.prog 23 #[v, .int .i64 i, .slice (some ⟨vb, 0, none⟩) 1 1] w (InsOut w base (l.take i ++ [z] ++ l.drop i)) := by
  rcases Nat.lt_or_ge i l.length with h | h
  · obtain ⟨A, c, rfl, hc, hm⟩ := hown.sl.form
    obtain ⟨g, rfl, _⟩ := hown.at_ (by omega)
    rcases Nat.lt_or_ge l.length c with h2 | h2
    · exact insert_room g l.length c l base w hbase hown hlen i h h2 z hz vb hvb (fun e => hne (by rw [e]; rfl))
    · obtain rfl : c = l.length := by omega
      exact insert_grow g l.length l base w hbase hown hlen i h z hz vb hvb
  · obtain rfl : i = l.length := by omega
    have := insert_end v l base w hbase hown hlen z hz vb hvb
    rw [List.take_length, List.drop_length, List.append_nil]
    exact this
end Go.Proofs.Ytpfhigcfpchkkaa
