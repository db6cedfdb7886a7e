/-
  slices.Insert of sessions ahead of the end, where there is room: in place.
-/
import Derived.Test.YtpfhigcfpchkkaaPins
import Derived.Laws.Externs
namespace Go.Proofs.Ytpfhigcfpchkkaa
open Go.RowKit

theorem info_s : (Try.prog.info? 37).map (·.size) = some 3 := by kernel_rfl
set_option maxRecDepth 100000 in
theorem insert_room (g n c : Nat) (l : List Se) (base : Nat) (w : World) (_hbase : base ≤ w.heap.size) (hown : Own w base 37 (.slice (some ⟨g, 0, none⟩) n c) l) (hlen : l.length ≤ 100000) (i : Nat) (hi : i < n) (hroom : n + 1 ≤ c) (z : Se) (hz : Flat.wf z) (vb : Nat) (hvb : Whole w vb 37 (sc z)) (hne : vb ≠ g) :
    Calls Try.prog 23 #[.slice (some ⟨g, 0, none⟩) n c, .int .i64 i, .slice (some ⟨vb, 0, none⟩) 1 1] w (InsOut w base (l.take i ++ [z] ++ l.drop i)) := by
  have hnl := hown.sl.room.1
  have hwf := hown.2
  obtain ⟨hxl, ho⟩ := hown.1
  rcases ho with ⟨h, _⟩ | ⟨g', cap, cur, h, hbg, hg, hnc, hcm, hcs, htake⟩
  · cases h
  simp only [Value.slice.injEq, Option.some.injEq, Addr.mk.injEq, and_true] at h
  obtain ⟨rfl, -, rfl⟩ := h
  have hcm' := hcm
  unfold maxLen at hcm
  have hcl : (cells l).length = n * 3 := by rw [hxl, hnl]; rfl
  rw [hnl] at htake
  have htake : cur.toList.take (n * 3) = cells l := htake
  have hcs : cur.size = c * 3 := hcs
  -- what the cells hold
  have hcell : ∀ j, j < c * 3 → (w.cell? ⟨g, j, none⟩).isSome = true := fun j hj => by
    rw [cell_of_row w g j cur _ _ hg, Array.getElem?_eq_getElem (by omega)]; rfl
  have hfz : ∀ j, w.frozen? ⟨g, j, none⟩ = false := fun j => frozen_of_row w g j cur _ hg
  have hold : ∀ j u, (cells l)[j]? = some u → w.cell? ⟨g, j, none⟩ = some u := fun j u h => by
    have hj : j < n * 3 := by rw [← hcl]; exact (List.getElem?_eq_some_iff.1 h).1
    rw [cell_of_row w g j cur _ _ hg]
    rw [← htake, List.getElem?_take, if_pos hj] at h
    simpa using h
  have hdl : ((cells l).drop (i * 3)).length = (n - i) * 3 := by rw [List.length_drop, hcl, Nat.sub_mul]
  have hov : ∀ lb cb, (callFunc 26 #[.slice (some ⟨vb, 0, none⟩) 1 1, .slice (some ⟨g, (i + 1) * 3, none⟩) lb cb]).run Try.prog w = .ok (.value (.bool false)) w := fun lb cb => by
    rw [run_callFunc_extern Try.func26 (by kernel_rfl) (by kernel_rfl) (by kernel_rfl) (e := Extern.SlicesOverlaps.overlaps #[22, 22] #[4]) (by kernel_rfl),
      Lib.run_overlaps_apart w 22 4 37 Try.underlying22 3 size_s ⟨vb, 0, none⟩ ⟨g, (i + 1) * 3, none⟩ 1 1 lb cb hne 37 37 3 cur.size (by unfold Whole at hvb; simp [World.shape?, hvb]) (by simp [World.shape?, hg]) (by omega) (hvb.free 0) (hvb.free 3)]
    rfl
  obtain ⟨W1, hW1⟩ : ∃ W1, W1 = w.drew.setCells g ((i + 1) * 3) ((cells l).drop (i * 3)) := ⟨_, rfl⟩
  have hcp1 : ∀ ty dc sc, (Builtin.copy_ #[22, 22] ty #[.slice (some ⟨g, (i + 1) * 3, none⟩) (n - i) dc, .slice (some ⟨g, i * 3, none⟩) (n + 1 - i) sc]).run Try.prog w.drew = .ok (goInt (Nat.min (n + 1 - i) (n - i))) W1 := fun ty dc sc => by
    rw [hW1]
    refine run_copy_k w.drew _ _ ty 37 g ((i + 1) * 3) (n - i) dc ⟨g, i * 3, none⟩ (n + 1 - i) sc 3 ((cells l).drop (i * 3)) Try.underlying22 info_s ?_ ?_ ?_ ?_ ?_
    · rw [hdl]; congr 1; simp only [Nat.min_def]; split <;> omega
    · intro j u hj
      rw [add_at]
      exact hold _ u (by rwa [List.getElem?_drop] at hj)
    · intro j hj
      exact hcell _ (by omega)
    · intro j hj
      exact hfz _
    · intro u hu
      exact cells_one l u (List.mem_of_mem_drop hu)
  have hb1 : Below base w W1 := by rw [hW1]; exact below_setCells (Below.refl base w).drew hbg _ _
  have hv1 : Whole W1 vb 37 (sc z) := by
    unfold Whole
    rw [hW1, (setCells_rest g _ _ _).2.2.2.2 vb hne]
    exact hvb
  have hg1 : W1.heap[g]? = some (.cells (patch cur.toList ((i + 1) * 3) ((cells l).drop (i * 3))).toArray 37 (0, 0)) := by
    rw [hW1]
    exact heap_setCells g _ _ _ w.drew cur hg (by omega)
  have hpl : (patch cur.toList ((i + 1) * 3) ((cells l).drop (i * 3))).length = c * 3 := by
    rw [patch_len _ _ _ (by rw [Array.length_toList (xs := cur)]; omega), Array.length_toList (xs := cur), hcs]
  obtain ⟨W2, hW2⟩ : ∃ W2, W2 = W1.setCells g (i * 3) (sc z).toList := ⟨_, rfl⟩
  have hcp2 : ∀ ty dc, (Builtin.copy_ #[22, 22] ty #[.slice (some ⟨g, i * 3, none⟩) (n + 1 - i) dc, .slice (some ⟨vb, 0, none⟩) 1 1]).run Try.prog W1 = .ok (goInt (Nat.min 1 (n + 1 - i))) W2 := fun ty dc => by
    rw [hW2]
    refine run_copy_k W1 _ _ ty 37 g (i * 3) (n + 1 - i) dc ⟨vb, 0, none⟩ 1 1 3 (sc z).toList Try.underlying22 info_s ?_ ?_ ?_ ?_ ?_
    · simp only [Nat.min_def]; split
      · rfl
      · omega
    · intro j u hj
      rw [add_at, Nat.zero_add, hv1.cell]
      simpa using hj
    · intro j hj
      have hj : j < 3 := hj
      rw [cell_of_row W1 g _ _ _ _ hg1]
      simp only [List.getElem?_toArray]
      rw [List.getElem?_eq_getElem (by omega)]
      rfl
    · intro j hj
      exact frozen_of_row W1 g _ _ _ hg1
    · intro u hu
      simp at hu
      rcases hu with rfl | rfl | rfl <;> rfl
  have hb2 : Below base w W2 := by rw [hW2]; exact below_setCells hb1 hbg _ _
  have hg2 : W2.heap[g]? = some (.cells (patch (patch cur.toList ((i + 1) * 3) ((cells l).drop (i * 3))) (i * 3) (sc z).toList).toArray 37 (0, 0)) := by
    rw [hW2]
    have := heap_setCells g 37 (sc z).toList (i * 3) W1 _ hg1 (by simp; omega)
    simpa using this
  have hnew : Own W2 base 37 (.slice (some ⟨g, 0, none⟩) (n + 1) c) (l.take i ++ [z] ++ l.drop i) := by
    have hll : (l.take i ++ [z] ++ l.drop i).length = n + 1 := by simp; omega
    have hwf2 : ∀ a ∈ l.take i ++ [z] ++ l.drop i, Flat.wf a := by
      intro a ha
      rcases List.mem_append.1 ha with ha | ha
      · rcases List.mem_append.1 ha with ha | ha
        · exact hwf a (List.mem_of_mem_take ha)
        · rw [List.mem_singleton.1 ha]; exact hz
      · exact hwf a (List.mem_of_mem_drop ha)
    refine ⟨⟨cells_len _ hwf2, .inr ⟨g, c, _, by rw [hll], hbg, hg2, by omega, hcm', ?_, ?_⟩⟩, hwf2⟩
    · show (patch _ _ _).toArray.size = c * 3
      simp only [List.size_toArray]
      rw [patch_len _ _ _ (by rw [hpl]; simp; omega), hpl]
    · rw [hll, cells_append, cells_append, cells_take l hwf i (by omega), cells_drop l hwf i (by omega)]
      have h3 : cells [z] = (sc z).toList := by simp [cells]; exact sc_enc z
      rw [h3]
      have := (laid_in (R := cur.toList) (cs := cells l) (vc := (sc z).toList) (a := i * 3) (n := n * 3) (by rw [Array.length_toList (xs := cur)]; simp; omega) (by omega) hcl (fun k hk => by
        rw [← htake, List.getElem?_take, if_pos (by omega)])).1
      have e1 : (i + 1) * 3 = i * 3 + (sc z).toList.length := by simp; omega
      have e2 : (n + 1) * Rep.sz Se = n * 3 + (sc z).toList.length := by show (n + 1) * 3 = _; simp; omega
      rw [e1, e2]
      exact this
  have HN := Lib.hid hnew
  have HB := Lib.hid hb2
  have hsA := fun W => run_from_g g n c i (i : Int) rfl (by omega) (by omega) W
  have hsB := fun W => run_upto_g g n c (n + 1) ((n : Int) + 1) (by omega) hroom W
  have hsC := fun W => run_from_g g (n + 1) c (i + 1) ((i : Int) + 1) (by omega) (by omega) (by omega) W
  rw [Nat.add_sub_add_right] at hsC
  have hsD := fun W => run_from_g g (n + 1) c i (i : Int) rfl (by omega) (by omega) W
  have d1 : ((i : Int) == (n : Int)) = false := by simp; omega
  have d2 : decide ((c : Int) < (n : Int) + 1) = false := by simp; omega
  have hw1 : IntKind.i64.wrap ((i : Int) + 1) = (i : Int) + 1 := by rw [IntKind.wrap_i64]; omega
  have hw2 : IntKind.i64.wrap ((n : Int) + 1) = (n : Int) + 1 := by rw [IntKind.wrap_i64]; omega
  have HCP1 := Lib.hid hcp1
  have HCP2 := Lib.hid hcp2
  clear hcp1 hcp2 hnew hb2 hg2 hW2 hpl hg1 hv1 hb1 hW1 hdl hold hfz hcell htake hcs hcl hg hxl hwf hnl hown hz hvb
  have tok : True := trivial
  go_enter Try.func23, Try.ntmps23
  go_wp2_with (simp only [hov])
  go_still_tail 8, (by kernel_rfl)
  change wpList _ _ _ _ _ w.drew
  generalize w.drew = wd at *
  refine wpList_copy_k _ rfl _ _ 22 22 rfl _ _ rfl rfl (HCP1.out _ _ _) ?_
  go_wp2_with (refine wpList_copy_k _ rfl _ _ 22 22 rfl _ _ rfl rfl (HCP2.out _ _) ?_)
  go_ret
  exact insOut_of HN.out HB.out
end Go.Proofs.Ytpfhigcfpchkkaa
