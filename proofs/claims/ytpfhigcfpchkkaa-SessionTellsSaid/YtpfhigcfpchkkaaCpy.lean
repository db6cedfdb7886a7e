/-
  copy of elements of whatever size, in terms of cells; a block of which cells are stored anew, as a list; slices of a row of the call's own with an element laid in. No program.
-/
import Derived.Test.YtpfhigcfpchkkaaRep
import Derived.Laws.IdiomCopy
import Derived.Laws.OwnMore
import Derived.Lib.AppendZerosOnto
import Derived.Lib.Overlaps
namespace Go.Proofs.Ytpfhigcfpchkkaa
open Go.RowKit

theorem run_copy_k {P : Program} (w : World) (dT sT ty elem : TypeId) (b o dLen dCap : Nat) (a : Addr) (sLen sCap sz : Nat) (cs : List Value)
    (hu : P.underlying dT = some (.slice elem)) (hs : (P.info? elem).map (·.size) = some sz) (hn : cs.length = Nat.min sLen dLen * sz)
    (hsrc : ∀ j v, cs[j]? = some v → w.cell? (a.add j) = some v) (hc : ∀ j, j < cs.length → (w.cell? ⟨b, o + j, none⟩).isSome = true) (hf : ∀ j, j < cs.length → w.frozen? ⟨b, o + j, none⟩ = false) (h1 : ∀ v ∈ cs, v.oneCell' = true) :
    (Builtin.copy_ #[dT, sT] ty #[.slice (some ⟨b, o, none⟩) dLen dCap, .slice (some a) sLen sCap]).run P w = .ok (goInt (Nat.min sLen dLen)) (w.setCells b o cs) := by
  have hl := run_loadCells_list (P := P) w a cs hsrc
  have hst := run_storeCells_cells (P := P) b o cs 0 w (by simpa using hc) (by simpa using hf) h1
  cases hq : P.info? elem with
  | none => simp [hq] at hs
  | some i =>
    have hi : i.size = sz := by simpa [hq] using hs
    rw [hn] at hl
    simp [Builtin.copy_, run_underlying hu, Builtin.lenOf, Builtin.firstCells, sizeOf, typeInfo, hq, hi, hl, hst]

/-- The operation, where its run is known by an equation. -/
theorem wpList_copy_k {P : Program} (w : World) {ops : Array Oper} {rest : List Oper} {o : Oper} {a : Act} {Q : Exit → Act → World → Prop} (hgd : o.guard = none) (d s : Operand) (t t' : TypeId)
    (ho : o.op = .call { callee := .builtin .copy, args := #[d, s], argTypes := #[t, t'] }) (v u : Value) (hd : a.eval d = v) (hs : a.eval s = u) {v' : Value} {w' : World}
    (hr : (Builtin.copy_ #[t, t'] o.type #[v, u]).run P w = .ok v' w') (h : wpList P ops Q rest (a.put o.dst v') w') : wpList P ops Q (o :: rest) a w := by
  refine wpList_plain hgd fun K hK => ?_
  unfold Oper.wp execOp
  simp only [ho, resolve, invoke, builtin, Sem.run_bind, Sem.run_pure, Result.andThen_ok, List.map_toArray, List.map_cons, List.map_nil, hd, hs, hr]
  exact hK _ _ h

/-- A list of which some cells are others. -/
def patch (cur : List Value) (o : Nat) (vs : List Value) : List Value := cur.take o ++ vs ++ cur.drop (o + vs.length)
theorem patch_at (cur : List Value) (o : Nat) (vs : List Value) (h : o + vs.length ≤ cur.length) (k : Nat) : (patch cur o vs)[k]? = if k < o then cur[k]? else if k < o + vs.length then vs[k - o]? else cur[k]? := by
  unfold patch
  rw [List.append_assoc]
  by_cases h1 : k < o
  · rw [if_pos h1, List.getElem?_append_left (by rw [List.length_take]; omega), List.getElem?_take, if_pos h1]
  · rw [if_neg h1, List.getElem?_append_right (by rw [List.length_take]; omega), List.length_take, Nat.min_eq_left (by omega)]
    by_cases h2 : k < o + vs.length
    · rw [if_pos h2, List.getElem?_append_left (by omega)]
    · rw [if_neg h2, List.getElem?_append_right (by omega), List.getElem?_drop]
      congr 1; omega
theorem patch_len (cur : List Value) (o : Nat) (vs : List Value) (h : o + vs.length ≤ cur.length) : (patch cur o vs).length = cur.length := by
  unfold patch
  simp
  omega
theorem patch_cons (cur : List Value) (o : Nat) (v : Value) (r : List Value) (h : o + (v :: r).length ≤ cur.length) : patch (cur.set o v) (o + 1) r = patch cur o (v :: r) := by
  simp only [List.length_cons] at h
  apply List.ext_getElem?
  intro k
  rw [patch_at _ _ _ (by rw [List.length_set]; omega), patch_at _ _ _ (by simp only [List.length_cons]; omega), List.getElem?_set, List.length_cons]
  by_cases h1 : k < o
  · rw [if_pos (by omega), if_neg (by omega), if_pos h1]
  · by_cases h2 : k = o
    · subst h2
      rw [if_pos (by omega), if_pos rfl, if_pos (by omega), if_neg h1, if_pos (by omega), Nat.sub_self]; rfl
    · rw [if_neg (by omega), if_neg h1]
      by_cases h3 : k < o + 1 + r.length
      · rw [if_pos h3, if_pos (by omega), show k - o = (k - (o + 1)) + 1 by omega, List.getElem?_cons_succ]
      · rw [if_neg h3, if_neg (by omega), if_neg (by omega)]
theorem heap_setCells (g : Nat) (t : TypeId) : ∀ (vs : List Value) (o : Nat) (w : World) (cur : Array Value), w.heap[g]? = some (.cells cur t (0, 0)) → o + vs.length ≤ cur.size →
    (w.setCells g o vs).heap[g]? = some (.cells (patch cur.toList o vs).toArray t (0, 0))
  | [], o, w, cur, h, ho => by
    have : patch cur.toList o [] = cur.toList := by unfold patch; simp
    rw [this]; simpa [World.setCells] using h
  | v :: r, o, w, cur, h, ho => by
    simp only [List.length_cons] at ho
    have := heap_setCells g t r (o + 1) (w.setCell ⟨g, o, none⟩ v) (cur.setIfInBounds o v) (heap_setCell_same w g o cur t v h) (by simp; omega)
    rw [World.setCells, this, Array.toList_setIfInBounds, patch_cons _ _ _ _ (by simp; omega)]
theorem setCells_rest (g : Nat) : ∀ (vs : List Value) (o : Nat) (w : World), (w.setCells g o vs).os = w.os ∧ (w.setCells g o vs).tape = w.tape ∧ (w.setCells g o vs).output = w.output ∧ (w.setCells g o vs).heap.size = w.heap.size ∧ ∀ k, k ≠ g → (w.setCells g o vs).heap[k]? = w.heap[k]?
  | [], _, _ => ⟨rfl, rfl, rfl, rfl, fun _ _ => rfl⟩
  | v :: r, o, w => by
    obtain ⟨h1, h2, h3, h4, h5⟩ := setCells_rest g r (o + 1) (w.setCell ⟨g, o, none⟩ v)
    refine ⟨h1, h2, h3, h4.trans (by simp), fun k hk => (h5 k hk).trans (heap_setCell_other w ⟨g, o, none⟩ k v (fun e => hk e))⟩
theorem below_setCells {B : Nat} {a w : World} (h : Below B a w) {g : Nat} (hg : B ≤ g) (o : Nat) (vs : List Value) : Below B a (w.setCells g o vs) := by
  obtain ⟨h1, h2, h3, h4, h5⟩ := setCells_rest g vs o w
  exact ⟨h1.trans h.os, h2.trans h.tape, h3.trans h.output, by rw [h4]; exact h.size, fun i hi => (h5 i (by omega)).trans (h.block i hi)⟩

/-- Some cells behind others, with new ones between them: what the row holds when both were laid, in whatever order. -/
theorem laid_in {R cs vc : List Value} {a n : Nat} (hR : n + vc.length ≤ R.length) (ha : a ≤ n) (hn : cs.length = n) (hh : ∀ k, k < a → R[k]? = cs[k]?) :
    ((patch (patch R (a + vc.length) (cs.drop a)) a vc).take (n + vc.length) = cs.take a ++ vc ++ cs.drop a) ∧ ((patch (patch R a vc) (a + vc.length) (cs.drop a)).take (n + vc.length) = cs.take a ++ vc ++ cs.drop a) := by
  have hd : (cs.drop a).length = n - a := by rw [List.length_drop, hn]
  have l1 : (patch R (a + vc.length) (cs.drop a)).length = R.length := patch_len _ _ _ (by omega)
  have l2 : (patch R a vc).length = R.length := patch_len _ _ _ (by omega)
  have rhs : ∀ k, k < n + vc.length → (cs.take a ++ vc ++ cs.drop a)[k]? = if k < a then cs[k]? else if k < a + vc.length then vc[k - a]? else cs[k - vc.length]? := by
    intro k hk
    rw [List.append_assoc]
    by_cases h1 : k < a
    · rw [if_pos h1, List.getElem?_append_left (by rw [List.length_take]; omega), List.getElem?_take, if_pos h1]
    · rw [if_neg h1, List.getElem?_append_right (by rw [List.length_take]; omega), List.length_take, Nat.min_eq_left (by omega)]
      by_cases h2 : k < a + vc.length
      · rw [if_pos h2, List.getElem?_append_left (by omega)]
      · rw [if_neg h2, List.getElem?_append_right (by omega), List.getElem?_drop]
        congr 1; omega
  have out : ∀ k, n + vc.length ≤ k → (cs.take a ++ vc ++ cs.drop a)[k]? = none := fun k hk => List.getElem?_eq_none (by simp; omega)
  constructor
  · apply List.ext_getElem?
    intro k
    rw [List.getElem?_take]
    by_cases hk : k < n + vc.length
    · rw [if_pos hk, rhs k hk, patch_at _ _ _ (by omega), patch_at _ _ _ (by omega)]
      by_cases h1 : k < a
      · rw [if_pos h1, if_pos h1, if_pos (by omega), hh k h1]
      · rw [if_neg h1, if_neg h1]
        by_cases h2 : k < a + vc.length
        · rw [if_pos h2, if_pos h2]
        · rw [if_neg h2, if_neg h2, if_neg h2, if_pos (by omega), List.getElem?_drop]
          congr 1; omega
    · rw [if_neg hk, out k (by omega)]
  · apply List.ext_getElem?
    intro k
    rw [List.getElem?_take]
    by_cases hk : k < n + vc.length
    · rw [if_pos hk, rhs k hk, patch_at _ _ _ (by omega), patch_at _ _ _ (by omega)]
      by_cases h1 : k < a
      · rw [if_pos (by omega), if_pos h1, if_pos h1, hh k h1]
      · by_cases h2 : k < a + vc.length
        · rw [if_pos (by omega), if_neg h1, if_pos h2, if_neg h1, if_pos h2]
        · rw [if_neg h2, if_pos (by omega), if_neg h1, if_neg h2, List.getElem?_drop]
          congr 1; omega
    · rw [if_neg hk, out k (by omega)]

section
variable {α : Type} [Rep α] [Flat α]
theorem cells_cut (l : List α) (h : ∀ a ∈ l, Flat.wf a) (i : Nat) (hi : i ≤ l.length) : cells l = cells (l.take i) ++ cells (l.drop i) ∧ (cells (l.take i)).length = i * Rep.sz α :=
  ⟨by rw [← cells_append, List.take_append_drop], by rw [cells_len _ (fun a ha => h a (List.mem_of_mem_take ha)), List.length_take, Nat.min_eq_left hi]⟩
theorem cells_take (l : List α) (h : ∀ a ∈ l, Flat.wf a) (i : Nat) (hi : i ≤ l.length) : cells (l.take i) = (cells l).take (i * Rep.sz α) := by
  obtain ⟨e, hl⟩ := cells_cut l h i hi
  rw [e, List.take_append_of_le_length (by omega), List.take_of_length_le (l := cells (l.take i)) (by omega)]
theorem cells_drop (l : List α) (h : ∀ a ∈ l, Flat.wf a) (i : Nat) (hi : i ≤ l.length) : cells (l.drop i) = (cells l).drop (i * Rep.sz α) := by
  obtain ⟨e, hl⟩ := cells_cut l h i hi
  rw [e, List.drop_append_of_le_length (by omega), List.drop_of_length_le (l := cells (l.take i)) (by omega), List.nil_append]
end
end Go.Proofs.Ytpfhigcfpchkkaa
