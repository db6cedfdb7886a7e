/-
  Parts that the statement rests on, joined: Pkinds.
-/
import Derived.Test.YtjcljkbalpgfdaaM11
import Derived.MapKept
/-
  What kinds answers: a map made anew, of the member's methods by the kinds of messages; what is looked up in it.
-/


namespace Go.Proofs.Ytjcljkbalpgfdaa
open Go.RowKit

abbrev mfn (k : Nat) (p : Value) : Value := .func (.func k) #[p] #[]
def kinds4 (p : Value) : Array MapEntry := #[⟨.int .i64 0, mfn 37 p, 0⟩, ⟨.int .i64 1, mfn 38 p, 1⟩, ⟨.int .i64 2, mfn 39 p, 2⟩, ⟨.int .i64 3, mfn 40 p, 3⟩]
theorem alloc_set (w : World) (o o' : Obj) : ({ w.alloc o with heap := (w.alloc o).heap.setIfInBounds w.heap.size o' } : World) = w.alloc o' := by
  have h : (w.heap.push o).setIfInBounds w.heap.size o' = w.heap.push o' := by
    apply Array.ext_getElem?
    intro i
    rw [Array.getElem?_setIfInBounds]
    by_cases hi : w.heap.size = i
    · subst hi; simp
    · simp [hi, Array.getElem?_push, Ne.symm hi]
  show ({ w with heap := (w.heap.push o).setIfInBounds w.heap.size o' } : World) = w.alloc o'
  rw [h]
  rfl
theorem run_mapPush (w : World) (es : Array MapEntry) (clock : Nat) (k : Int) (v : Value) (hn : Instr.findNow (.int .i64) (.int .i64 k) es.toList 0 = some none) :
    (Instr.mapUpdate 67 (.map (some w.heap.size)) (.int .i64 k) v).run Try.prog (w.alloc (.map es clock)) = .ok () (w.alloc (.map (es.push ⟨.int .i64 k, v, clock⟩) (clock + 1))) := by
  have hb : (w.alloc (.map es clock)).heap[w.heap.size]? = some (.map es clock) := heap_alloc_new w _
  have hf : (Instr.findKey 3 (.int .i64 k) es.toList).run Try.prog (w.alloc (.map es clock)) = .ok none (w.alloc (.map es clock)) := by
    simp [Instr.findKey, run_underlying Try.underlying3, hn, Result.andThen]
  have hc : (Instr.checkKey false 10000 3 (.int .i64 k)).run Try.prog (w.alloc (.map es clock)) = .ok () (w.alloc (.map es clock)) := MapKept.run_checkKey Try.underlying3 (show MapKept.IsKey (.int .i64) (.int .i64 k) from rfl) false 9999
  simp only [Instr.mapUpdate, Sem.run_bind, run_underlying Try.underlying67, Result.andThen, MapKept.run_getObj_map hb, hc, hf, MapKept.run_setObj_map _ hb, alloc_set]
set_option maxRecDepth 100000 in
theorem pkinds_any (p : Value) (w : World) :
    Calls Try.prog 26 #[p] w fun e w' => e = .returned (.map (some w.heap.size)) ∧ w' = w.alloc (.map (kinds4 p) 4) := by
  have hmm := @run_makeMap Try.prog
  have hmf : ∀ (fn : Fn) (first cap : Array Value) (w : World), (Instr.makeFunc fn first cap).run Try.prog w = .ok (.func fn first cap) w := fun _ _ _ _ => rfl
  have h0 := fun v => run_mapPush w #[] 0 0 v rfl
  have h1 := fun v0 v => run_mapPush w #[⟨.int .i64 0, v0, 0⟩] 1 1 v rfl
  have h2 := fun v0 v1 v => run_mapPush w #[⟨.int .i64 0, v0, 0⟩, ⟨.int .i64 1, v1, 1⟩] 2 2 v rfl
  have h3 := fun v0 v1 v2 v => run_mapPush w #[⟨.int .i64 0, v0, 0⟩, ⟨.int .i64 1, v1, 1⟩, ⟨.int .i64 2, v2, 2⟩] 3 3 v rfl
  simp only [List.push_toArray, List.cons_append, List.nil_append, Nat.zero_add, Nat.reduceAdd] at h0 h1 h2 h3
  go_enter Try.func26, Try.ntmps26
  go_wp2_with (simp only [hmm, hmf, h0, h1, h2, h3])
  go_ret
  exact ⟨rfl, rfl⟩
theorem pkinds_b (p : Value) (w : World) :
    Calls Try.prog 26 #[p] w fun e w' => e = .returned (.map (some w.heap.size)) ∧ w'.heap[w.heap.size]? = some (.map (kinds4 p) 4) ∧ Below w.heap.size w w' :=
  (pkinds_any p w).mono fun e w' ⟨h1, h2⟩ => by subst h2; exact ⟨h1, heap_alloc_new w _, (Below.refl _ _).alloc (Nat.le_refl _) _⟩
/-- What is looked up. -/
theorem run_kinds {w : World} {b : Nat} {p : Value} (hb : w.heap[b]? = some (.map (kinds4 p) 4)) (k : Int) :
    (Instr.lookup 67 (.map (some b)) (.int .i64 k) true).run Try.prog w = .ok (if k = 0 then .tuple #[mfn 37 p, .bool true] else if k = 1 then .tuple #[mfn 38 p, .bool true] else if k = 2 then .tuple #[mfn 39 p, .bool true] else if k = 3 then .tuple #[mfn 40 p, .bool true] else .tuple #[.nilFunc, .bool false]) w := by
  have hz : (zeroValue (Try.prog.mapElemOf 67)).run Try.prog w = .ok .nilFunc w := by kernel_rfl
  have hf : Instr.findNow (.int .i64) (.int .i64 k) (kinds4 p).toList 0 = some (if k = 0 then some (0, mfn 37 p) else if k = 1 then some (1, mfn 38 p) else if k = 2 then some (2, mfn 39 p) else if k = 3 then some (3, mfn 40 p) else none) := by
    by_cases h0 : k = 0
    · subst h0; rfl
    by_cases h1 : k = 1
    · subst h1; rfl
    by_cases h2 : k = 2
    · subst h2; rfl
    by_cases h3 : k = 3
    · subst h3; rfl
    simp [kinds4, Instr.findNow, Instr.sameNow, h0, h1, h2, h3, show (k == 0) = false by simpa using h0, show (k == 1) = false by simpa using h1, show (k == 2) = false by simpa using h2, show (k == 3) = false by simpa using h3]
  have hfk : (Instr.findKey 3 (.int .i64 k) (kinds4 p).toList).run Try.prog w = .ok (if k = 0 then some (0, mfn 37 p) else if k = 1 then some (1, mfn 38 p) else if k = 2 then some (2, mfn 39 p) else if k = 3 then some (3, mfn 40 p) else none) w := by
    simp [Instr.findKey, run_underlying Try.underlying3, hf, Result.andThen]
  have hck : ∀ e, (Instr.checkKey e 10000 3 (.int .i64 k)).run Try.prog w = .ok () w := fun e => MapKept.run_checkKey Try.underlying3 (show MapKept.IsKey (.int .i64) (.int .i64 k) from rfl) e 9999
  simp only [Instr.lookup, Sem.run_bind, run_underlying Try.underlying67, MapKept.run_getObj_map hb, Result.andThen, Sem.run_pure]
  simp only [hck, hfk]
  by_cases h0 : k = 0
  · simp [h0]
  by_cases h1 : k = 1
  · simp [h1]
  by_cases h2 : k = 2
  · simp [h2]
  by_cases h3 : k = 3
  · simp [h3]
  simp [h0, h1, h2, h3, Result.andThen]
/-- .. in letters. -/
theorem kinds_look (p : Value) (k : Int) : ∃ (hv : Value) (kb : Bool), (kb = decide (0 ≤ k ∧ k ≤ 3)) ∧ (k = 0 → hv = mfn 37 p) ∧ (k = 1 → hv = mfn 38 p) ∧ (k = 2 → hv = mfn 39 p) ∧ (k = 3 → hv = mfn 40 p) ∧
    ∀ (w : World) (b : Nat), w.heap[b]? = some (.map (kinds4 p) 4) → (Instr.lookup 67 (.map (some b)) (.int .i64 k) true).run Try.prog w = .ok (.tuple #[hv, .bool kb]) w := by
  by_cases h0 : k = 0
  · subst h0; exact ⟨_, true, rfl, fun _ => rfl, fun h => absurd h (by decide), fun h => absurd h (by decide), fun h => absurd h (by decide), fun w b hb => run_kinds hb 0⟩
  by_cases h1 : k = 1
  · subst h1; exact ⟨_, true, rfl, fun h => absurd h (by decide), fun _ => rfl, fun h => absurd h (by decide), fun h => absurd h (by decide), fun w b hb => run_kinds hb 1⟩
  by_cases h2 : k = 2
  · subst h2; exact ⟨_, true, rfl, fun h => absurd h (by decide), fun h => absurd h (by decide), fun _ => rfl, fun h => absurd h (by decide), fun w b hb => run_kinds hb 2⟩
  by_cases h3 : k = 3
  · subst h3; exact ⟨_, true, rfl, fun h => absurd h (by decide), fun h => absurd h (by decide), fun h => absurd h (by decide), fun _ => rfl, fun w b hb => run_kinds hb 3⟩
  refine ⟨.nilFunc, false, by simp; omega, fun h => absurd h h0, fun h => absurd h h1, fun h => absurd h h2, fun h => absurd h h3, fun w b hb => ?_⟩
  rw [run_kinds hb k, if_neg h0, if_neg h1, if_neg h2, if_neg h3]
end Go.Proofs.Ytjcljkbalpgfdaa
