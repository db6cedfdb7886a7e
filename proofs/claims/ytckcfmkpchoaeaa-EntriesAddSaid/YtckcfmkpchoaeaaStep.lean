/-
  What the reference's list is behind so many of the entries that are added, as plain mathematics.
-/
import Derived.Test.YtckcfmkpchoaeaaLg
namespace Go.Proofs.Ytckcfmkpchoaeaa.Lg

def step (a q : Nat) (l m : List E) (x : Nat) : List E := if x ≤ q then l else l.take (a + q) ++ (m.take x).drop q
theorem step_zero (a q : Nat) (l m : List E) : step a q l m 0 = l := by unfold step; rw [if_pos (Nat.zero_le _)]
theorem step_length {a q : Nat} {l m : List E} {x : Nat} (ha : a + q ≤ l.length) (hx : x ≤ m.length) (hq : q < x) : (step a q l m x).length = a + x := by
  unfold step
  rw [if_neg (by omega), List.length_append, List.length_take, List.length_drop, List.length_take]
  omega
theorem step_le {a q : Nat} {l m : List E} {x : Nat} (ha : a + q ≤ l.length) (hx : x ≤ m.length) : (step a q l m x).length ≤ l.length + x := by
  by_cases h : q < x
  · rw [step_length ha hx h]; omega
  · unfold step; rw [if_pos (by omega)]; omega
theorem tm_drop (l : List E) (a k : Nat) : tm (l.drop a) k = tm l (a + k) := by unfold tm; rw [List.getElem?_drop]
theorem step_true {a : Nat} {l m : List E} {x : Nat} (ha : a ≤ l.length) (hx : x < m.length) (h1 : a + x < (step a (known (l.drop a) m) l m x).length) (h2 : tm (step a (known (l.drop a) m) l m x) (a + x) = tm m x) :
    step a (known (l.drop a) m) l m (x + 1) = step a (known (l.drop a) m) l m x := by
  have hk := known_le (l.drop a) m
  have hat := known_at (l.drop a) m
  rw [List.length_drop] at hk hat
  generalize hq : known (l.drop a) m = q at *
  by_cases h : q < x
  · rw [step_length (by omega) (by omega) h] at h1; omega
  · have e : step a q l m x = l := by unfold step; rw [if_pos (by omega)]
    rw [e] at h1 h2 ⊢
    by_cases h' : x = q
    · subst h'
      exact absurd (by rw [tm_drop]; exact h2) (hat (by omega) (by omega))
    · unfold step; rw [if_pos (by omega)]
theorem step_false {a : Nat} {l m : List E} {x : Nat} {y : E} (ha : a ≤ l.length) (hx : x < m.length) (hy : m[x]? = some y) (h : ¬ (a + x < (step a (known (l.drop a) m) l m x).length ∧ tm (step a (known (l.drop a) m) l m x) (a + x) = tm m x)) :
    a + x ≤ (step a (known (l.drop a) m) l m x).length ∧ step a (known (l.drop a) m) l m (x + 1) = (step a (known (l.drop a) m) l m x).take (a + x) ++ [y] := by
  obtain rfl : m[x] = y := by rw [List.getElem?_eq_getElem hx] at hy; exact Option.some.inj hy
  have hk := known_le (l.drop a) m
  have hlt := known_lt (l.drop a) m x
  rw [List.length_drop] at hk
  generalize hq : known (l.drop a) m = q at *
  by_cases h1 : q < x
  · have hl := step_length (l := l) (m := m) (a := a) (q := q) (x := x) (by omega) (by omega) h1
    refine ⟨by omega, ?_⟩
    rw [List.take_of_length_le (by omega)]
    unfold step
    rw [if_neg (by omega), if_neg (by omega), List.take_succ_eq_append_getElem hx, List.drop_append_of_le_length (by rw [List.length_take]; omega), List.append_assoc]
  · have e : step a q l m x = l := by unfold step; rw [if_pos (by omega)]
    rw [e] at h ⊢
    have hxq : x = q := by
      rcases Nat.lt_or_ge x q with h2 | h2
      · exact absurd ⟨by omega, by rw [← tm_drop]; exact hlt h2⟩ h
      · omega
    subst hxq
    refine ⟨by omega, ?_⟩
    unfold step
    rw [if_neg (by omega), List.take_succ_eq_append_getElem hx, List.drop_append_of_le_length (by rw [List.length_take]; omega), List.drop_eq_nil_of_le (by rw [List.length_take]; omega), List.nil_append]
theorem put_step {b t : Int} {a : Nat} {l m : List E} (ha : a ≤ l.length) (hl : l.length ≤ 64) : put (b, t, l) a (known (l.drop a) m) m = if 64 < (step a (known (l.drop a) m) l m m.length).length then (zero, 7) else ((b, t, step a (known (l.drop a) m) l m m.length), 0) := by
  have hk := known_le (l.drop a) m
  rw [List.length_drop] at hk
  generalize known (l.drop a) m = q at *
  unfold put
  by_cases h : q = m.length
  · have e : step a q l m m.length = l := by unfold step; rw [if_pos (by omega)]
    rw [if_pos h, e, if_neg (by omega)]
  · have e : step a q l m m.length = l.take (a + q) ++ m.drop q := by unfold step; rw [if_neg (by omega), List.take_length]
    rw [if_neg h, step_length (by omega) (Nat.le_refl _) (by omega), e]
end Go.Proofs.Ytckcfmkpchoaeaa.Lg
