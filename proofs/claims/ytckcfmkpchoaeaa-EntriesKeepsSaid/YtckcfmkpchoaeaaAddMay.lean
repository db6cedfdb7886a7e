/-
  What was added may be.
-/
import Derived.Test.YtckcfmkpchoaeaaAdd
import Derived.Test.YtckcfmkpchoaeaaStep
namespace Go.Proofs.Ytckcfmkpchoaeaa.Lg

/-- The term of the last one, or the one ahead. -/
def endT : Int → List E → Int
  | t, [] => t
  | _, e :: l => endT e.1 l
theorem rise_append : ∀ (t : Int) (l m : List E), rise t (l ++ m) = (rise t l && rise (endT t l) m)
  | t, [], m => by simp [rise, endT]
  | t, e :: l, m => by
    rw [List.cons_append, rise, rise, rise_append e.1 l m, endT]
    simp only [Bool.and_assoc]
theorem endT_take : ∀ (t : Int) (l : List E) (k : Nat), k ≤ l.length → endT t (l.take k) = if k = 0 then t else tm l (k - 1)
  | t, l, 0, _ => by simp [endT]
  | t, [], k + 1, h => by simp at h
  | t, e :: l, k + 1, h => by
    rw [List.take_succ_cons, endT, endT_take e.1 l k (by simpa using h)]
    cases k with
    | zero => rfl
    | succ k => rfl
theorem rise_take {t : Int} {l : List E} (k : Nat) (h : rise t l = true) : rise t (l.take k) = true ∧ rise (endT t (l.take k)) (l.drop k) = true := by
  rw [← List.take_append_drop k l, rise_append, Bool.and_eq_true] at h
  exact h
theorem add_may {b t i u : Int} {l m : List E} (h : (add (b, t, l) i u m).2 = 0) : may (add (b, t, l) i u m).1 = true := by
  by_cases hw : why (b, t, l) i u m = 0
  · obtain ⟨h1, h2, h3, h4, h5⟩ := why_zero hw
    rw [add_yes hw] at h ⊢
    simp only at h3 h4 h ⊢
    have hm := (may_iff _).1 h1
    simp only at hm
    obtain ⟨m1, m2, m3, m4, m5, m6, m7⟩ := hm
    obtain ⟨a, ha⟩ : ∃ a : Nat, i - b = (a : Int) := ⟨(i - b).toNat, by omega⟩
    rw [ha, Int.toNat_natCast] at h ⊢
    have hk := known_le (l.drop a) m
    rw [List.length_drop] at hk
    have hlt := known_lt (l.drop a) m
    generalize known (l.drop a) m = q at *
    by_cases hq : q = m.length
    · rw [put_all hq]
      exact h1
    · by_cases h64 : 64 < a + m.length
      · rw [put_full hq h64] at h
        cases h
      · rw [put_some hq h64]
        rw [may_iff]
        refine ⟨m1, m2, m3, m4, m5, ?_, ?_⟩
        · simp only [List.length_append, List.length_take, List.length_drop]; omega
        · simp only
          rw [rise_append, Bool.and_eq_true]
          refine ⟨(rise_take _ m7).1, ?_⟩
          have e : endT t (l.take (a + q)) = endT u (m.take q) := by
            rw [endT_take _ _ _ (by omega), endT_take _ _ _ hk.2]
            rcases Nat.eq_zero_or_pos q with h0 | h0
            · subst h0
              rw [if_pos rfl, Nat.add_zero]
              unfold term at h5
              rw [fair_of h1] at h5
              unfold term0 at h5
              simp only at h5
              by_cases hb : i = b
              · rw [if_pos hb] at h5
                rw [if_pos (by omega)]
                exact (Prod.mk.inj h5).1
              · rw [if_neg hb, if_neg (by omega), show (i - b - 1).toNat = a - 1 by omega] at h5
                rw [if_neg (by omega)]
                exact (Prod.mk.inj h5).1
            · rw [if_neg (by omega), if_neg (by omega), ← hlt (q - 1) (by omega), tm_drop]
              congr 1; omega
          rw [e]
          exact (rise_take q h2).2
  · rw [add_no hw] at h
    exact absurd h hw
end Go.Proofs.Ytckcfmkpchoaeaa.Lg
