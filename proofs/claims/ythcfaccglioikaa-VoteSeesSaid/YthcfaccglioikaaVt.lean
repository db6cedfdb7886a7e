/-
  Votes, as plain mathematics: what is seen, what a ballot may be, whether a vote is given.
-/
import Derived.Test.YthcfaccglioikaaLg
namespace Go.Proofs.Ythcfaccglioikaa.Vt

abbrev B := Int × Int
def see (b : B) (t : Int) : B := if b.1 < t ∧ t ≤ 1073741824 then (t, 0) else b
def may (b : B) : Bool := decide (0 ≤ b.1) && decide (b.1 ≤ 1073741824) && decide (0 ≤ b.2) && decide (b.2 ≤ 16)
/-- Of what is seen: is the vote given? -/
def gives (x : B) (p : Int × Int) (f t i u : Int) : Prop := t = x.1 ∧ (x.2 = 0 ∨ x.2 = f) ∧ 1 ≤ f ∧ f ≤ 16 ∧ Lg.newer i u p.1 p.2 = true
instance (x : B) (p : Int × Int) (f t i u : Int) : Decidable (gives x p f t i u) := by unfold gives; exact inferInstance
def grant (b : B) (p : Int × Int) (f t i u : Int) : B × Bool :=
  if gives (see b t) p f t i u then (((see b t).1, f), true) else (see b t, false)

theorem see_new {b : B} {t : Int} (h1 : b.1 < t) (h2 : t ≤ 1073741824) : see b t = (t, 0) := by unfold see; rw [if_pos ⟨h1, h2⟩]
theorem see_old {b : B} {t : Int} (h : ¬ (b.1 < t ∧ t ≤ 1073741824)) : see b t = b := by unfold see; rw [if_neg h]
theorem may_iff (b : B) : may b = true ↔ 0 ≤ b.1 ∧ b.1 ≤ 1073741824 ∧ 0 ≤ b.2 ∧ b.2 ≤ 16 := by unfold may; simp only [Bool.and_eq_true, decide_eq_true_eq, and_assoc]
theorem grant_yes {b : B} {p : Int × Int} {f t i u : Int} {x : B} (hx : see b t = x) (h : gives x p f t i u) : grant b p f t i u = ((x.1, f), true) := by unfold grant; rw [hx, if_pos h]
theorem grant_no {b : B} {p : Int × Int} {f t i u : Int} {x : B} (hx : see b t = x) (h : ¬ gives x p f t i u) : grant b p f t i u = (x, false) := by unfold grant; rw [hx, if_neg h]

theorem see_term (b : B) (t : Int) : b.1 ≤ (see b t).1 ∧ ((see b t).1 = b.1 → see b t = b) := by
  unfold see
  split
  · rename_i h; exact ⟨by simp only; omega, fun e => by simp only at e; omega⟩
  · exact ⟨Int.le_refl _, fun _ => rfl⟩
theorem see_may {b : B} (t : Int) (h : may b = true) : may (see b t) = true := by
  rw [may_iff] at h ⊢
  unfold see
  split
  · simp only; omega
  · exact h
/-- What a step of the statement on many who ask needs. -/
theorem grant_once {b : B} (p : Int × Int) (f t i u : Int) (h : may b = true) : b.1 ≤ (grant b p f t i u).1.1 ∧ ((grant b p f t i u).1.1 = b.1 → b.2 ≠ 0 → (grant b p f t i u).1.2 = b.2) ∧
    ((grant b p f t i u).2 = true → (grant b p f t i u).1.2 = f ∧ (grant b p f t i u).1.1 = t) ∧ may (grant b p f t i u).1 = true := by
  have h1 := see_term b t
  have h2 := see_may t h
  unfold grant
  generalize see b t = x at *
  rw [may_iff] at h2
  split
  · rename_i hg
    obtain ⟨g1, g2, g3, g4, g5⟩ := hg
    refine ⟨h1.1, fun e h0 => ?_, fun _ => ⟨rfl, g1.symm⟩, ?_⟩
    · have := h1.2 e
      subst this
      rcases g2 with g2 | g2
      · exact absurd g2 h0
      · exact g2.symm
    · rw [may_iff]; simp only; omega
  · exact ⟨h1.1, fun e _ => by rw [h1.2 e], fun h => (Bool.false_ne_true h).elim, (may_iff _).2 h2⟩
theorem grant_newest {b : B} {p : Int × Int} {f t i u : Int} (h : (grant b p f t i u).2 = true) : p.2 < u ∨ u = p.2 ∧ p.1 ≤ i := by
  unfold grant at h
  split at h
  · rename_i hg
    have := hg.2.2.2.2
    unfold Lg.newer at this
    simp only [Bool.or_eq_true, Bool.and_eq_true, decide_eq_true_eq] at this
    exact this
  · cases h
theorem see_see (b : B) (t : Int) : see (see b t) t = see b t := by
  by_cases h : b.1 < t ∧ t ≤ 1073741824
  · rw [see_new h.1 h.2, see_old (by simp only; omega)]
  · rw [see_old h, see_old h]
theorem see_self (x : B) : see x x.1 = x := by unfold see; rw [if_neg (by omega)]
theorem grant_again (b : B) (p : Int × Int) (f t i u : Int) : grant (grant b p f t i u).1 p f t i u = grant b p f t i u := by
  have hs := see_see b t
  unfold grant
  generalize see b t = x at *
  split
  · rename_i hg
    obtain ⟨g1, g2, g3, g4, g5⟩ := hg
    have : see (x.1, f) t = (x.1, f) := by rw [g1]; exact see_self (x.1, f)
    rw [this, if_pos ⟨g1, .inr rfl, g3, g4, g5⟩]
  · rename_i hg
    rw [hs, if_neg hg]
theorem see_two {b : B} {s t : Int} (hs : s ≤ 1073741824) (ht : t ≤ 1073741824) : see (see b s) t = see b (if s < t then t else s) := by
  by_cases h1 : b.1 < s
  · rw [see_new h1 hs]
    by_cases h2 : s < t
    · rw [if_pos h2, see_new (b := (s, 0)) h2 ht, see_new (by omega) ht]
    · rw [if_neg h2, see_old (b := (s, 0)) (fun h => h2 h.1), see_new h1 hs]
  · rw [see_old (fun h => h1 h.1)]
    by_cases h2 : s < t
    · rw [if_pos h2]
    · rw [if_neg h2, see_old (by omega), see_old (fun h => h1 h.1)]
/-- Two who are not the same are not both given the vote in one term. -/
theorem grant_two {b : B} {p : Int × Int} {f g t i u j v : Int} (hfg : f ≠ g) (h1 : (grant b p f t i u).2 = true) : (grant (grant b p f t i u).1 p g t j v).2 = false := by
  unfold grant at h1
  split at h1
  · rename_i hg
    obtain ⟨g1, g2, g3, g4, g5⟩ := hg
    rw [grant_yes rfl ⟨g1, g2, g3, g4, g5⟩]
    rw [grant_no (x := ((see b t).1, f)) ((congrArg (see ((see b t).1, f)) g1).trans (see_self ((see b t).1, f)))]
    rintro ⟨_, h2, h3, _⟩
    simp only at h2
    rcases h2 with h2 | h2
    · omega
    · exact hfg h2
  · cases h1
end Go.Proofs.Ythcfaccglioikaa.Vt
