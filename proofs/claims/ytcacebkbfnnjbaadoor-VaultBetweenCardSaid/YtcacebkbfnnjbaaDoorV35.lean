/-
  Parts that the statement rests on, joined: Mid.
-/
import Derived.Test.YtcacebkbfnnjbaaDoorV17
/-
  What lies between two saves: its ballot, its entries, how many the two agree on.
-/

namespace Go.Proofs.YtcacebkbfnnjbaaDoor
open Go.RowKit

section
variable {b1 b2 c1 c2 : Int} {l m s : List E} {t vo : Int}
theorem mid_bal (h : Vl.Mid ((b1, b2), l) (c1, c2) m ((t, vo), s)) : (b1 = t ∧ b2 = vo) ∨ (c1 = t ∧ c2 = vo ∧ (¬ t = b1 ∨ (b1 = t ∧ ¬ vo = b2))) := by
  have h1 : (t = b1 ∧ vo = b2) ∨ (t = c1 ∧ vo = c2) := by
    rcases h with h | h | ⟨i, -, -, h⟩
    all_goals (simp only [Prod.mk.injEq] at h; omega)
  omega
theorem mid_in (h : Vl.Mid ((b1, b2), l) (c1, c2) m ((t, vo), s)) (j : Nat) (hj : j < s.length) : (∃ h : j < l.length, l[j] = s[j]) ∨ (∃ h : j < m.length, m[j] = s[j]) := by
  rcases h with h | h | ⟨i, -, hi, h⟩
  · simp only [Prod.mk.injEq] at h
    obtain ⟨-, rfl⟩ := h
    exact .inl ⟨hj, rfl⟩
  · simp only [Prod.mk.injEq] at h
    obtain ⟨-, rfl⟩ := h
    exact .inl ⟨hj, rfl⟩
  · simp only [Prod.mk.injEq] at h
    obtain ⟨-, rfl⟩ := h
    rw [List.length_take] at hj
    exact .inr ⟨by omega, by simp⟩
theorem mid_ag (h : Vl.Mid ((b1, b2), l) (c1, c2) m ((t, vo), s)) : Vl.agreed l m ≤ s.length := by
  have h2 := Vl.agreed_le l m
  rcases h with h | h | ⟨i, h0, hi, h⟩
  · simp only [Prod.mk.injEq] at h
    obtain ⟨-, rfl⟩ := h
    exact h2.1
  · simp only [Prod.mk.injEq] at h
    obtain ⟨-, rfl⟩ := h
    exact h2.1
  · simp only [Prod.mk.injEq] at h
    obtain ⟨-, rfl⟩ := h
    rw [List.length_take]
    have h0' : Vl.agreed l m ≤ i := h0
    omega
end
/-- Two entries compared, as the walk has it. -/
theorem eq7 {y0 y1 y2 y3 y4 y5 y6 x0 x1 x2 x3 x4 x5 x6 : Int} {q : Bool} (h : q = decide ((y0, y1, y2, y3, y4, y5, y6) = ((x0, x1, x2, x3, x4, x5, x6) : E))) (W : World) : (if y0 = x0 then (if y1 = x1 then (if y2 = x2 then (if y3 = x3 then (if y4 = x4 then (if y5 = x5 then (if y6 = x6 then Result.ok (Next.value (Value.bool true)) W else (Result.ok (Next.value (Value.bool false)) W)) else (Result.ok (Next.value (Value.bool false)) W)) else (Result.ok (Next.value (Value.bool false)) W)) else (Result.ok (Next.value (Value.bool false)) W)) else (Result.ok (Next.value (Value.bool false)) W)) else (Result.ok (Next.value (Value.bool false)) W)) else (Result.ok (Next.value (Value.bool false)) W)) = Result.ok (Next.value (Value.bool q)) W := by
  subst h
  repeat' split
  all_goals simp [*]
end Go.Proofs.YtcacebkbfnnjbaaDoor
