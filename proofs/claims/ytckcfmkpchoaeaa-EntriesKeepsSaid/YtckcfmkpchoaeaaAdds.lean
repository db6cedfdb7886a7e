/-
  What an addition makes, as plain mathematics: what is ahead stays, what was added is there, and to add it again changes nothing.
-/
import Derived.Test.YtckcfmkpchoaeaaAddMay
namespace Go.Proofs.Ytckcfmkpchoaeaa.Lg

theorem known_full : ∀ {l m : List E}, m.length ≤ l.length → (∀ k, k < m.length → tm l k = tm m k) → known l m = m.length
  | l, [], _, _ => by rcases l with _ | ⟨_, _⟩ <;> simp [known]
  | [], _ :: _, h, _ => by simp at h
  | a :: l, b :: m, h, h2 => by
    have h0 := h2 0 (by simp)
    have e : a.1 = b.1 := h0
    rw [known, if_pos e, known_full (by simpa using h) (fun k hk => h2 (k + 1) (by simpa using hk))]
    simp
theorem tm_append_left {l m : List E} {k : Nat} (h : k < l.length) : tm (l ++ m) k = tm l k := by unfold tm; rw [List.getElem?_append_left h]
theorem tm_append_right {l m : List E} {k : Nat} (h : l.length ≤ k) : tm (l ++ m) k = tm m (k - l.length) := by unfold tm; rw [List.getElem?_append_right h]
theorem tm_take {l : List E} {a k : Nat} (h : k < a) : tm (l.take a) k = tm l k := by unfold tm; rw [List.getElem?_take_of_lt h]

/-- What an addition that is not refused makes. -/
structure Added (b t i u : Int) (l m L : List E) (a : Nat) : Prop where
  eq : add (b, t, l) i u m = ((b, t, L), 0)
  at_ : i = b + a
  le : a ≤ l.length
  le2 : a ≤ L.length
  ahead : L.take a = l.take a
  there : known (L.drop a) m = m.length
  may1 : may (b, t, l) = true
  may2 : may (b, t, L) = true
  rise : rise u m = true
  term : term (b, t, l) i = (u, true)
theorem added {b t i u : Int} {l m : List E} (h : (add (b, t, l) i u m).2 = 0) : ∃ L a, Added b t i u l m L a := by
  have hmay := add_may h
  by_cases hw : why (b, t, l) i u m = 0
  · obtain ⟨h1, h2, h3, h4, h5⟩ := why_zero hw
    rw [add_yes hw] at h hmay
    have hadd := add_yes hw
    simp only at h3 h4 h hmay hadd
    obtain ⟨a, ha⟩ : ∃ a : Nat, i - b = (a : Int) := ⟨(i - b).toNat, by omega⟩
    rw [ha, Int.toNat_natCast] at h hmay hadd
    have hk := known_le (l.drop a) m
    rw [List.length_drop] at hk
    have hlt := known_lt (l.drop a) m
    by_cases hq : known (l.drop a) m = m.length
    · rw [put_all hq] at hmay hadd
      exact ⟨l, a, hadd, by omega, by omega, by omega, rfl, hq, h1, h1, h2, h5⟩
    · generalize known (l.drop a) m = q at *
      by_cases h64 : 64 < a + m.length
      · rw [put_full hq h64] at h
        cases h
      · rw [put_some hq h64] at hmay hadd
        have hlt' : (l.take (a + q)).length = a + q := by rw [List.length_take]; omega
        refine ⟨_, a, hadd, by omega, by omega, ?_, ?_, ?_, h1, hmay, h2, h5⟩
        · simp only [List.length_append, hlt', List.length_drop]; omega
        · simp only
          rw [List.take_append_of_le_length (by omega), List.take_take, Nat.min_eq_left (by omega)]
        · simp only
          refine known_full ?_ fun k hk' => ?_
          · simp only [List.length_drop, List.length_append, hlt']; omega
          · rw [tm_drop]
            by_cases hkq : k < q
            · rw [tm_append_left (by omega), tm_take (by omega), ← tm_drop]
              exact hlt k hkq
            · rw [tm_append_right (by omega), hlt', tm_drop]
              congr 1; omega
  · rw [add_no hw] at h
    exact absurd h hw

theorem term_eq {b t i : Int} {l : List E} (h : may (b, t, l) = true) : Lg.term (b, t, l) i = if i = b then (t, true) else if i < b ∨ b + l.length < i then (0, false) else (tm l (i - b - 1).toNat, true) := by
  unfold Lg.term
  rw [fair_of h]
  rfl
theorem from_eq {b t i m : Int} {l : List E} (h : may (b, t, l) = true) : from_ (b, t, l) i m = if m ≤ 0 ∨ i ≤ b ∨ b + l.length < i then [] else (l.drop (i - b - 1).toNat).take m.toNat := by
  unfold from_
  rw [fair_of h]
  rfl
theorem from_front {b t : Int} {l : List E} {a : Nat} (h : may (b, t, l) = true) (ha : a ≤ l.length) : from_ (b, t, l) (b + 1) (a : Int) = l.take a := by
  rw [from_eq h]
  by_cases h0 : a = 0
  · subst h0; rw [if_pos (.inl (by omega))]; rfl
  · rw [if_neg (by omega), show (b + 1 - b - 1).toNat = 0 by omega, List.drop_zero, Int.toNat_natCast]

section
variable {b t i u : Int} {l m L : List E} {a : Nat}
theorem Added.term2 (h : Added b t i u l m L a) : Lg.term (b, t, L) i = (u, true) := by
  have h1 := h.term
  rw [term_eq h.may1] at h1
  rw [term_eq h.may2]
  by_cases hb : i = b
  · rw [if_pos hb] at h1 ⊢
    exact h1
  · have := h.at_
    have := h.le
    have := h.le2
    rw [if_neg hb, if_neg (by omega), show (i - b - 1).toNat = a - 1 by omega] at h1 ⊢
    rw [← h1, ← tm_take (l := L) (a := a) (by omega), ← tm_take (l := l) (a := a) (by omega), h.ahead]
theorem Added.again (h : Added b t i u l m L a) : add (b, t, L) i u m = ((b, t, L), 0) := by
  have h1 := h.at_
  have hw : why (b, t, L) i u m = 0 := by
    unfold why
    rw [h.may2, h.rise, h.term2]
    simp only [Bool.true_eq_false, if_false]
    rw [if_neg (by omega)]
    simp
  rw [add_yes hw]
  simp only
  rw [show (i - b).toNat = a by omega, put_all h.there]
theorem known_len {l m : List E} (h : known l m = m.length) {x : Nat} (hx : x < m.length) : tm l x = tm m x := known_lt l m x (by omega)
theorem Added.len (h : Added b t i u l m L a) : a + m.length ≤ L.length := by
  have h1 := known_le (L.drop a) m
  have h2 := h.there
  have := h.le2
  rw [List.length_drop] at h1
  omega
theorem Added.has (h : Added b t i u l m L a) {x : Nat} (hx : x < m.length) : Lg.term (b, t, L) (i + 1 + x) = (tm m x, true) := by
  have h1 := h.at_
  have h2 := h.len
  rw [term_eq h.may2, if_neg (by omega), if_neg (by omega), show (i + 1 + (x : Int) - b - 1).toNat = a + x by omega, ← tm_drop, known_len h.there hx]
theorem Added.front (h : Added b t i u l m L a) : from_ (b, t, L) (b + 1) (i - b) = from_ (b, t, l) (b + 1) (i - b) := by
  have h1 := h.at_
  rw [show i - b = (a : Int) by omega, from_front h.may1 h.le, from_front h.may2 h.le2, h.ahead]
end

/-- To add what is there changes nothing. -/
theorem add_same {b t i u m : Int} {l : List E} (h : may (b, t, l) = true) (ht : Lg.term (b, t, l) i = (u, true)) : add (b, t, l) i u (from_ (b, t, l) (i + 1) m) = ((b, t, l), 0) := by
  have hin := ht
  rw [term_eq h] at hin
  have hib : b ≤ i ∧ i ≤ b + l.length := by
    by_cases h1 : i = b
    · omega
    · rw [if_neg h1] at hin
      by_cases h2 : i < b ∨ b + l.length < i
      · rw [if_pos h2] at hin; cases hin
      · omega
  obtain ⟨a, ha⟩ : ∃ a : Nat, i = b + (a : Int) := ⟨(i - b).toNat, by omega⟩
  have hm := (may_iff _).1 h
  simp only at hm
  obtain ⟨-, -, -, -, -, -, hr⟩ := hm
  -- what is read
  obtain ⟨j, hj⟩ : ∃ j : Nat, from_ (b, t, l) (i + 1) m = (l.drop a).take j := by
    rw [from_eq h]
    by_cases h1 : m ≤ 0 ∨ i + 1 ≤ b ∨ b + l.length < i + 1
    · rw [if_pos h1]; exact ⟨0, by simp⟩
    · rw [if_neg h1]
      exact ⟨m.toNat, by rw [show (i + 1 - b - 1).toNat = a by omega]⟩
  rw [hj]
  have he : endT t (l.take a) = u := by
    rw [endT_take _ _ _ (by omega)]
    by_cases h1 : i = b
    · rw [if_pos h1] at hin
      rw [if_pos (by omega)]
      exact (Prod.mk.inj hin).1
    · rw [if_neg h1, if_neg (by omega), show (i - b - 1).toNat = a - 1 by omega] at hin
      rw [if_neg (by omega)]
      exact (Prod.mk.inj hin).1
  have hrise : Lg.rise u ((l.drop a).take j) = true := by
    have := (rise_take a hr).2
    rw [he] at this
    exact (rise_take j this).1
  have hw : why (b, t, l) i u ((l.drop a).take j) = 0 := by
    unfold why
    rw [h, hrise, ht]
    simp only [Bool.true_eq_false, if_false]
    rw [if_neg (by omega)]
    simp
  rw [add_yes hw]
  simp only
  rw [show (i - b).toNat = a by omega, put_all]
  refine known_full (by rw [List.length_take]; omega) fun k hk => ?_
  rw [List.length_take] at hk
  rw [tm_take (by omega)]
end Go.Proofs.Ytckcfmkpchoaeaa.Lg
