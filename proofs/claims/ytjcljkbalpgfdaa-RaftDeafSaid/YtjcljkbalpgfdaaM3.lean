/-
  Parts that the statement rests on, joined: Lg, Vt, Qr, Step.
-/
/-
  Logs, as plain mathematics: which may be, their last entry, the term of an index, what is added, read, packed.
-/
namespace Go.Proofs.Ytjcljkbalpgfdaa.Lg

abbrev E := Int × Int × Int × Int × Int × Int × Int
abbrev L := Int × Int × List E
/-- Terms from 1 to the greatest, the first at least m, that never decrease. -/
def rise : Int → List E → Bool
  | _, [] => true
  | m, e :: l => decide (1 ≤ e.1) && decide (e.1 ≤ 1073741824) && decide (m ≤ e.1) && rise e.1 l
def zero : L := (0, 0, [])
def may (l : L) : Bool := decide (0 ≤ l.1) && decide (l.1 ≤ 1099511627776) && decide (0 ≤ l.2.1) && decide (l.2.1 ≤ 1073741824) && (decide (0 < l.1) || decide (l.2.1 = 0)) && decide (l.2.2.length ≤ 64) && rise l.2.1 l.2.2
def fair (l : L) : L := if may l = true then l else zero
def tm (l : List E) (k : Nat) : Int := (l[k]?.getD (0, 0, 0, 0, 0, 0, 0)).1
def last0 (l : L) : Int × Int := if l.2.2.length = 0 then (l.1, l.2.1) else (l.1 + l.2.2.length, tm l.2.2 (l.2.2.length - 1))
def last (l : L) : Int × Int := last0 (fair l)
def term0 (l : L) (i : Int) : Int × Bool := if i = l.1 then (l.2.1, true) else if i < l.1 ∨ l.1 + l.2.2.length < i then (0, false) else (tm l.2.2 (i - l.1 - 1).toNat, true)
def term (l : L) (i : Int) : Int × Bool := term0 (fair l) i
def newer (i t j u : Int) : Bool := decide (u < t) || (decide (t = u) && decide (j ≤ i))
/-- How many of more are at the beginning of old already. -/
def known : List E → List E → Nat
  | a :: l, b :: m => if a.1 = b.1 then known l m + 1 else 0
  | _, _ => 0
def why (l : L) (i t : Int) (more : List E) : Int :=
  if may l = false then 1 else if rise t more = false then 1 else if i < l.1 then 9 else if (term l i).2 = false then 10 else if (term l i).1 ≠ t then 8 else 0
def put (l : L) (at_ n : Nat) (more : List E) : L × Int :=
  if n = more.length then (l, 0) else if 64 < at_ + more.length then (zero, 7) else ((l.1, l.2.1, l.2.2.take (at_ + n) ++ more.drop n), 0)
def add (l : L) (i t : Int) (more : List E) : L × Int :=
  if why l i t more ≠ 0 then (zero, why l i t more) else put l (i - l.1).toNat (known (l.2.2.drop (i - l.1).toNat) more) more
def from0 (l : L) (i m : Int) : List E := if m ≤ 0 ∨ i ≤ l.1 ∨ l.1 + l.2.2.length < i then [] else (l.2.2.drop (i - l.1 - 1).toNat).take m.toNat
def from_ (l : L) (i m : Int) : List E := from0 (fair l) i m
def pack (l : L) (i : Int) : L × Int :=
  if may l = false then (zero, 1) else if 1099511627776 < i then (zero, 1) else if i < l.1 then (zero, 9) else if (term l i).2 = false then (zero, 10) else ((i, (term l i).1, l.2.2.drop (i - l.1).toNat), 0)

/-! Which may be. -/
theorem may_iff (l : L) : may l = true ↔ 0 ≤ l.1 ∧ l.1 ≤ 1099511627776 ∧ 0 ≤ l.2.1 ∧ l.2.1 ≤ 1073741824 ∧ (0 < l.1 ∨ l.2.1 = 0) ∧ l.2.2.length ≤ 64 ∧ rise l.2.1 l.2.2 = true := by
  unfold may
  simp only [Bool.and_eq_true, Bool.or_eq_true, decide_eq_true_eq, and_assoc]
theorem may_zero : may zero = true := rfl
theorem fair_may (l : L) : may (fair l) = true := by
  unfold fair
  split
  · assumption
  · rfl
theorem fair_of {l : L} (h : may l = true) : fair l = l := by unfold fair; rw [if_pos h]
theorem fair_not {l : L} (h : may l = false) : fair l = zero := by unfold fair; rw [if_neg (by rw [h]; simp)]
theorem tm_eq (l : List E) (k : Nat) (h : k < l.length) : tm l k = (l[k]).1 := by unfold tm; rw [List.getElem?_eq_getElem h]; rfl

theorem rise_cons (m : Int) (e : E) (l : List E) : rise m (e :: l) = true ↔ 1 ≤ e.1 ∧ e.1 ≤ 1073741824 ∧ m ≤ e.1 ∧ rise e.1 l = true := by
  rw [rise]; simp only [Bool.and_eq_true, decide_eq_true_eq, and_assoc]
/-- What a walk through terms has seen so far: of what is left the first must be at least a. -/
def upTo (r : Bool) (l : List E) (k : Nat) (a : Int) : Prop := r = rise a (l.drop k)
theorem upTo_zero (m : Int) (l : List E) : upTo (rise m l) l 0 m := by unfold upTo; simp
theorem upTo_max (m : Int) (l : List E) : upTo (rise m l) l 0 (if m < 1 then 1 else m) := by
  unfold upTo
  rw [List.drop_zero]
  split
  · rcases l with _ | ⟨e, l⟩
    · rfl
    · rw [Bool.eq_iff_iff, rise_cons, rise_cons]
      constructor
      · rintro ⟨h1, h2, h3, h4⟩; exact ⟨h1, h2, h1, h4⟩
      · rintro ⟨h1, h2, h3, h4⟩; exact ⟨h1, h2, by omega, h4⟩
  · rfl
theorem upTo_stop {r : Bool} {a : Int} {l : List E} {k : Nat} (h : upTo r l k a) (hk : k < l.length) (hb : ¬ (1 ≤ (l[k]).1 ∧ (l[k]).1 ≤ 1073741824 ∧ a ≤ (l[k]).1)) : r = false := by
  unfold upTo at h
  rw [h, List.drop_eq_getElem_cons hk, Bool.eq_false_iff, ne_eq, rise_cons]
  rintro ⟨h1, h2, h3, _⟩
  exact hb ⟨h1, h2, h3⟩
theorem upTo_step {r : Bool} {a : Int} {l : List E} {k : Nat} (h : upTo r l k a) (hk : k < l.length) (hb : 1 ≤ (l[k]).1 ∧ (l[k]).1 ≤ 1073741824 ∧ a ≤ (l[k]).1) : upTo r l (k + 1) (l[k]).1 := by
  unfold upTo at h ⊢
  rw [h, List.drop_eq_getElem_cons hk, rise]
  simp [hb.1, hb.2.1, hb.2.2]
theorem upTo_end {r : Bool} {a : Int} {l : List E} {k : Nat} (h : upTo r l k a) (hk : l.length ≤ k) : r = true := by
  unfold upTo at h
  rw [h, List.drop_eq_nil_of_le hk]; rfl

/-! How many are there already. -/
theorem known_le : ∀ (l m : List E), known l m ≤ l.length ∧ known l m ≤ m.length
  | [], _ => by simp [known]
  | _ :: _, [] => by simp [known]
  | a :: l, b :: m => by
    have := known_le l m
    unfold known
    split <;> simp only [List.length_cons] <;> omega
/-- The first k are there. -/
def same (l m : List E) (k : Nat) : Prop := k ≤ l.length ∧ k ≤ m.length ∧ known l m = k + known (l.drop k) (m.drop k)
theorem same_zero (l m : List E) : same l m 0 := ⟨Nat.zero_le _, Nat.zero_le _, by simp⟩
theorem same_step {l m : List E} {k : Nat} (h : same l m k) (h1 : k < l.length) (h2 : k < m.length) (h3 : tm l k = tm m k) : same l m (k + 1) := by
  obtain ⟨_, _, h⟩ := h
  refine ⟨h1, h2, ?_⟩
  rw [tm_eq _ _ h1, tm_eq _ _ h2] at h3
  rw [h, List.drop_eq_getElem_cons h1, List.drop_eq_getElem_cons h2, known, if_pos h3]
  omega
theorem same_stop {l m : List E} {k : Nat} (h : same l m k) (h3 : l.length ≤ k ∨ m.length ≤ k ∨ (k < l.length ∧ k < m.length ∧ tm l k ≠ tm m k)) : known l m = k := by
  obtain ⟨_, _, h⟩ := h
  rcases h3 with h3 | h3 | ⟨h1, h2, h3⟩
  · rw [h, List.drop_eq_nil_of_le h3]; simp [known]
  · rw [h, List.drop_eq_nil_of_le h3]
    rcases l.drop k with _ | ⟨_, _⟩ <;> simp [known]
  · rw [tm_eq _ _ h1, tm_eq _ _ h2] at h3
    rw [h, List.drop_eq_getElem_cons h1, List.drop_eq_getElem_cons h2, known, if_neg h3]; omega
theorem known_lt : ∀ (l m : List E) (k : Nat), k < known l m → tm l k = tm m k
  | [], _, k => by simp [known]
  | _ :: _, [], k => by simp [known]
  | a :: l, b :: m, k => by
    intro h
    unfold known at h
    split at h
    · rename_i he
      cases k with
      | zero => exact he
      | succ k => exact known_lt l m k (by omega)
    · omega
theorem known_at : ∀ (l m : List E), known l m < l.length → known l m < m.length → tm l (known l m) ≠ tm m (known l m)
  | [], _ => by simp [known]
  | _ :: _, [] => by simp [known]
  | a :: l, b :: m => by
    unfold known
    split
    · intro h1 h2
      exact known_at l m (by simpa using h1) (by simpa using h2)
    · rename_i he
      intro _ _
      exact he
end Go.Proofs.Ytjcljkbalpgfdaa.Lg

/-
  Votes, as plain mathematics: what is seen, what a ballot may be, whether a vote is given.
-/

namespace Go.Proofs.Ytjcljkbalpgfdaa.Vt

abbrev B := Int × Int
def see (b : B) (t : Int) : B := if b.1 < t ∧ t ≤ 1073741824 then (t, 0) else b
def may (b : B) : Bool := decide (0 ≤ b.1) && decide (b.1 ≤ 1073741824) && decide (0 ≤ b.2) && decide (b.2 ≤ 16)
/-- Of what is seen: is the vote given? -/
def gives (x : B) (p : Int × Int) (f t i u : Int) : Prop := t = x.1 ∧ (x.2 = 0 ∨ x.2 = f) ∧ 1 ≤ f ∧ f ≤ 16 ∧ Lg.newer i u p.1 p.2 = true
instance (x : B) (p : Int × Int) (f t i u : Int) : Decidable (gives x p f t i u) := by unfold gives; exact inferInstance
def grant (b : B) (p : Int × Int) (f t i u : Int) : B × Bool :=
  if gives (see b t) p f t i u then (((see b t).1, f), true) else (see b t, false)

theorem see_new {b : B} {t : Int} (h1 : b.1 < t) (h2 : t ≤ 1073741824) : see b t = (t, 0) := by unfold see; rw [if_pos ⟨h1, h2⟩]
theorem see_old {b : B} {t : Int} (h : ¬ (b.1 < t ∧ t ≤ 1073741824)) : see b t = b := by unfold see; rw [if_neg h]
theorem may_iff (b : B) : may b = true ↔ 0 ≤ b.1 ∧ b.1 ≤ 1073741824 ∧ 0 ≤ b.2 ∧ b.2 ≤ 16 := by unfold may; simp only [Bool.and_eq_true, decide_eq_true_eq, and_assoc]
theorem grant_yes {b : B} {p : Int × Int} {f t i u : Int} {x : B} (hx : see b t = x) (h : gives x p f t i u) : grant b p f t i u = ((x.1, f), true) := by unfold grant; rw [hx, if_pos h]
theorem grant_no {b : B} {p : Int × Int} {f t i u : Int} {x : B} (hx : see b t = x) (h : ¬ gives x p f t i u) : grant b p f t i u = (x, false) := by unfold grant; rw [hx, if_neg h]

theorem see_term (b : B) (t : Int) : b.1 ≤ (see b t).1 ∧ ((see b t).1 = b.1 → see b t = b) := by
  unfold see
  split
  · rename_i h; exact ⟨by simp only; omega, fun e => by simp only at e; omega⟩
  · exact ⟨Int.le_refl _, fun _ => rfl⟩
theorem see_may {b : B} (t : Int) (h : may b = true) : may (see b t) = true := by
  rw [may_iff] at h ⊢
  unfold see
  split
  · simp only; omega
  · exact h
/-- What a step of the statement on many who ask needs. -/
theorem grant_once {b : B} (p : Int × Int) (f t i u : Int) (h : may b = true) : b.1 ≤ (grant b p f t i u).1.1 ∧ ((grant b p f t i u).1.1 = b.1 → b.2 ≠ 0 → (grant b p f t i u).1.2 = b.2) ∧
    ((grant b p f t i u).2 = true → (grant b p f t i u).1.2 = f ∧ (grant b p f t i u).1.1 = t) ∧ may (grant b p f t i u).1 = true := by
  have h1 := see_term b t
  have h2 := see_may t h
  unfold grant
  generalize see b t = x at *
  rw [may_iff] at h2
  split
  · rename_i hg
    obtain ⟨g1, g2, g3, g4, g5⟩ := hg
    refine ⟨h1.1, fun e h0 => ?_, fun _ => ⟨rfl, g1.symm⟩, ?_⟩
    · have := h1.2 e
      subst this
      rcases g2 with g2 | g2
      · exact absurd g2 h0
      · exact g2.symm
    · rw [may_iff]; simp only; omega
  · exact ⟨h1.1, fun e _ => by rw [h1.2 e], fun h => (Bool.false_ne_true h).elim, (may_iff _).2 h2⟩
theorem grant_newest {b : B} {p : Int × Int} {f t i u : Int} (h : (grant b p f t i u).2 = true) : p.2 < u ∨ u = p.2 ∧ p.1 ≤ i := by
  unfold grant at h
  split at h
  · rename_i hg
    have := hg.2.2.2.2
    unfold Lg.newer at this
    simp only [Bool.or_eq_true, Bool.and_eq_true, decide_eq_true_eq] at this
    exact this
  · cases h
theorem see_see (b : B) (t : Int) : see (see b t) t = see b t := by
  by_cases h : b.1 < t ∧ t ≤ 1073741824
  · rw [see_new h.1 h.2, see_old (by simp only; omega)]
  · rw [see_old h, see_old h]
theorem see_self (x : B) : see x x.1 = x := by unfold see; rw [if_neg (by omega)]
theorem grant_again (b : B) (p : Int × Int) (f t i u : Int) : grant (grant b p f t i u).1 p f t i u = grant b p f t i u := by
  have hs := see_see b t
  unfold grant
  generalize see b t = x at *
  split
  · rename_i hg
    obtain ⟨g1, g2, g3, g4, g5⟩ := hg
    have : see (x.1, f) t = (x.1, f) := by rw [g1]; exact see_self (x.1, f)
    rw [this, if_pos ⟨g1, .inr rfl, g3, g4, g5⟩]
  · rename_i hg
    rw [hs, if_neg hg]
theorem see_two {b : B} {s t : Int} (hs : s ≤ 1073741824) (ht : t ≤ 1073741824) : see (see b s) t = see b (if s < t then t else s) := by
  by_cases h1 : b.1 < s
  · rw [see_new h1 hs]
    by_cases h2 : s < t
    · rw [if_pos h2, see_new (b := (s, 0)) h2 ht, see_new (by omega) ht]
    · rw [if_neg h2, see_old (b := (s, 0)) (fun h => h2 h.1), see_new h1 hs]
  · rw [see_old (fun h => h1 h.1)]
    by_cases h2 : s < t
    · rw [if_pos h2]
    · rw [if_neg h2, see_old (by omega), see_old (fun h => h1 h.1)]
/-- Two who are not the same are not both given the vote in one term. -/
theorem grant_two {b : B} {p : Int × Int} {f g t i u j v : Int} (hfg : f ≠ g) (h1 : (grant b p f t i u).2 = true) : (grant (grant b p f t i u).1 p g t j v).2 = false := by
  unfold grant at h1
  split at h1
  · rename_i hg
    obtain ⟨g1, g2, g3, g4, g5⟩ := hg
    rw [grant_yes rfl ⟨g1, g2, g3, g4, g5⟩]
    rw [grant_no (x := ((see b t).1, f)) ((congrArg (see ((see b t).1, f)) g1).trans (see_self ((see b t).1, f)))]
    rintro ⟨_, h2, h3, _⟩
    simp only at h2
    rcases h2 with h2 | h2
    · omega
    · exact hfg h2
  · cases h1
end Go.Proofs.Ytjcljkbalpgfdaa.Vt

/-
  Majorities, as plain mathematics: how many are more than half, how many have an index, what most have, up to where a log is settled.
-/

namespace Go.Proofs.Ytjcljkbalpgfdaa.Qr

def maj (n : Int) : Int := if n < 1 then 1 else n / 2 + 1
def held (l : List Int) (i : Int) : Nat := l.countP fun m => decide (i ≤ m)
def sort (l : List Int) : List Int := l.mergeSort fun x y => decide (x ≤ y)
/-- Where the greatest one of most stands, in order. -/
def spot (l : List Int) : Nat := l.length - (l.length / 2 + 1)
def most (l : List Int) : Int := (sort l)[spot l]?.getD 0
/-- The search downwards; k bounds the steps. -/
def down (L : Lg.L) (t s : Int) : Nat → Int → Int
  | 0, _ => s
  | k + 1, i => if i ≤ s then s else if (Lg.term L i).2 = false then s else if (Lg.term L i).1 = t then i else down L t s k (i - 1)
def commit (L : Lg.L) (mt : List Int) (t s : Int) : Int := down L t s 66 (min (most mt) (Lg.last L).1)

theorem maj_nat {n : Nat} (h : 0 < n) : maj (n : Int) = ((n / 2 + 1 : Nat) : Int) := by unfold maj; rw [if_neg (by omega)]; omega
theorem maj_all (n : Nat) : maj (n : Int) = ((n / 2 + 1 : Nat) : Int) := by unfold maj; split <;> omega
theorem sort_len (l : List Int) : (sort l).length = l.length := List.length_mergeSort l
theorem sort_perm (l : List Int) : (sort l).Perm l := List.mergeSort_perm l _
theorem sort_pair (l : List Int) : (sort l).Pairwise (· ≤ ·) := by
  have h := List.pairwise_mergeSort (le := fun x y : Int => decide (x ≤ y)) (fun a b c h1 h2 => by simp only [decide_eq_true_eq] at *; omega) (fun a b => by simp only [Bool.or_eq_true, decide_eq_true_eq]; omega) l
  exact h.imp fun h => by simpa using h
theorem spot_lt {l : List Int} (h : 0 < l.length) : spot l < (sort l).length := by rw [sort_len]; unfold spot; omega
theorem most_eq {l : List Int} (h : 0 < l.length) : most l = (sort l)[spot l]'(spot_lt h) := by unfold most; rw [List.getElem?_eq_getElem (spot_lt h)]; rfl
theorem most_get {l : List Int} (h : 0 < l.length) : (sort l)[spot l]? = some (most l) := by rw [most_eq h, List.getElem?_eq_getElem (spot_lt h)]
theorem most_nil : most [] = 0 := by unfold most; simp [spot, sort]
theorem most_mem {l : List Int} (h : 0 < l.length) : most l ∈ l := by rw [most_eq h]; exact (sort_perm l).mem_iff.1 (List.getElem_mem _)
theorem held_perm {l m : List Int} (h : l.Perm m) (i : Int) : held l i = held m i := h.countP_eq _
theorem held_le (l : List Int) (i : Int) : held l i ≤ l.length := List.countP_le_length
/-- Of a list in order: all from k on are at least what stands at k, and nothing ahead of k is more. -/
theorem held_sorted {s : List Int} (hs : s.Pairwise (· ≤ ·)) {k : Nat} (hk : k < s.length) (i : Int) : (i ≤ s[k] → s.length - k ≤ held s i) ∧ (s[k] < i → held s i ≤ s.length - (k + 1)) := by
  have hp := List.pairwise_iff_getElem.1 hs
  unfold held
  constructor
  · intro h
    rw [← List.take_append_drop k s, List.countP_append]
    have : (s.drop k).countP (fun m => decide (i ≤ m)) = (s.drop k).length := List.countP_eq_length.2 fun m hm => by
      obtain ⟨j, hj, rfl⟩ := List.getElem_of_mem hm
      rw [List.getElem_drop, decide_eq_true_eq]
      rw [List.length_drop] at hj
      rcases Nat.eq_zero_or_pos j with rfl | hj0
      · exact h
      · exact Int.le_trans h (hp k (k + j) hk (by omega) (by omega))
    rw [this, List.length_drop]
    have := List.take_append_drop k s
    rw [List.take_append_drop]
    omega
  · intro h
    rw [← List.take_append_drop (k + 1) s, List.countP_append]
    have : (s.take (k + 1)).countP (fun m => decide (i ≤ m)) = 0 := List.countP_eq_zero.2 fun m hm => by
      obtain ⟨j, hj, rfl⟩ := List.getElem_of_mem hm
      rw [List.getElem_take, decide_eq_true_eq]
      rw [List.length_take] at hj
      rcases Nat.lt_or_ge j k with hjk | hjk
      · have := hp j k (by omega) hk hjk; omega
      · obtain rfl : j = k := by omega
        omega
    have h2 : (s.drop (k + 1)).countP (fun m => decide (i ≤ m)) ≤ (s.drop (k + 1)).length := List.countP_le_length
    rw [List.length_drop] at h2
    rw [List.take_append_drop]
    omega
/-- Most have it: just what is no more than most. -/
theorem held_most {l : List Int} (h : 0 < l.length) (i : Int) : l.length / 2 + 1 ≤ held l i ↔ i ≤ most l := by
  have hq := spot_lt h
  obtain ⟨h1, h2⟩ := held_sorted (sort_pair l) hq i
  rw [← most_eq h, held_perm (sort_perm l), sort_len] at h1 h2
  unfold spot at h1 h2
  constructor
  · intro hh
    by_cases hlt : most l < i
    · have := h2 hlt; omega
    · omega
  · intro hh
    have := h1 hh
    omega
theorem most_is {l : List Int} {x : Int} (h : 0 < l.length) (h1 : l.length / 2 + 1 ≤ held l x) (h2 : ¬ l.length / 2 + 1 ≤ held l (x + 1)) : most l = x := by
  rw [held_most h] at h1 h2
  omega
theorem held_cons (x : Int) (l : List Int) (i : Int) : held (x :: l) i = held l i + if i ≤ x then 1 else 0 := by
  unfold held
  rw [List.countP_cons]
  simp
theorem held_take {l : List Int} {k : Nat} (h : k < l.length) (i : Int) : held (l.take (k + 1)) i = held (l.take k) i + if i ≤ l[k] then 1 else 0 := by
  unfold held
  rw [List.take_add_one, List.countP_append, List.getElem?_eq_getElem h]
  simp

/-! What the reference's loop has seen: the best one of those that most have. -/
def seen (M : Int) (l : List Int) (k : Nat) (best : Int) (found : Bool) : Prop :=
  (found = false → best = 0 ∧ ∀ j (h : j < l.length), j < k → M < l[j]) ∧ (found = true → 0 < k ∧ best ≤ M ∧ ∀ j (h : j < l.length), j < k → l[j] ≤ M → l[j] ≤ best)
theorem seen_zero (M : Int) (l : List Int) : seen M l 0 0 false := ⟨fun _ => ⟨rfl, fun j _ h => by omega⟩, fun h => by cases h⟩
theorem seen_off {M : Int} {l : List Int} {k : Nat} {b : Int} {f : Bool} (h : seen M l k b f) (hk : k < l.length) (hm : M < l[k]) : seen M l (k + 1) b f := by
  refine ⟨fun hf => ⟨(h.1 hf).1, fun j hj hjk => ?_⟩, fun hf => ⟨Nat.succ_pos _, (h.2 hf).2.1, fun j hj hjk hle => ?_⟩⟩
  · rcases Nat.lt_or_ge j k with h1 | h1
    · exact (h.1 hf).2 j hj h1
    · obtain rfl : j = k := by omega
      exact hm
  · rcases Nat.lt_or_ge j k with h1 | h1
    · exact (h.2 hf).2.2 j hj h1 hle
    · obtain rfl : j = k := by omega
      omega
theorem seen_keep {M : Int} {l : List Int} {k : Nat} {b : Int} (h : seen M l k b true) (hk : k < l.length) (hm : l[k] ≤ b) : seen M l (k + 1) b true := by
  refine ⟨fun hf => (Bool.noConfusion hf), fun hf => ⟨Nat.succ_pos _, (h.2 hf).2.1, fun j hj hjk hle => ?_⟩⟩
  rcases Nat.lt_or_ge j k with h1 | h1
  · exact (h.2 hf).2.2 j hj h1 hle
  · obtain rfl : j = k := by omega
    exact hm
theorem seen_take {M : Int} {l : List Int} {k : Nat} {b : Int} {f : Bool} (h : seen M l k b f) (hk : k < l.length) (hm : l[k] ≤ M) (hb : f = true → b < l[k]) : seen M l (k + 1) l[k] true := by
  refine ⟨fun hf => (Bool.noConfusion hf), fun _ => ⟨Nat.succ_pos _, hm, fun j hj hjk hle => ?_⟩⟩
  rcases Nat.lt_or_ge j k with h1 | h1
  · cases f with
    | false => have := (h.1 rfl).2 j hj h1; omega
    | true => have := (h.2 rfl).2.2 j hj h1 hle; have := hb rfl; omega
  · obtain rfl : j = k := by omega
    exact Int.le_refl _
theorem seen_end {l : List Int} {b : Int} {f : Bool} (h : seen (most l) l l.length b f) : b = most l := by
  rcases Nat.eq_zero_or_pos l.length with h0 | h0
  · obtain rfl : l = [] := List.eq_nil_of_length_eq_zero h0
    rw [most_nil]
    rw [most_nil] at h
    cases f with
    | false => exact (h.1 rfl).1
    | true => exact absurd (h.2 rfl).1 (by simp)
  · obtain ⟨j, hj, he⟩ := List.getElem_of_mem (most_mem h0)
    cases f with
    | false => have := (h.1 rfl).2 j hj hj; omega
    | true => have := (h.2 rfl).2.2 j hj hj (by omega); have := (h.2 rfl).2.1; omega

/-! The search downwards. -/
/-- From i on down the search answers R. -/
def goes (L : Lg.L) (t s R i : Int) : Prop := ∃ k : Nat, down L t s k i = R ∧ i < (Lg.fair L).1 + (k : Int)
theorem term_in {L : Lg.L} {i : Int} (h : (Lg.term L i).2 = true) : (Lg.fair L).1 ≤ i ∧ 0 ≤ (Lg.fair L).1 := by
  have hm := (Lg.may_iff _).1 (Lg.fair_may L)
  unfold Lg.term Lg.term0 at h
  refine ⟨?_, hm.1⟩
  split at h
  · omega
  · split at h
    · cases h
    · omega
theorem last_le (L : Lg.L) : (Lg.fair L).1 ≤ (Lg.last L).1 ∧ (Lg.last L).1 ≤ (Lg.fair L).1 + 64 ∧ 0 ≤ (Lg.fair L).1 ∧ (Lg.fair L).1 ≤ 1099511627776 := by
  have hm := (Lg.may_iff _).1 (Lg.fair_may L)
  unfold Lg.last Lg.last0
  obtain ⟨h1, h2, -, -, -, h3, -⟩ := hm
  split <;> simp only <;> omega
theorem goes_start (L : Lg.L) (m : List Int) (t s : Int) : goes L t s (commit L m t s) (min (most m) (Lg.last L).1) := ⟨66, rfl, by have := last_le L; omega⟩
theorem goes_low {L : Lg.L} {t s R i : Int} (h : goes L t s R i) (hi : i ≤ s) : R = s := by
  obtain ⟨k, h, _⟩ := h
  cases k with
  | zero => exact h.symm
  | succ k => rw [down, if_pos hi] at h; exact h.symm
theorem goes_none {L : Lg.L} {t s R i : Int} (h : goes L t s R i) (hi : (Lg.term L i).2 = false) : R = s := by
  obtain ⟨k, h, _⟩ := h
  cases k with
  | zero => exact h.symm
  | succ k =>
    rw [down, if_pos hi] at h
    split at h <;> exact h.symm
theorem goes_here {L : Lg.L} {t s R i : Int} (h : goes L t s R i) (h1 : s < i) (h2 : (Lg.term L i).2 = true) (h3 : (Lg.term L i).1 = t) : R = i := by
  obtain ⟨k, h, hk⟩ := h
  have := term_in h2
  cases k with
  | zero => omega
  | succ k => rw [down, if_neg (by omega), if_neg (by rw [h2]; simp), if_pos h3] at h; exact h.symm
theorem goes_on {L : Lg.L} {t s R i : Int} (h : goes L t s R i) (h1 : s < i) (h2 : (Lg.term L i).2 = true) (h3 : (Lg.term L i).1 ≠ t) : goes L t s R (i - 1) := by
  obtain ⟨k, h, hk⟩ := h
  have := term_in h2
  cases k with
  | zero => omega
  | succ k => rw [down, if_neg (by omega), if_neg (by rw [h2]; simp), if_neg h3] at h; exact ⟨k, h, by omega⟩

theorem last_len (L : Lg.L) : (Lg.last L).1 = (Lg.fair L).1 + (Lg.fair L).2.2.length := by
  unfold Lg.last Lg.last0
  split <;> simp only <;> omega
theorem term_range {L : Lg.L} {i : Int} (h1 : (Lg.fair L).1 ≤ i) (h2 : i ≤ (Lg.last L).1) : (Lg.term L i).2 = true := by
  rw [last_len] at h2
  unfold Lg.term Lg.term0
  split
  · rfl
  · rw [if_neg (by omega)]
theorem term_last {L : Lg.L} {i : Int} (h : (Lg.term L i).2 = true) : i ≤ (Lg.last L).1 := by
  rw [last_len]
  unfold Lg.term Lg.term0 at h
  split at h
  · omega
  · split at h
    · cases h
    · omega
/-- An index that may be settled. -/
def fit (L : Lg.L) (t s m i : Int) : Prop := Lg.term L i = (t, true) ∧ s < i ∧ i ≤ m
theorem down_max (L : Lg.L) (t s m : Int) : ∀ k i, i < (Lg.fair L).1 + ((k : Nat) : Int) → i ≤ (Lg.last L).1 → ∀ j, fit L t s m j → j ≤ i → j ≤ down L t s k i
  | 0, i, hk, _, j, hj, hji => by
    have := term_in (L := L) (i := j) (by rw [hj.1])
    omega
  | k + 1, i, hk, hl, j, hj, hji => by
    have hs := hj.2.1
    have h1 := term_in (L := L) (i := j) (by rw [hj.1])
    rw [down, if_neg (by omega), if_neg (by rw [term_range (by omega) hl]; simp)]
    split
    · omega
    · rename_i h2
      have : j ≠ i := fun e => h2 (by subst e; rw [hj.1])
      exact down_max L t s m k (i - 1) (by omega) (by omega) j hj (by omega)
theorem down_ok (L : Lg.L) (t s m : Int) : ∀ k i, i ≤ m → down L t s k i = s ∨ fit L t s m (down L t s k i)
  | 0, i, _ => .inl rfl
  | k + 1, i, hm => by
    rw [down]
    split
    · exact .inl rfl
    · split
      · exact .inl rfl
      · split
        · rename_i h1 h2 h3
          refine .inr ⟨?_, by omega, hm⟩
          have h2 : (Lg.term L i).2 = true := by simpa using h2
          rw [← h3, ← h2]
        · exact down_ok L t s m k (i - 1) (by omega)
/-- What the reference's loop has seen: the greatest one below i. -/
def best (L : Lg.L) (t s m i out : Int) : Prop := (out = s ∨ fit L t s m out) ∧ s ≤ out ∧ ∀ j, fit L t s m j → j < i → j ≤ out
theorem best_zero (L : Lg.L) (t s m : Int) : best L t s m ((Lg.last L).1 - 64) s := ⟨.inl rfl, Int.le_refl _, fun j hj hlt => by
  have h1 := term_in (L := L) (i := j) (by rw [hj.1])
  have := last_le L
  omega⟩
theorem best_yes {L : Lg.L} {t s m i out : Int} (_h : best L t s m i out) (hf : fit L t s m i) : best L t s m (i + 1) i := ⟨.inr hf, by have := hf.2.1; omega, fun j _ hlt => by omega⟩
theorem best_no {L : Lg.L} {t s m i out : Int} (h : best L t s m i out) (hf : ¬ fit L t s m i) : best L t s m (i + 1) out := ⟨h.1, h.2.1, fun j hj hlt => by
  rcases (show j < i ∨ j = i by omega) with h1 | rfl
  · exact h.2.2 j hj h1
  · exact absurd hj hf⟩
theorem best_end {L : Lg.L} {mt : List Int} {t s out : Int} (h : best L t s (most mt) ((Lg.last L).1 + 1) out) : out = commit L mt t s := by
  have h1 := last_le L
  have hok := down_ok L t s (most mt) 66 (min (most mt) (Lg.last L).1) (by omega)
  have hmax := down_max L t s (most mt) 66 (min (most mt) (Lg.last L).1) (by omega) (by omega)
  show out = down L t s 66 (min (most mt) (Lg.last L).1)
  generalize down L t s 66 (min (most mt) (Lg.last L).1) = c at *
  have hle : c ≤ out := by
    rcases hok with rfl | hok
    · exact h.2.1
    · exact h.2.2 c hok (by have := term_last (L := L) (i := c) (by rw [hok.1]); omega)
  have hge : out ≤ c := by
    rcases h.1 with e | hf
    · rcases hok with rfl | hok
      · omega
      · have := hok.2.1; omega
    · exact hmax out hf (by have := term_last (L := L) (i := out) (by rw [hf.1]); have := hf.2.2; omega)
  omega

/-! Where each has no less. -/
def sums (l m : List Int) : List Int := List.zipWith (· + ·) l m
theorem held_sums : ∀ (l m : List Int) (i : Int), l.length = m.length → (∀ x ∈ m, 0 ≤ x) → held l i ≤ held (sums l m) i
  | [], [], _, _, _ => by simp [held]
  | a :: l, b :: m, i, h, hm => by
    have hb := hm b (by simp)
    have := held_sums l m i (by simpa using h) (fun x hx => hm x (by simp [hx]))
    rw [show sums (a :: l) (b :: m) = (a + b) :: sums l m from rfl, held_cons, held_cons]
    split <;> split <;> omega
theorem sums_len {l m : List Int} (h : l.length = m.length) : (sums l m).length = l.length := by unfold sums; rw [List.length_zipWith]; omega
theorem sums_take {l m : List Int} {k : Nat} (h : k < l.length) (h2 : k < m.length) : (sums l m).take (k + 1) = (sums l m).take k ++ [l[k] + m[k]] := by
  have hk : k < (sums l m).length := by unfold sums; rw [List.length_zipWith]; omega
  rw [List.take_add_one, List.getElem?_eq_getElem hk]
  simp [sums]
theorem most_sums {l m : List Int} (h : l.length = m.length) (hm : ∀ x ∈ m, 0 ≤ x) : most l ≤ most (sums l m) := by
  rcases Nat.eq_zero_or_pos l.length with h0 | h0
  · obtain rfl : l = [] := List.eq_nil_of_length_eq_zero h0
    exact Int.le_refl _
  · have h2 := sums_len h
    have h3 := held_sums l m (most l) h hm
    have h4 := (held_most h0 (most l)).2 (Int.le_refl _)
    exact (held_most (by omega) _).1 (by omega)
end Go.Proofs.Ytjcljkbalpgfdaa.Qr

/-
  What the reference's list is behind so many of the entries that are added, as plain mathematics.
-/

namespace Go.Proofs.Ytjcljkbalpgfdaa.Lg

def step (a q : Nat) (l m : List E) (x : Nat) : List E := if x ≤ q then l else l.take (a + q) ++ (m.take x).drop q
theorem step_zero (a q : Nat) (l m : List E) : step a q l m 0 = l := by unfold step; rw [if_pos (Nat.zero_le _)]
theorem step_length {a q : Nat} {l m : List E} {x : Nat} (ha : a + q ≤ l.length) (hx : x ≤ m.length) (hq : q < x) : (step a q l m x).length = a + x := by
  unfold step
  rw [if_neg (by omega), List.length_append, List.length_take, List.length_drop, List.length_take]
  omega
theorem step_le {a q : Nat} {l m : List E} {x : Nat} (ha : a + q ≤ l.length) (hx : x ≤ m.length) : (step a q l m x).length ≤ l.length + x := by
  by_cases h : q < x
  · rw [step_length ha hx h]; omega
  · unfold step; rw [if_pos (by omega)]; omega
theorem tm_drop (l : List E) (a k : Nat) : tm (l.drop a) k = tm l (a + k) := by unfold tm; rw [List.getElem?_drop]
theorem step_true {a : Nat} {l m : List E} {x : Nat} (ha : a ≤ l.length) (hx : x < m.length) (h1 : a + x < (step a (known (l.drop a) m) l m x).length) (h2 : tm (step a (known (l.drop a) m) l m x) (a + x) = tm m x) :
    step a (known (l.drop a) m) l m (x + 1) = step a (known (l.drop a) m) l m x := by
  have hk := known_le (l.drop a) m
  have hat := known_at (l.drop a) m
  rw [List.length_drop] at hk hat
  generalize hq : known (l.drop a) m = q at *
  by_cases h : q < x
  · rw [step_length (by omega) (by omega) h] at h1; omega
  · have e : step a q l m x = l := by unfold step; rw [if_pos (by omega)]
    rw [e] at h1 h2 ⊢
    by_cases h' : x = q
    · subst h'
      exact absurd (by rw [tm_drop]; exact h2) (hat (by omega) (by omega))
    · unfold step; rw [if_pos (by omega)]
theorem step_false {a : Nat} {l m : List E} {x : Nat} {y : E} (ha : a ≤ l.length) (hx : x < m.length) (hy : m[x]? = some y) (h : ¬ (a + x < (step a (known (l.drop a) m) l m x).length ∧ tm (step a (known (l.drop a) m) l m x) (a + x) = tm m x)) :
    a + x ≤ (step a (known (l.drop a) m) l m x).length ∧ step a (known (l.drop a) m) l m (x + 1) = (step a (known (l.drop a) m) l m x).take (a + x) ++ [y] := by
  obtain rfl : m[x] = y := by rw [List.getElem?_eq_getElem hx] at hy; exact Option.some.inj hy
  have hk := known_le (l.drop a) m
  have hlt := known_lt (l.drop a) m x
  rw [List.length_drop] at hk
  generalize hq : known (l.drop a) m = q at *
  by_cases h1 : q < x
  · have hl := step_length (l := l) (m := m) (a := a) (q := q) (x := x) (by omega) (by omega) h1
    refine ⟨by omega, ?_⟩
    rw [List.take_of_length_le (by omega)]
    unfold step
    rw [if_neg (by omega), if_neg (by omega), List.take_succ_eq_append_getElem hx, List.drop_append_of_le_length (by rw [List.length_take]; omega), List.append_assoc]
  · have e : step a q l m x = l := by unfold step; rw [if_pos (by omega)]
    rw [e] at h ⊢
    have hxq : x = q := by
      rcases Nat.lt_or_ge x q with h2 | h2
      · exact absurd ⟨by omega, by rw [← tm_drop]; exact hlt h2⟩ h
      · omega
    subst hxq
    refine ⟨by omega, ?_⟩
    unfold step
    rw [if_neg (by omega), List.take_succ_eq_append_getElem hx, List.drop_append_of_le_length (by rw [List.length_take]; omega), List.drop_eq_nil_of_le (by rw [List.length_take]; omega), List.nil_append]
theorem put_step {b t : Int} {a : Nat} {l m : List E} (ha : a ≤ l.length) (hl : l.length ≤ 64) : put (b, t, l) a (known (l.drop a) m) m = if 64 < (step a (known (l.drop a) m) l m m.length).length then (zero, 7) else ((b, t, step a (known (l.drop a) m) l m m.length), 0) := by
  have hk := known_le (l.drop a) m
  rw [List.length_drop] at hk
  generalize known (l.drop a) m = q at *
  unfold put
  by_cases h : q = m.length
  · have e : step a q l m m.length = l := by unfold step; rw [if_pos (by omega)]
    rw [if_pos h, e, if_neg (by omega)]
  · have e : step a q l m m.length = l.take (a + q) ++ m.drop q := by unfold step; rw [if_neg (by omega), List.take_length]
    rw [if_neg h, step_length (by omega) (Nat.le_refl _) (by omega), e]
end Go.Proofs.Ytjcljkbalpgfdaa.Lg
