/-
  Logs, as plain mathematics: which may be, their last entry, the term of an index, what is added, read, packed.
-/
namespace Go.Proofs.Ytdgfopiagfibkaa.Lg

abbrev E := Int × Int × Int × Int × Int × Int × Int
abbrev L := Int × Int × List E
/-- Terms from 1 to the greatest, the first at least m, that never decrease. -/
def rise : Int → List E → Bool
  | _, [] => true
  | m, e :: l => decide (1 ≤ e.1) && decide (e.1 ≤ 1073741824) && decide (m ≤ e.1) && rise e.1 l
def zero : L := (0, 0, [])
def may (l : L) : Bool := decide (0 ≤ l.1) && decide (l.1 ≤ 1099511627776) && decide (0 ≤ l.2.1) && decide (l.2.1 ≤ 1073741824) && (decide (0 < l.1) || decide (l.2.1 = 0)) && decide (l.2.2.length ≤ 64) && rise l.2.1 l.2.2
def fair (l : L) : L := if may l = true then l else zero
def tm (l : List E) (k : Nat) : Int := (l[k]?.getD (0, 0, 0, 0, 0, 0, 0)).1
def last0 (l : L) : Int × Int := if l.2.2.length = 0 then (l.1, l.2.1) else (l.1 + l.2.2.length, tm l.2.2 (l.2.2.length - 1))
def last (l : L) : Int × Int := last0 (fair l)
def term0 (l : L) (i : Int) : Int × Bool := if i = l.1 then (l.2.1, true) else if i < l.1 ∨ l.1 + l.2.2.length < i then (0, false) else (tm l.2.2 (i - l.1 - 1).toNat, true)
def term (l : L) (i : Int) : Int × Bool := term0 (fair l) i
def newer (i t j u : Int) : Bool := decide (u < t) || (decide (t = u) && decide (j ≤ i))
/-- How many of more are at the beginning of old already. -/
def known : List E → List E → Nat
  | a :: l, b :: m => if a.1 = b.1 then known l m + 1 else 0
  | _, _ => 0
def why (l : L) (i t : Int) (more : List E) : Int :=
  if may l = false then 1 else if rise t more = false then 1 else if i < l.1 then 9 else if (term l i).2 = false then 10 else if (term l i).1 ≠ t then 8 else 0
def put (l : L) (at_ n : Nat) (more : List E) : L × Int :=
  if n = more.length then (l, 0) else if 64 < at_ + more.length then (zero, 7) else ((l.1, l.2.1, l.2.2.take (at_ + n) ++ more.drop n), 0)
def add (l : L) (i t : Int) (more : List E) : L × Int :=
  if why l i t more ≠ 0 then (zero, why l i t more) else put l (i - l.1).toNat (known (l.2.2.drop (i - l.1).toNat) more) more
def from0 (l : L) (i m : Int) : List E := if m ≤ 0 ∨ i ≤ l.1 ∨ l.1 + l.2.2.length < i then [] else (l.2.2.drop (i - l.1 - 1).toNat).take m.toNat
def from_ (l : L) (i m : Int) : List E := from0 (fair l) i m
def pack (l : L) (i : Int) : L × Int :=
  if may l = false then (zero, 1) else if 1099511627776 < i then (zero, 1) else if i < l.1 then (zero, 9) else if (term l i).2 = false then (zero, 10) else ((i, (term l i).1, l.2.2.drop (i - l.1).toNat), 0)

/-! Which may be. -/
theorem may_iff (l : L) : may l = true ↔ 0 ≤ l.1 ∧ l.1 ≤ 1099511627776 ∧ 0 ≤ l.2.1 ∧ l.2.1 ≤ 1073741824 ∧ (0 < l.1 ∨ l.2.1 = 0) ∧ l.2.2.length ≤ 64 ∧ rise l.2.1 l.2.2 = true := by
  unfold may
  simp only [Bool.and_eq_true, Bool.or_eq_true, decide_eq_true_eq, and_assoc]
theorem may_zero : may zero = true := rfl
theorem fair_may (l : L) : may (fair l) = true := by
  unfold fair
  split
  · assumption
  · rfl
theorem fair_of {l : L} (h : may l = true) : fair l = l := by unfold fair; rw [if_pos h]
theorem fair_not {l : L} (h : may l = false) : fair l = zero := by unfold fair; rw [if_neg (by rw [h]; simp)]
theorem tm_eq (l : List E) (k : Nat) (h : k < l.length) : tm l k = (l[k]).1 := by unfold tm; rw [List.getElem?_eq_getElem h]; rfl

theorem rise_cons (m : Int) (e : E) (l : List E) : rise m (e :: l) = true ↔ 1 ≤ e.1 ∧ e.1 ≤ 1073741824 ∧ m ≤ e.1 ∧ rise e.1 l = true := by
  rw [rise]; simp only [Bool.and_eq_true, decide_eq_true_eq, and_assoc]
/-- What a walk through terms has seen so far: of what is left the first must be at least a. -/
def upTo (r : Bool) (l : List E) (k : Nat) (a : Int) : Prop := r = rise a (l.drop k)
theorem upTo_zero (m : Int) (l : List E) : upTo (rise m l) l 0 m := by unfold upTo; simp
theorem upTo_max (m : Int) (l : List E) : upTo (rise m l) l 0 (if m < 1 then 1 else m) := by
  unfold upTo
  rw [List.drop_zero]
  split
  · rcases l with _ | ⟨e, l⟩
    · rfl
    · rw [Bool.eq_iff_iff, rise_cons, rise_cons]
      constructor
      · rintro ⟨h1, h2, h3, h4⟩; exact ⟨h1, h2, h1, h4⟩
      · rintro ⟨h1, h2, h3, h4⟩; exact ⟨h1, h2, by omega, h4⟩
  · rfl
theorem upTo_stop {r : Bool} {a : Int} {l : List E} {k : Nat} (h : upTo r l k a) (hk : k < l.length) (hb : ¬ (1 ≤ (l[k]).1 ∧ (l[k]).1 ≤ 1073741824 ∧ a ≤ (l[k]).1)) : r = false := by
  unfold upTo at h
  rw [h, List.drop_eq_getElem_cons hk, Bool.eq_false_iff, ne_eq, rise_cons]
  rintro ⟨h1, h2, h3, _⟩
  exact hb ⟨h1, h2, h3⟩
theorem upTo_step {r : Bool} {a : Int} {l : List E} {k : Nat} (h : upTo r l k a) (hk : k < l.length) (hb : 1 ≤ (l[k]).1 ∧ (l[k]).1 ≤ 1073741824 ∧ a ≤ (l[k]).1) : upTo r l (k + 1) (l[k]).1 := by
  unfold upTo at h ⊢
  rw [h, List.drop_eq_getElem_cons hk, rise]
  simp [hb.1, hb.2.1, hb.2.2]
theorem upTo_end {r : Bool} {a : Int} {l : List E} {k : Nat} (h : upTo r l k a) (hk : l.length ≤ k) : r = true := by
  unfold upTo at h
  rw [h, List.drop_eq_nil_of_le hk]; rfl

/-! How many are there already. -/
theorem known_le : ∀ (l m : List E), known l m ≤ l.length ∧ known l m ≤ m.length
  | [], _ => by simp [known]
  | _ :: _, [] => by simp [known]
  | a :: l, b :: m => by
    have := known_le l m
    unfold known
    split <;> simp only [List.length_cons] <;> omega
/-- The first k are there. -/
def same (l m : List E) (k : Nat) : Prop := k ≤ l.length ∧ k ≤ m.length ∧ known l m = k + known (l.drop k) (m.drop k)
theorem same_zero (l m : List E) : same l m 0 := ⟨Nat.zero_le _, Nat.zero_le _, by simp⟩
theorem same_step {l m : List E} {k : Nat} (h : same l m k) (h1 : k < l.length) (h2 : k < m.length) (h3 : tm l k = tm m k) : same l m (k + 1) := by
  obtain ⟨_, _, h⟩ := h
  refine ⟨h1, h2, ?_⟩
  rw [tm_eq _ _ h1, tm_eq _ _ h2] at h3
  rw [h, List.drop_eq_getElem_cons h1, List.drop_eq_getElem_cons h2, known, if_pos h3]
  omega
theorem same_stop {l m : List E} {k : Nat} (h : same l m k) (h3 : l.length ≤ k ∨ m.length ≤ k ∨ (k < l.length ∧ k < m.length ∧ tm l k ≠ tm m k)) : known l m = k := by
  obtain ⟨_, _, h⟩ := h
  rcases h3 with h3 | h3 | ⟨h1, h2, h3⟩
  · rw [h, List.drop_eq_nil_of_le h3]; simp [known]
  · rw [h, List.drop_eq_nil_of_le h3]
    rcases l.drop k with _ | ⟨_, _⟩ <;> simp [known]
  · rw [tm_eq _ _ h1, tm_eq _ _ h2] at h3
    rw [h, List.drop_eq_getElem_cons h1, List.drop_eq_getElem_cons h2, known, if_neg h3]; omega
theorem known_lt : ∀ (l m : List E) (k : Nat), k < known l m → tm l k = tm m k
  | [], _, k => by simp [known]
  | _ :: _, [], k => by simp [known]
  | a :: l, b :: m, k => by
    intro h
    unfold known at h
    split at h
    · rename_i he
      cases k with
      | zero => exact he
      | succ k => exact known_lt l m k (by omega)
    · omega
theorem known_at : ∀ (l m : List E), known l m < l.length → known l m < m.length → tm l (known l m) ≠ tm m (known l m)
  | [], _ => by simp [known]
  | _ :: _, [] => by simp [known]
  | a :: l, b :: m => by
    unfold known
    split
    · intro h1 h2
      exact known_at l m (by simpa using h1) (by simpa using h2)
    · rename_i he
      intro _ _
      exact he
end Go.Proofs.Ytdgfopiagfibkaa.Lg
