/-
  Majorities, as plain mathematics: how many are more than half, how many have an index, what most have, up to where a log is settled.
-/
import Derived.Test.YtdgfopiagfibkaaLg
namespace Go.Proofs.Ytdgfopiagfibkaa.Qr

def maj (n : Int) : Int := if n < 1 then 1 else n / 2 + 1
def held (l : List Int) (i : Int) : Nat := l.countP fun m => decide (i ≤ m)
def sort (l : List Int) : List Int := l.mergeSort fun x y => decide (x ≤ y)
/-- Where the greatest one of most stands, in order. -/
def spot (l : List Int) : Nat := l.length - (l.length / 2 + 1)
def most (l : List Int) : Int := (sort l)[spot l]?.getD 0
/-- The search downwards; k bounds the steps. -/
def down (L : Lg.L) (t s : Int) : Nat → Int → Int
  | 0, _ => s
  | k + 1, i => if i ≤ s then s else if (Lg.term L i).2 = false then s else if (Lg.term L i).1 = t then i else down L t s k (i - 1)
def commit (L : Lg.L) (mt : List Int) (t s : Int) : Int := down L t s 66 (min (most mt) (Lg.last L).1)

theorem maj_nat {n : Nat} (h : 0 < n) : maj (n : Int) = ((n / 2 + 1 : Nat) : Int) := by unfold maj; rw [if_neg (by omega)]; omega
theorem maj_all (n : Nat) : maj (n : Int) = ((n / 2 + 1 : Nat) : Int) := by unfold maj; split <;> omega
theorem sort_len (l : List Int) : (sort l).length = l.length := List.length_mergeSort l
theorem sort_perm (l : List Int) : (sort l).Perm l := List.mergeSort_perm l _
theorem sort_pair (l : List Int) : (sort l).Pairwise (· ≤ ·) := by
  have h := List.pairwise_mergeSort (le := fun x y : Int => decide (x ≤ y)) (fun a b c h1 h2 => by simp only [decide_eq_true_eq] at *; omega) (fun a b => by simp only [Bool.or_eq_true, decide_eq_true_eq]; omega) l
  exact h.imp fun h => by simpa using h
theorem spot_lt {l : List Int} (h : 0 < l.length) : spot l < (sort l).length := by rw [sort_len]; unfold spot; omega
theorem most_eq {l : List Int} (h : 0 < l.length) : most l = (sort l)[spot l]'(spot_lt h) := by unfold most; rw [List.getElem?_eq_getElem (spot_lt h)]; rfl
theorem most_get {l : List Int} (h : 0 < l.length) : (sort l)[spot l]? = some (most l) := by rw [most_eq h, List.getElem?_eq_getElem (spot_lt h)]
theorem most_nil : most [] = 0 := by unfold most; simp [spot, sort]
theorem most_mem {l : List Int} (h : 0 < l.length) : most l ∈ l := by rw [most_eq h]; exact (sort_perm l).mem_iff.1 (List.getElem_mem _)
theorem held_perm {l m : List Int} (h : l.Perm m) (i : Int) : held l i = held m i := h.countP_eq _
theorem held_le (l : List Int) (i : Int) : held l i ≤ l.length := List.countP_le_length
/-- Of a list in order: all from k on are at least what stands at k, and nothing ahead of k is more. -/
theorem held_sorted {s : List Int} (hs : s.Pairwise (· ≤ ·)) {k : Nat} (hk : k < s.length) (i : Int) : (i ≤ s[k] → s.length - k ≤ held s i) ∧ (s[k] < i → held s i ≤ s.length - (k + 1)) := by
  have hp := List.pairwise_iff_getElem.1 hs
  unfold held
  constructor
  · intro h
    rw [← List.take_append_drop k s, List.countP_append]
    have : (s.drop k).countP (fun m => decide (i ≤ m)) = (s.drop k).length := List.countP_eq_length.2 fun m hm => by
      obtain ⟨j, hj, rfl⟩ := List.getElem_of_mem hm
      rw [List.getElem_drop, decide_eq_true_eq]
      rw [List.length_drop] at hj
      rcases Nat.eq_zero_or_pos j with rfl | hj0
      · exact h
      · exact Int.le_trans h (hp k (k + j) hk (by omega) (by omega))
    rw [this, List.length_drop]
    have := List.take_append_drop k s
    rw [List.take_append_drop]
    omega
  · intro h
    rw [← List.take_append_drop (k + 1) s, List.countP_append]
    have : (s.take (k + 1)).countP (fun m => decide (i ≤ m)) = 0 := List.countP_eq_zero.2 fun m hm => by
      obtain ⟨j, hj, rfl⟩ := List.getElem_of_mem hm
      rw [List.getElem_take, decide_eq_true_eq]
      rw [List.length_take] at hj
      rcases Nat.lt_or_ge j k with hjk | hjk
      · have := hp j k (by omega) hk hjk; omega
      · obtain rfl : j = k := by omega
        omega
    have h2 : (s.drop (k + 1)).countP (fun m => decide (i ≤ m)) ≤ (s.drop (k + 1)).length := List.countP_le_length
    rw [List.length_drop] at h2
    rw [List.take_append_drop]
    omega
/-- Most have it: just what is no more than most. -/
theorem held_most {l : List Int} (h : 0 < l.length) (i : Int) : l.length / 2 + 1 ≤ held l i ↔ i ≤ most l := by
  have hq := spot_lt h
  obtain ⟨h1, h2⟩ := held_sorted (sort_pair l) hq i
  rw [← most_eq h, held_perm (sort_perm l), sort_len] at h1 h2
  unfold spot at h1 h2
  constructor
  · intro hh
    by_cases hlt : most l < i
    · have := h2 hlt; omega
    · omega
  · intro hh
    have := h1 hh
    omega
theorem most_is {l : List Int} {x : Int} (h : 0 < l.length) (h1 : l.length / 2 + 1 ≤ held l x) (h2 : ¬ l.length / 2 + 1 ≤ held l (x + 1)) : most l = x := by
  rw [held_most h] at h1 h2
  omega
theorem held_cons (x : Int) (l : List Int) (i : Int) : held (x :: l) i = held l i + if i ≤ x then 1 else 0 := by
  unfold held
  rw [List.countP_cons]
  simp
theorem held_take {l : List Int} {k : Nat} (h : k < l.length) (i : Int) : held (l.take (k + 1)) i = held (l.take k) i + if i ≤ l[k] then 1 else 0 := by
  unfold held
  rw [List.take_add_one, List.countP_append, List.getElem?_eq_getElem h]
  simp

/-! What the reference's loop has seen: the best one of those that most have. -/
def seen (M : Int) (l : List Int) (k : Nat) (best : Int) (found : Bool) : Prop :=
  (found = false → best = 0 ∧ ∀ j (h : j < l.length), j < k → M < l[j]) ∧ (found = true → 0 < k ∧ best ≤ M ∧ ∀ j (h : j < l.length), j < k → l[j] ≤ M → l[j] ≤ best)
theorem seen_zero (M : Int) (l : List Int) : seen M l 0 0 false := ⟨fun _ => ⟨rfl, fun j _ h => by omega⟩, fun h => by cases h⟩
theorem seen_off {M : Int} {l : List Int} {k : Nat} {b : Int} {f : Bool} (h : seen M l k b f) (hk : k < l.length) (hm : M < l[k]) : seen M l (k + 1) b f := by
  refine ⟨fun hf => ⟨(h.1 hf).1, fun j hj hjk => ?_⟩, fun hf => ⟨Nat.succ_pos _, (h.2 hf).2.1, fun j hj hjk hle => ?_⟩⟩
  · rcases Nat.lt_or_ge j k with h1 | h1
    · exact (h.1 hf).2 j hj h1
    · obtain rfl : j = k := by omega
      exact hm
  · rcases Nat.lt_or_ge j k with h1 | h1
    · exact (h.2 hf).2.2 j hj h1 hle
    · obtain rfl : j = k := by omega
      omega
theorem seen_keep {M : Int} {l : List Int} {k : Nat} {b : Int} (h : seen M l k b true) (hk : k < l.length) (hm : l[k] ≤ b) : seen M l (k + 1) b true := by
  refine ⟨fun hf => (Bool.noConfusion hf), fun hf => ⟨Nat.succ_pos _, (h.2 hf).2.1, fun j hj hjk hle => ?_⟩⟩
  rcases Nat.lt_or_ge j k with h1 | h1
  · exact (h.2 hf).2.2 j hj h1 hle
  · obtain rfl : j = k := by omega
    exact hm
theorem seen_take {M : Int} {l : List Int} {k : Nat} {b : Int} {f : Bool} (h : seen M l k b f) (hk : k < l.length) (hm : l[k] ≤ M) (hb : f = true → b < l[k]) : seen M l (k + 1) l[k] true := by
  refine ⟨fun hf => (Bool.noConfusion hf), fun _ => ⟨Nat.succ_pos _, hm, fun j hj hjk hle => ?_⟩⟩
  rcases Nat.lt_or_ge j k with h1 | h1
  · cases f with
    | false => have := (h.1 rfl).2 j hj h1; omega
    | true => have := (h.2 rfl).2.2 j hj h1 hle; have := hb rfl; omega
  · obtain rfl : j = k := by omega
    exact Int.le_refl _
theorem seen_end {l : List Int} {b : Int} {f : Bool} (h : seen (most l) l l.length b f) : b = most l := by
  rcases Nat.eq_zero_or_pos l.length with h0 | h0
  · obtain rfl : l = [] := List.eq_nil_of_length_eq_zero h0
    rw [most_nil]
    rw [most_nil] at h
    cases f with
    | false => exact (h.1 rfl).1
    | true => exact absurd (h.2 rfl).1 (by simp)
  · obtain ⟨j, hj, he⟩ := List.getElem_of_mem (most_mem h0)
    cases f with
    | false => have := (h.1 rfl).2 j hj hj; omega
    | true => have := (h.2 rfl).2.2 j hj hj (by omega); have := (h.2 rfl).2.1; omega

/-! The search downwards. -/
/-- From i on down the search answers R. -/
def goes (L : Lg.L) (t s R i : Int) : Prop := ∃ k : Nat, down L t s k i = R ∧ i < (Lg.fair L).1 + (k : Int)
theorem term_in {L : Lg.L} {i : Int} (h : (Lg.term L i).2 = true) : (Lg.fair L).1 ≤ i ∧ 0 ≤ (Lg.fair L).1 := by
  have hm := (Lg.may_iff _).1 (Lg.fair_may L)
  unfold Lg.term Lg.term0 at h
  refine ⟨?_, hm.1⟩
  split at h
  · omega
  · split at h
    · cases h
    · omega
theorem last_le (L : Lg.L) : (Lg.fair L).1 ≤ (Lg.last L).1 ∧ (Lg.last L).1 ≤ (Lg.fair L).1 + 64 ∧ 0 ≤ (Lg.fair L).1 ∧ (Lg.fair L).1 ≤ 1099511627776 := by
  have hm := (Lg.may_iff _).1 (Lg.fair_may L)
  unfold Lg.last Lg.last0
  obtain ⟨h1, h2, -, -, -, h3, -⟩ := hm
  split <;> simp only <;> omega
theorem goes_start (L : Lg.L) (m : List Int) (t s : Int) : goes L t s (commit L m t s) (min (most m) (Lg.last L).1) := ⟨66, rfl, by have := last_le L; omega⟩
theorem goes_low {L : Lg.L} {t s R i : Int} (h : goes L t s R i) (hi : i ≤ s) : R = s := by
  obtain ⟨k, h, _⟩ := h
  cases k with
  | zero => exact h.symm
  | succ k => rw [down, if_pos hi] at h; exact h.symm
theorem goes_none {L : Lg.L} {t s R i : Int} (h : goes L t s R i) (hi : (Lg.term L i).2 = false) : R = s := by
  obtain ⟨k, h, _⟩ := h
  cases k with
  | zero => exact h.symm
  | succ k =>
    rw [down, if_pos hi] at h
    split at h <;> exact h.symm
theorem goes_here {L : Lg.L} {t s R i : Int} (h : goes L t s R i) (h1 : s < i) (h2 : (Lg.term L i).2 = true) (h3 : (Lg.term L i).1 = t) : R = i := by
  obtain ⟨k, h, hk⟩ := h
  have := term_in h2
  cases k with
  | zero => omega
  | succ k => rw [down, if_neg (by omega), if_neg (by rw [h2]; simp), if_pos h3] at h; exact h.symm
theorem goes_on {L : Lg.L} {t s R i : Int} (h : goes L t s R i) (h1 : s < i) (h2 : (Lg.term L i).2 = true) (h3 : (Lg.term L i).1 ≠ t) : goes L t s R (i - 1) := by
  obtain ⟨k, h, hk⟩ := h
  have := term_in h2
  cases k with
  | zero => omega
  | succ k => rw [down, if_neg (by omega), if_neg (by rw [h2]; simp), if_neg h3] at h; exact ⟨k, h, by omega⟩

/-! Where each has no less. -/
def sums (l m : List Int) : List Int := List.zipWith (· + ·) l m
theorem held_sums : ∀ (l m : List Int) (i : Int), l.length = m.length → (∀ x ∈ m, 0 ≤ x) → held l i ≤ held (sums l m) i
  | [], [], _, _, _ => by simp [held]
  | a :: l, b :: m, i, h, hm => by
    have hb := hm b (by simp)
    have := held_sums l m i (by simpa using h) (fun x hx => hm x (by simp [hx]))
    rw [show sums (a :: l) (b :: m) = (a + b) :: sums l m from rfl, held_cons, held_cons]
    split <;> split <;> omega
theorem sums_len {l m : List Int} (h : l.length = m.length) : (sums l m).length = l.length := by unfold sums; rw [List.length_zipWith]; omega
theorem sums_take {l m : List Int} {k : Nat} (h : k < l.length) (h2 : k < m.length) : (sums l m).take (k + 1) = (sums l m).take k ++ [l[k] + m[k]] := by
  have hk : k < (sums l m).length := by unfold sums; rw [List.length_zipWith]; omega
  rw [List.take_add_one, List.getElem?_eq_getElem hk]
  simp [sums]
theorem most_sums {l m : List Int} (h : l.length = m.length) (hm : ∀ x ∈ m, 0 ≤ x) : most l ≤ most (sums l m) := by
  rcases Nat.eq_zero_or_pos l.length with h0 | h0
  · obtain rfl : l = [] := List.eq_nil_of_length_eq_zero h0
    exact Int.le_refl _
  · have h2 := sums_len h
    have h3 := held_sums l m (most l) h hm
    have h4 := (held_most h0 (most l)).2 (Int.le_refl _)
    exact (held_most (by omega) _).1 (by omega)
end Go.Proofs.Ytdgfopiagfibkaa.Qr
