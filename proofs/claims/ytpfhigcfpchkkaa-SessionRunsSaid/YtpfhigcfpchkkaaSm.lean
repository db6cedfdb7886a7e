/-
  The mathematics of sessions: what is valid, where a client's session stands, what was answered, what a list is with an answer more. No program.
-/
import Derived.Test.YtpfhigcfpchkkaaRep
namespace Go.Proofs.Ytpfhigcfpchkkaa.Sm

abbrev S := Int × Int × Int
def okc (n : Int) : Bool := decide (1 ≤ n) && decide (n ≤ 1048576)
def oks (n : Int) : Bool := decide (1 ≤ n) && decide (n ≤ 1099511627776)
/-- Valid from a client's number on. -/
def rise : Int → List S → Bool
  | _, [] => true
  | m, s :: l => okc s.1 && oks s.2.1 && decide (m < s.1) && rise s.1 l
def may (l : List S) : Bool := decide (l.length ≤ 16) && rise 0 l
/-- How many stand ahead of a client. -/
def pos : List S → Int → Nat
  | [], _ => 0
  | s :: l, c => if s.1 < c then pos l c + 1 else 0
/-- A client's session; noughts. -/
def fnd : List S → Int → S
  | [], _ => (0, 0, 0)
  | s :: l, c => if s.1 = c then s else fnd l c
def has : List S → Int → Bool
  | [], _ => false
  | s :: l, c => if s.1 = c then true else has l c
def look (l : List S) (c q : Int) : Int × Bool × Int :=
  if (may l && okc c && oks q) = false then (0, false, 1)
  else if q < (fnd l c).2.1 then (0, false, 9)
  else if q = (fnd l c).2.1 then ((fnd l c).2.2, true, 0)
  else if (fnd l c).2.1 + 1 < q then (0, false, 10)
  else (0, false, 0)
/-- A session laid in. -/
def ins : List S → S → List S
  | [], s => [s]
  | x :: l, s => if x.1 < s.1 then x :: ins l s else if x.1 = s.1 then s :: l else s :: x :: l
def put (l : List S) (c q a : Int) : List S × Int :=
  if (look l c q).2.2 ≠ 0 then ([], (look l c q).2.2)
  else if (look l c q).2.1 = true then ([], 6)
  else if has l c = false ∧ l.length = 16 then ([], 7)
  else (ins l (c, q, a), 0)

theorem okc_iff {n : Int} : okc n = true ↔ 1 ≤ n ∧ n ≤ 1048576 := by simp [okc]
theorem oks_iff {n : Int} : oks n = true ↔ 1 ≤ n ∧ n ≤ 1099511627776 := by simp [oks]
theorem rise_cons {m : Int} {s : S} {l : List S} : rise m (s :: l) = true ↔ (1 ≤ s.1 ∧ s.1 ≤ 1048576) ∧ (1 ≤ s.2.1 ∧ s.2.1 ≤ 1099511627776) ∧ m < s.1 ∧ rise s.1 l = true := by
  simp [rise, okc, oks, and_assoc]
theorem rise_mono {m m' : Int} {l : List S} (h : rise m l = true) (hm : m' ≤ m) : rise m' l = true := by
  cases l with
  | nil => rfl
  | cons s l =>
    obtain ⟨h1, h2, h3, h4⟩ := rise_cons.1 h
    exact rise_cons.2 ⟨h1, h2, by omega, h4⟩
/-- All that is valid from m on is greater than m. -/
theorem rise_gt {m : Int} {l : List S} (h : rise m l = true) : ∀ k (hk : k < l.length), m < (l[k]).1 := by
  induction l generalizing m with
  | nil => intro k hk; simp at hk
  | cons s l ih =>
    obtain ⟨h1, h2, h3, h4⟩ := rise_cons.1 h
    intro k hk
    cases k with
    | zero => exact h3
    | succ k => have := ih h4 k (by simpa using hk); simp; omega
theorem rise_ok {m : Int} {l : List S} (h : rise m l = true) : ∀ k (hk : k < l.length), (1 ≤ (l[k]).1 ∧ (l[k]).1 ≤ 1048576) ∧ (1 ≤ (l[k]).2.1 ∧ (l[k]).2.1 ≤ 1099511627776) := by
  induction l generalizing m with
  | nil => intro k hk; simp at hk
  | cons s l ih =>
    obtain ⟨h1, h2, h3, h4⟩ := rise_cons.1 h
    intro k hk
    cases k with
    | zero => exact ⟨h1, h2⟩
    | succ k => exact ih h4 k (by simpa using hk)
theorem rise_asc {m : Int} {l : List S} (h : rise m l = true) : ∀ i j (hij : i < j) (hj : j < l.length), (l[i]'(by omega)).1 < (l[j]).1 := by
  induction l generalizing m with
  | nil => intro i j _ hj; simp at hj
  | cons s l ih =>
    obtain ⟨h1, h2, h3, h4⟩ := rise_cons.1 h
    intro i j hij hj
    cases j with
    | zero => omega
    | succ j =>
      cases i with
      | zero => exact rise_gt h4 j (by simpa using hj)
      | succ i => exact ih h4 i j (by omega) (by simpa using hj)

/-- Where a walk through the list stands. -/
def upTo (r : Bool) (l : List S) (k : Nat) (x : Int) : Prop := r = rise x (l.drop k)
theorem upTo_zero (l : List S) : upTo (rise 0 l) l 0 0 := rfl
theorem drop_cons {l : List S} {k : Nat} (hk : k < l.length) : l.drop k = l[k] :: l.drop (k + 1) := List.drop_eq_getElem_cons hk
theorem upTo_stop {r : Bool} {l : List S} {k : Nat} {x : Int} (h : upTo r l k x) (hk : k < l.length) (hn : ¬ (okc (l[k]).1 = true ∧ oks (l[k]).2.1 = true ∧ x < (l[k]).1)) : r = false := by
  unfold upTo at h
  rw [drop_cons hk] at h
  rw [h, Bool.eq_false_iff, ne_eq]
  intro h
  simp [rise] at h
  exact hn ⟨h.1.1.1, h.1.1.2, h.1.2⟩
theorem upTo_step {r : Bool} {l : List S} {k : Nat} {x : Int} (h : upTo r l k x) (hk : k < l.length) (h1 : okc (l[k]).1 = true) (h2 : oks (l[k]).2.1 = true) (h3 : x < (l[k]).1) : upTo r l (k + 1) (l[k]).1 := by
  unfold upTo at h ⊢
  rw [drop_cons hk] at h
  rw [h]
  simp [rise, h1, h2, h3]
theorem upTo_end {r : Bool} {l : List S} {k : Nat} {x : Int} (h : upTo r l k x) (hk : l.length ≤ k) : r = true := by
  unfold upTo at h
  rw [h, List.drop_eq_nil_of_le hk]; rfl

theorem pos_le (l : List S) (c : Int) : pos l c ≤ l.length := by
  induction l with
  | nil => exact Nat.le_refl _
  | cons s l ih => unfold pos; split <;> simp <;> omega
theorem pos_lt (l : List S) (c : Int) : ∀ k (hk : k < pos l c), (l[k]'(Nat.lt_of_lt_of_le hk (pos_le l c))).1 < c := by
  induction l with
  | nil => intro k hk; simp [pos] at hk
  | cons s l ih =>
    intro k hk
    by_cases h : s.1 < c
    · rw [pos, if_pos h] at hk
      cases k with
      | zero => exact h
      | succ k => exact ih k (by omega)
    · rw [pos, if_neg h] at hk; omega
theorem pos_at (l : List S) (c : Int) (h : pos l c < l.length) : c ≤ (l[pos l c]).1 := by
  induction l with
  | nil => simp at h
  | cons s l ih =>
    by_cases hs : s.1 < c
    · have e : pos (s :: l) c = pos l c + 1 := by rw [pos, if_pos hs]
      have h' : pos l c < l.length := by rw [e] at h; simpa using h
      have := ih h'
      simp only [e, List.getElem_cons_succ]
      exact this
    · have e : pos (s :: l) c = 0 := by rw [pos, if_neg hs]
      simp only [e, List.getElem_cons_zero]
      omega
theorem pos_uniq {l : List S} {c : Int} {p : Nat} (hp : p ≤ l.length) (h1 : ∀ t (ht : t < p), (l[t]'(by omega)).1 < c) (h2 : ∀ t (_ : p ≤ t) (ht : t < l.length), c ≤ (l[t]).1) : p = pos l c := by
  rcases Nat.lt_trichotomy p (pos l c) with h | h | h
  · have hl := pos_le l c
    have := pos_lt l c p h
    have := h2 p (Nat.le_refl _) (by omega)
    omega
  · exact h
  · have := h1 _ h
    have := pos_at l c (by omega)
    omega
/-- From a client's place on none is less. -/
theorem pos_ge {m : Int} {l : List S} (hr : rise m l = true) (c : Int) : ∀ k (_ : pos l c ≤ k) (hk : k < l.length), c ≤ (l[k]).1 := by
  intro k h1 hk
  have h2 := pos_at l c (by omega)
  rcases Nat.lt_or_ge (pos l c) k with h | h
  · have := rise_asc hr _ k h hk; omega
  · have : pos l c = k := by omega
    simp only [this] at h2; exact h2

theorem has_none {m : Int} {l : List S} (h : rise m l = true) {c : Int} (hc : c ≤ m) : has l c = false ∧ fnd l c = (0, 0, 0) := by
  induction l generalizing m with
  | nil => exact ⟨rfl, rfl⟩
  | cons s l ih =>
    obtain ⟨h1, h2, h3, h4⟩ := rise_cons.1 h
    unfold has fnd
    rw [if_neg (by omega), if_neg (by omega)]
    exact ih h4 (by omega)
/-- A client has a session where one stands in its place. -/
theorem has_pos {m : Int} {l : List S} (h : rise m l = true) (c : Int) : has l c = decide (∃ h : pos l c < l.length, (l[pos l c]).1 = c) ∧
    (∀ h : pos l c < l.length, (l[pos l c]).1 = c → fnd l c = l[pos l c]) ∧ (has l c = false → fnd l c = (0, 0, 0)) := by
  induction l generalizing m with
  | nil => exact ⟨by simp [has], fun h => by simp at h, fun _ => rfl⟩
  | cons s l ih =>
    obtain ⟨h1, h2, h3, h4⟩ := rise_cons.1 h
    obtain ⟨i1, i2, i3⟩ := ih h4
    by_cases hs : s.1 < c
    · have e : pos (s :: l) c = pos l c + 1 := by rw [pos, if_pos hs]
      have e2 : has (s :: l) c = has l c := by rw [has, if_neg (by omega)]
      have e3 : fnd (s :: l) c = fnd l c := by rw [fnd, if_neg (by omega)]
      rw [e2, e3, i1]
      refine ⟨?_, fun hp hq => ?_, fun hf => i3 (by rw [i1]; exact hf)⟩
      · simp [e]
      · simp only [e, List.getElem_cons_succ, List.length_cons] at hp hq ⊢
        exact i2 (by omega) hq
    · have e : pos (s :: l) c = 0 := by rw [pos, if_neg hs]
      by_cases he : s.1 = c
      · refine ⟨by simp [has, he, e], fun _ _ => by simp only [e, List.getElem_cons_zero]; rw [fnd, if_pos he], fun hf => by simp [has, he] at hf⟩
      · have hn := has_none h4 (c := c) (by omega)
        refine ⟨by simp [has, he, e, hn.1], fun _ hq => ?_, fun _ => by rw [fnd, if_neg he]; exact hn.2⟩
        simp only [e, List.getElem_cons_zero] at hq
        exact absurd hq he
theorem fnd_ok {m : Int} {l : List S} (h : rise m l = true) {c : Int} (hh : has l c = true) : (fnd l c).1 = c ∧ 1 ≤ (fnd l c).2.1 ∧ (fnd l c).2.1 ≤ 1099511627776 := by
  induction l generalizing m with
  | nil => simp [has] at hh
  | cons s l ih =>
    obtain ⟨h1, h2, h3, h4⟩ := rise_cons.1 h
    by_cases he : s.1 = c
    · rw [fnd, if_pos he]; exact ⟨he, h2⟩
    · rw [fnd, if_neg he]; rw [has, if_neg he] at hh; exact ih h4 hh
theorem fnd_none {l : List S} {c : Int} (hh : has l c = false) : fnd l c = (0, 0, 0) := by
  induction l with
  | nil => rfl
  | cons s l ih =>
    by_cases he : s.1 = c
    · simp [has, he] at hh
    · rw [fnd, if_neg he]; rw [has, if_neg he] at hh; exact ih hh
/-- The number's range. -/
theorem fnd_range {m : Int} {l : List S} (h : rise m l = true) (c : Int) : 0 ≤ (fnd l c).2.1 ∧ (fnd l c).2.1 ≤ 1099511627776 ∧ ((fnd l c).2.1 = 0 ↔ has l c = false) := by
  rcases hh : has l c with _ | _
  · rw [fnd_none hh]; simp
  · have := fnd_ok h hh
    refine ⟨by omega, by omega, ?_⟩
    simp; omega

/-- Where a search for a client stands. -/
def fu (r : S) (l : List S) (c : Int) (k : Nat) : Prop := r = fnd (l.drop k) c
theorem fu_zero (l : List S) (c : Int) : fu (fnd l c) l c 0 := rfl
theorem fu_hit {r : S} {l : List S} {c : Int} {k : Nat} (h : fu r l c k) (hk : k < l.length) (e : (l[k]).1 = c) : r = l[k] := by
  unfold fu at h
  rw [drop_cons hk, fnd, if_pos e] at h
  exact h
theorem fu_miss {r : S} {l : List S} {c : Int} {k : Nat} (h : fu r l c k) (hk : k < l.length) (e : (l[k]).1 ≠ c) : fu r l c (k + 1) := by
  unfold fu at h ⊢
  rw [drop_cons hk, fnd, if_neg e] at h
  exact h
theorem fu_end {r : S} {l : List S} {c : Int} {k : Nat} (h : fu r l c k) (hk : l.length ≤ k) : r = (0, 0, 0) := by
  unfold fu at h
  rw [h, List.drop_eq_nil_of_le hk]; rfl

/-! A session laid in. -/
theorem ins_eq (l : List S) (s : S) : ins l s = if _h : pos l s.1 < l.length ∧ (l[pos l s.1]?.map (·.1)) = some s.1 then l.set (pos l s.1) s else l.take (pos l s.1) ++ [s] ++ l.drop (pos l s.1) := by
  induction l with
  | nil => simp [ins, pos]
  | cons x l ih =>
    by_cases hx : x.1 < s.1
    · have e : pos (x :: l) s.1 = pos l s.1 + 1 := by rw [pos, if_pos hx]
      rw [ins, if_pos hx, ih]
      simp only [e, List.length_cons, Nat.add_lt_add_iff_right, List.getElem?_cons_succ, List.set_cons_succ, List.take_succ_cons, List.drop_succ_cons, List.cons_append]
      split <;> rfl
    · have e : pos (x :: l) s.1 = 0 := by rw [pos, if_neg hx]
      rw [ins, if_neg hx]
      simp only [e, List.length_cons, List.getElem?_cons_zero, Option.map_some, List.set_cons_zero, List.take_zero, List.drop_zero, List.nil_append]
      by_cases he : x.1 = s.1
      · simp [he]
      · simp [he]
theorem ins_has {m : Int} {l : List S} (h : rise m l = true) (s : S) (hh : has l s.1 = true) : ins l s = l.set (pos l s.1) s ∧ pos l s.1 < l.length := by
  have h1 := (has_pos h s.1).1
  rw [hh] at h1
  have h2 := of_decide_eq_true h1.symm
  obtain ⟨h3, h4⟩ := h2
  rw [ins_eq, dif_pos ⟨h3, by rw [List.getElem?_eq_getElem h3]; simp [h4]⟩]
  exact ⟨rfl, h3⟩
theorem ins_new {m : Int} {l : List S} (h : rise m l = true) (s : S) (hh : has l s.1 = false) : ins l s = l.take (pos l s.1) ++ [s] ++ l.drop (pos l s.1) := by
  have h1 := (has_pos h s.1).1
  rw [hh] at h1
  have h2 := of_decide_eq_false h1.symm
  rw [ins_eq, dif_neg]
  rintro ⟨h3, h4⟩
  rw [List.getElem?_eq_getElem h3] at h4
  exact h2 ⟨h3, by simpa using h4⟩
theorem ins_len {m : Int} {l : List S} (h : rise m l = true) (s : S) : (ins l s).length = if has l s.1 = true then l.length else l.length + 1 := by
  have hp := pos_le l s.1
  rcases hh : has l s.1 with _ | _
  · rw [ins_new h s hh]; simp; omega
  · rw [(ins_has h s hh).1]; simp
theorem ins_rise {m : Int} {l : List S} (h : rise m l = true) {s : S} (h1 : okc s.1 = true) (h2 : oks s.2.1 = true) (hm : m < s.1) : rise m (ins l s) = true := by
  rw [okc_iff] at h1
  rw [oks_iff] at h2
  induction l generalizing m with
  | nil => exact rise_cons.2 ⟨h1, h2, hm, rfl⟩
  | cons x l ih =>
    obtain ⟨g1, g2, g3, g4⟩ := rise_cons.1 h
    rw [ins]
    split
    · exact rise_cons.2 ⟨g1, g2, g3, ih g4 (by assumption)⟩
    · split
      · rename_i hx; exact rise_cons.2 ⟨h1, h2, hm, by rw [← hx]; exact g4⟩
      · exact rise_cons.2 ⟨h1, h2, hm, rise_cons.2 ⟨g1, g2, by omega, g4⟩⟩
theorem ins_fnd (l : List S) (s : S) : fnd (ins l s) s.1 = s ∧ has (ins l s) s.1 = true := by
  induction l with
  | nil => simp [ins, fnd, has]
  | cons x l ih =>
    rw [ins]
    split
    · rename_i h
      unfold fnd has
      rw [if_neg (by omega), if_neg (by omega)]
      exact ih
    · split <;> simp [fnd, has]
theorem ins_other (l : List S) (s : S) (c : Int) (hc : c ≠ s.1) : fnd (ins l s) c = fnd l c := by
  induction l with
  | nil => simp [ins, fnd]; exact fun h => absurd h.symm hc
  | cons x l ih =>
    rw [ins]
    split
    · unfold fnd; rw [ih]
    · split
      · rename_i hx
        unfold fnd
        rw [if_neg (by omega), if_neg (by omega)]
      · conv => lhs; unfold fnd
        rw [if_neg (by omega)]

/-! The reference's way to lay one in. -/
def rest (s : S) : Bool → List S → List S
  | true, [] => []
  | false, [] => [s]
  | true, x :: l => (if x.1 = s.1 then [] else [x]) ++ rest s true l
  | false, x :: l => if s.1 ≤ x.1 then s :: ((if x.1 = s.1 then [] else [x]) ++ rest s true l) else x :: rest s false l
theorem rest_true {m : Int} {l : List S} (h : rise m l = true) (s : S) (hm : s.1 ≤ m) : rest s true l = l := by
  induction l generalizing m with
  | nil => rfl
  | cons x l ih =>
    obtain ⟨g1, g2, g3, g4⟩ := rise_cons.1 h
    rw [rest, if_neg (by omega), ih g4 (by omega)]; rfl
theorem rest_false {m : Int} {l : List S} (h : rise m l = true) (s : S) : rest s false l = ins l s := by
  induction l generalizing m with
  | nil => rfl
  | cons x l ih =>
    obtain ⟨g1, g2, g3, g4⟩ := rise_cons.1 h
    rw [rest, ins]
    by_cases h1 : x.1 < s.1
    · rw [if_neg (by omega), if_pos h1, ih g4]
    · rw [if_pos (by omega), if_neg h1]
      by_cases h2 : x.1 = s.1
      · rw [if_pos h2, if_pos h2, rest_true g4 s (by omega)]; rfl
      · rw [if_neg h2, if_neg h2, rest_true g4 s (by omega)]; rfl

/-- Where the reference's walk stands. -/
def rs (r : List S) (s : S) (l : List S) (k : Nat) (o : List S) (d : Bool) : Prop := r = o ++ rest s d (l.drop k) ∧ o.length ≤ k + (if d then 1 else 0)
theorem rs_zero {m : Int} {l : List S} (h : rise m l = true) (s : S) : rs (ins l s) s l 0 [] false := ⟨by rw [List.drop_zero, rest_false h]; rfl, Nat.zero_le _⟩
theorem rs_in {r : List S} {s : S} {l : List S} {k : Nat} {o : List S} (h : rs r s l k o false) (hk : k < l.length) (hc : s.1 ≤ (l[k]).1) : (l[k]).1 ≠ s.1 → rs r s l (k + 1) (o ++ [s] ++ [l[k]]) true := by
  intro he
  obtain ⟨h1, h2⟩ := h
  rw [drop_cons hk, rest, if_pos hc, if_neg he] at h1
  exact ⟨by rw [h1]; simp, by simp at h2 ⊢; omega⟩
theorem rs_in2 {r : List S} {s : S} {l : List S} {k : Nat} {o : List S} (h : rs r s l k o false) (hk : k < l.length) (hc : s.1 ≤ (l[k]).1) : (l[k]).1 = s.1 → rs r s l (k + 1) (o ++ [s]) true := by
  intro he
  obtain ⟨h1, h2⟩ := h
  rw [drop_cons hk, rest, if_pos hc, if_pos he] at h1
  exact ⟨by rw [h1]; simp, by simp at h2 ⊢; omega⟩
theorem rs_on {r : List S} {s : S} {l : List S} {k : Nat} {o : List S} (h : rs r s l k o false) (hk : k < l.length) (hc : ¬ s.1 ≤ (l[k]).1) : rs r s l (k + 1) (o ++ [l[k]]) false := by
  obtain ⟨h1, h2⟩ := h
  rw [drop_cons hk, rest, if_neg hc] at h1
  exact ⟨by rw [h1]; simp, by simp at h2 ⊢; omega⟩
theorem rs_go {r : List S} {s : S} {l : List S} {k : Nat} {o : List S} (h : rs r s l k o true) (hk : k < l.length) (he : (l[k]).1 ≠ s.1) : rs r s l (k + 1) (o ++ [l[k]]) true := by
  obtain ⟨h1, h2⟩ := h
  rw [drop_cons hk, rest, if_neg he] at h1
  exact ⟨by rw [h1]; simp, by simp at h2 ⊢; omega⟩
theorem rs_by {r : List S} {s : S} {l : List S} {k : Nat} {o : List S} (h : rs r s l k o true) (hk : k < l.length) (he : (l[k]).1 = s.1) : rs r s l (k + 1) o true := by
  obtain ⟨h1, h2⟩ := h
  rw [drop_cons hk, rest, if_pos he] at h1
  exact ⟨by rw [h1]; simp, by simp at h2 ⊢; omega⟩
theorem rest_stop {r : List S} {s : S} {l : List S} {k : Nat} {o : List S} {d : Bool} (h : rs r s l k o d) (hk : l.length ≤ k) : r = o ++ (if d then [] else [s]) := by
  obtain ⟨h1, h2⟩ := h
  rw [h1, List.drop_eq_nil_of_le hk]
  cases d <;> rfl

/-! What look and put answer. -/
theorem look_bad {l : List S} {c q : Int} (h : (may l && okc c && oks q) = false) : look l c q = (0, false, 1) := by unfold look; rw [if_pos h]
theorem look_good {l : List S} {c q : Int} (h : (may l && okc c && oks q) = true) : look l c q = if q < (fnd l c).2.1 then (0, false, 9) else if q = (fnd l c).2.1 then ((fnd l c).2.2, true, 0) else if (fnd l c).2.1 + 1 < q then (0, false, 10) else (0, false, 0) := by
  unfold look; rw [if_neg (by rw [h]; simp)]
theorem look_ok {l : List S} {c q : Int} (h : (look l c q).2.2 = 0) : may l = true ∧ okc c = true ∧ oks q = true := by
  rcases hg : (may l && okc c && oks q) with _ | _
  · rw [look_bad hg] at h; simp at h
  · simpa [and_assoc] using hg
theorem may_rise {l : List S} (h : may l = true) : rise 0 l = true := by simp [may] at h; exact h.2
theorem may_len {l : List S} (h : may l = true) : l.length ≤ 16 := by simp [may] at h; exact h.1
/-- A number is put just if it is the next one, and there is room. -/
theorem put_cases (l : List S) (c q a : Int) :
    (put l c q a).2 = 0 ∧ (put l c q a).1 = ins l (c, q, a) ∧ may l = true ∧ okc c = true ∧ oks q = true ∧ q = (fnd l c).2.1 + 1 ∧ (has l c = true ∨ l.length < 16) ∧ look l c q = (0, false, 0) ∨
    (put l c q a).2 ≠ 0 ∧ (put l c q a).1 = [] ∧ (may l = true → okc c = true → oks q = true → q = (fnd l c).2.1 + 1 → (put l c q a).2 = 7 ∧ has l c = false ∧ l.length = 16) := by
  rcases hg : (may l && okc c && oks q) with _ | _
  · right
    have e : put l c q a = ([], 1) := by unfold put; rw [look_bad hg, if_pos (by simp)]
    rw [e]
    refine ⟨by simp, rfl, fun h1 h2 h3 => ?_⟩
    rw [h1, h2, h3] at hg; cases hg
  · have hg' : (may l = true ∧ okc c = true) ∧ oks q = true := by simpa using hg
    have hk := look_good hg
    have hr := fnd_range (may_rise hg'.1.1) c
    by_cases h1 : q < (fnd l c).2.1
    · rw [if_pos h1] at hk
      right
      have e : put l c q a = ([], 9) := by unfold put; rw [hk, if_pos (by simp)]
      rw [e]
      exact ⟨by simp, rfl, fun _ _ _ h => by omega⟩
    rw [if_neg h1] at hk
    by_cases h2 : q = (fnd l c).2.1
    · rw [if_pos h2] at hk
      right
      have e : put l c q a = ([], 6) := by unfold put; rw [hk, if_neg (by simp), if_pos rfl]
      rw [e]
      exact ⟨by simp, rfl, fun _ _ _ h => by omega⟩
    rw [if_neg h2] at hk
    by_cases h3 : (fnd l c).2.1 + 1 < q
    · rw [if_pos h3] at hk
      right
      have e : put l c q a = ([], 10) := by unfold put; rw [hk, if_pos (by simp)]
      rw [e]
      exact ⟨by simp, rfl, fun _ _ _ h => by omega⟩
    rw [if_neg h3] at hk
    by_cases h4 : has l c = false ∧ l.length = 16
    · right
      have e : put l c q a = ([], 7) := by unfold put; rw [hk, if_neg (by simp), if_neg (by simp), if_pos h4]
      rw [e]
      exact ⟨by simp, rfl, fun _ _ _ _ => ⟨rfl, h4⟩⟩
    · left
      have e : put l c q a = (ins l (c, q, a), 0) := by unfold put; rw [hk, if_neg (by simp), if_neg (by simp), if_neg h4]
      rw [e]
      have hl := may_len hg'.1.1
      refine ⟨rfl, rfl, hg'.1.1, hg'.1.2, hg'.2, by omega, ?_, hk⟩
      rcases hh : has l c with _ | _
      · right
        have : l.length ≠ 16 := fun h => h4 ⟨hh, h⟩
        omega
      · left; rfl
theorem put_may {l : List S} {c q a : Int} (h : (put l c q a).2 = 0) : may (put l c q a).1 = true := by
  rcases put_cases l c q a with ⟨_, h2, h3, h4, h5, _, h7, _⟩ | ⟨h1, _⟩
  · have hr := may_rise h3
    have hl := may_len h3
    have hi := ins_rise hr (s := (c, q, a)) h4 h5 (by rw [okc_iff] at h4; show 0 < c; omega)
    rw [h2, may, hi]
    have hn := ins_len hr (c, q, a)
    have : (ins l (c, q, a)).length ≤ 16 := by
      rw [hn]
      split
      · exact hl
      · rename_i hh
        rcases h7 with h7 | h7
        · exact absurd h7 hh
        · omega
    simp [this]
  · exact absurd h h1
theorem put_length {l : List S} {c q a : Int} (h : (put l c q a).2 ≠ 0) : (put l c q a).1 = [] := by
  rcases put_cases l c q a with ⟨h1, _⟩ | ⟨_, h2, _⟩
  · exact absurd h1 h
  · exact h2
/-- What was put is looked up. -/
theorem put_look {l : List S} {c q a : Int} (h : (put l c q a).2 = 0) : look (put l c q a).1 c q = (a, true, 0) := by
  have hm := put_may h
  rcases put_cases l c q a with ⟨_, h2, h3, h4, h5, _, h7, _⟩ | ⟨h1, _⟩
  · have hf := (ins_fnd l (c, q, a)).1
    have hf' : fnd (put l c q a).1 c = (c, q, a) := by rw [h2]; exact hf
    rw [look_good (by rw [hm, h4, h5]; rfl), hf']
    simp
  · exact absurd h h1
theorem put_again {l : List S} {c q a b : Int} (h : (put l c q a).2 = 0) : put (put l c q a).1 c q b = ([], 6) := by
  have hk := put_look h
  generalize (put l c q a).1 = m at *
  unfold put
  rw [hk, if_neg (by simp), if_pos rfl]
theorem put_next {l : List S} {c q a : Int} (h : (put l c q a).2 = 0) : (look (put l c q a).1 c (q + 1)).2.1 = false ∧ ((look (put l c q a).1 c (q + 1)).2.2 = 0 ∨ q = 1099511627776) := by
  have hm := put_may h
  rcases put_cases l c q a with ⟨_, h2, h3, h4, h5, _, h7, _⟩ | ⟨h1, _⟩
  · have hf := (ins_fnd l (c, q, a)).1
    have hf' : fnd (put l c q a).1 c = (c, q, a) := by rw [h2]; exact hf
    rw [oks_iff] at h5
    rcases hg : (may (put l c q a).1 && okc c && oks (q + 1)) with _ | _
    · rw [look_bad hg]
      refine ⟨rfl, .inr ?_⟩
      rw [hm, h4] at hg
      have : ¬ (1 ≤ q + 1 ∧ q + 1 ≤ 1099511627776) := by rw [← oks_iff]; simpa using hg
      omega
    · rw [look_good hg, hf', if_neg (by show ¬ q + 1 < q; omega), if_neg (by show ¬ q + 1 = q; omega), if_neg (by show ¬ q + 1 < q + 1; omega)]
      exact ⟨rfl, .inl rfl⟩
  · exact absurd h h1
theorem put_other {l : List S} {c q a d r : Int} (h : (put l c q a).2 = 0) (hd : d ≠ c) : look (put l c q a).1 d r = look l d r := by
  have hm := put_may h
  rcases put_cases l c q a with ⟨_, h2, h3, h4, h5, _, h7, _⟩ | ⟨h1, _⟩
  · have hf' : fnd (put l c q a).1 d = fnd l d := by rw [h2]; exact ins_other l (c, q, a) d hd
    unfold look
    rw [hm, h3, hf']
  · exact absurd h h1

/-! put, as it is walked. -/
theorem put_err {l : List S} {c q a : Int} (h : (look l c q).2.2 ≠ 0) : put l c q a = ([], (look l c q).2.2) := if_pos h
theorem put_there {l : List S} {c q a : Int} (h : (look l c q).2.2 = 0) (h2 : (look l c q).2.1 = true) : put l c q a = ([], 6) := (if_neg (by rw [h]; simp)).trans (if_pos h2)
theorem put_full {l : List S} {c q a : Int} (h : (look l c q).2.2 = 0) (h2 : (look l c q).2.1 = false) (h3 : has l c = false) (h4 : l.length = 16) : put l c q a = ([], 7) :=
  (if_neg (by rw [h]; simp)).trans ((if_neg (by rw [h2]; simp)).trans (if_pos ⟨h3, h4⟩))
theorem put_in {l : List S} {c q a : Int} (h : (look l c q).2.2 = 0) (h2 : (look l c q).2.1 = false) (h3 : ¬ (has l c = false ∧ l.length = 16)) : put l c q a = (ins l (c, q, a), 0) :=
  (if_neg (by rw [h]; simp)).trans ((if_neg (by rw [h2]; simp)).trans (if_neg h3))
theorem set_in (l : List S) (p : Nat) (z s : S) (hp : p ≤ l.length) : (l.take p ++ [z] ++ l.drop p).set p s = l.take p ++ [s] ++ l.drop p := by
  have h : (l.take p).length = p := by rw [List.length_take]; omega
  rw [List.append_assoc, List.append_assoc, List.set_append_right _ _ (by omega), h, Nat.sub_self]; rfl

/-! One client's sessions. -/
theorem one_put {c q n a b : Int} (l : List S) (hl : (l = [] ∧ n = 0) ∨ (l = [(c, n, b)] ∧ 0 < n)) (h : (put l c q a).2 = 0) : q = n + 1 ∧ (put l c q a).1 = [(c, q, a)] := by
  rcases put_cases l c q a with ⟨_, h2, h3, h4, h5, h6, h7, _⟩ | ⟨h1, _⟩
  · rw [h2, h6]
    rcases hl with ⟨rfl, rfl⟩ | ⟨rfl, _⟩
    · simp [fnd, ins]
    · simp [fnd, ins]
  · exact absurd h h1

/-- The number of a client's last session. -/
def hs (c : Int) : Int → List S → Int
  | h, [] => h
  | h, s :: l => hs c (if s.1 = c then s.2.1 else h) l
theorem hs_none {m : Int} {l : List S} (hr : rise m l = true) {c : Int} (hc : c ≤ m) (h : Int) : hs c h l = h := by
  induction l generalizing m with
  | nil => rfl
  | cons s l ih =>
    obtain ⟨g1, g2, g3, g4⟩ := rise_cons.1 hr
    rw [hs, if_neg (by omega)]; exact ih g4 (by omega)
theorem hs_fnd {m : Int} {l : List S} (hr : rise m l = true) (c : Int) : hs c 0 l = (fnd l c).2.1 := by
  induction l generalizing m with
  | nil => rfl
  | cons s l ih =>
    obtain ⟨g1, g2, g3, g4⟩ := rise_cons.1 hr
    by_cases he : s.1 = c
    · rw [hs, fnd, if_pos he, if_pos he]; exact hs_none g4 (by omega) _
    · rw [hs, fnd, if_neg he, if_neg he]; exact ih g4
end Go.Proofs.Ytpfhigcfpchkkaa.Sm
