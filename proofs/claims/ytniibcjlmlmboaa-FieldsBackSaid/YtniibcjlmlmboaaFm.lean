/-
  Fields, as plain mathematics: numbers as bytes, the most significant first; what a list of bytes begins with. No program.
-/
namespace Go.Proofs.Ytniibcjlmlmboaa.Fm

/-- How many bytes a number needs. -/
def sz (n : Nat) : Nat := if h : n = 0 then 0 else sz (n / 256) + 1
termination_by n
decreasing_by omega
theorem sz_zero : sz 0 = 0 := by rw [sz]; simp
theorem sz_step {n : Nat} (h : n ≠ 0) : sz n = sz (n / 256) + 1 := by rw [sz]; simp [h]
theorem sz_lt : ∀ (k n : Nat), n < 256 ^ k ↔ sz n ≤ k
  | 0, n => by
    by_cases h : n = 0
    · subst h; simp [sz_zero]
    · rw [sz_step h]; simp; omega
  | k + 1, n => by
    by_cases h : n = 0
    · subst h
      rw [sz_zero]
      exact ⟨fun _ => Nat.zero_le _, fun _ => Nat.pow_pos (by omega)⟩
    · rw [sz_step h, Nat.add_le_add_iff_right, ← sz_lt k (n / 256), Nat.pow_succ, Nat.div_lt_iff_lt_mul (by omega)]
theorem sz_le7 {n : Nat} (h : n < 72057594037927936) : sz n ≤ 7 := (sz_lt 7 n).1 h
theorem sz_gt7 {n : Nat} (h : ¬ n < 72057594037927936) : 7 < sz n := by
  have := (sz_lt 7 n).2
  omega
theorem sz_mono {a b : Nat} (h : a ≤ b) : sz a ≤ sz b := (sz_lt _ a).1 (Nat.lt_of_le_of_lt h ((sz_lt _ b).2 (Nat.le_refl _)))

/-- The lowest k bytes of a number, the most significant first. -/
def digs (n : Nat) : Nat → List UInt8
  | 0 => []
  | k + 1 => UInt8.ofNat (n / 256 ^ k % 256) :: digs n k
theorem digs_length (n k : Nat) : (digs n k).length = k := by
  induction k with
  | zero => rfl
  | succ k ih => simp [digs, ih]
/-- The number that bytes are. -/
def val (l : List UInt8) : Nat := l.foldl (fun n c => n * 256 + c.toNat) 0
theorem val_snoc (l : List UInt8) (c : UInt8) : val (l ++ [c]) = val l * 256 + c.toNat := by simp [val]
theorem fold_at (l : List UInt8) (a : Nat) : l.foldl (fun n c => n * 256 + c.toNat) a = a * 256 ^ l.length + val l := by
  induction l generalizing a with
  | nil => simp [val]
  | cons c l ih =>
    simp only [List.foldl_cons, List.length_cons, val]
    rw [ih, ih (0 * 256 + c.toNat), Nat.pow_succ, Nat.add_mul, Nat.zero_mul, Nat.zero_add, Nat.mul_assoc, Nat.mul_comm 256, Nat.add_assoc]
theorem val_cons (c : UInt8) (l : List UInt8) : val (c :: l) = c.toNat * 256 ^ l.length + val l := by
  have h := fold_at l (0 * 256 + c.toNat)
  simp only [Nat.zero_mul, Nat.zero_add] at h
  rw [← h]; simp [val]
theorem val_lt (l : List UInt8) : val l < 256 ^ l.length := by
  induction l with
  | nil => simp [val]
  | cons c l ih =>
    rw [val_cons, List.length_cons, Nat.pow_succ]
    have hc : c.toNat < 256 := c.toNat_lt
    calc c.toNat * 256 ^ l.length + val l < c.toNat * 256 ^ l.length + 256 ^ l.length := by omega
      _ = (c.toNat + 1) * 256 ^ l.length := by rw [Nat.add_mul, Nat.one_mul]
      _ ≤ 256 * 256 ^ l.length := Nat.mul_le_mul_right _ (by omega)
      _ = 256 ^ l.length * 256 := Nat.mul_comm _ _
theorem val_digs (n k : Nat) : val (digs n k) = n % 256 ^ k := by
  induction k with
  | zero => simp [digs, val, Nat.mod_one]
  | succ k ih =>
    rw [digs, val_cons, digs_length, ih]
    have h : (UInt8.ofNat (n / 256 ^ k % 256)).toNat = n / 256 ^ k % 256 := UInt8.toNat_ofNat_of_lt' (by show _ < 256; omega)
    rw [h, Nat.pow_succ, Nat.mod_mul, Nat.mul_comm, Nat.add_comm]
theorem digs_val (l : List UInt8) (m : Nat) : digs (m * 256 ^ l.length + val l) l.length = l := by
  induction l generalizing m with
  | nil => rfl
  | cons c l ih =>
    have hc : c.toNat < 256 := c.toNat_lt
    have hv := val_lt l
    have hp : 0 < 256 ^ l.length := Nat.pow_pos (by omega)
    have e : m * 256 ^ (l.length + 1) + val (c :: l) = (m * 256 + c.toNat) * 256 ^ l.length + val l := by
      rw [val_cons, Nat.pow_succ, Nat.add_mul, Nat.mul_assoc, Nat.mul_comm 256, Nat.add_assoc]
    rw [List.length_cons, digs, e, ih]
    congr 1
    have e2 : ((m * 256 + c.toNat) * 256 ^ l.length + val l) / 256 ^ l.length = m * 256 + c.toNat := by
      rw [Nat.mul_comm _ (256 ^ l.length), Nat.mul_add_div hp, Nat.div_eq_of_lt hv, Nat.add_zero]
    rw [e2]
    have : (m * 256 + c.toNat) % 256 = c.toNat := by omega
    rw [this]
    exact UInt8.ofNat_toNat
theorem digs_val0 (l : List UInt8) : digs (val l) l.length = l := by
  have h := digs_val l 0
  rwa [Nat.zero_mul, Nat.zero_add] at h
theorem head_of_sz {n k : Nat} (h : sz n = k + 1) : ∃ c r, digs n (k + 1) = c :: r ∧ c ≠ 0 ∧ r.length = k := by
  refine ⟨_, _, rfl, ?_, digs_length n k⟩
  have h1 : n < 256 ^ (k + 1) := (sz_lt _ _).2 (by omega)
  have h2 : ¬ n < 256 ^ k := fun hh => by have := (sz_lt k n).1 hh; omega
  have hp : 0 < 256 ^ k := Nat.pow_pos (by omega)
  have h3 : n / 256 ^ k < 256 := by rw [Nat.div_lt_iff_lt_mul hp, Nat.mul_comm, ← Nat.pow_succ]; exact h1
  have h4 : 0 < n / 256 ^ k := Nat.div_pos (by omega) hp
  intro e
  have e2 : (UInt8.ofNat (n / 256 ^ k % 256)).toNat = 0 := by rw [e]; rfl
  rw [UInt8.toNat_ofNat_of_lt' (by show _ < 256; omega), Nat.mod_eq_of_lt h3] at e2
  omega
theorem sz_val {c : UInt8} {r : List UInt8} (hc : c ≠ 0) : sz (val (c :: r)) = r.length + 1 := by
  have hlt := val_lt (c :: r)
  have h1 := (sz_lt _ _).1 hlt
  rw [List.length_cons] at h1
  have hc0 : 0 < c.toNat := by
    rcases Nat.eq_zero_or_pos c.toNat with h | h
    · exact absurd (UInt8.toNat_inj.1 (h.trans rfl)) hc
    · exact h
  have h2 : ¬ val (c :: r) < 256 ^ r.length := by
    rw [val_cons]
    have := Nat.mul_le_mul_right (256 ^ r.length) hc0
    omega
  have h3 : ¬ sz (val (c :: r)) ≤ r.length := fun h => h2 ((sz_lt _ _).2 h)
  omega

/-- A number's encoding. -/
def enc (n : Int) : List UInt8 := UInt8.ofNat (sz n.toNat) :: digs n.toNat (sz n.toNat)
def may (n : Int) : Prop := 0 ≤ n ∧ n < 72057594037927936
instance (n : Int) : Decidable (may n) := inferInstanceAs (Decidable (_ ∧ _))
/-- What Size answers. -/
def size (n : Int) : Int := if may n then (sz n.toNat : Int) else -1
theorem size_neg (n : Int) : size n < 0 ↔ ¬ may n := by
  unfold size
  split <;> simp_all
theorem toNat_lt {n : Int} (h : may n) : n.toNat < 72057594037927936 := by unfold may at h; omega
theorem enc_length {n : Int} : (enc n).length = sz n.toNat + 1 := by simp [enc, digs_length]
def encs (N : List Int) : List UInt8 := N.flatMap enc
theorem encs_nil : encs [] = [] := rfl
theorem encs_cons (n : Int) (N : List Int) : encs (n :: N) = enc n ++ encs N := rfl
theorem encs_snoc (N : List Int) (n : Int) : encs (N ++ [n]) = encs N ++ enc n := by simp [encs]
/-- The bytes of fields. -/
def bytes (N : List Int) (D : List UInt8) : List UInt8 := UInt8.ofNat N.length :: (encs N ++ (digs D.length 2 ++ D))
/-- What Pack answers: bytes, or an error. -/
def pack (N : List Int) (D : List UInt8) : List UInt8 × Int :=
  if 255 < N.length ∨ 4096 < D.length then ([], 7) else if N.all (fun n => decide (may n)) then (bytes N D, 0) else ([], 1)

inductive Got (α : Type) where
  | err (e : Int)
  | ok (a : α) (rest : List UInt8)

/-- The number that bytes begin with. -/
def cutN : List UInt8 → Got Int
  | [] => .err 3
  | k :: r => if 7 < k.toNat then .err 2 else if 0 < k.toNat ∧ r.head? = some 0 then .err 2 else if r.length < k.toNat then .err 3 else .ok (val (r.take k.toNat) : Int) (r.drop k.toNat)
/-- So many numbers. -/
def cutNs : Nat → List UInt8 → Got (List Int)
  | 0, b => .ok [] b
  | k + 1, b => match cutN b with
    | .err e => .err e
    | .ok n r => match cutNs k r with
      | .err e => .err e
      | .ok N r => .ok (n :: N) r
/-- Bytes with their length ahead. -/
def cutD (b : List UInt8) : Got (List UInt8) :=
  if b.length < 2 then .err 3 else if 4096 < val (b.take 2) then .err 7 else if (b.drop 2).length < val (b.take 2) then .err 3 else .ok ((b.drop 2).take (val (b.take 2))) ((b.drop 2).drop (val (b.take 2)))
/-- The numbers that bytes tell the count of. -/
def cutH : List UInt8 → Got (List Int)
  | [] => .err 3
  | k :: r => cutNs k.toNat r
/-- What Cut answers. -/
def cut (b : List UInt8) : Got (List Int × List UInt8) :=
  match cutH b with
  | .err e => .err e
  | .ok N r => match cutD r with
    | .err e => .err e
    | .ok D r => .ok (N, D) r
def Got.N {α : Type} (z : α) : Got α → α
  | .err _ => z
  | .ok a _ => a
def Got.e {α : Type} : Got α → Int
  | .err e => e
  | .ok _ _ => 0
def Got.rest {α : Type} : Got α → List UInt8
  | .err _ => []
  | .ok _ r => r
/-- How many bytes were cut off. -/
def used {α : Type} (b : List UInt8) : Got α → Nat
  | .err _ => 0
  | .ok _ r => b.length - r.length
/-- What Unpack answers. -/
def unpack (b : List UInt8) : Got (List Int × List UInt8) :=
  match cut b with
  | .err e => .err e
  | .ok f r => if r = [] then .ok f [] else .err 2

theorem ofNat_u8 {k : Nat} (h : k < 256) : (UInt8.ofNat k).toNat = k := UInt8.toNat_ofNat_of_lt' (by show _ < 256; exact h)

theorem cutN_enc {n : Int} (h : may n) (r : List UInt8) : cutN (enc n ++ r) = .ok n r := by
  have hn := toNat_lt h
  have hz := sz_le7 hn
  have hk : (UInt8.ofNat (sz n.toNat)).toNat = sz n.toNat := ofNat_u8 (by omega)
  show cutN (UInt8.ofNat (sz n.toNat) :: (digs n.toNat (sz n.toNat) ++ r)) = _
  unfold cutN
  simp only [hk]
  rw [if_neg (by omega), if_neg, if_neg (by simp [digs_length])]
  · have e1 : (digs n.toNat (sz n.toNat) ++ r).take (sz n.toNat) = digs n.toNat (sz n.toNat) := by rw [List.take_append_of_le_length (by rw [digs_length]; exact Nat.le_refl _), List.take_of_length_le (by rw [digs_length]; exact Nat.le_refl _)]
    have e2 : (digs n.toNat (sz n.toNat) ++ r).drop (sz n.toNat) = r := by rw [List.drop_append_of_le_length (by rw [digs_length]; exact Nat.le_refl _), List.drop_of_length_le (by rw [digs_length]; exact Nat.le_refl _)]; rfl
    rw [e1, e2, val_digs, Nat.mod_eq_of_lt ((sz_lt _ _).2 (Nat.le_refl _))]
    unfold may at h
    rw [Int.toNat_of_nonneg h.1]
  · rintro ⟨h0, h1⟩
    obtain ⟨k, hk2⟩ : ∃ k, sz n.toNat = k + 1 := ⟨sz n.toNat - 1, by omega⟩
    obtain ⟨c, t, e, hc, _⟩ := head_of_sz hk2
    rw [hk2, e] at h1
    simp at h1
    exact hc h1
theorem cutNs_encs {N : List Int} (h : ∀ n ∈ N, may n) (r : List UInt8) : cutNs N.length (encs N ++ r) = .ok N r := by
  induction N with
  | nil => rfl
  | cons n N ih =>
    show cutNs (N.length + 1) (enc n ++ encs N ++ r) = _
    unfold cutNs
    rw [List.append_assoc, cutN_enc (h n (by simp))]
    simp only
    rw [ih (fun m hm => h m (by simp [hm]))]
theorem val_two {n : Nat} (h : n < 65536) : val (digs n 2) = n := by rw [val_digs]; exact Nat.mod_eq_of_lt h
theorem cutD_bytes {D : List UInt8} (h : D.length ≤ 4096) (r : List UInt8) : cutD (digs D.length 2 ++ D ++ r) = .ok D r := by
  have e1 : (digs D.length 2 ++ D ++ r).take 2 = digs D.length 2 := by rw [List.append_assoc]; rfl
  have e2 : (digs D.length 2 ++ D ++ r).drop 2 = D ++ r := by rw [List.append_assoc]; rfl
  unfold cutD
  rw [e1, e2, val_two (by omega), if_neg (by simp [digs_length]), if_neg (by omega), if_neg (by simp), List.take_left', List.drop_left']
  all_goals rfl
theorem pack_ok {N : List Int} {D b : List UInt8} (h : pack N D = (b, 0)) : b = bytes N D ∧ N.length ≤ 255 ∧ D.length ≤ 4096 ∧ ∀ n ∈ N, may n := by
  unfold pack at h
  split at h
  · simp at h
  · split at h
    · rename_i h1 h2
      simp only [List.all_eq_true, decide_eq_true_eq] at h2
      exact ⟨by simpa using h.symm, by omega, by omega, h2⟩
    · simp at h
theorem pack_err {N : List Int} {D : List UInt8} (h : (pack N D).2 ≠ 0) : (pack N D).1 = [] := by
  revert h
  unfold pack
  split
  · exact fun _ => rfl
  · split
    · exact fun h => absurd rfl h
    · exact fun _ => rfl
/-- What was packed is cut off, whatever follows. -/
theorem cut_bytes {N : List Int} {D : List UInt8} (h1 : N.length ≤ 255) (h2 : D.length ≤ 4096) (h3 : ∀ n ∈ N, may n) (r : List UInt8) : cut (bytes N D ++ r) = .ok (N, D) r := by
  have e : bytes N D ++ r = UInt8.ofNat N.length :: (encs N ++ (digs D.length 2 ++ D ++ r)) := by simp [bytes]
  rw [e]
  unfold cut cutH
  simp only [ofNat_u8 (show N.length < 256 by omega), cutNs_encs h3, cutD_bytes h2]

theorem digs_two (a b : UInt8) : digs (val [a, b]) 2 = [a, b] := digs_val0 [a, b]
theorem cutN_ok {b r : List UInt8} {n : Int} (h : cutN b = .ok n r) : may n ∧ b = enc n ++ r := by
  match b with
  | [] => simp [cutN] at h
  | k :: t =>
    simp only [cutN] at h
    split at h
    · simp at h
    · split at h
      · simp at h
      · split at h
        · simp at h
        · rename_i h1 h2 h3
          injection h with e1 e2
          subst e1 e2
          have hl : (t.take k.toNat).length = k.toNat := by rw [List.length_take]; omega
          have hv := val_lt (t.take k.toNat)
          rw [hl] at hv
          have hp : 256 ^ k.toNat ≤ 256 ^ 7 := Nat.pow_le_pow_right (by omega) (by omega)
          have hm : may (val (t.take k.toNat) : Int) := by unfold may; omega
          refine ⟨hm, ?_⟩
          have hs : sz (val (t.take k.toNat)) = k.toNat := by
            rcases hk : t.take k.toNat with _ | ⟨c, u⟩
            · have : k.toNat = 0 := by rw [← hl, hk]; rfl
              rw [this]; simp [val, sz_zero]
            · have hk0 : 0 < k.toNat := by rw [← hl, hk]; simp
              have hc : c ≠ 0 := by
                intro hc
                refine h2 ⟨hk0, ?_⟩
                have : (t.take k.toNat).head? = some c := by rw [hk]; rfl
                rw [List.head?_take, if_neg (by omega)] at this
                rw [this, hc]
              rw [sz_val hc, ← hl, hk]; rfl
          unfold enc
          rw [Int.toNat_natCast, hs, UInt8.ofNat_toNat]
          have hd := digs_val0 (t.take k.toNat)
          rw [hl] at hd
          rw [hd, List.cons_append, List.take_append_drop]
theorem cutNs_ok {k : Nat} {b r : List UInt8} {N : List Int} (h : cutNs k b = .ok N r) : N.length = k ∧ (∀ n ∈ N, may n) ∧ b = encs N ++ r := by
  induction k generalizing b N with
  | zero =>
    simp only [cutNs, Got.ok.injEq] at h
    obtain ⟨rfl, rfl⟩ := h
    exact ⟨rfl, fun _ h => by simp at h, rfl⟩
  | succ k ih =>
    unfold cutNs at h
    split at h
    · simp at h
    · rename_i n r1 h1
      split at h
      · simp at h
      · rename_i N1 r2 h2
        simp only [Got.ok.injEq] at h
        obtain ⟨rfl, rfl⟩ := h
        obtain ⟨hm, rfl⟩ := cutN_ok h1
        obtain ⟨hl, hN, rfl⟩ := ih h2
        refine ⟨by simp [hl], fun m hm' => ?_, by rw [encs_cons, List.append_assoc]⟩
        rcases List.mem_cons.1 hm' with rfl | h
        · exact hm
        · exact hN m h
theorem cutD_ok {b r D : List UInt8} (h : cutD b = .ok D r) : D.length ≤ 4096 ∧ b = digs D.length 2 ++ D ++ r := by
  unfold cutD at h
  split at h
  · simp at h
  · split at h
    · simp at h
    · split at h
      · simp at h
      · rename_i h1 h2 h3
        simp only [Got.ok.injEq] at h
        obtain ⟨rfl, rfl⟩ := h
        have hl : ((b.drop 2).take (val (b.take 2))).length = val (b.take 2) := by rw [List.length_take]; omega
        rw [hl]
        refine ⟨by omega, ?_⟩
        have hd := digs_val0 (b.take 2)
        have h2l : (b.take 2).length = 2 := by rw [List.length_take]; omega
        rw [h2l] at hd
        rw [hd, List.append_assoc, List.take_append_drop, List.take_append_drop]
theorem cut_ok {b r : List UInt8} {N : List Int} {D : List UInt8} (h : cut b = .ok (N, D) r) : N.length ≤ 255 ∧ D.length ≤ 4096 ∧ (∀ n ∈ N, may n) ∧ b = bytes N D ++ r := by
  unfold cut at h
  split at h
  · simp at h
  · rename_i N1 r1 h1
    split at h
    · simp at h
    · rename_i D1 r2 h2
      simp only [Got.ok.injEq, Prod.mk.injEq] at h
      obtain ⟨⟨rfl, rfl⟩, rfl⟩ := h
      match b with
      | [] => simp [cutH] at h1
      | k :: t =>
        obtain ⟨hl, hm, rfl⟩ := cutNs_ok (show cutNs k.toNat t = _ from h1)
        obtain ⟨hD, rfl⟩ := cutD_ok h2
        have hk : k.toNat < 256 := k.toNat_lt
        refine ⟨by omega, hD, hm, ?_⟩
        unfold bytes
        rw [hl, UInt8.ofNat_toNat]
        simp
theorem pack_of {N : List Int} {D : List UInt8} (h1 : N.length ≤ 255) (h2 : D.length ≤ 4096) (h3 : ∀ n ∈ N, may n) : pack N D = (bytes N D, 0) := by
  unfold pack
  rw [if_neg (by omega), if_pos (by simpa using h3)]
/-- What is unpacked is packed as just these bytes. -/
theorem pack_unpack {b : List UInt8} {N : List Int} {D : List UInt8} {r : List UInt8} (h : unpack b = .ok (N, D) r) : pack N D = (b, 0) := by
  unfold unpack at h
  split at h
  · simp at h
  · rename_i f r1 h1
    split at h
    · rename_i hr
      subst hr
      simp only [Got.ok.injEq] at h
      obtain ⟨rfl, rfl⟩ := h
      obtain ⟨h2, h3, h4, h5⟩ := cut_ok h1
      rw [pack_of h2 h3 h4, h5, List.append_nil]
    · simp at h
theorem unpack_bytes {N : List Int} {D : List UInt8} (h1 : N.length ≤ 255) (h2 : D.length ≤ 4096) (h3 : ∀ n ∈ N, may n) : unpack (bytes N D) = .ok (N, D) [] := by
  have h := cut_bytes h1 h2 h3 []
  rw [List.append_nil] at h
  unfold unpack
  rw [h]
  simp

/-! Fields without their last bytes. -/
theorem cutN_short {n : Int} (h : may n) {b : List UInt8} {t : List UInt8} (ht : t ≠ []) (hb : b ++ t = enc n) : cutN b = .err 3 := by
  match b with
  | [] => rfl
  | k :: r =>
    have hz := sz_le7 (toNat_lt h)
    simp only [enc, List.cons_append, List.cons.injEq] at hb
    obtain ⟨rfl, hd⟩ := hb
    have hk : (UInt8.ofNat (sz n.toNat)).toNat = sz n.toNat := ofNat_u8 (by omega)
    have hl := congrArg List.length hd
    rw [digs_length, List.length_append] at hl
    have htl : 0 < t.length := List.length_pos_iff.2 ht
    unfold cutN
    simp only [hk]
    rw [if_neg (by omega), if_neg, if_pos (by omega)]
    rintro ⟨h0, h1⟩
    obtain ⟨k, hk2⟩ : ∃ k, sz n.toNat = k + 1 := ⟨sz n.toNat - 1, by omega⟩
    obtain ⟨c, u, e, hc, _⟩ := head_of_sz hk2
    rw [hk2, e] at hd
    match r with
    | [] => simp at h1
    | x :: r =>
      simp at h1 hd
      exact hc (hd.1.symm.trans h1)
theorem cutNs_short {N : List Int} (h : ∀ n ∈ N, may n) {b t : List UInt8} (ht : t ≠ []) (hb : b ++ t = encs N) : cutNs N.length b = .err 3 := by
  induction N generalizing b with
  | nil =>
    simp [encs] at hb
    exact absurd hb.2 ht
  | cons n N ih =>
    show cutNs (N.length + 1) b = _
    unfold cutNs
    rw [encs_cons] at hb
    rcases List.append_eq_append_iff.1 hb with ⟨a, h1, h2⟩ | ⟨c, h1, h2⟩
    · -- enc n = b ++ a, t = a ++ encs N
      by_cases ha : a = []
      · subst ha
        simp at h1 h2
        subst h1
        have hc := cutN_enc (h n (by simp)) []
        rw [List.append_nil] at hc
        rw [hc]
        simp only
        rw [ih (fun m hm => h m (by simp [hm])) (b := []) (by simpa using h2)]
      · rw [cutN_short (h n (by simp)) ha h1.symm]
    · subst h1
      rw [cutN_enc (h n (by simp))]
      simp only
      rw [ih (fun m hm => h m (by simp [hm])) h2.symm]
theorem cutD_short {D : List UInt8} (h : D.length ≤ 4096) {b t : List UInt8} (ht : t ≠ []) (hb : b ++ t = digs D.length 2 ++ D) : cutD b = .err 3 := by
  have htl : 0 < t.length := List.length_pos_iff.2 ht
  have hl := congrArg List.length hb
  simp only [List.length_append, digs_length] at hl
  unfold cutD
  by_cases h2 : b.length < 2
  · rw [if_pos h2]
  · rw [if_neg h2]
    have e1 : b.take 2 = digs D.length 2 := by
      have := congrArg (List.take 2) hb
      rw [List.take_append_of_le_length (by omega), List.take_append_of_le_length (by rw [digs_length]; exact Nat.le_refl _), List.take_of_length_le (l := digs D.length 2) (by rw [digs_length]; exact Nat.le_refl _)] at this
      exact this
    rw [e1, val_two (by omega), if_neg (by omega), if_pos (by rw [List.length_drop]; omega)]
theorem cut_short {N : List Int} {D : List UInt8} (h1 : N.length ≤ 255) (h2 : D.length ≤ 4096) (h3 : ∀ n ∈ N, may n) {k : Nat} (hk : k < (bytes N D).length) : cut ((bytes N D).take k) = .err 3 := by
  match k with
  | 0 => rfl
  | k + 1 =>
    have e : (bytes N D).take (k + 1) = UInt8.ofNat N.length :: (encs N ++ (digs D.length 2 ++ D)).take k := rfl
    rw [e]
    have hk' : k < (encs N ++ (digs D.length 2 ++ D)).length := by simpa [bytes] using hk
    have hb : (encs N ++ (digs D.length 2 ++ D)).take k ++ (encs N ++ (digs D.length 2 ++ D)).drop k = encs N ++ (digs D.length 2 ++ D) := List.take_append_drop _ _
    have ht : (encs N ++ (digs D.length 2 ++ D)).drop k ≠ [] := by
      intro h
      have := congrArg List.length h
      rw [List.length_drop] at this
      simp only [List.length_nil] at this
      omega
    revert hb ht
    generalize (encs N ++ (digs D.length 2 ++ D)).take k = b
    generalize (encs N ++ (digs D.length 2 ++ D)).drop k = t
    intro hb ht
    unfold cut cutH
    simp only [ofNat_u8 (show N.length < 256 by omega)]
    rcases List.append_eq_append_iff.1 hb with ⟨a, e1, e2⟩ | ⟨c, e1, e2⟩
    · by_cases ha : a = []
      · subst ha
        simp at e1 e2
        subst e1
        have hc := cutNs_encs h3 []
        rw [List.append_nil] at hc
        rw [hc]
        simp only
        rw [cutD_short h2 (b := []) ht (by simpa using e2)]
      · rw [cutNs_short h3 ha e1.symm]
    · subst e1
      rw [cutNs_encs h3]
      simp only
      rw [cutD_short h2 ht e2.symm]
theorem unpack_short {b : List UInt8} (h : cut b = .err 3) : unpack b = .err 3 := by
  unfold unpack; rw [h]

theorem bytes_length (N : List Int) (D : List UInt8) : (bytes N D).length = 3 + D.length + N.length + (N.map fun n => sz n.toNat).sum := by
  have h : (encs N).length = N.length + (N.map fun n => sz n.toNat).sum := by
    induction N with
    | nil => rfl
    | cons n N ih =>
      rw [encs_cons, List.length_append, enc_length, ih]
      simp
      omega
  simp [bytes, h, digs_length]
  omega
theorem sum_le {N : List Int} (h : ∀ n ∈ N, may n) : (N.map fun n => sz n.toNat).sum ≤ N.length * 7 := by
  induction N with
  | nil => simp
  | cons n N ih =>
    have h1 := sz_le7 (toNat_lt (h n (by simp)))
    have h2 := ih (fun m hm => h m (by simp [hm]))
    simp
    omega
theorem bytes_le {N : List Int} {D : List UInt8} (h1 : N.length ≤ 255) (h2 : D.length ≤ 4096) (h3 : ∀ n ∈ N, may n) : (bytes N D).length ≤ 7000 := by
  have := sum_le h3
  rw [bytes_length]
  omega
theorem pack_le (N : List Int) (D : List UInt8) : (pack N D).1.length ≤ 7000 := by
  unfold pack
  split
  · simp
  · split
    · rename_i h1 h2
      simp only [List.all_eq_true, decide_eq_true_eq] at h2
      exact bytes_le (by omega) (by omega) h2
    · simp

/-! Part of the way. -/
theorem cutNs_split (j k : Nat) (b : List UInt8) : cutNs (j + k) b = match cutNs j b with
    | .err e => .err e
    | .ok N r => match cutNs k r with
      | .err e => .err e
      | .ok M r => .ok (N ++ M) r := by
  induction j generalizing b with
  | zero =>
    rw [Nat.zero_add]
    simp only [cutNs]
    cases cutNs k b <;> simp
  | succ j ih =>
    rw [Nat.add_right_comm]
    simp only [cutNs]
    cases cutN b with
    | err e => rfl
    | ok n r =>
      simp only [ih]
      cases cutNs j r with
      | err e => rfl
      | ok N r =>
        simp only
        cases cutNs k r <;> simp
theorem cutNs_snoc {j : Nat} {b r : List UInt8} {N : List Int} (h : cutNs j b = .ok N r) : cutNs (j + 1) b = match cutN r with
    | .err e => .err e
    | .ok n r => .ok (N ++ [n]) r := by
  rw [cutNs_split, h]
  simp only [cutNs]
  cases cutN r <;> rfl
theorem cutNs_stop {j k : Nat} {b r : List UInt8} {N : List Int} {e : Int} (h : cutNs j b = .ok N r) (he : cutN r = .err e) (hk : j < k) : cutNs k b = .err e := by
  obtain ⟨i, rfl⟩ : ∃ i, k = j + 1 + i := ⟨k - (j + 1), by omega⟩
  rw [cutNs_split, cutNs_snoc h, he]
theorem cutN_rest {b r : List UInt8} {n : Int} (h : cutN b = .ok n r) : r.length < b.length := by
  obtain ⟨_, rfl⟩ := cutN_ok h
  rw [List.length_append, enc_length]; omega
theorem cutN_err {b : List UInt8} {e : Int} (h : cutN b = .err e) : e = 2 ∨ e = 3 := by
  match b with
  | [] => simp [cutN] at h; exact .inr h.symm
  | k :: t =>
    simp only [cutN] at h
    split at h
    · injection h with h; exact .inl h.symm
    · split at h
      · injection h with h; exact .inl h.symm
      · split at h
        · injection h with h; exact .inr h.symm
        · cases h
theorem cutNs_err {k : Nat} {b : List UInt8} {e : Int} (h : cutNs k b = .err e) : e = 2 ∨ e = 3 := by
  induction k generalizing b with
  | zero => simp [cutNs] at h
  | succ k ih =>
    unfold cutNs at h
    split at h
    · rename_i h1
      injection h with h
      subst h
      exact cutN_err h1
    · split at h
      · rename_i h2
        injection h with h
        subst h
        exact ih h2
      · cases h
theorem cutH_err {b : List UInt8} {e : Int} (h : cutH b = .err e) : e = 2 ∨ e = 3 := by
  match b with
  | [] => injection h with h; exact .inr h.symm
  | k :: t => exact cutNs_err (show cutNs k.toNat t = _ from h)
theorem cutD_err {b : List UInt8} {e : Int} (h : cutD b = .err e) : e = 7 ∨ e = 3 := by
  unfold cutD at h
  split at h
  · injection h with h; exact .inr h.symm
  · split at h
    · injection h with h; exact .inl h.symm
    · split at h
      · injection h with h; exact .inr h.symm
      · cases h
theorem cutH_rest {b r : List UInt8} {N : List Int} (h : cutH b = .ok N r) : r.length ≤ b.length := by
  match b with
  | [] => cases h
  | k :: t =>
    obtain ⟨_, _, rfl⟩ := cutNs_ok (show cutNs k.toNat t = _ from h)
    simp
    omega
theorem cutD_rest {b r D : List UInt8} (h : cutD b = .ok D r) : r.length ≤ b.length := by
  obtain ⟨_, rfl⟩ := cutD_ok h
  simp
  omega
theorem cut_err {b : List UInt8} {e : Int} (h : cut b = .err e) : e = 2 ∨ e = 3 ∨ e = 7 := by
  unfold cut at h
  split at h
  · rename_i h1
    injection h with h
    subst h
    rcases cutH_err h1 with h | h
    · exact .inl h
    · exact .inr (.inl h)
  · split at h
    · rename_i h2
      injection h with h
      subst h
      rcases cutD_err h2 with h | h
      · exact .inr (.inr h)
      · exact .inr (.inl h)
    · cases h
theorem cut_rest {b r : List UInt8} {f : List Int × List UInt8} (h : cut b = .ok f r) : r.length ≤ b.length := by
  obtain ⟨_, _, _, rfl⟩ := cut_ok (N := f.1) (D := f.2) h
  simp
end Go.Proofs.Ytniibcjlmlmboaa.Fm
