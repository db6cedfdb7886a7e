/-
  Parts that the statement rests on, joined: Crc, Frm.
-/
import Derived.Test.YtcacebkbfnnjbaaDoorV6
import Derived.Test.YtcacebkbfnnjbaaDoorV8
import Derived.Test.YtcacebkbfnnjbaaDoorV9
/-
  What Seal and Open of package crc, and the reference's, give, in the words of any data.
-/



namespace Go.Proofs.YtcacebkbfnnjbaaDoor
open Go.RowKit

/-- What sealed bytes were. -/
def unsl (m : List UInt8) : Option (List UInt8) := if 4 ≤ m.length ∧ m = seal_ (m.take (m.length - 4)) then some (m.take (m.length - 4)) else none
theorem unsl_of (l : List UInt8) : unsl (seal_ l) = some l := by
  have h1 : (seal_ l).length = l.length + 4 := seal_length l
  have h2 : (seal_ l).take ((seal_ l).length - 4) = l := by
    rw [h1, Nat.add_sub_cancel]
    unfold seal_
    rw [List.take_left]
  unfold unsl
  rw [h2, if_pos ⟨by omega, rfl⟩]
theorem unsl_some {m l : List UInt8} (h : unsl m = some l) : m = seal_ l := by
  unfold unsl at h
  split at h
  · rename_i h1
    injection h with h
    rw [← h]
    exact h1.2
  · cases h
theorem unsl_none {m : List UInt8} (h : unsl m = none) (l : List UInt8) : m ≠ seal_ l := by
  rintro rfl
  rw [unsl_of] at h
  cases h
theorem unsl_length {m l : List UInt8} (h : unsl m = some l) : m.length = l.length + 4 := by
  rw [unsl_some h, seal_length]

def SealOut (w : World) (l : List UInt8) (e : Ending) (w' : World) : Prop :=
  ∃ A c, e = .returned (.slice A (l.length + 4) c) ∧ Own w' w.heap.size 5 (.slice A (l.length + 4) c) (seal_ l) ∧ Below w.heap.size w w'
theorem seal_sl (v : Value) (l : List UInt8) (hl : l.length ≤ 10000) (w : World) (B : Nat) (hB : B ≤ w.heap.size) (hv : Sl w B v l) (hT : Tab w) :
    Calls Tryd.prog 65 #[v] w (SealOut w l) :=
  (seal_any v l hl w B hB (rd_of_sl hv) hT).mono fun e w' ⟨u, he, ho, hb⟩ => by
    obtain ⟨A, c, hu, _⟩ := ho.own.sl.form
    rw [seal_length] at hu
    subst hu
    exact ⟨A, c, he, ho.own, hb⟩
theorem refSeal_sl (v : Value) (l : List UInt8) (hl : l.length ≤ 10000) (w : World) (B : Nat) (hv : Sl w B v l) :
    Calls Tryd.prog 58 #[v] w (SealOut w l) :=
  (refSeal_any v l hl w B (rd_of_sl hv)).mono fun e w' ⟨u, he, ho, hb⟩ => by
    obtain ⟨A, c, hu, _⟩ := ho.own.sl.form
    rw [seal_length] at hu
    subst hu
    exact ⟨A, c, he, ho.own, hb⟩

def OpenOut (w : World) (r : List UInt8) (ok : Bool) (e : Ending) (w' : World) : Prop :=
  ∃ A c, e = .returned (.tuple #[.slice A r.length c, .bool ok]) ∧ Own w' w.heap.size 5 (.slice A r.length c) r ∧ Below w.heap.size w w'
theorem open_sl (v : Value) (m : List UInt8) (hm : m.length ≤ 10000) (w : World) (B : Nat) (hB : B ≤ w.heap.size) (hv : Sl w B v m) (hT : Tab w) :
    Calls Tryd.prog 60 #[v] w (OpenOut w ((unsl m).getD []) (unsl m).isSome) := by
  cases h : unsl m with
  | none => exact (open_other v m hm (unsl_none h) w B hB (rd_of_sl hv) hT).mono fun e w' ⟨he, hb⟩ => ⟨none, 0, he, Own.nil _ _ _, hb⟩
  | some l =>
    have e := unsl_some h
    subst e
    rw [seal_length] at hm
    exact (open_own v l (by omega) w B hB (rd_of_sl hv) hT).mono fun e w' ⟨u, he, ho, hb⟩ => by
      obtain ⟨A, c, hu, _⟩ := ho.own.sl.form
      subst hu
      exact ⟨A, c, he, ho.own, hb⟩
theorem refOpen_sl (v : Value) (m : List UInt8) (hm : m.length ≤ 10000) (w : World) (B : Nat) (hB : B ≤ w.heap.size) (hv : Sl w B v m) :
    Calls Tryd.prog 50 #[v] w (OpenOut w ((unsl m).getD []) (unsl m).isSome) := by
  cases h : unsl m with
  | none => exact (refOpen_other v m hm (unsl_none h) w B hB (rd_of_sl hv)).mono fun e w' ⟨he, hb⟩ => ⟨none, 0, he, Own.nil _ _ _, hb⟩
  | some l =>
    have e := unsl_some h
    subst e
    rw [seal_length] at hm
    exact (refOpen_own v l (by omega) w B hB (rd_of_sl hv)).mono fun e w' ⟨u, he, ho, hb⟩ => by
      obtain ⟨A, c, hu, _⟩ := ho.own.sl.form
      subst hu
      exact ⟨A, c, he, ho.own, hb⟩
end Go.Proofs.YtcacebkbfnnjbaaDoor

/-
  Frames, as plain mathematics: a frame's bytes, the frame that bytes begin with, the frames that they run through.
-/

namespace Go.Proofs.YtcacebkbfnnjbaaDoor.Frm

abbrev F := Int × List UInt8
/-- The bytes ahead of Body, and Body. -/
def raw (k n : Nat) (b : List UInt8) : List UInt8 := 83 :: UInt8.ofNat k :: UInt8.ofNat (n / 256) :: UInt8.ofNat (n % 256) :: b
def enc (f : F) : List UInt8 := seal_ (raw f.1.toNat f.2.length f.2)
def ok (f : F) : Prop := 0 ≤ f.1 ∧ f.1 ≤ 255 ∧ f.2.length ≤ 4096
instance (f : F) : Decidable (ok f) := inferInstanceAs (Decidable (_ ∧ _))
/-- What Put answers. -/
def put (f : F) : List UInt8 × Int := if f.1 < 0 ∨ 255 < f.1 then ([], 1) else if 4096 < f.2.length then ([], 7) else (enc f, 0)
abbrev G := F × Int × Int
def err (e : Int) : G := ((0, []), 0, e)
/-- What Get answers of bytes that are there: the length of Body is s. -/
def getB (k : UInt8) (s : Nat) (b : List UInt8) : G :=
  if 4096 < s then err 7 else if b.length < s + 8 then err 3 else
    match unsl (b.take (s + 8)) with
    | none => err 4
    | some x => (((k.toNat : Int), x.drop 4), ((s + 8 : Nat) : Int), 0)
/-- What Get answers. -/
def get : List UInt8 → G
  | [] => err 3
  | [c] => if c ≠ 83 then err 2 else err 3
  | [c, _] => if c ≠ 83 then err 2 else err 3
  | [c, _, _] => if c ≠ 83 then err 2 else err 3
  | c :: k :: h :: l :: r => if c ≠ 83 then err 2 else getB k (h.toNat * 256 + l.toNat) (c :: k :: h :: l :: r)
/-- What Run answers. -/
def runF : Nat → List UInt8 → List F × Int × Int
  | 0, _ => ([], 0, 0)
  | fuel + 1, b => if b = [] then ([], 0, 0) else if (get b).2.2 = 0 then
      ((get b).1 :: (runF fuel (b.drop (get b).2.1.toNat)).1, (get b).2.1 + (runF fuel (b.drop (get b).2.1.toNat)).2.1, (runF fuel (b.drop (get b).2.1.toNat)).2.2)
    else ([], 0, (get b).2.2)
def run (b : List UInt8) : List F × Int × Int := runF (b.length + 1) b

theorem raw_length (k n : Nat) (b : List UInt8) : (raw k n b).length = b.length + 4 := rfl
theorem enc_length (f : F) : (enc f).length = f.2.length + 8 := by
  unfold enc
  rw [seal_length, raw_length]
theorem put_ok {f : F} (h : ok f) : put f = (enc f, 0) := by
  obtain ⟨h1, h2, h3⟩ := h
  unfold put
  rw [if_neg (by omega), if_neg (by omega)]
theorem put_err {f : F} (h : ¬ ok f) : (put f).1 = [] ∧ (put f).2 ≠ 0 := by
  unfold ok at h
  unfold put
  split
  · exact ⟨rfl, by decide⟩
  · split
    · exact ⟨rfl, by decide⟩
    · omega
theorem put_zero {f : F} (h : (put f).2 = 0) : ok f := by
  rcases Decidable.em (ok f) with h1 | h1
  · exact h1
  · exact absurd h (put_err h1).2
theorem put_le (f : F) : (put f).1.length ≤ 4104 := by
  rcases Decidable.em (ok f) with h1 | h1
  · rw [put_ok h1, enc_length]
    have := h1.2.2
    omega
  · rw [(put_err h1).1]; simp

/-! What Get answers of OK. -/
theorem u8_of {n : Nat} (h : n < 256) : (UInt8.ofNat n).toNat = n := UInt8.toNat_ofNat_of_lt' h
theorem getB_good (k : UInt8) (f : F) (r : List UInt8) (hk : f.1 = (k.toNat : Int)) (h3 : f.2.length ≤ 4096) : getB k f.2.length (enc f ++ r) = (f, ((f.2.length + 8 : Nat) : Int), 0) := by
  have hl := enc_length f
  have ht : (enc f ++ r).take (f.2.length + 8) = enc f := by rw [← hl, List.take_left]
  unfold getB
  rw [if_neg (by omega), if_neg (by rw [List.length_append]; omega), ht]
  have hu : unsl (enc f) = some (raw f.1.toNat f.2.length f.2) := unsl_of _
  rw [hu]
  show (((k.toNat : Int), f.2), _, _) = _
  rw [← hk]
theorem enc_cons (f : F) : ∃ t, enc f = 83 :: UInt8.ofNat f.1.toNat :: UInt8.ofNat (f.2.length / 256) :: UInt8.ofNat (f.2.length % 256) :: t := ⟨_, rfl⟩
theorem get_enc {f : F} (h : ok f) (r : List UInt8) : get (enc f ++ r) = (f, ((f.2.length + 8 : Nat) : Int), 0) := by
  obtain ⟨h1, h2, h3⟩ := h
  obtain ⟨t, ht⟩ := enc_cons f
  have hg := getB_good (UInt8.ofNat f.1.toNat) f r (by rw [u8_of (by omega)]; omega) h3
  rw [ht] at hg ⊢
  show (if (83 : UInt8) ≠ 83 then err 2 else _) = _
  rw [if_neg (by simp), u8_of (by omega), u8_of (by omega), show f.2.length / 256 * 256 + f.2.length % 256 = f.2.length by omega]
  exact hg
/-- What is got is the encoding's frame. -/
theorem get_ok {b : List UInt8} {f : F} {n : Int} (h : get b = (f, n, 0)) : ok f ∧ n = ((f.2.length + 8 : Nat) : Int) ∧ f.2.length + 8 ≤ b.length ∧ b.take (f.2.length + 8) = enc f := by
  have err_ne : ∀ e : Int, e ≠ 0 → err e ≠ (f, n, 0) := by
    intro e he h
    injection h with _ h
    injection h with _ h
    exact he h
  match b, h with
  | [], h => exact absurd h (err_ne 3 (by decide))
  | [c], h =>
    change (if c ≠ 83 then err 2 else err 3) = _ at h
    split at h
    · exact absurd h (err_ne 2 (by decide))
    · exact absurd h (err_ne 3 (by decide))
  | [c, _], h =>
    change (if c ≠ 83 then err 2 else err 3) = _ at h
    split at h
    · exact absurd h (err_ne 2 (by decide))
    · exact absurd h (err_ne 3 (by decide))
  | [c, _, _], h =>
    change (if c ≠ 83 then err 2 else err 3) = _ at h
    split at h
    · exact absurd h (err_ne 2 (by decide))
    · exact absurd h (err_ne 3 (by decide))
  | c :: k :: hi :: l :: r, h =>
    change (if c ≠ 83 then err 2 else getB k (hi.toNat * 256 + l.toNat) (c :: k :: hi :: l :: r)) = _ at h
    split at h
    · exact absurd h (err_ne 2 (by decide))
    · rename_i hc
      have hc : c = 83 := Decidable.not_not.1 hc
      subst hc
      unfold getB at h
      split at h
      · exact absurd h (err_ne 7 (by decide))
      · rename_i h4
        split at h
        · exact absurd h (err_ne 3 (by decide))
        · rename_i h8
          split at h
          · exact absurd h (err_ne 4 (by decide))
          · rename_i x hx
            injection h with hf h
            injection h with hn _
            have hse := unsl_some hx
            have hxl := unsl_length hx
            rw [List.length_take] at hxl
            have hxl' : x.length = hi.toNat * 256 + l.toNat + 4 := by omega
            -- the first four bytes of x are those of b
            have hx4 : x.take 4 = [83, k, hi, l] := by
              have h1 : ((83 :: k :: hi :: l :: r).take (hi.toNat * 256 + l.toNat + 8)).take 4 = [83, k, hi, l] := by
                rw [List.take_take, Nat.min_eq_left (by omega)]; rfl
              rw [hse] at h1
              unfold seal_ at h1
              rw [List.take_append_of_le_length (by omega)] at h1
              exact h1
            have hbody : x = [83, k, hi, l] ++ x.drop 4 := by
              rw [← hx4, List.take_append_drop]
            have hfl : f.2.length = hi.toNat * 256 + l.toNat := by
              rw [← hf]
              show (x.drop 4).length = _
              rw [List.length_drop]; omega
            have hf1 : f.1 = (k.toNat : Int) := by rw [← hf]
            have hf2 : x.drop 4 = f.2 := by rw [← hf]
            have hkb := k.toNat_lt
            have hlb := l.toNat_lt
            have hhb := hi.toNat_lt
            have hraw : raw f.1.toNat f.2.length f.2 = x := by
              rw [hbody, hf2]
              unfold raw
              have e1 : UInt8.ofNat f.1.toNat = k := by rw [hf1, Int.toNat_natCast, UInt8.ofNat_toNat]
              have e2 : UInt8.ofNat (f.2.length / 256) = hi := by rw [hfl, show (hi.toNat * 256 + l.toNat) / 256 = hi.toNat by omega, UInt8.ofNat_toNat]
              have e3 : UInt8.ofNat (f.2.length % 256) = l := by rw [hfl, show (hi.toNat * 256 + l.toNat) % 256 = l.toNat by omega, UInt8.ofNat_toNat]
              rw [e1, e2, e3]; rfl
            refine ⟨⟨by omega, by omega, by omega⟩, by rw [← hn, hfl], by rw [hfl]; omega, ?_⟩
            rw [hfl, hse]
            unfold enc
            rw [hraw]
/-- The errors that Get names. -/
theorem get_short (c : UInt8) : (if c ≠ 83 then err 2 else err 3).2.2 = 0 ∨ ∃ e, (e = 2 ∨ e = 3 ∨ e = 4 ∨ e = 7) ∧ (if c ≠ 83 then err 2 else err 3) = err e := by
  split
  · exact .inr ⟨2, by simp, rfl⟩
  · exact .inr ⟨3, by simp, rfl⟩
theorem get_cases (b : List UInt8) : (get b).2.2 = 0 ∨ ∃ e, (e = 2 ∨ e = 3 ∨ e = 4 ∨ e = 7) ∧ get b = err e := by
  have hB : ∀ k s b, (getB k s b).2.2 = 0 ∨ ∃ e, (e = 2 ∨ e = 3 ∨ e = 4 ∨ e = 7) ∧ getB k s b = err e := by
    intro k s b
    unfold getB
    split
    · exact .inr ⟨7, by simp, rfl⟩
    · split
      · exact .inr ⟨3, by simp, rfl⟩
      · split
        · exact .inr ⟨4, by simp, rfl⟩
        · exact .inl rfl
  match b with
  | [] => exact .inr ⟨3, by simp, rfl⟩
  | [c] => exact get_short c
  | [c, _] => exact get_short c
  | [c, _, _] => exact get_short c
  | c :: k :: hi :: l :: r =>
    show (if c ≠ 83 then err 2 else getB k (hi.toNat * 256 + l.toNat) (c :: k :: hi :: l :: r)).2.2 = 0 ∨ ∃ e, (e = 2 ∨ e = 3 ∨ e = 4 ∨ e = 7) ∧ (if c ≠ 83 then err 2 else getB k (hi.toNat * 256 + l.toNat) (c :: k :: hi :: l :: r)) = err e
    split
    · exact .inr ⟨2, by simp, rfl⟩
    · exact hB _ _ _
theorem get_fn {b : List UInt8} (h : (get b).2.2 = 0) : ok (get b).1 ∧ (get b).2.1 = (((get b).1.2.length + 8 : Nat) : Int) ∧ (get b).1.2.length + 8 ≤ b.length ∧ b.take ((get b).1.2.length + 8) = enc (get b).1 :=
  get_ok (f := (get b).1) (n := (get b).2.1) (by rw [← h])
theorem get_len (b : List UInt8) : 0 ≤ (get b).2.1 ∧ (get b).2.1 ≤ b.length ∧ (get b).1.2.length ≤ 4096 := by
  rcases get_cases b with h | ⟨e, _, h⟩
  · obtain ⟨h1, h2, h3, _⟩ := get_fn h
    have := h1.2.2
    exact ⟨by omega, by omega, by omega⟩
  · rw [h]
    exact ⟨by simp [err], by simp [err], by simp [err]⟩

/-! Run. -/
theorem runF_more : ∀ (n m : Nat) (b : List UInt8), b.length < n → b.length < m → runF n b = runF m b
  | 0, _, b, h, _ => absurd h (by omega)
  | _, 0, b, _, h => absurd h (by omega)
  | n + 1, m + 1, b, hn, hm => by
    unfold runF
    split
    · rfl
    · rename_i hb
      split
      · rename_i h
        obtain ⟨_, h2, h3, _⟩ := get_fn h
        have hb0 : 0 < b.length := List.length_pos_iff.2 hb
        have hl : (b.drop (get b).2.1.toNat).length < b.length := by
          rw [List.length_drop, h2, Int.toNat_natCast]; omega
        rw [runF_more n m _ (by omega) (by omega)]
      · rfl
theorem run_nil : run [] = ([], 0, 0) := rfl
theorem run_cons {b : List UInt8} (hb : b ≠ []) (h : (get b).2.2 = 0) :
    run b = ((get b).1 :: (run (b.drop (get b).2.1.toNat)).1, (get b).2.1 + (run (b.drop (get b).2.1.toNat)).2.1, (run (b.drop (get b).2.1.toNat)).2.2) := by
  obtain ⟨_, h2, h3, _⟩ := get_fn h
  have hb0 : 0 < b.length := List.length_pos_iff.2 hb
  have hl : (b.drop (get b).2.1.toNat).length < b.length := by
    rw [List.length_drop, h2, Int.toNat_natCast]; omega
  have e : runF b.length (b.drop (get b).2.1.toNat) = run (b.drop (get b).2.1.toNat) := runF_more _ _ _ (by omega) (by omega)
  have h0 : run b = runF (b.length + 1) b := rfl
  rw [h0, runF, if_neg hb, if_pos h, e]
theorem run_stop {b : List UInt8} (hb : b ≠ []) (h : (get b).2.2 ≠ 0) : run b = ([], 0, (get b).2.2) := by
  have h0 : run b = runF (b.length + 1) b := rfl
  rw [h0, runF, if_neg hb, if_neg h]
def encs (l : List F) : List UInt8 := l.flatMap enc
theorem encs_cons (f : F) (l : List F) : encs (f :: l) = enc f ++ encs l := rfl
theorem encs_snoc (l : List F) (f : F) : encs (l ++ [f]) = encs l ++ enc f := by simp [encs]
theorem run_encs : ∀ (l : List F) (r : List UInt8), (∀ f ∈ l, ok f) → run (encs l ++ r) = (l ++ (run r).1, ((encs l).length : Int) + (run r).2.1, (run r).2.2)
  | [], r, _ => by simp [encs]
  | f :: l, r, h => by
    have hf := h f (by simp)
    have hg := get_enc hf (encs l ++ r)
    have hl := enc_length f
    have e : encs (f :: l) ++ r = enc f ++ (encs l ++ r) := by rw [encs_cons, List.append_assoc]
    have hne : enc f ++ (encs l ++ r) ≠ [] := by
      intro h0
      have := congrArg List.length h0
      simp at this
      rw [this.1] at hl
      simp at hl
    rw [e, run_cons hne (by rw [hg]), hg]
    have hd : (enc f ++ (encs l ++ r)).drop (((f.2.length + 8 : Nat) : Int)).toNat = encs l ++ r := by
      rw [Int.toNat_natCast, ← hl, List.drop_left]
    simp only [hd]
    rw [run_encs l r (fun g hg => h g (by simp [hg]))]
    simp only [encs_cons, List.length_append, List.cons_append]
    refine Prod.ext rfl (Prod.ext ?_ rfl)
    show ((f.2.length + 8 : Nat) : Int) + (((encs l).length : Int) + _) = (((enc f).length + (encs l).length : Nat) : Int) + _
    rw [hl]; omega
theorem run_used : ∀ (n : Nat) (b : List UInt8), b.length ≤ n → 0 ≤ (run b).2.1 ∧ (run b).2.1 ≤ b.length ∧ (run b).1.length ≤ b.length
  | 0, b, h => by
    have : b = [] := List.eq_nil_of_length_eq_zero (by omega)
    subst this
    exact ⟨by decide, by decide, by decide⟩
  | n + 1, b, h => by
    rcases Decidable.em (b = []) with rfl | hb
    · exact ⟨by decide, by decide, by decide⟩
    · rcases Decidable.em ((get b).2.2 = 0) with he | he
      · obtain ⟨_, h2, h3, _⟩ := get_fn he
        have hl : (b.drop (get b).2.1.toNat).length = b.length - ((get b).1.2.length + 8) := by rw [List.length_drop, h2, Int.toNat_natCast]
        have ih := run_used n (b.drop (get b).2.1.toNat) (by omega)
        rw [run_cons hb he]
        simp only [List.length_cons]
        omega
      · rw [run_stop hb he]
        simp
end Go.Proofs.YtcacebkbfnnjbaaDoor.Frm
