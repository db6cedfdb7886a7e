/-
  Parts that the statement rests on, joined: Pclear.
-/
import Derived.Test.YtjcljkbalpgfdaaM11
import Derived.Lib.SliceRun
/-
  'clear' of the votes of a member.
-/


namespace Go.Proofs.Ytjcljkbalpgfdaa
open Go.RowKit

def clearN (l : List Bool) (o : Nat) : Nat → List Bool
  | 0 => l
  | m + 1 => clearN (l.set o false) (o + 1) m
theorem clearN_get : ∀ (m o : Nat) (l : List Bool) (i : Nat), (clearN l o m)[i]? = if o ≤ i ∧ i < o + m then l[i]?.map (fun _ => false) else l[i]?
  | 0, o, l, i => by rw [if_neg (by omega)]; rfl
  | m + 1, o, l, i => by
    rw [clearN, clearN_get m (o + 1) (l.set o false) i, List.getElem?_set]
    by_cases h : o = i
    · subst h
      have h1 : ¬ (o + 1 ≤ o ∧ o < o + 1 + m) := by omega
      have h2 : o ≤ o ∧ o < o + (m + 1) := by omega
      rw [if_neg h1, if_pos h2]
      by_cases hl : o < l.length
      · simp [hl]
      · simp [hl]
    · rw [if_neg h]
      by_cases h2 : o + 1 ≤ i ∧ i < o + 1 + m
      · rw [if_pos h2, if_pos (by omega)]
      · rw [if_neg h2, if_neg (by omega)]
theorem clearN_all (l : List Bool) : clearN l 0 l.length = List.replicate l.length false := by
  apply List.ext_getElem?
  intro i
  rw [clearN_get, List.getElem?_replicate]
  by_cases h : i < l.length
  · rw [if_pos ⟨Nat.zero_le _, by omega⟩, if_pos h, List.getElem?_eq_getElem h]; rfl
  · rw [if_neg (by omega), if_neg h, List.getElem?_eq_none (by omega)]
theorem vi_set0 (l : List Bool) (k : Nat) : vi (l.set k false) = (vi l).set k 0 := by simp [vi, List.map_set]
section
variable {n : Rf.Id} {F : Foot} {A : Option Addr} {c : Nat}
theorem QMem.setV0 {w : World} {s : Rf.St} (h : QMem n F w s A c) (k : Nat) : QMem n F (w.setCell ⟨F.gv, k, none⟩ (.int .i64 0)) { s with votes := s.votes.set k false } A c :=
  ⟨⟨h.st.far (Ne.symm h.ok.gv) _, h.v.setTo k _ (by rw [rowN_set, vi_set0]), h.m.far h.ok.vm _, h.x.far h.ok.vn _, h.ok⟩, own_far h.l (by rw [own_lbk]; exact fun e => h.off _ e (.inr (.inl rfl))) _, h.off⟩
theorem QMem.clearV : ∀ (m o : Nat) (w : World) (s : Rf.St), QMem n F w s A c → QMem n F (w.setCells F.gv o (List.replicate m (.int .i64 0))) { s with votes := clearN s.votes o m } A c
  | 0, _, _, _, h => h
  | m + 1, o, _w, _s, h => QMem.clearV m (o + 1) _ _ (h.setV0 o)
theorem Kept.setCells {D : Nat → Prop} {w0 : World} {b : Nat} (hb : D b) : ∀ (vs : List Value) (o : Nat) (w : World), Kept D w0 w → Kept D w0 (w.setCells b o vs)
  | [], _, _, h => h
  | v :: vs, o, _w, h => Kept.setCells hb vs (o + 1) _ (h.set (p := ⟨b, o, none⟩) (.inl hb) v)
theorem zeroI (w : World) : (zeroValue 3).run Try.prog w = .ok (.int .i64 0) w := by kernel_rfl
theorem run_clearV {w : World} {s : Rf.St} (h : QMem n F w s A c) (hl : s.votes.length = n.many) (hn : 0 < n.many) (ty : TypeId) :
    (Builtin.clear_ #[63] ty #[.slice (some ⟨F.gv, 0, none⟩) n.many n.many]).run Try.prog w = .ok (.tuple #[]) (w.setCells F.gv 0 (List.replicate n.many (.int .i64 0))) :=
  Lib.run_clear_slice w _ _ ty _ Try.underlying63 zeroI rfl rfl F.gv 0 n.many n.many hn (fun j hj => by
    rw [Nat.zero_add, h.v.rowN j (by rw [vi_len, hl]; exact hj)]; rfl) (fun j _ => h.v.free _)
theorem count_one {n k : Nat} (hk : k < n) : ((List.replicate n false).set k true).count true = 1 := by
  induction n generalizing k with
  | zero => omega
  | succ n ih =>
    rw [List.replicate_succ]
    cases k with
    | zero => rw [List.set_cons_zero, List.count_cons_self, List.count_replicate]; rfl
    | succ k => rw [List.set_cons_succ, List.count_cons_of_ne (by decide)]; exact ih (by omega)
end
end Go.Proofs.Ytjcljkbalpgfdaa
