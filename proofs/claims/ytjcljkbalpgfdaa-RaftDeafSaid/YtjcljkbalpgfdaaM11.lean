/-
  Parts that the statement rests on, joined: Msg7, Msgs, Ev, Qm, Pmsg, Panswer, Paskvote, Pput.
-/
import Derived.Test.YtjcljkbalpgfdaaM9
import Derived.Test.YtjcljkbalpgfdaaM10
import Derived.LoopTactic
import Derived.BigQuiet
/-
  A message's cells, stored anew; what a call that answers a message, or messages, leaves; a command's cells.
-/


namespace Go.Proofs.Ytjcljkbalpgfdaa
open Go.RowKit

theorem Whole.f9 {w : World} {g : Nat} {t : TypeId} {x0 x1 x2 x3 x4 x5 x6 x7 x8 : Value} (h : Whole w g t #[x0, x1, x2, x3, x4, x5, x6, x7, x8]) : w.frozen? ⟨g, 0, none⟩ = false ∧ w.frozen? ⟨g, 1, none⟩ = false ∧ w.frozen? ⟨g, 2, none⟩ = false ∧
    w.frozen? ⟨g, 3, none⟩ = false ∧ w.frozen? ⟨g, 4, none⟩ = false ∧ w.frozen? ⟨g, 5, none⟩ = false ∧ w.frozen? ⟨g, 6, none⟩ = false ∧ w.frozen? ⟨g, 7, none⟩ = false ∧ w.frozen? ⟨g, 8, none⟩ = false := ⟨h.free 0, h.free 1, h.free 2, h.free 3, h.free 4, h.free 5, h.free 6, h.free 7, h.free 8⟩
abbrev set9 (w : World) (g : Nat) (y0 y1 y2 y3 y4 y5 y6 y7 y8 : Value) : World := ((((((((w.setCell ⟨g, 0, none⟩ y0).setCell ⟨g, 1, none⟩ y1).setCell ⟨g, 2, none⟩ y2).setCell ⟨g, 3, none⟩ y3).setCell ⟨g, 4, none⟩ y4).setCell ⟨g, 5, none⟩ y5).setCell ⟨g, 6, none⟩ y6).setCell ⟨g, 7, none⟩ y7).setCell ⟨g, 8, none⟩ y8
theorem Whole.set9 {w : World} {g : Nat} {t : TypeId} {x0 x1 x2 x3 x4 x5 x6 x7 x8 : Value} (h : Whole w g t #[x0, x1, x2, x3, x4, x5, x6, x7, x8]) (y0 y1 y2 y3 y4 y5 y6 y7 y8 : Value) : Whole (set9 w g y0 y1 y2 y3 y4 y5 y6 y7 y8) g t #[y0, y1, y2, y3, y4, y5, y6, y7, y8] :=
  (Whole.setTo (Whole.setTo (Whole.setTo (Whole.setTo (Whole.setTo (Whole.setTo (Whole.setTo (Whole.setTo (Whole.setTo h 0 y0 (cs2 := #[y0, x1, x2, x3, x4, x5, x6, x7, x8]) rfl) 1 y1 (cs2 := #[y0, y1, x2, x3, x4, x5, x6, x7, x8]) rfl) 2 y2 (cs2 := #[y0, y1, y2, x3, x4, x5, x6, x7, x8]) rfl) 3 y3 (cs2 := #[y0, y1, y2, y3, x4, x5, x6, x7, x8]) rfl) 4 y4 (cs2 := #[y0, y1, y2, y3, y4, x5, x6, x7, x8]) rfl) 5 y5 (cs2 := #[y0, y1, y2, y3, y4, y5, x6, x7, x8]) rfl) 6 y6 (cs2 := #[y0, y1, y2, y3, y4, y5, y6, x7, x8]) rfl) 7 y7 (cs2 := #[y0, y1, y2, y3, y4, y5, y6, y7, x8]) rfl) 8 y8 (cs2 := #[y0, y1, y2, y3, y4, y5, y6, y7, y8]) rfl)
theorem below_set9 {B : Nat} {a w : World} (h : Below B a w) {g : Nat} (hg : B ≤ g) (y0 y1 y2 y3 y4 y5 y6 y7 y8 : Value) : Below B a (set9 w g y0 y1 y2 y3 y4 y5 y6 y7 y8) :=
  ((((((((h.setCell hg y0).setCell hg y1).setCell hg y2).setCell hg y3).setCell hg y4).setCell hg y5).setCell hg y6).setCell hg y7).setCell hg y8
theorem results_msg {fn : Func} {p : Tmp} (h : fn.results = #[.cell p 41]) {tmps : Array Value} {w : World} {g : Nat} {x0 x1 x2 x3 x4 x5 x6 x7 x8 : Value} (hp : tmps.getD p undef = .pointer (some ⟨g, 0, none⟩)) (hg : Whole w g 41 #[x0, x1, x2, x3, x4, x5, x6, x7, x8]) :
    (results fn tmps).run Try.prog w = .ok (.agg #[x0, x1, x2, x3, x4, x5, x6, x7, x8]) w :=
  results_cell_row h tmps w g _ _ _ _ hp hg Try.underlying41 rfl (by kernel_rfl)

theorem Whole.c6 {w : World} {g : Nat} {t : TypeId} {x0 x1 x2 x3 x4 x5 : Value} (h : Whole w g t #[x0, x1, x2, x3, x4, x5]) : w.cell? ⟨g, 0, none⟩ = some x0 ∧ w.cell? ⟨g, 1, none⟩ = some x1 ∧ w.cell? ⟨g, 2, none⟩ = some x2 ∧ w.cell? ⟨g, 3, none⟩ = some x3 ∧ w.cell? ⟨g, 4, none⟩ = some x4 ∧ w.cell? ⟨g, 5, none⟩ = some x5 :=
  ⟨h.cell 0, h.cell 1, h.cell 2, h.cell 3, h.cell 4, h.cell 5⟩
def CmdFit (c : Rf.Cmd) : Prop := Flat.wf (α := Rf.Cmd) c
/-- A message of the call's own. -/
def MsgOut (w : World) (x : Rf.Msg) (e : Ending) (w' : World) : Prop :=
  ∃ A c, e = .returned (.agg (mc x.1 x.2.1 x.2.2.1 x.2.2.2.1 x.2.2.2.2.1 x.2.2.2.2.2.1 x.2.2.2.2.2.2.1 x.2.2.2.2.2.2.2.1 (.slice A x.2.2.2.2.2.2.2.2.length c))) ∧ SlS w' (w.heap.size ≤ ·) (.slice A x.2.2.2.2.2.2.2.2.length c) x.2.2.2.2.2.2.2.2 ∧ Below w.heap.size w w'

/-- A list of messages of the call's own. -/
def MsgsOut (w : World) (l : List Rf.Msg) (v : Value) (w' : World) : Prop := SlS (α := M) w' (w.heap.size ≤ ·) v l
theorem msgsOut_nil (w w' : World) : MsgsOut w [] (.slice none 0 0) w' := SlS.nil w' _

theorem new1_at {α : Type} [Rep α] {S : Nat → Prop} (w : World) (t : TypeId) (a : α) (cs : Array Value) (h : Rep.fits w S cs.toList a) {g : Nat} (hg : g = w.heap.size) :
    SlS (w.alloc (.cells cs t)) (fun b => (S b ∧ b < w.heap.size) ∨ b = w.heap.size) (.slice (some ⟨g, 0, none⟩) 1 1) [a] := by
  subst hg
  exact SlS.new1 w t a cs h
end Go.Proofs.Ytjcljkbalpgfdaa

/-
  Messages of the call's own: the row of the table of types; how a message's cells read; those of a member fit.
-/

namespace Go.Proofs.Ytjcljkbalpgfdaa
open Go.RowKit

theorem rowM : Row Try.prog 37 41 M 88 := by
  obtain ⟨i, hi, hz, hsz, hby⟩ := info_parts (show (Try.prog.info? 41).map (fun i => (i.zero, i.size, i.bytes)) = some (some (.agg #[.int .i64 0, .int .i64 0, .int .i64 0, .int .i64 0, .int .i64 0, .int .i64 0, .int .i64 0, .bool false, .slice none 0 0]), 9, 88) by kernel_rfl)
  exact ⟨Try.underlying37, i, _, hi, hz, hsz, hby, rfl⟩
/-- Its numbers are ints. -/
def MsgFit (x : Rf.Msg) : Prop := (-9223372036854775808 ≤ x.1 ∧ x.1 ≤ 9223372036854775807) ∧ (-9223372036854775808 ≤ x.2.1 ∧ x.2.1 ≤ 9223372036854775807) ∧ (-9223372036854775808 ≤ x.2.2.1 ∧ x.2.2.1 ≤ 9223372036854775807) ∧
  (-9223372036854775808 ≤ x.2.2.2.1 ∧ x.2.2.2.1 ≤ 9223372036854775807) ∧ (-9223372036854775808 ≤ x.2.2.2.2.1 ∧ x.2.2.2.2.1 ≤ 9223372036854775807) ∧ (-9223372036854775808 ≤ x.2.2.2.2.2.1 ∧ x.2.2.2.2.2.1 ≤ 9223372036854775807) ∧
  (-9223372036854775808 ≤ x.2.2.2.2.2.2.1 ∧ x.2.2.2.2.2.2.1 ≤ 9223372036854775807)
abbrev mcx (x : Rf.Msg) (s : Value) : Array Value := mc x.1 x.2.1 x.2.2.1 x.2.2.2.1 x.2.2.2.2.1 x.2.2.2.2.2.1 x.2.2.2.2.2.2.1 x.2.2.2.2.2.2.2.1 s
theorem fits_msg {w : World} {S : Nat → Prop} {x : Rf.Msg} {v : Value} (hx : MsgFit x) (hs : SlS w S v x.2.2.2.2.2.2.2.2) : Rep.fits (α := M) w S (mcx x v).toList x := by
  obtain ⟨h1, h2, h3, h4, h5, h6, h7⟩ := hx
  exact ⟨_, _, rfl, ⟨rfl, h1⟩, _, _, rfl, ⟨rfl, h2⟩, _, _, rfl, ⟨rfl, h3⟩, _, _, rfl, ⟨rfl, h4⟩, _, _, rfl, ⟨rfl, h5⟩, _, _, rfl, ⟨rfl, h6⟩, _, _, rfl, ⟨rfl, h7⟩, _, _, rfl, rfl, v, rfl, hs⟩
theorem OwnS.far {α : Type} [Rep α] {w : World} {base : Nat} {S : Nat → Prop} {e : TypeId} {v : Value} {l : List α} (h : OwnS w base S e v l) {p : Addr} (hv : v.ownBlock ≠ some p.block) (hS : ¬ S p.block) (u : Value) : OwnS (w.setCell p u) base S e v l :=
  h.kept (row := some p.block) ⟨rfl, rfl, rfl, by simp, fun k _ hne => Below.heap_setCell w p u k (fun e => hne (by rw [e]))⟩ (.inr hv) (fun b hb e => hS (by injection e with e; exact e ▸ hb))
/-- The message at k of a slice of messages: its cells, and its entries. -/
theorem Sl.msg2 {w : World} {B n c : Nat} {A : Option Addr} {l : List M} (h : Sl w B (.slice A n c) l) (k : Nat) (hk : k < l.length) :
    ∃ b off A2 c2, A = some ⟨b, off, none⟩ ∧ b < B ∧ Cells w b (off + k * 9) (mcx l[k] (.slice A2 (l[k]).2.2.2.2.2.2.2.2.length c2)) ∧ Sl w B (.slice A2 (l[k]).2.2.2.2.2.2.2.2.length c2) (l[k]).2.2.2.2.2.2.2.2 := by
  have hr := h.room
  obtain ⟨b, off, ds, e, hb, h1, h2⟩ := h.at_ k (by omega) hk
  obtain ⟨d1, e1, rfl, ⟨rfl, _⟩, ⟨d2, e2, rfl, ⟨rfl, _⟩, ⟨d3, e3, rfl, ⟨rfl, _⟩, ⟨d4, e4, rfl, ⟨rfl, _⟩, ⟨d5, e5, rfl, ⟨rfl, _⟩, ⟨d6, e6, rfl, ⟨rfl, _⟩, ⟨d7, e7, rfl, ⟨rfl, _⟩, ⟨d8, e8, rfl, hy, ⟨v, rfl, hs⟩⟩⟩⟩⟩⟩⟩⟩⟩ := h1
  obtain ⟨A2, c2, rfl, _, _⟩ := hs.form
  have hy2 : d8 = [.bool (l[k]).2.2.2.2.2.2.2.1] := hy
  subst hy2
  exact ⟨b, off, A2, c2, e, hb, fun j u hu => h2 j u (by rw [← hu, ← Array.getElem?_toList]; rfl), hs⟩

namespace Rf
theorem each_len (n : Id) (f : Nat → Msg) : ∀ k, (each n f k).length ≤ k
  | 0 => Nat.le_refl _
  | k + 1 => by
    have := each_len n f k
    unfold each
    split
    · omega
    · rw [List.length_append, List.length_singleton]; omega
theorem each_me {n : Id} {f : Nat → Msg} {k : Nat} (h : k + 1 = n.id) : each n f (k + 1) = each n f k := by rw [each, if_pos h]
theorem each_other {n : Id} {f : Nat → Msg} {k : Nat} (h : k + 1 ≠ n.id) : each n f (k + 1) = each n f k ++ [f (k + 1)] := by rw [each, if_neg h]
theorem term_fit {L : Lg.L} {i : Int} : 0 ≤ (Lg.term L i).1 ∧ (Lg.term L i).1 ≤ 1073741824 := by
  have hm := (Lg.may_iff _).1 (Lg.fair_may L)
  obtain ⟨h1, h2, h3, h4, h5, h6, h7⟩ := hm
  unfold Lg.term Lg.term0
  split
  · exact ⟨h3, h4⟩
  · split
    · simp
    · rename_i hc
      have hlt : (i - (Lg.fair L).1 - 1).toNat < (Lg.fair L).2.2.length := by omega
      simp only
      rw [Lg.tm_eq _ _ hlt]
      have key : ∀ (l : List E) (t : Int) (k : Nat) (hk : k < l.length), Lg.rise t l = true → 1 ≤ (l[k]).1 ∧ (l[k]).1 ≤ 1073741824 := by
        intro l
        induction l with
        | nil => intro t k hk; simp at hk
        | cons e l ih =>
          intro t k hk hr
          rw [Lg.rise_cons] at hr
          cases k with
          | zero => exact ⟨hr.1, hr.2.1⟩
          | succ k => exact ih e.1 k (by simpa using hk) hr.2.2.2
      have := key _ _ _ hlt h7
      omega
theorem addition_fit {n : Id} {s : St} (h : Good n s) {k : Nat} (hk : k ≤ n.many) : MsgFit (addition n s k) := by
  have h1 := h.id2
  have h2 := h.many
  have h3 := h.b
  have h4 := getD_all (k := k - 1) h.nxs (by omega)
  have h5 := @term_fit (lg s) (s.nx[k - 1]?.getD 0 - 1)
  have h6 := h.upto
  unfold MsgFit addition
  simp only
  omega
theorem last_fit {n : Id} {s : St} (h : Good n s) : (0 ≤ (last s).1 ∧ (last s).1 ≤ 64) ∧ (0 ≤ (last s).2 ∧ (last s).2 ≤ 1073741824) := by
  have h1 := h.last1
  have h2 := h.len
  have h3 := h.t
  have h4 := h.b
  refine ⟨by omega, ?_, by omega⟩
  rw [h.last2]
  have key : ∀ (l : List E) (t : Int), 0 ≤ t → Lg.rise t l = true → 0 ≤ Lg.endT t l := by
    intro l
    induction l with
    | nil => intro t h _; exact h
    | cons e l ih =>
      intro t _ hr
      rw [Lg.rise_cons] at hr
      exact ih e.1 (by omega) hr.2.2.2
  exact key s.l 0 (Int.le_refl _) (may_lg.1 h.l).2
theorem ask_fit {n : Id} {s : St} (h : Good n s) {k : Nat} (hk : k ≤ n.many) : MsgFit (ask n s k) := by
  have h1 := h.id2
  have h2 := h.many
  have h3 := h.b
  have h4 := last_fit h
  unfold MsgFit ask
  simp only
  omega
end Rf
end Go.Proofs.Ytjcljkbalpgfdaa

/-
  What happens to a member: how its cells read; what Few answers; what a member does with it, as plain mathematics.
-/



namespace Go.Proofs.Ytjcljkbalpgfdaa
open Go.RowKit

/-- What happens: its kind, a message, a command. -/
abbrev Ev := Int × Rf.Msg × Rf.Cmd
abbrev cmc (c : Rf.Cmd) : Array Value := #[.int .i64 c.1, .int .i64 c.2.1, .int .i64 c.2.2.1, .int .i64 c.2.2.2.1, .int .i64 c.2.2.2.2.1, .int .i64 c.2.2.2.2.2]
/-- Its cells. -/
abbrev evc (k : Int) (x : Rf.Msg) (s : Value) (c : Rf.Cmd) : Array Value :=
  #[.int .i64 k, .int .i64 x.1, .int .i64 x.2.1, .int .i64 x.2.2.1, .int .i64 x.2.2.2.1, .int .i64 x.2.2.2.2.1, .int .i64 x.2.2.2.2.2.1, .int .i64 x.2.2.2.2.2.2.1, .bool x.2.2.2.2.2.2.2.1, s,
    .int .i64 c.1, .int .i64 c.2.1, .int .i64 c.2.2.1, .int .i64 c.2.2.2.1, .int .i64 c.2.2.2.2.1, .int .i64 c.2.2.2.2.2]
theorem Sl.ev {w : World} {B n c : Nat} {A : Option Addr} {l : List Ev} (h : Sl w B (.slice A n c) l) (k : Nat) (hk : k < l.length) :
    ∃ b off A2 c2, A = some ⟨b, off, none⟩ ∧ b < B ∧ Cells w b (off + k * 16) (evc (l[k]).1 (l[k]).2.1 (.slice A2 (l[k]).2.1.2.2.2.2.2.2.2.2.length c2) (l[k]).2.2) ∧
      Sl w B (.slice A2 (l[k]).2.1.2.2.2.2.2.2.2.2.length c2) (l[k]).2.1.2.2.2.2.2.2.2.2 ∧ MsgFit (l[k]).2.1 ∧ CmdFit (l[k]).2.2 := by
  have hr := h.room
  obtain ⟨b, off, ds, e, hb, h1, h2⟩ := h.at_ k (by omega) hk
  obtain ⟨d0, e0, rfl, ⟨rfl, _⟩, ⟨dm, dc, rfl, ⟨d1, e1, rfl, ⟨rfl, w1⟩, ⟨d2, e2, rfl, ⟨rfl, w2⟩, ⟨d3, e3, rfl, ⟨rfl, w3⟩, ⟨d4, e4, rfl, ⟨rfl, w4⟩, ⟨d5, e5, rfl, ⟨rfl, w5⟩, ⟨d6, e6, rfl, ⟨rfl, w6⟩, ⟨d7, e7, rfl, ⟨rfl, w7⟩, ⟨d8, e8, rfl, hy, ⟨v, rfl, hs⟩⟩⟩⟩⟩⟩⟩⟩⟩, hc⟩⟩ := h1
  obtain ⟨A2, c2, rfl, _, _⟩ := hs.form
  have hy2 : d8 = [.bool (l[k]).2.1.2.2.2.2.2.2.2.1] := hy
  subst hy2
  obtain ⟨rfl, hcw⟩ := Flat.iff.1 hc
  exact ⟨b, off, A2, c2, e, hb, fun j u hu => h2 j u (by rw [← hu, ← Array.getElem?_toList]; rfl), hs, ⟨w1, w2, w3, w4, w5, w6, w7⟩, hcw⟩
theorem Cells.at16 {w : World} {b o : Nat} {x0 x1 x2 x3 x4 x5 x6 x7 x8 x9 x10 x11 x12 x13 x14 x15 : Value} (h : Cells w b o #[x0, x1, x2, x3, x4, x5, x6, x7, x8, x9, x10, x11, x12, x13, x14, x15]) :
    w.cell? ⟨b, o, none⟩ = some x0 ∧ w.cell? ⟨b, o + 1, none⟩ = some x1 ∧ w.cell? ⟨b, o + 2, none⟩ = some x2 ∧ w.cell? ⟨b, o + 3, none⟩ = some x3 ∧ w.cell? ⟨b, o + 4, none⟩ = some x4 ∧ w.cell? ⟨b, o + 5, none⟩ = some x5 ∧ w.cell? ⟨b, o + 6, none⟩ = some x6 ∧ w.cell? ⟨b, o + 7, none⟩ = some x7 ∧
    w.cell? ⟨b, o + 8, none⟩ = some x8 ∧ w.cell? ⟨b, o + 9, none⟩ = some x9 ∧ w.cell? ⟨b, o + 10, none⟩ = some x10 ∧ w.cell? ⟨b, o + 11, none⟩ = some x11 ∧ w.cell? ⟨b, o + 12, none⟩ = some x12 ∧ w.cell? ⟨b, o + 13, none⟩ = some x13 ∧ w.cell? ⟨b, o + 14, none⟩ = some x14 ∧ w.cell? ⟨b, o + 15, none⟩ = some x15 :=
  ⟨h 0 _ rfl, h 1 _ rfl, h 2 _ rfl, h 3 _ rfl, h 4 _ rfl, h 5 _ rfl, h 6 _ rfl, h 7 _ rfl, h 8 _ rfl, h 9 _ rfl, h 10 _ rfl, h 11 _ rfl, h 12 _ rfl, h 13 _ rfl, h 14 _ rfl, h 15 _ rfl⟩
theorem Whole.c16 {w : World} {b : Nat} {t : TypeId} {x0 x1 x2 x3 x4 x5 x6 x7 x8 x9 x10 x11 x12 x13 x14 x15 : Value} (h : Whole w b t #[x0, x1, x2, x3, x4, x5, x6, x7, x8, x9, x10, x11, x12, x13, x14, x15]) :
    w.cell? ⟨b, 0, none⟩ = some x0 ∧ w.cell? ⟨b, 1, none⟩ = some x1 ∧ w.cell? ⟨b, 2, none⟩ = some x2 ∧ w.cell? ⟨b, 3, none⟩ = some x3 ∧ w.cell? ⟨b, 4, none⟩ = some x4 ∧ w.cell? ⟨b, 5, none⟩ = some x5 ∧ w.cell? ⟨b, 6, none⟩ = some x6 ∧ w.cell? ⟨b, 7, none⟩ = some x7 ∧
    w.cell? ⟨b, 8, none⟩ = some x8 ∧ w.cell? ⟨b, 9, none⟩ = some x9 ∧ w.cell? ⟨b, 10, none⟩ = some x10 ∧ w.cell? ⟨b, 11, none⟩ = some x11 ∧ w.cell? ⟨b, 12, none⟩ = some x12 ∧ w.cell? ⟨b, 13, none⟩ = some x13 ∧ w.cell? ⟨b, 14, none⟩ = some x14 ∧ w.cell? ⟨b, 15, none⟩ = some x15 :=
  ⟨h.cell 0, h.cell 1, h.cell 2, h.cell 3, h.cell 4, h.cell 5, h.cell 6, h.cell 7, h.cell 8, h.cell 9, h.cell 10, h.cell 11, h.cell 12, h.cell 13, h.cell 14, h.cell 15⟩
/-- Are the entries of the message at most 20? -/
def Ev.small (e : Ev) : Bool := decide (e.2.1.2.2.2.2.2.2.2.2.length ≤ 20)
/-- At most 60, of at most 20 entries each. -/
def Ev.few (l : List Ev) : Bool := decide (l.length ≤ 60) && l.all Ev.small
theorem Ev.few_iff {l : List Ev} : Ev.few l = true ↔ l.length ≤ 60 ∧ ∀ e ∈ l, e.2.1.2.2.2.2.2.2.2.2.length ≤ 20 := by
  unfold Ev.few Ev.small
  simp [List.all_eq_true]
/-- Up to where all are small. -/
def smallTo (r : Bool) (l : List Ev) (j : Nat) : Prop := r = (l.drop j).all Ev.small
theorem smallTo_zero (l : List Ev) : smallTo (l.all Ev.small) l 0 := by unfold smallTo; simp
theorem smallTo_step {r : Bool} {l : List Ev} {j : Nat} (h : smallTo r l j) (hj : j < l.length) (he : (l[j]).2.1.2.2.2.2.2.2.2.2.length ≤ 20) : smallTo r l (j + 1) := by
  unfold smallTo at h ⊢
  rw [h, List.drop_eq_getElem_cons hj, List.all_cons]
  unfold Ev.small
  simp [he]
theorem smallTo_stop {r : Bool} {l : List Ev} {j : Nat} (h : smallTo r l j) (hj : j < l.length) (he : 20 < (l[j]).2.1.2.2.2.2.2.2.2.2.length) : r = false := by
  unfold smallTo at h
  rw [h, List.drop_eq_getElem_cons hj, List.all_cons]
  have : Ev.small l[j] = false := by unfold Ev.small; simp; omega
  simp [this]
theorem smallTo_end {r : Bool} {l : List Ev} {j : Nat} (h : smallTo r l j) (hj : l.length ≤ j) : r = true := by
  unfold smallTo at h
  rw [h, List.drop_eq_nil_of_le hj]; rfl
set_option maxRecDepth 100000 in
theorem few7_any (v : Value) (l : List Ev) (w : World) (B : Nat) (_hB : B ≤ w.heap.size) (hv : Sl w B v l) :
    Calls Try.prog 9 #[v] w fun e w' => e = .returned (.bool (Ev.few l)) ∧ Below w.heap.size w w' := by
  obtain ⟨A, c, rfl, hc, hm⟩ := hv.form
  unfold maxLen at hm
  have HV := Lib.hid hv
  have H0 := Lib.hid (smallTo_zero l)
  have hfw : Ev.few l = (decide (l.length ≤ 60) && l.all Ev.small) := rfl
  rw [hfw]
  clear hv hfw
  generalize l.all Ev.small = r at *
  generalize hn : l.length = n at *
  have HN := Lib.hid hn
  clear hn
  go_enter Try.func9, Try.ntmps9
  by_cases h60 : 60 < n
  · have d : decide ((60 : Int) < (n : Int)) = true := by simp; omega
    have d2 : decide (n ≤ 60) = false := by simp; omega
    rw [d2]
    go_wp2_with fail
    go_ret
    exact ⟨by simp, Below.refl _ _⟩
  have d : decide ((60 : Int) < (n : Int)) = false := by simp; omega
  have d2 : decide (n ≤ 60) = true := by simp; omega
  rw [d2]
  clear d2
  go_wp2_with fail
  go_loopw [3] (fun iv wr => ∃ j : Nat, j ≤ n ∧ iv = .int .i64 (j : Int) ∧ Hid (smallTo r l j) ∧ Hid (Below w.heap.size w wr)) (fun iv _ => n - (intOf iv).toNat)
  case atStart => exact ⟨0, Nat.zero_le _, rfl, H0, Lib.hid (Below.refl _ _)⟩
  case round =>
    obtain ⟨j, hj, rfl, hf, hb⟩ := hrel
    clear H0
    by_cases hlt : j < n
    · have hjl : j < l.length := by rw [HN.out]; exact hlt
      obtain ⟨b1, o1, X1, d1, rfl, hb1, g, -, -, -⟩ := (HV.out.below (hb.out.mono _hB)).ev j hjl
      have HST := Lib.hid (smallTo_step hf.out hjl)
      have HSP := Lib.hid (smallTo_stop hf.out hjl)
      have g9 : wr.cell? ⟨b1, o1 + j * 16 + 9, none⟩ = some (.slice X1 (l[j]).2.1.2.2.2.2.2.2.2.2.length d1) := g 9 _ rfl
      generalize (l[j]).2.1.2.2.2.2.2.2.2.2.length = m at *
      clear g hjl hf
      by_cases h1 : 20 < m
      · obtain rfl := HSP.out h1
        have e1 : decide ((20 : Int) < (m : Int)) = true := by simp; omega
        clear HST HSP
        go_wp2_with fail
        go_ret
        exact ⟨by simp, hb.out⟩
      · have HS := Lib.hid (HST.out (by omega))
        have e1 : decide ((20 : Int) < (m : Int)) = false := by simp; omega
        clear HST HSP
        go_wp2_with fail
        go_roundw
        case rel => exact ⟨j + 1, by omega, by go_num, HS, hb⟩
        case measure => simp [intOf]; omega
    · obtain rfl := smallTo_end hf.out (by rw [HN.out]; omega)
      go_wp2_with fail
      go_ret
      exact ⟨by simp, hb.out⟩
/-- What a member does with it. -/
def Rf.did (n : Rf.Id) (s : Rf.St) (e : Ev) : Rf.St × Int × List Rf.Msg × Int :=
  if e.1 = 0 then let r := Rf.hear n s e.2.1; (r.1, 0, r.2, 0) else if e.1 = 1 then let r := Rf.timeout n s; (r.1, 0, r.2, 0) else
    if e.1 = 2 then let r := Rf.beat n s; (r.1, 0, r.2, 0) else Rf.propose n s e.2.2
theorem Rf.Good.did {n : Rf.Id} {s : Rf.St} (h : Rf.Good n s) (e : Ev) : Rf.Good n (Rf.did n s e).1 := by
  unfold Rf.did
  split
  · exact h.hear e.2.1
  · split
    · exact h.timeout
    · split
      · exact h.beat
      · exact h.propose e.2.2
end Go.Proofs.Ytjcljkbalpgfdaa

/-
  The program's member in memory: its struct, the rows of votes, of Match and of Next, and its log, a slice of its own.
-/


namespace Go.Proofs.Ytjcljkbalpgfdaa
open Go.RowKit

/-- Votes as numbers. -/
def vi (l : List Bool) : List Int := l.map fun b => if b then 1 else 0
theorem vi_len (l : List Bool) : (vi l).length = l.length := List.length_map ..
theorem vi_rep (n : Nat) : vi (List.replicate n false) = List.replicate n 0 := by simp [vi]
theorem vi_set (l : List Bool) (k : Nat) : vi (l.set k true) = (vi l).set k 1 := by simp [vi, List.map_set]
theorem vi_in (l : List Bool) : ∀ x ∈ vi l, 0 ≤ x ∧ x ≤ 65 := by
  intro x hx
  obtain ⟨b, -, rfl⟩ := List.mem_map.1 hx
  cases b <;> simp
theorem held_vi (l : List Bool) : Qr.held (vi l) 1 = l.count true := by
  induction l with
  | nil => rfl
  | cons b l ih =>
    rw [show vi (b :: l) = (if b then 1 else 0) :: vi l from rfl, Qr.held_cons, ih]
    cases b <;> simp

def lbk (A : Option Addr) : Option Nat := A.map (·.block)
theorem own_lbk (A : Option Addr) (n c : Nat) : (Value.slice A n c).ownBlock = lbk A := by cases A <;> rfl
/-- The blocks of a member: its struct's, its rows', its log's. -/
def Gof (F : Foot) (A : Option Addr) (b : Nat) : Prop := F.has b ∨ lbk A = some b

structure QBase (n : Rf.Id) (F : Foot) (w : World) (s : Rf.St) (A : Option Addr) (c : Nat) : Prop where
  st : Whole w F.g 65 (rmc n F s A c)
  v : Whole w F.gv 3 (rowN' (vi s.votes))
  m : Whole w F.gm 3 (rowN' s.mt)
  x : Whole w F.gn 3 (rowN' s.nx)
  ok : F.Ok
structure QMem (n : Rf.Id) (F : Foot) (w : World) (s : Rf.St) (A : Option Addr) (c : Nat) : Prop extends QBase n F w s A c where
  l : Own w 0 55 (.slice A s.l.length c) s.l
  off : ∀ b, lbk A = some b → ¬ F.has b

section
variable {n : Rf.Id} {F : Foot} {w w' : World} {s : Rf.St} {A : Option Addr} {c : Nat}
theorem Own.at {α : Type} [Rep α] [Flat α] {base : Nat} {e : TypeId} {v : Value} {l : List α} (h : Own w base e v l) (hk : ∀ b, v.ownBlock = some b → w'.heap[b]? = w.heap[b]?) : Own w' base e v l := by
  refine ⟨⟨h.1.1, ?_⟩, h.2⟩
  rcases h.1.2 with h | ⟨g, cap, cur, rfl, hg, hh, h⟩
  · exact .inl h
  · exact .inr ⟨g, cap, cur, rfl, hg, (hk g rfl).trans hh, h⟩
theorem QBase.kept {D : Nat → Prop} (h : QBase n F w s A c) (hk : Kept D w w') (hD : ∀ b, F.has b → ¬ D b) : QBase n F w' s A c :=
  ⟨hk.whole h.st (hD _ (.inl rfl)), hk.whole h.v (hD _ (.inr (.inl rfl))), hk.whole h.m (hD _ (.inr (.inr (.inl rfl)))), hk.whole h.x (hD _ (.inr (.inr (.inr rfl)))), h.ok⟩
theorem QBase.lt (h : QBase n F w s A c) : ∀ b, F.has b → b < w.heap.size := by
  intro b hb
  rcases hb with rfl | rfl | rfl | rfl
  · exact h.st.lt
  · exact h.v.lt
  · exact h.m.lt
  · exact h.x.lt
theorem QMem.llt (h : QMem n F w s A c) : ∀ b, lbk A = some b → b < w.heap.size := fun b hb => (h.l.lt b (by rw [own_lbk]; exact hb)).2
theorem QMem.flt (h : QMem n F w s A c) : ∀ b, F.has b → b < w.heap.size := h.toQBase.lt
theorem QMem.glt (h : QMem n F w s A c) : ∀ b, Gof F A b → b < w.heap.size := fun b hb => hb.elim (h.flt b) (h.llt b)
theorem QMem.kept {D : Nat → Prop} (h : QMem n F w s A c) (hk : Kept D w w') (hD : ∀ b, Gof F A b → ¬ D b) : QMem n F w' s A c :=
  ⟨h.toQBase.kept hk fun b hb => hD b (.inl hb), h.l.at fun b hb => by rw [own_lbk] at hb; exact hk.block b (h.llt b hb) (hD b (.inr hb)), h.off⟩
theorem QMem.stay (h : QMem n F w s A c) (hb : Below w.heap.size w w') : QMem n F w' s A c := h.kept (D := fun _ => False) ⟨hb.os, hb.tape, hb.output, hb.size, fun b hlt _ => hb.block b hlt⟩ fun _ _ h => h
theorem QMem.sl (h : QMem n F w s A c) : Sl w w.heap.size (.slice A s.l.length c) s.l := h.l.sl
theorem own_far {α : Type} [Rep α] [Flat α] {base : Nat} {e : TypeId} {v : Value} {l : List α} (h : Own w base e v l) {p : Addr} (hp : v.ownBlock ≠ some p.block) (u : Value) : Own (w.setCell p u) base e v l :=
  h.at fun b hb => Below.heap_setCell w p u b (fun e => hp (by rw [hb, e]))
theorem QBase.cell (h : QBase n F w s A c) (i : Nat) (u : Value) {s' : Rf.St} {A' : Option Addr} {c' : Nat} (e : (rmc n F s A c).setIfInBounds i u = rmc n F s' A' c') (hv : s'.votes = s.votes) (hm : s'.mt = s.mt) (hx : s'.nx = s.nx) :
    QBase n F (w.setCell ⟨F.g, i, none⟩ u) s' A' c' :=
  ⟨h.st.setTo i u e, by rw [hv]; exact h.v.far h.ok.gv u, by rw [hm]; exact h.m.far h.ok.gm u, by rw [hx]; exact h.x.far h.ok.gn u, h.ok⟩
theorem QMem.cell (h : QMem n F w s A c) (i : Nat) (u : Value) {s' : Rf.St} (e : (rmc n F s A c).setIfInBounds i u = rmc n F s' A c) (hv : s'.votes = s.votes) (hm : s'.mt = s.mt) (hx : s'.nx = s.nx) (hl : s'.l = s.l) :
    QMem n F (w.setCell ⟨F.g, i, none⟩ u) s' A c :=
  ⟨h.toQBase.cell i u e hv hm hx, by rw [hl]; exact own_far h.l (by rw [own_lbk]; exact fun e => h.off _ e (.inl rfl)) u, h.off⟩
theorem QMem.far (h : QMem n F w s A c) {p : Addr} (hp : ¬ Gof F A p.block) (u : Value) : QMem n F (w.setCell p u) s A c :=
  h.kept (D := fun b => b = p.block) (⟨rfl, rfl, rfl, by simp [World.setCell], fun b _ hD => Below.heap_setCell w p u b hD⟩) fun b hb e => hp (e ▸ hb)
/-- Its log anew: one cell. -/
theorem QBase.log1 (h : QBase n F w s A c) {A2 : Option Addr} {c2 : Nat} {l2 : List E} (hl : Own w 0 55 (.slice A2 l2.length c2) l2) (ho : ∀ b, lbk A2 = some b → ¬ F.has b) :
    QMem n F (w.setCell ⟨F.g, 6, none⟩ (.slice A2 l2.length c2)) { s with l := l2 } A2 c2 :=
  ⟨h.cell 6 _ rfl rfl rfl rfl, own_far hl (by rw [own_lbk]; exact fun e => ho _ e (.inl rfl)) _, ho⟩
/-- Its log anew: all three cells. -/
theorem QMem.log (h : QMem n F w s A c) {A2 : Option Addr} {c2 : Nat} {l2 : List E} (hl : Own w 0 55 (.slice A2 l2.length c2) l2) (ho : ∀ b, lbk A2 = some b → ¬ F.has b) :
    QMem n F (((w.setCell ⟨F.g, 4, none⟩ (.int .i64 0)).setCell ⟨F.g, 5, none⟩ (.int .i64 0)).setCell ⟨F.g, 6, none⟩ (.slice A2 l2.length c2)) { s with l := l2 } A2 c2 :=
  have h2 : QBase n F ((w.setCell ⟨F.g, 4, none⟩ (.int .i64 0)).setCell ⟨F.g, 5, none⟩ (.int .i64 0)) s A c := (h.toQBase.cell 4 (.int .i64 0) (s' := s) (A' := A) (c' := c) rfl rfl rfl rfl).cell 5 (.int .i64 0) (s' := s) (A' := A) (c' := c) rfl rfl rfl rfl
  have e4 : (Value.slice A2 l2.length c2).ownBlock ≠ some F.g := by rw [own_lbk]; exact fun e => ho _ e (.inl rfl)
  h2.log1 (own_far (own_far hl e4 _) e4 _) ho
theorem QMem.setM (h : QMem n F w s A c) (k : Nat) (v : Int) : QMem n F (w.setCell ⟨F.gm, k, none⟩ (.int .i64 v)) { s with mt := s.mt.set k v } A c :=
  ⟨⟨h.st.far (Ne.symm h.ok.gm) _, h.v.far (Ne.symm h.ok.vm) _, h.m.setTo k _ (rowN_set _ _ _), h.x.far h.ok.mn _, h.ok⟩, own_far h.l (by rw [own_lbk]; exact fun e => h.off _ e (.inr (.inr (.inl rfl)))) _, h.off⟩
theorem QMem.setX (h : QMem n F w s A c) (k : Nat) (v : Int) : QMem n F (w.setCell ⟨F.gn, k, none⟩ (.int .i64 v)) { s with nx := s.nx.set k v } A c :=
  ⟨⟨h.st.far (Ne.symm h.ok.gn) _, h.v.far (Ne.symm h.ok.vn) _, h.m.far (Ne.symm h.ok.mn) _, h.x.setTo k _ (rowN_set _ _ _), h.ok⟩, own_far h.l (by rw [own_lbk]; exact fun e => h.off _ e (.inr (.inr (.inr rfl)))) _, h.off⟩
theorem QMem.setV (h : QMem n F w s A c) (k : Nat) : QMem n F (w.setCell ⟨F.gv, k, none⟩ (.int .i64 1)) { s with votes := s.votes.set k true } A c :=
  ⟨⟨h.st.far (Ne.symm h.ok.gv) _, h.v.setTo k _ (by rw [rowN_set, vi_set]), h.m.far h.ok.vm _, h.x.far h.ok.vn _, h.ok⟩, own_far h.l (by rw [own_lbk]; exact fun e => h.off _ e (.inr (.inl rfl))) _, h.off⟩
/-- What a step of a member leaves: its struct and its rows where they lay, its log there or anew. -/
def PTo (n : Rf.Id) (F : Foot) (A : Option Addr) (w : World) (s : Rf.St) (w' : World) : Prop :=
  ∃ A2 c2, QMem n F w' s A2 c2 ∧ (∀ b, lbk A2 = some b → lbk A = some b ∨ w.heap.size ≤ b) ∧ Kept (Gof F A) w w'
theorem Kept.gof (h : Kept F.has w w') : Kept (Gof F A) w w' := h.mono fun _ _ h => .inl h
theorem pto_of (h : QMem n F w' s A c) (hk : Kept F.has w w') : PTo n F A w s w' := ⟨A, c, h, fun _ h => .inl h, hk.gof⟩
theorem PTo.from_ {w2 : World} (h : PTo n F A w2 s w') (hk : Kept (Gof F A) w w2) : PTo n F A w s w' := by
  obtain ⟨A2, c2, h1, h2, h3⟩ := h
  exact ⟨A2, c2, h1, fun b hb => (h2 b hb).imp id (fun h => Nat.le_trans hk.size h), hk.trans h3⟩
/-- One step, then another. -/
theorem PTo.join {A2 : Option Addr} {w2 : World} (h : PTo n F A2 w2 s w') (ha : ∀ b, lbk A2 = some b → lbk A = some b ∨ w.heap.size ≤ b) (hk : Kept (Gof F A) w w2) : PTo n F A w s w' := by
  obtain ⟨A3, c3, h1, h2, h3⟩ := h
  refine ⟨A3, c3, h1, fun b hb => (h2 b hb).elim (ha b) (fun h => .inr (Nat.le_trans hk.size h)), hk.join h3 fun b hb hd => ?_⟩
  rcases hd with hd | hd
  · exact .inl hd
  · exact (ha b hd).elim .inr (fun h => by omega)
/-- .. and, if q, what it says lies apart from its log. -/
def PToK (q : Prop) (n : Rf.Id) (F : Foot) (A : Option Addr) (w : World) (s : Rf.St) (l : List Rf.Msg) (v : Value) (w' : World) : Prop :=
  ∃ A2 c2, QMem n F w' s A2 c2 ∧ (∀ b, lbk A2 = some b → lbk A = some b ∨ w.heap.size ≤ b) ∧ Kept (Gof F A) w w' ∧ (q → SlS (α := M) w' (fun b => w.heap.size ≤ b ∧ ¬ lbk A2 = some b) v l)
theorem PTo.k {q : Prop} {l : List Rf.Msg} {v : Value} (h : PTo n F A w s w') (hq : ¬ q) : PToK q n F A w s l v w' := by
  obtain ⟨A2, c2, h1, h2, h3⟩ := h
  exact ⟨A2, c2, h1, h2, h3, fun h => absurd h hq⟩
theorem PToK.to {q : Prop} {l : List Rf.Msg} {v : Value} (h : PToK q n F A w s l v w') : PTo n F A w s w' := by
  obtain ⟨A2, c2, h1, h2, h3, -⟩ := h
  exact ⟨A2, c2, h1, h2, h3⟩
theorem ptok_nil {q : Prop} (h : QMem n F w' s A c) (hk : Kept F.has w w') : PToK q n F A w s [] (.slice none 0 0) w' := ⟨A, c, h, fun _ h => .inl h, hk.gof, fun _ => SlS.nil _ _⟩
/-- The log where it was: what lies anew lies apart from it. -/
theorem ptok_of {q : Prop} {l : List Rf.Msg} {v : Value} (h : QMem n F w' s A c) (hk : Kept F.has w w') (hA : ∀ b, lbk A = some b → b < w.heap.size) (hs : SlS (α := M) w' (w.heap.size ≤ ·) v l) : PToK q n F A w s l v w' :=
  ⟨A, c, h, fun _ h => .inl h, hk.gof, fun _ => SlS.wide hs fun b hb _ => ⟨hb, fun e => by have := hA b e; omega⟩⟩
theorem PToK.from_ {q : Prop} {l : List Rf.Msg} {v : Value} {w2 : World} (h : PToK q n F A w2 s l v w') (hk : Kept (Gof F A) w w2) : PToK q n F A w s l v w' := by
  obtain ⟨A2, c2, h1, h2, h3, h4⟩ := h
  exact ⟨A2, c2, h1, fun b hb => (h2 b hb).imp id (fun h => Nat.le_trans hk.size h), hk.trans h3, fun hq => SlS.wide (h4 hq) fun b hb _ => ⟨Nat.le_trans hk.size hb.1, hb.2⟩⟩
theorem PToK.ifq {q q' : Prop} {l : List Rf.Msg} {v : Value} (h : PToK q n F A w s l v w') (hq : q' → q) : PToK q' n F A w s l v w' := by
  obtain ⟨A2, c2, h1, h2, h3, h4⟩ := h
  exact ⟨A2, c2, h1, h2, h3, fun h => h4 (hq h)⟩
theorem grown_kept {r : Option Nat} (h : w.grownBy w' r) : Kept (fun b => r = some b) w w' := ⟨h.os, h.tape, h.output, h.size, fun b hb hd => h.block b hb (fun e => hd e.symm)⟩
end
end Go.Proofs.Ytjcljkbalpgfdaa

/-
  What message answers.
-/


namespace Go.Proofs.Ytjcljkbalpgfdaa
open Go.RowKit

set_option maxRecDepth 100000 in
theorem pmsg_any (n : Rf.Id) (F : Foot) (s : Rf.St) (A : Option Addr) (c : Nat) (w : World) (h : QMem n F w s A c) (k o : Int) :
    Calls Try.prog 43 #[.pointer (some ⟨F.g, 0, none⟩), .int .i64 k, .int .i64 o] w fun e w' => e = .returned (.agg (mc k (n.id : Int) o s.b.1 0 0 0 false (.slice none 0 0))) ∧ Below w.heap.size w w' := by
  have HM := Lib.hid (h.st.alloc (.cells #[.int .i64 0, .int .i64 0, .int .i64 0, .int .i64 0, .int .i64 0, .int .i64 0, .int .i64 0, .bool false, .slice none 0 0] 41))
  have HX := Lib.hid (Whole.new w 41 #[.int .i64 0, .int .i64 0, .int .i64 0, .int .i64 0, .int .i64 0, .int .i64 0, .int .i64 0, .bool false, .slice none 0 0])
  have HB := Lib.hid ((Below.refl w.heap.size w).alloc (Nat.le_refl _) (.cells #[.int .i64 0, .int .i64 0, .int .i64 0, .int .i64 0, .int .i64 0, .int .i64 0, .int .i64 0, .bool false, .slice none 0 0] 41))
  have hz := HB.out.size
  clear h
  unfold rmc at HM
  generalize (n.id : Int) = i at *
  generalize s.b.1 = t at *
  generalize F.g = g at *
  go_enter Try.func43, Try.ntmps43
  go_wp2_with fail
  generalize w.alloc (.cells #[.int .i64 0, .int .i64 0, .int .i64 0, .int .i64 0, .int .i64 0, .int .i64 0, .int .i64 0, .bool false, .slice none 0 0] 41) = w1 at *
  refine z_start ((w1).drew.heap.size) [12] (by kernel_rfl) ?_
  have HC := Lib.hid (Below.refl ((w1).drew.heap.size) (w1).drew)
  have hBz : (w1).drew.heap.size ≤ (w1).drew.heap.size := Nat.le_refl _
  replace HM := Lib.hid (show Whole (w1).drew _ _ _ from HM.out)
  have hlt := HM.out.lt
  replace HX := Lib.hid (show Whole (w1).drew _ _ _ from HX.out)
  have hltX := HX.out.lt
  replace HB := Lib.hid HB.out.drew
  generalize (w1).drew = z1 at *
  refine z_take (i := 0) (v := ?_) rfl (by kernel_rfl) (by kernel_rfl) (by kernel_rfl) (k0 := 0) (by kernel_rfl) (by kernel_rfl) (.inl rfl) (fun _ _ _ h => h) (by rfl) HC.out ?_ ?_
  rotate_left
  · intro W hW
    go_simp
    first | done | rfl
  simp only [Act.put, List.setIfInBounds_toArray, List.set_cons_zero, List.set_cons_succ, List.getElem_toArray, List.getElem_cons_zero]
  refine z_take (i := 1) (v := ?_) rfl (by kernel_rfl) (by kernel_rfl) (by kernel_rfl) (k0 := 1) (by kernel_rfl) (by kernel_rfl) (.inl rfl) (fun _ _ _ h => h) (by rfl) HC.out ?_ ?_
  rotate_left
  · intro W hW
    go_simp
    first | done | rfl
  simp only [Act.put, List.setIfInBounds_toArray, List.set_cons_zero, List.set_cons_succ, List.getElem_toArray, List.getElem_cons_zero, List.getElem_cons_succ]
  refine z_take (i := 2) (v := ?_) rfl (by kernel_rfl) (by kernel_rfl) (by kernel_rfl) (k0 := 2) (by kernel_rfl) (by kernel_rfl) (.inl rfl) (fun _ _ _ h => h) (by rfl) HC.out ?_ ?_
  rotate_left
  · intro W hW
    go_simp
    first | done | rfl
  simp only [Act.put, List.setIfInBounds_toArray, List.set_cons_zero, List.set_cons_succ, List.getElem_toArray, List.getElem_cons_zero, List.getElem_cons_succ]
  refine z_take (i := 3) (v := ?_) rfl (by kernel_rfl) (by kernel_rfl) (by kernel_rfl) (k0 := 3) (by kernel_rfl) (by kernel_rfl) (.inl rfl) (fun _ _ _ h => h) (by rfl) HC.out ?_ ?_
  rotate_left
  · intro W hW
    go_simp
    first | done | rfl
  simp only [Act.put, List.setIfInBounds_toArray, List.set_cons_zero, List.set_cons_succ, List.getElem_toArray, List.getElem_cons_zero, List.getElem_cons_succ]
  refine z_take (i := 4) (v := ?_) rfl (by kernel_rfl) (by kernel_rfl) (by kernel_rfl) (k0 := 4) (by kernel_rfl) (by kernel_rfl) (.inl rfl) (fun _ _ _ h => h) (by rfl) HC.out ?_ ?_
  rotate_left
  · intro W hW
    obtain ⟨k0, k1, k2, k3, k4, k5, k6, k7, k8, k9, k10, k11⟩ := (HM.out.below hW hlt).c12
    obtain ⟨q0, q1, q2, q3, q4, q5, q6, q7, q8⟩ := (HX.out.below hW hltX).c9
    go_simp
    first | done | rfl
  simp only [Act.put, List.setIfInBounds_toArray, List.set_cons_zero, List.set_cons_succ, List.getElem_toArray, List.getElem_cons_zero, List.getElem_cons_succ]
  refine z_take (i := 5) (v := ?_) rfl (by kernel_rfl) (by kernel_rfl) (by kernel_rfl) (k0 := 5) (by kernel_rfl) (by kernel_rfl) (.inl rfl) (fun _ _ _ h => h) (by rfl) HC.out ?_ ?_
  rotate_left
  · intro W hW
    go_simp
    first | done | rfl
  simp only [Act.put, List.setIfInBounds_toArray, List.set_cons_zero, List.set_cons_succ, List.getElem_toArray, List.getElem_cons_zero, List.getElem_cons_succ]
  refine z_take (i := 6) (v := ?_) rfl (by kernel_rfl) (by kernel_rfl) (by kernel_rfl) (k0 := 6) (by kernel_rfl) (by kernel_rfl) (.inl rfl) (fun _ _ _ h => h) (by rfl) HC.out ?_ ?_
  rotate_left
  · intro W hW
    go_simp
    first | done | rfl
  simp only [Act.put, List.setIfInBounds_toArray, List.set_cons_zero, List.set_cons_succ, List.getElem_toArray, List.getElem_cons_zero, List.getElem_cons_succ]
  refine z_take (i := 7) (v := ?_) rfl (by kernel_rfl) (by kernel_rfl) (by kernel_rfl) (k0 := 7) (by kernel_rfl) (by kernel_rfl) (.inl rfl) (fun _ _ _ h => h) (by rfl) HC.out ?_ ?_
  rotate_left
  · intro W hW
    go_simp
    first | done | rfl
  simp only [Act.put, List.setIfInBounds_toArray, List.set_cons_zero, List.set_cons_succ, List.getElem_toArray, List.getElem_cons_zero, List.getElem_cons_succ]
  refine z_take (i := 8) (v := ?_) rfl (by kernel_rfl) (by kernel_rfl) (by kernel_rfl) (k0 := 8) (by kernel_rfl) (by kernel_rfl) (.inl rfl) (fun _ _ _ h => h) (by rfl) HC.out ?_ ?_
  rotate_left
  · intro W hW
    go_simp
    first | done | rfl
  simp only [Act.put, List.setIfInBounds_toArray, List.set_cons_zero, List.set_cons_succ, List.getElem_toArray, List.getElem_cons_zero, List.getElem_cons_succ]
  refine z_take (i := 9) (v := ?_) rfl (by kernel_rfl) (by kernel_rfl) (by kernel_rfl) (k0 := 9) (by kernel_rfl) (by kernel_rfl) (.inl rfl) (fun _ _ _ h => h) (by rfl) HC.out ?_ ?_
  rotate_left
  · intro W hW
    go_simp
    first | done | rfl
  simp only [Act.put, List.setIfInBounds_toArray, List.set_cons_zero, List.set_cons_succ, List.getElem_toArray, List.getElem_cons_zero, List.getElem_cons_succ]
  refine z_take (i := 10) (v := ?_) rfl (by kernel_rfl) (by kernel_rfl) (by kernel_rfl) (k0 := 10) (by kernel_rfl) (by kernel_rfl) (.inl rfl) (fun _ _ _ h => h) (by rfl) HC.out ?_ ?_
  rotate_left
  · intro W hW
    obtain ⟨k0, k1, k2, k3, k4, k5, k6, k7, k8, k9, k10, k11⟩ := (HM.out.below hW hlt).c12
    obtain ⟨q0, q1, q2, q3, q4, q5, q6, q7, q8⟩ := (HX.out.below hW hltX).c9
    go_simp
    first | done | rfl
  simp only [Act.put, List.setIfInBounds_toArray, List.set_cons_zero, List.set_cons_succ, List.getElem_toArray, List.getElem_cons_zero, List.getElem_cons_succ]
  refine z_take (i := 11) (v := ?_) rfl (by kernel_rfl) (by kernel_rfl) (by kernel_rfl) (k0 := 11) (by kernel_rfl) (by kernel_rfl) (.inl rfl) (fun _ _ _ h => h) (by rfl) HC.out ?_ ?_
  rotate_left
  · intro W hW
    go_simp
    first | done | rfl
  simp only [Act.put, List.setIfInBounds_toArray, List.set_cons_zero, List.set_cons_succ, List.getElem_toArray, List.getElem_cons_zero, List.getElem_cons_succ]
  refine z_one (i := 12) (by kernel_rfl) ?_
  obtain ⟨q0, q1, q2, q3, q4, q5, q6, q7, q8⟩ := (HX.out.below HC.out hltX).c9
  obtain ⟨f0, f1, f2, f3, f4, f5, f6, f7, f8⟩ := (HX.out.below HC.out hltX).f9
  refine onez_skip (i := 12) (w' := ?_) rfl (by rfl) ?_ ?_ ?_
  rotate_left 1
  · go_simp
    first | done | rfl
  · exact fun h => absurd (by decide) h
  simp only [Act.put, List.getElem_toArray, List.getElem_cons_zero, List.getElem_cons_succ]
  refine z_done (by kernel_rfl) ?_
  have HR := Lib.hid ((HX.out.below HC.out hltX).set9 (.int .i64 k) (.int .i64 i) (.int .i64 o) (.int .i64 t) (.int .i64 0) (.int .i64 0) (.int .i64 0) (.bool false) (.slice none 0 0))
  have HBB := Lib.hid (below_set9 (HB.out.trans (HC.out.mono HB.out.size)) (g := w.heap.size) (Nat.le_refl _) (.int .i64 k) (.int .i64 i) (.int .i64 o) (.int .i64 t) (.int .i64 0) (.int .i64 0) (.int .i64 0) (.bool false) (.slice none 0 0))
  clear HX HM HC hBz q0 q1 q2 q3 q4 q5 q6 q7 q8 f0 f1 f2 f3 f4 f5 f6 f7 f8
  go_simp
  go_wp2_with fail
  refine bodyPost_ret (results_msg rfl rfl HR.out) rfl ?_
  exact ⟨rfl, HBB.out⟩
end Go.Proofs.Ytjcljkbalpgfdaa

/-
  What answer answers.
-/

namespace Go.Proofs.Ytjcljkbalpgfdaa
open Go.RowKit

set_option maxRecDepth 100000 in
theorem panswer_any (n : Rf.Id) (F : Foot) (s : Rf.St) (A : Option Addr) (c : Nat) (w : World) (h : QMem n F w s A c) (k o i : Int) (y : Bool) (hfit : MsgFit (k, (n.id : Int), o, s.b.1, i, 0, 0, y, [])) :
    Calls Try.prog 48 #[.pointer (some ⟨F.g, 0, none⟩), .int .i64 k, .int .i64 o, .bool y, .int .i64 i] w fun e w' => ∃ v, e = .returned v ∧ MsgsOut w [(k, (n.id : Int), o, s.b.1, i, 0, 0, y, [])] v w' ∧ Below w.heap.size w w' := by
  have HMS := Lib.hid (pmsg_any n F s A c w h k o)
  have HFIT := Lib.hid hfit
  clear h hfit
  go_enter Try.func48, Try.ntmps48
  go_wp2_with fail
  refine (HMS.out).mono ?_
  rintro e w1 ⟨rfl, hb⟩
  obtain ⟨f0, f1, f2, f3, f4, f5, f6, f7, f8⟩ := (Whole.new w1 41 (mc k (n.id : Int) o s.b.1 0 0 0 false (.slice none 0 0))).f9
  obtain ⟨e0, e1, e2, e3, e4, e5, e6, e7, e8⟩ := (Whole.new w1 41 (mc k (n.id : Int) o s.b.1 0 0 0 y (.slice none 0 0))).f9
  obtain ⟨q0, q1, q2, q3, q4, q5, q6, q7, q8⟩ := (Whole.new w1 41 (mc k (n.id : Int) o s.b.1 i 0 0 y (.slice none 0 0))).c9
  have HBB := Lib.hid (hb.alloc hb.size (.cells (mc k (n.id : Int) o s.b.1 i 0 0 y (.slice none 0 0)) 41))
  have hz := hb.size
  clear hb HMS
  go_wp2_with fail
  go_ret
  refine ⟨_, rfl, SlS.wide (new1_at _ 41 (α := M) (k, (n.id : Int), o, s.b.1, i, 0, 0, y, []) (mcx (k, (n.id : Int), o, s.b.1, i, 0, 0, y, []) (.slice none 0 0)) (fits_msg HFIT.out (SlS.nil _ (fun _ => False))) (by simp)) (fun b hb _ => ?_), ?_⟩
  · rcases hb with hb | hb
    · exact hb.1.elim
    · rw [World.size_alloc] at hb; omega
  · exact HBB.out.alloc HBB.out.size _
end Go.Proofs.Ytjcljkbalpgfdaa

/-
  What askVote answers and leaves.
-/


namespace Go.Proofs.Ytjcljkbalpgfdaa
open Go.RowKit

set_option maxRecDepth 100000 in
set_option maxHeartbeats 800000 in
theorem paskvote_any (n : Rf.Id) (F : Foot) (s : Rf.St) (hg : Rf.Good n s) (A : Option Addr) (c : Nat) (w : World) (h : QMem n F w s A c) (k f o t i u cm : Int) (y : Bool) (L : List E) (A2 : Option Addr) (n2 c2 : Nat) (hf : 1 ≤ f ∧ f ≤ n.many) :
    Calls Try.prog 37 #[.pointer (some ⟨F.g, 0, none⟩), .agg (mc k f o t i u cm y (.slice A2 n2 c2))] w fun e w' => ∃ v, e = .returned v ∧ MsgsOut w (Rf.asked n s (k, f, o, t, i, u, cm, y, L)).2 v w' ∧ PTo n F A w (Rf.asked n s (k, f, o, t, i, u, cm, y, L)).1 w' := by
  have hga := hg.asked (k, f, o, t, i, u, cm, y, L)
  unfold Rf.asked Rf.say Rf.last Rf.lg at hga ⊢
  simp only at hga ⊢
  have HGR := Lib.hid (fun W (hr : QMem n F W s A c) => grant_any s.b.1 s.b.2 0 0 _ s.l k f o t i u cm y A2 n2 c2 W W.heap.size (Nat.le_refl _) hr.sl)
  generalize Vt.grant (s.b.1, s.b.2) (Lg.last (0, 0, s.l)) f t i u = gr at *
  obtain ⟨⟨g1, g2⟩, g3⟩ := gr
  unfold GrantOut at HGR
  simp only at HGR hga ⊢
  have HGA := Lib.hid hga
  have hgb := hga.b
  have HAN0 := Lib.hid (fun W (hr : QMem n F W { s with b := (g1, g2) } A c) => panswer_any n F _ A c W hr 1 f 0 g3 (by have := hg.id1; have := hg.id2; have := hg.many; unfold MsgFit; simp only at hgb ⊢; omega))
  clear hga hgb
  have HB := Lib.hid ((Below.refl w.heap.size w).alloc (Nat.le_refl _) (.cells (mc k f o t i u cm y (.slice A2 n2 c2)) 41))
  have HX := Lib.hid (Whole.new w 41 (mc k f o t i u cm y (.slice A2 n2 c2)))
  have HR0 := Lib.hid (h.stay HB.out)
  have HK := Lib.hid (show Kept F.has w _ from Below.kept HB.out)
  have hFlt := h.flt
  have hid1 := hg.id1
  have hid2 := hg.id2
  have hmany := hg.many
  have hbb := hg.b
  clear h
  have hst := HR0.out.st
  dsimp only [rmc] at hst
  obtain ⟨k0, k1, k2, k3, k4, k5, k6, k7, k8, k9, k10, k11⟩ := hst.c12
  obtain ⟨q0, q1, q2, q3, q4, q5, q6, q7, q8⟩ := HX.out.c9
  clear hst
  go_enter Try.func37, Try.ntmps37
  clear hg
  go_wp2_with fail
  clear k0 k1 k2 k3 k4 k5 k6 k7 k8 k9 k10 k11 q0 q1 q2 q3 q4 q5 q6 q7 q8
  clear HB
  generalize hw4 : World.alloc _ _ = w4 at *
  clear hw4
  have HM := Lib.hid HR0.out.st
  dsimp only [rmc] at HM
  have hXg : w.heap.size ≠ F.g := fun hh => by have := hFlt F.g (.inl rfl); omega
  refine z_start ((w4).drew.heap.size) [16] (by kernel_rfl) ?_
  have HC := Lib.hid (Below.refl ((w4).drew.heap.size) (w4).drew)
  have hBz : (w4).drew.heap.size ≤ (w4).drew.heap.size := Nat.le_refl _
  replace HM := Lib.hid (show Whole (w4).drew _ _ _ from HM.out)
  have hltM := HM.out.lt
  replace HX := Lib.hid (show Whole (w4).drew _ _ _ from HX.out)
  have hltX := HX.out.lt
  replace HK := Lib.hid (HK.out.trans (Below.kept (Below.refl _ _).drew))
  replace HR0 := Lib.hid (HR0.out.stay (Below.refl _ _).drew)
  generalize (w4).drew = z1 at *
  refine z_take (i := 0) (v := ?_) rfl (by kernel_rfl) (by kernel_rfl) (by kernel_rfl) (k0 := 0) (by kernel_rfl) (by kernel_rfl) (.inl rfl) (fun _ _ _ h => h) (by rfl) HC.out ?_ ?_
  rotate_left
  · intro W hW
    go_simp
    first | done | rfl
  simp only [Act.put, List.setIfInBounds_toArray, List.set_cons_zero, List.set_cons_succ, List.getElem_toArray, List.getElem_cons_zero]
  refine z_take (i := 1) (v := ?_) rfl (by kernel_rfl) (by kernel_rfl) (by kernel_rfl) (k0 := 1) (by kernel_rfl) (by kernel_rfl) (.inl rfl) (fun _ _ _ h => h) (by rfl) HC.out ?_ ?_
  rotate_left
  · intro W hW
    go_simp
    first | done | rfl
  simp only [Act.put, List.setIfInBounds_toArray, List.set_cons_zero, List.set_cons_succ, List.getElem_toArray, List.getElem_cons_zero, List.getElem_cons_succ]
  refine z_take (i := 2) (v := ?_) rfl (by kernel_rfl) (by kernel_rfl) (by kernel_rfl) (k0 := 2) (by kernel_rfl) (by kernel_rfl) (.inl rfl) (fun _ _ _ h => h) (by rfl) HC.out ?_ ?_
  rotate_left
  · intro W hW
    go_simp
    first | done | rfl
  simp only [Act.put, List.setIfInBounds_toArray, List.set_cons_zero, List.set_cons_succ, List.getElem_toArray, List.getElem_cons_zero, List.getElem_cons_succ]
  refine z_take (i := 3) (v := ?_) rfl (by kernel_rfl) (by kernel_rfl) (by kernel_rfl) (k0 := 3) (by kernel_rfl) (by kernel_rfl) (.inl rfl) (fun _ _ _ h => h) (by rfl) HC.out ?_ ?_
  rotate_left
  · intro W hW
    go_simp
    first | done | rfl
  simp only [Act.put, List.setIfInBounds_toArray, List.set_cons_zero, List.set_cons_succ, List.getElem_toArray, List.getElem_cons_zero, List.getElem_cons_succ]
  refine z_take (i := 4) (v := ?_) rfl (by kernel_rfl) (by kernel_rfl) (by kernel_rfl) (k0 := 4) (by kernel_rfl) (by kernel_rfl) (.inl rfl) (fun _ _ _ h => h) (by rfl) HC.out ?_ ?_
  rotate_left
  · intro W hW
    obtain ⟨k0, k1, k2, k3, k4, k5, k6, k7, k8, k9, k10, k11⟩ := (HM.out.below hW hltM).c12
    go_simp
    first | done | rfl
  simp only [Act.put, List.setIfInBounds_toArray, List.set_cons_zero, List.set_cons_succ, List.getElem_toArray, List.getElem_cons_zero, List.getElem_cons_succ]
  refine z_take (i := 5) (v := ?_) rfl (by kernel_rfl) (by kernel_rfl) (by kernel_rfl) (k0 := 5) (by kernel_rfl) (by kernel_rfl) (.inl rfl) (fun _ _ _ h => h) (by rfl) HC.out ?_ ?_
  rotate_left
  · intro W hW
    go_simp
    first | done | rfl
  simp only [Act.put, List.setIfInBounds_toArray, List.set_cons_zero, List.set_cons_succ, List.getElem_toArray, List.getElem_cons_zero, List.getElem_cons_succ]
  refine z_take (i := 6) (v := ?_) rfl (by kernel_rfl) (by kernel_rfl) (by kernel_rfl) (k0 := 6) (by kernel_rfl) (by kernel_rfl) (.inl rfl) (fun _ _ _ h => h) (by rfl) HC.out ?_ ?_
  rotate_left
  · intro W hW
    go_simp
    first | done | rfl
  simp only [Act.put, List.setIfInBounds_toArray, List.set_cons_zero, List.set_cons_succ, List.getElem_toArray, List.getElem_cons_zero, List.getElem_cons_succ]
  refine z_take (i := 7) (v := ?_) rfl (by kernel_rfl) (by kernel_rfl) (by kernel_rfl) (k0 := 7) (by kernel_rfl) (by kernel_rfl) (.inl rfl) (fun _ _ _ h => h) (by rfl) HC.out ?_ ?_
  rotate_left
  · intro W hW
    go_simp
    first | done | rfl
  simp only [Act.put, List.setIfInBounds_toArray, List.set_cons_zero, List.set_cons_succ, List.getElem_toArray, List.getElem_cons_zero, List.getElem_cons_succ]
  refine z_take (i := 8) (v := ?_) rfl (by kernel_rfl) (by kernel_rfl) (by kernel_rfl) (k0 := 8) (by kernel_rfl) (by kernel_rfl) (.inl rfl) (fun _ _ _ h => h) (by rfl) HC.out ?_ ?_
  rotate_left
  · intro W hW
    obtain ⟨k0, k1, k2, k3, k4, k5, k6, k7, k8, k9, k10, k11⟩ := (HM.out.below hW hltM).c12
    go_simp
    first | done | rfl
  simp only [Act.put, List.setIfInBounds_toArray, List.set_cons_zero, List.set_cons_succ, List.getElem_toArray, List.getElem_cons_zero, List.getElem_cons_succ]
  refine z_take (i := 9) (v := ?_) rfl (by kernel_rfl) (by kernel_rfl) (by kernel_rfl) (k0 := 9) (by kernel_rfl) (by kernel_rfl) (.inl rfl) (fun _ _ _ h => h) (by rfl) HC.out ?_ ?_
  rotate_left
  · intro W hW
    obtain ⟨q0, q1, q2, q3, q4, q5, q6, q7, q8⟩ := (HX.out.below hW hltX).c9
    go_simp
    first | done | rfl
  simp only [Act.put, List.setIfInBounds_toArray, List.set_cons_zero, List.set_cons_succ, List.getElem_toArray, List.getElem_cons_zero, List.getElem_cons_succ]
  refine z_one (i := 10) (by kernel_rfl) ?_
  refine onez_call (i := 10) (f := 47) (args := ?_) rfl (by rfl) ?_ ?_
  rotate_left
  · go_simp
    first | done | rfl
  with_reducible refine (HGR.out _ (HR0.out.stay HC.out)).mono ?_
  rintro e z2 ⟨rfl, hb⟩
  refine ⟨_, rfl, fun _ => HC.out.trans (hb.mono hBz), ?_⟩
  replace HC := Lib.hid (HC.out.trans (hb.mono hBz))
  replace hBz := Nat.le_trans hBz hb.size
  clear hb
  simp only [Act.put, List.setIfInBounds_toArray, List.set_cons_zero, List.set_cons_succ, List.getElem_toArray, List.getElem_cons_zero, List.getElem_cons_succ]
  refine z_take (i := 11) (v := ?_) rfl (by kernel_rfl) (by kernel_rfl) (by kernel_rfl) (k0 := 11) (by kernel_rfl) (by kernel_rfl) (.inl rfl) (fun _ _ _ h => h) (by rfl) HC.out ?_ ?_
  rotate_left
  · intro W hW
    go_simp
    first | done | rfl
  simp only [Act.put, List.setIfInBounds_toArray, List.set_cons_zero, List.set_cons_succ, List.getElem_toArray, List.getElem_cons_zero, List.getElem_cons_succ]
  refine z_take (i := 12) (v := ?_) rfl (by kernel_rfl) (by kernel_rfl) (by kernel_rfl) (k0 := 12) (by kernel_rfl) (by kernel_rfl) (.inl rfl) (fun _ _ _ h => h) (by rfl) HC.out ?_ ?_
  rotate_left
  · intro W hW
    go_simp
    first | done | rfl
  simp only [Act.put, List.setIfInBounds_toArray, List.set_cons_zero, List.set_cons_succ, List.getElem_toArray, List.getElem_cons_zero, List.getElem_cons_succ]
  refine z_take (i := 14) (v := ?_) rfl (by kernel_rfl) (by kernel_rfl) (by kernel_rfl) (k0 := 15) (by kernel_rfl) (by kernel_rfl) (.inr (by kernel_rfl)) (fun _ _ _ h => h) (by rfl) HC.out ?_ ?_
  rotate_left
  · intro W hW
    go_simp
    first | done | rfl
  simp only [Act.put, List.setIfInBounds_toArray, List.set_cons_zero, List.set_cons_succ, List.getElem_toArray, List.getElem_cons_zero, List.getElem_cons_succ]
  refine z_take (i := 15) (v := ?_) rfl (by kernel_rfl) (by kernel_rfl) (by kernel_rfl) (k0 := 15) (by kernel_rfl) (by kernel_rfl) (.inl rfl) (fun _ _ _ h => h) (by rfl) HC.out ?_ ?_
  rotate_left
  · intro W hW
    go_simp
    first | done | rfl
  simp only [Act.put, List.setIfInBounds_toArray, List.set_cons_zero, List.set_cons_succ, List.getElem_toArray, List.getElem_cons_zero, List.getElem_cons_succ]
  refine z_two (i := 13) (j := 16) (by kernel_rfl) ?_ ?_
  · refine onez_same (i := 13) (v := ?_) rfl (by rfl) ?_ ?_
    rotate_left 1
    · go_simp
      first | done | rfl
    simp only [Act.put, List.setIfInBounds_toArray, List.set_cons_zero, List.set_cons_succ, List.getElem_toArray, List.getElem_cons_zero, List.getElem_cons_succ]
    refine z_one (i := 16) (by kernel_rfl) ?_
    obtain ⟨k0, k1, k2, k3, k4, k5, k6, k7, k8, k9, k10, k11⟩ := (HM.out.below HC.out hltM).c12
    have f2 := (HM.out.below HC.out hltM).free 2
    have f3 := (HM.out.below HC.out hltM).free 3
    refine onez_skip (i := 16) (w' := ?_) rfl (by rfl) ?_ ?_ ?_
    rotate_left 1
    · go_simp
      first | done | rfl
    · exact fun h => absurd (by decide) h
    simp only [Act.put, List.getElem_toArray, List.getElem_cons_zero, List.getElem_cons_succ]
    clear f2 f3 k0 k1 k2 k3 k4 k5 k6 k7 k8 k9 k10 k11
    refine z_one (i := 17) (by kernel_rfl) ?_
    refine onez_same (i := 17) (v := ?_) rfl (by rfl) ?_ ?_
    rotate_left 1
    · go_simp
      first | done | rfl
    simp only [Act.put, List.setIfInBounds_toArray, List.set_cons_zero, List.set_cons_succ, List.getElem_toArray, List.getElem_cons_zero, List.getElem_cons_succ]
    refine z_done (by kernel_rfl) ?_
    replace HR0 := Lib.hid (((HR0.out.stay HC.out).cell 2 (.int .i64 g1) (s' := { s with b := (g1, s.b.2) }) rfl rfl rfl rfl rfl).cell 3 (.int .i64 g2) (s' := { s with b := (g1, g2) }) rfl rfl rfl rfl rfl)
    replace HK := Lib.hid (((HK.out.trans (Below.kept HC.out)).set (p := ⟨F.g, 2, none⟩) (.inl (.inl rfl)) (.int .i64 g1)).set (p := ⟨F.g, 3, none⟩) (.inl (.inl rfl)) (.int .i64 g2))
    replace HX := Lib.hid (((HX.out.below HC.out hltX).far (p := ⟨F.g, 2, none⟩) hXg (.int .i64 g1)).far (p := ⟨F.g, 3, none⟩) hXg (.int .i64 g2))
    clear HC hBz HM hltM hltX
    go_simp
    generalize hw8 : World.setCell (World.setCell _ _ _) _ _ = w8 at *
    clear hw8
    obtain ⟨q0, q1, q2, q3, q4, q5, q6, q7, q8⟩ := HX.out.c9
    have HAN := Lib.hid (HAN0.out _ HR0.out)
    clear HAN0
    go_wp2_with fail
    refine HAN.out.mono ?_
    rintro e w9 ⟨v9, rfl, hv9, hb9⟩
    have hz9 := HK.out.size
    have HV := Lib.hid (SlS.wide hv9 (fun b hb _ => Nat.le_trans hz9 hb) : MsgsOut w _ v9 w9)
    replace HR0 := Lib.hid (HR0.out.stay hb9)
    replace HK := Lib.hid (HK.out.trans (Below.kept hb9))
    clear hv9 hb9 HAN
    go_wp2_with fail
    go_ret
    exact ⟨v9, rfl, HV.out, pto_of HR0.out HK.out⟩
  · obtain ⟨k0, k1, k2, k3, k4, k5, k6, k7, k8, k9, k10, k11⟩ := (HM.out.below HC.out hltM).c12
    have f2 := (HM.out.below HC.out hltM).free 2
    have f3 := (HM.out.below HC.out hltM).free 3
    refine onez_skip (i := 16) (w' := ?_) rfl (by rfl) ?_ ?_ ?_
    rotate_left 1
    · go_simp
      first | done | rfl
    · exact fun h => absurd (by decide) h
    simp only [Act.put, List.getElem_toArray, List.getElem_cons_zero, List.getElem_cons_succ]
    clear f2 f3 k0 k1 k2 k3 k4 k5 k6 k7 k8 k9 k10 k11
    refine z_one (i := 13) (by kernel_rfl) ?_
    refine onez_same (i := 13) (v := ?_) rfl (by rfl) ?_ ?_
    rotate_left 1
    · go_simp
      first | done | rfl
    simp only [Act.put, List.setIfInBounds_toArray, List.set_cons_zero, List.set_cons_succ, List.getElem_toArray, List.getElem_cons_zero, List.getElem_cons_succ]
    refine z_one (i := 17) (by kernel_rfl) ?_
    refine onez_same (i := 17) (v := ?_) rfl (by rfl) ?_ ?_
    rotate_left 1
    · go_simp
      first | done | rfl
    simp only [Act.put, List.setIfInBounds_toArray, List.set_cons_zero, List.set_cons_succ, List.getElem_toArray, List.getElem_cons_zero, List.getElem_cons_succ]
    refine z_done (by kernel_rfl) ?_
    replace HR0 := Lib.hid (((HR0.out.stay HC.out).cell 2 (.int .i64 g1) (s' := { s with b := (g1, s.b.2) }) rfl rfl rfl rfl rfl).cell 3 (.int .i64 g2) (s' := { s with b := (g1, g2) }) rfl rfl rfl rfl rfl)
    replace HK := Lib.hid (((HK.out.trans (Below.kept HC.out)).set (p := ⟨F.g, 2, none⟩) (.inl (.inl rfl)) (.int .i64 g1)).set (p := ⟨F.g, 3, none⟩) (.inl (.inl rfl)) (.int .i64 g2))
    replace HX := Lib.hid (((HX.out.below HC.out hltX).far (p := ⟨F.g, 2, none⟩) hXg (.int .i64 g1)).far (p := ⟨F.g, 3, none⟩) hXg (.int .i64 g2))
    clear HC hBz HM hltM hltX
    go_simp
    generalize hw8 : World.setCell (World.setCell _ _ _) _ _ = w8 at *
    clear hw8
    obtain ⟨q0, q1, q2, q3, q4, q5, q6, q7, q8⟩ := HX.out.c9
    have HAN := Lib.hid (HAN0.out _ HR0.out)
    clear HAN0
    go_wp2_with fail
    refine HAN.out.mono ?_
    rintro e w9 ⟨v9, rfl, hv9, hb9⟩
    have hz9 := HK.out.size
    have HV := Lib.hid (SlS.wide hv9 (fun b hb _ => Nat.le_trans hz9 hb) : MsgsOut w _ v9 w9)
    replace HR0 := Lib.hid (HR0.out.stay hb9)
    replace HK := Lib.hid (HK.out.trans (Below.kept hb9))
    clear hv9 hb9 HAN
    go_wp2_with fail
    go_ret
    exact ⟨v9, rfl, HV.out, pto_of HR0.out HK.out⟩
end Go.Proofs.Ytjcljkbalpgfdaa

/-
  What add leaves.
-/



namespace Go.Proofs.Ytjcljkbalpgfdaa
open Go.RowKit

set_option maxRecDepth 100000 in
set_option maxHeartbeats 800000 in
theorem pput_any (n : Rf.Id) (F : Foot) (s : Rf.St) (hg : Rf.Good n s) (A : Option Addr) (c : Nat) (w : World) (h : QMem n F w s A c) (hl64 : s.l.length < 64) (c1 c2 c3 c4 c5 c6 : Int) (hcf : CmdFit (c1, c2, c3, c4, c5, c6)) :
    Calls Try.prog 32 #[.pointer (some ⟨F.g, 0, none⟩), .agg #[.int .i64 c1, .int .i64 c2, .int .i64 c3, .int .i64 c4, .int .i64 c5, .int .i64 c6]] w fun e w' => e = .returned (.tuple #[]) ∧ PTo n F A w (Rf.put s (c1, c2, c3, c4, c5, c6)) w' := by
  have hFlt := h.flt
  have hllt := h.llt
  have HOFF := Lib.hid h.off
  have HD := Lib.hid ((Below.refl w.heap.size w).alloc (Nat.le_refl _) (.cells #[.int .i64 c1, .int .i64 c2, .int .i64 c3, .int .i64 c4, .int .i64 c5, .int .i64 c6] 43))
  have HQ := Lib.hid (h.stay HD.out)
  have HBX := Lib.hid (Whole.new w 43 #[.int .i64 c1, .int .i64 c2, .int .i64 c3, .int .i64 c4, .int .i64 c5, .int .i64 c6])
  have hneM : ¬ lbk A = some F.g := fun e => h.off _ e (.inl rfl)
  have hneX : ¬ lbk A = some w.heap.size := fun e => by have := hllt _ e; omega
  have hb := hg.b
  have hwf : Flat.wf (α := E) (s.b.1, c1, c2, c3, c4, c5, c6) := ⟨⟨by omega, by omega⟩, hcf⟩
  clear h hg hcf
  go_enter Try.func32, Try.ntmps32
  go_wp2_with fail
  have HM := Lib.hid HQ.out.st
  have HO := Lib.hid HQ.out.l
  dsimp only [rmc] at HM
  generalize w.alloc (.cells #[.int .i64 c1, .int .i64 c2, .int .i64 c3, .int .i64 c4, .int .i64 c5, .int .i64 c6] 43) = w3 at *
  refine s_start (fun W => Kept (fun b => lbk A = some b) (w3).drew W) [18] (by kernel_rfl) ?_
  have HC := Lib.hid (Kept.refl (fun b => lbk A = some b) (w3).drew)
  replace HM := Lib.hid (show Whole (w3).drew _ _ _ from HM.out)
  replace HBX := Lib.hid (show Whole (w3).drew _ _ _ from HBX.out)
  replace HO := Lib.hid HO.out.drew
  replace HQ := Lib.hid (HQ.out.stay (Below.refl _ _).drew)
  replace HD := Lib.hid HD.out.drew
  have hz3 := HD.out.size
  generalize (w3).drew = z1 at *
  refine s_take (i := 0) (v := ?_) rfl (by kernel_rfl) (by kernel_rfl) (by kernel_rfl) (k0 := 0) (by kernel_rfl) (by kernel_rfl) (.inl rfl) (fun _ _ _ h => h) (by rfl) HC.out ?_ ?_
  rotate_left
  · intro W hW
    go_simp
    first | done | rfl
  simp only [Act.put, List.setIfInBounds_toArray, List.set_cons_zero, List.set_cons_succ, List.getElem_toArray, List.getElem_cons_zero]
  refine s_take (i := 1) (v := ?_) rfl (by kernel_rfl) (by kernel_rfl) (by kernel_rfl) (k0 := 1) (by kernel_rfl) (by kernel_rfl) (.inl rfl) (fun _ _ _ h => h) (by rfl) HC.out ?_ ?_
  rotate_left
  · intro W hW
    go_simp
    first | done | rfl
  simp only [Act.put, List.setIfInBounds_toArray, List.set_cons_zero, List.set_cons_succ, List.getElem_toArray, List.getElem_cons_zero, List.getElem_cons_succ]
  refine s_take (i := 2) (v := ?_) rfl (by kernel_rfl) (by kernel_rfl) (by kernel_rfl) (k0 := 2) (by kernel_rfl) (by kernel_rfl) (.inl rfl) (fun _ _ _ h => h) (by rfl) HC.out ?_ ?_
  rotate_left
  · intro W hW
    go_simp
    first | done | rfl
  simp only [Act.put, List.setIfInBounds_toArray, List.set_cons_zero, List.set_cons_succ, List.getElem_toArray, List.getElem_cons_zero, List.getElem_cons_succ]
  refine s_take (i := 3) (v := ?_) rfl (by kernel_rfl) (by kernel_rfl) (by kernel_rfl) (k0 := 3) (by kernel_rfl) (by kernel_rfl) (.inl rfl) (fun _ _ _ h => h) (by rfl) HC.out ?_ ?_
  rotate_left
  · intro W hW
    go_simp
    first | done | rfl
  simp only [Act.put, List.setIfInBounds_toArray, List.set_cons_zero, List.set_cons_succ, List.getElem_toArray, List.getElem_cons_zero, List.getElem_cons_succ]
  refine s_take (i := 4) (v := ?_) rfl (by kernel_rfl) (by kernel_rfl) (by kernel_rfl) (k0 := 4) (by kernel_rfl) (by kernel_rfl) (.inl rfl) (fun _ _ _ h => h) (by rfl) HC.out ?_ ?_
  rotate_left
  · intro W hW
    go_simp
    first | done | rfl
  simp only [Act.put, List.setIfInBounds_toArray, List.set_cons_zero, List.set_cons_succ, List.getElem_toArray, List.getElem_cons_zero, List.getElem_cons_succ]
  refine s_take (i := 5) (v := ?_) rfl (by kernel_rfl) (by kernel_rfl) (by kernel_rfl) (k0 := 5) (by kernel_rfl) (by kernel_rfl) (.inl rfl) (fun _ _ _ h => h) (by rfl) HC.out ?_ ?_
  rotate_left
  · intro W hW
    obtain ⟨k0, k1, k2, k3, k4, k5, k6, k7, k8, k9, k10, k11⟩ := (hW.whole HM.out hneM).c12
    go_simp
    first | done | rfl
  simp only [Act.put, List.setIfInBounds_toArray, List.set_cons_zero, List.set_cons_succ, List.getElem_toArray, List.getElem_cons_zero, List.getElem_cons_succ]
  refine s_take (i := 6) (v := ?_) rfl (by kernel_rfl) (by kernel_rfl) (by kernel_rfl) (k0 := 6) (by kernel_rfl) (by kernel_rfl) (.inl rfl) (fun _ _ _ h => h) (by rfl) HC.out ?_ ?_
  rotate_left
  · intro W hW
    go_simp
    first | done | rfl
  simp only [Act.put, List.setIfInBounds_toArray, List.set_cons_zero, List.set_cons_succ, List.getElem_toArray, List.getElem_cons_zero, List.getElem_cons_succ]
  refine s_take (i := 7) (v := ?_) rfl (by kernel_rfl) (by kernel_rfl) (by kernel_rfl) (k0 := 7) (by kernel_rfl) (by kernel_rfl) (.inl rfl) (fun _ _ _ h => h) (by rfl) HC.out ?_ ?_
  rotate_left
  · intro W hW
    go_simp
    first | done | rfl
  simp only [Act.put, List.setIfInBounds_toArray, List.set_cons_zero, List.set_cons_succ, List.getElem_toArray, List.getElem_cons_zero, List.getElem_cons_succ]
  refine s_take (i := 8) (v := ?_) rfl (by kernel_rfl) (by kernel_rfl) (by kernel_rfl) (k0 := 8) (by kernel_rfl) (by kernel_rfl) (.inl rfl) (fun _ _ _ h => h) (by rfl) HC.out ?_ ?_
  rotate_left
  · intro W hW
    go_simp
    first | done | rfl
  simp only [Act.put, List.setIfInBounds_toArray, List.set_cons_zero, List.set_cons_succ, List.getElem_toArray, List.getElem_cons_zero, List.getElem_cons_succ]
  refine s_take (i := 9) (v := ?_) rfl (by kernel_rfl) (by kernel_rfl) (by kernel_rfl) (k0 := 9) (by kernel_rfl) (by kernel_rfl) (.inl rfl) (fun _ _ _ h => h) (by rfl) HC.out ?_ ?_
  rotate_left
  · intro W hW
    go_simp
    first | done | rfl
  simp only [Act.put, List.setIfInBounds_toArray, List.set_cons_zero, List.set_cons_succ, List.getElem_toArray, List.getElem_cons_zero, List.getElem_cons_succ]
  refine s_take (i := 10) (v := ?_) rfl (by kernel_rfl) (by kernel_rfl) (by kernel_rfl) (k0 := 10) (by kernel_rfl) (by kernel_rfl) (.inl rfl) (fun _ _ _ h => h) (by rfl) HC.out ?_ ?_
  rotate_left
  · intro W hW
    obtain ⟨k0, k1, k2, k3, k4, k5, k6, k7, k8, k9, k10, k11⟩ := (hW.whole HM.out hneM).c12
    go_simp
    first | done | rfl
  simp only [Act.put, List.setIfInBounds_toArray, List.set_cons_zero, List.set_cons_succ, List.getElem_toArray, List.getElem_cons_zero, List.getElem_cons_succ]
  refine s_take (i := 11) (v := ?_) rfl (by kernel_rfl) (by kernel_rfl) (by kernel_rfl) (k0 := 11) (by kernel_rfl) (by kernel_rfl) (.inl rfl) (fun _ _ _ h => h) (by rfl) HC.out ?_ ?_
  rotate_left
  · intro W hW
    obtain ⟨j0, j1, j2, j3, j4, j5⟩ := (hW.whole HBX.out hneX).c6
    go_simp
    first | done | rfl
  simp only [Act.put, List.setIfInBounds_toArray, List.set_cons_zero, List.set_cons_succ, List.getElem_toArray, List.getElem_cons_zero, List.getElem_cons_succ]
  refine s_take (i := 12) (v := ?_) rfl (by kernel_rfl) (by kernel_rfl) (by kernel_rfl) (k0 := 12) (by kernel_rfl) (by kernel_rfl) (.inl rfl) (fun _ _ _ h => h) (by rfl) HC.out ?_ ?_
  rotate_left
  · intro W hW
    go_simp
    first | done | rfl
  simp only [Act.put, List.setIfInBounds_toArray, List.set_cons_zero, List.set_cons_succ, List.getElem_toArray, List.getElem_cons_zero, List.getElem_cons_succ]
  refine s_one (i := 13) (by kernel_rfl) ?_
  refine ones_run (i := 13) (v := ?_) (w' := ?_) rfl (by rfl) ?_ ?_ ?_
  rotate_left 2
  · go_simp
    first | done | (constructor <;> rfl)
  · exact fun _ => HC.out.trans (Below.kept ((Below.refl _ _).alloc (Nat.le_refl _) _))
  simp only [Act.put, List.setIfInBounds_toArray, List.set_cons_zero, List.set_cons_succ, List.getElem_toArray, List.getElem_cons_zero, List.getElem_cons_succ]
  have HN := Lib.hid (Sl.new1 (z1) 55 (α := E) (s.b.1, c1, c2, c3, c4, c5, c6) #[.int .i64 s.b.1, .int .i64 c1, .int .i64 c2, .int .i64 c3, .int .i64 c4, .int .i64 c5, .int .i64 c6] hwf rfl)
  replace HO := Lib.hid (HO.out.alloc (.cells #[.int .i64 s.b.1, .int .i64 c1, .int .i64 c2, .int .i64 c3, .int .i64 c4, .int .i64 c5, .int .i64 c6] 55))
  replace HC := Lib.hid (HC.out.trans (Below.kept ((Below.refl _ _).alloc (Nat.le_refl _) (.cells #[.int .i64 s.b.1, .int .i64 c1, .int .i64 c2, .int .i64 c3, .int .i64 c4, .int .i64 c5, .int .i64 c6] 55))))
  generalize z1.heap.size = gN at *
  generalize (z1).alloc (.cells #[.int .i64 s.b.1, .int .i64 c1, .int .i64 c2, .int .i64 c3, .int .i64 c4, .int .i64 c5, .int .i64 c6] 55) = z2 at *
  refine s_one (i := 14) (by kernel_rfl) ?_
  refine ones_append_sl (i := 14) rfl (by rfl) _ _ rfl rowE 0 (.slice A s.l.length c) s.l rfl HO.out (gN + 1) _ [(s.b.1, c1, c2, c3, c4, c5, c6)] rfl HN.out (by simp; unfold maxLen; omega) (by simp; omega) (Nat.zero_le _) (fun W hg => HC.out.trans (by have := grown_kept hg; rw [own_lbk] at this; exact this)) ?_
  intro v4 z3 hown4 hgr4 hat4
  rw [own_lbk] at hgr4 hat4
  have hC1 := HC.out.size
  replace HC := Lib.hid (HC.out.trans (grown_kept hgr4))
  have HO4 := Lib.hid hown4
  clear hown4 hgr4 HN HO
  obtain ⟨A4, d4, rfl, -, -⟩ := HO4.out.sl.form
  rw [own_lbk] at hat4
  generalize hl5 : (s.l ++ [(s.b.1, c1, c2, c3, c4, c5, c6)]).length = n5 at *
  have HL5 := Lib.hid hl5
  clear hl5
  simp only [Act.put, List.setIfInBounds_toArray, List.set_cons_zero, List.set_cons_succ, List.getElem_toArray, List.getElem_cons_zero, List.getElem_cons_succ]
  refine s_one (i := 15) (by kernel_rfl) ?_
  refine ones_same (i := 15) (v := ?_) rfl (by rfl) ?_ ?_
  rotate_left 1
  · go_simp
    first | done | rfl
  simp only [Act.put, List.setIfInBounds_toArray, List.set_cons_zero, List.set_cons_succ, List.getElem_toArray, List.getElem_cons_zero, List.getElem_cons_succ]
  refine s_take (i := 16) (v := ?_) rfl (by kernel_rfl) (by kernel_rfl) (by kernel_rfl) (k0 := 17) (by kernel_rfl) (by kernel_rfl) (.inr (by kernel_rfl)) (fun _ _ _ h => h) (by rfl) HC.out ?_ ?_
  rotate_left
  · intro W hW
    go_simp
    first | done | rfl
  simp only [Act.put, List.setIfInBounds_toArray, List.set_cons_zero, List.set_cons_succ, List.getElem_toArray, List.getElem_cons_zero, List.getElem_cons_succ]
  refine s_take (i := 17) (v := ?_) rfl (by kernel_rfl) (by kernel_rfl) (by kernel_rfl) (k0 := 17) (by kernel_rfl) (by kernel_rfl) (.inl rfl) (fun _ _ _ h => h) (by rfl) HC.out ?_ ?_
  rotate_left
  · intro W hW
    go_simp
    first | done | rfl
  simp only [Act.put, List.setIfInBounds_toArray, List.set_cons_zero, List.set_cons_succ, List.getElem_toArray, List.getElem_cons_zero, List.getElem_cons_succ]
  refine s_one (i := 18) (by kernel_rfl) ?_
  have hstw := HM.out
  have HMw := Lib.hid (HC.out.whole HM.out hneM)
  obtain ⟨k0, k1, k2, k3, k4, k5, k6, k7, k8, k9, k10, k11⟩ := HMw.out.c12
  have f6 := HMw.out.free 6
  refine ones_skip (i := 18) (w' := ?_) rfl (by rfl) ?_ ?_ ?_
  rotate_left 1
  · go_simp
    first | done | rfl
  · exact fun h => absurd (by decide) h
  simp only [Act.put, List.getElem_toArray, List.getElem_cons_zero, List.getElem_cons_succ]
  clear HMw f6 hstw k0 k1 k2 k3 k4 k5 k6 k7 k8 k9 k10 k11
  refine s_done (by kernel_rfl) ?_
  have hsz := HC.out.size
  have HB2 := Lib.hid (HQ.out.toQBase.kept HC.out (fun b hb hd => HOFF.out b hd hb))
  have hst := HB2.out.st
  dsimp only [rmc] at hst
  obtain ⟨k0, k1, k2, k3, k4, k5, k6, k7, k8, k9, k10, k11⟩ := hst.c12
  have f6 := hst.free 6
  clear hst HM HBX
  go_simp
  go_wp2_with fail
  go_end0
  obtain rfl := HL5.out
  have hz3 := HD.out.size
  have hA4 : ∀ b, lbk A4 = some b → lbk A = some b ∨ w.heap.size ≤ b := fun b hb => by
    rcases hat4 with e | e
    · exact .inl (e.symm.trans hb)
    · have := e.symm.trans hb
      injection this with this
      exact .inr (by omega)
  refine ⟨rfl, A4, d4, HB2.out.log1 HO4.out (fun b hb hf => (hA4 b hb).elim (fun h => HOFF.out b h hf) (fun h => by have := hFlt b hf; omega)), hA4, ((Below.kept HD.out).trans (HC.out.mono fun b _ h => .inr h)).set (.inl (.inl (.inl rfl))) _⟩
end Go.Proofs.Ytjcljkbalpgfdaa
