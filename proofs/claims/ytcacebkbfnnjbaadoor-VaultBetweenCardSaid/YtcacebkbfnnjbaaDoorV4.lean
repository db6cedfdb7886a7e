/-
  Parts that the statement rests on, joined: Words.
-/
import Derived.Test.YtcacebkbfnnjbaaDoorV3
import Derived.Test.YtcacebkbfnnjbaaDoorProg
import Derived.WalkKit
import Derived.Lib.Hide
import Derived.Maps.AppendAt
import Derived.Deep.AppendLies
import Derived.Deep.Draws
/-
  Words for slices of bytes: a slice value that reads as a list of bytes; one that the call itself made; what append leaves.
-/







namespace Go.Proofs.YtcacebkbfnnjbaaDoor
open Go.RowKit

/-- The numbers of bytes. -/
def nums (l : List UInt8) : List Nat := l.map UInt8.toNat
/-- The cells of bytes. -/
def bvb (l : List UInt8) : List Value := l.map fun b => Value.int .u8 (b.toNat : Int)
theorem bv_length (l : List UInt8) : (bvb l).length = l.length := by simp [bvb]
theorem bv_append (l m : List UInt8) : bvb (l ++ m) = bvb l ++ bvb m := by simp [bvb]
theorem bv_one (l : List UInt8) : ∀ u ∈ bvb l, u.oneCell' = true := by
  intro u hu
  simp only [bvb, List.mem_map] at hu
  obtain ⟨a, _, rfl⟩ := hu
  rfl
theorem bv_get (l : List UInt8) (k : Nat) (h : k < l.length) : (bvb l)[k]? = some (.int .u8 ((l[k]).toNat : Int)) := by
  simp [bvb, h]

/-- The slice value v reads, in world w, as the bytes l, that lie below block B. -/
structure Rd (w : World) (B : Nat) (v : Value) (l : List UInt8) : Prop where
  form : ∃ A c, v = .slice A l.length c ∧ l.length ≤ c ∧ (0 < l.length → ∃ b off, A = some ⟨b, off, none⟩ ∧ b < B ∧ ∀ k (h : k < l.length), w.cell? ⟨b, off + k, none⟩ = some (.int .u8 ((l[k]).toNat : Int)))

section
variable {w w' : World} {B B' : Nat} {v : Value} {l : List UInt8}
theorem Rd.below (h : Rd w B v l) (hb : Below B w w') : Rd w' B v l := by
  obtain ⟨A, c, e, hc, hx⟩ := h.form
  exact ⟨A, c, e, hc, fun h0 => by
    obtain ⟨b, off, e2, hB, hk⟩ := hx h0
    exact ⟨b, off, e2, hB, fun k h => (hb.cell (p := ⟨b, off + k, none⟩) hB).trans (hk k h)⟩⟩
theorem Rd.mono (h : Rd w B v l) (hB : B ≤ B') : Rd w B' v l := by
  obtain ⟨A, c, e, hc, hx⟩ := h.form
  exact ⟨A, c, e, hc, fun h0 => by
    obtain ⟨b, off, e2, hb, hk⟩ := hx h0
    exact ⟨b, off, e2, by omega, hk⟩⟩
theorem Rd.at_ {A : Option Addr} {n c : Nat} (h : Rd w B (.slice A n c) l) (hl : l.length = n) (k : Nat) (hk : k < n) :
    ∃ b off, A = some ⟨b, off, none⟩ ∧ b < B ∧ w.cell? ⟨b, off + k, none⟩ = some (.int .u8 ((l.getD k 0).toNat : Int)) := by
  obtain ⟨A', c', e, _, hx⟩ := h.form
  injection e with e1 e2 e3
  subst e1
  obtain ⟨b, off, e4, hb, hc⟩ := hx (by omega)
  refine ⟨b, off, e4, hb, ?_⟩
  have hkl : k < l.length := by omega
  rw [hc k hkl]
  simp [List.getD, hkl]
theorem Rd.nil (w : World) (B : Nat) : Rd w B (.slice none 0 0) [] := ⟨none, 0, rfl, Nat.le_refl _, fun h => absurd h (by simp)⟩
end

theorem rd_take {w : World} {B b off c : Nat} {l t : List UInt8} (h : Rd w B (.slice (some ⟨b, off, none⟩) (l ++ t).length c) (l ++ t)) : Rd w B (.slice (some ⟨b, off, none⟩) l.length c) l := by
  obtain ⟨A, c', e, hc, hx⟩ := h.form
  injection e with e1 _ e3
  subst e1 e3
  refine ⟨_, _, rfl, by simp at hc; omega, fun h0 => ?_⟩
  obtain ⟨b', off', e, hb, hk⟩ := hx (by simp; omega)
  refine ⟨b', off', e, hb, fun k hkl => ?_⟩
  have := hk k (by simp; omega)
  rwa [List.getElem_append_left hkl] at this

/-- The slice value v, made by the call itself from block 'base' on, holds the bytes l. -/
def OwnB (w : World) (base : Nat) (v : Value) (l : List UInt8) : Prop := w.ownsRow base 5 1 v l.length (bvb l)

theorem OwnB.nil (w : World) (base : Nat) : OwnB w base (.slice none 0 0) [] := World.ownsRow_nil w base _ _
theorem OwnB.rd {w : World} {base : Nat} {v : Value} {l : List UInt8} (h : OwnB w base v l) : Rd w w.heap.size v l := by
  have hw := h
  rcases h.2 with ⟨rfl, hn⟩ | ⟨g, cap, cur, rfl, hb, hg, hcap, _, _, _⟩
  · have : l = [] := List.eq_nil_of_length_eq_zero hn
    subst this
    exact Rd.nil _ _
  · refine ⟨_, cap, rfl, hcap, fun h0 => ⟨g, 0, rfl, ?_, fun k hk => ?_⟩⟩
    · rcases Nat.lt_or_ge g w.heap.size with hlt | hge
      · exact hlt
      · rw [Array.getElem?_eq_none hge] at hg; cases hg
    · have := World.ownsRow.cells (show w.ownsRow _ _ _ _ _ _ from hw) (g := g) rfl k _ (bv_get l k hk)
      rwa [add_at] at this
theorem OwnB.alloc {w : World} {base : Nat} {v : Value} {l : List UInt8} (h : OwnB w base v l) (o : Obj) : OwnB (w.alloc o) base v l := World.ownsRow.alloc h o

theorem OwnB.down {w : World} {base base' : Nat} {v : Value} {l : List UInt8} (h : OwnB w base v l) (hb : base' ≤ base) : OwnB w base' v l := by
  refine ⟨h.1, ?_⟩
  rcases h.2 with h | ⟨g, cap, cur, e, hg, h⟩
  · exact .inl h
  · exact .inr ⟨g, cap, cur, e, by omega, h⟩
theorem OwnB.lt {w : World} {base : Nat} {v : Value} {l : List UInt8} (h : OwnB w base v l) : ∀ k, v.ownBlock = some k → base ≤ k ∧ k < w.heap.size := World.ownsRow.lt h
theorem Rd.grown {w w' : World} {B : Nat} {v : Value} {l : List UInt8} {row : Option Nat} (h : Rd w B v l) (hg : w.grownBy w' row) (hB : B ≤ w.heap.size) (hr : ∀ g, row = some g → B ≤ g) : Rd w' B v l := by
  obtain ⟨A, c, e, hc, hx⟩ := h.form
  exact ⟨A, c, e, hc, fun h0 => by
    obtain ⟨b, off, e2, hb, hk⟩ := hx h0
    exact ⟨b, off, e2, hb, fun k h => (World.cell?_of_block (a := ⟨b, off + k, none⟩) (hg.block b (by omega) (fun e => by have := hr _ e.symm; omega))).trans (hk k h)⟩⟩
theorem Rd.block {w : World} {B g c : Nat} {l : List UInt8} {t : TypeId} {fr : Nat × Nat} {cs : Array Value} (h : w.heap[g]? = some (.cells cs t fr)) (hcs : bvb l = cs.toList) (hB : g < B) (hc : l.length ≤ c) : Rd w B (.slice (some ⟨g, 0, none⟩) l.length c) l :=
  ⟨_, c, rfl, hc, fun _ => ⟨g, 0, rfl, hB, fun k hk => by
    rw [cell_of_row w g (0 + k) cs t fr h, Nat.zero_add]
    have := bv_get l k hk
    rw [hcs] at this
    simpa using this⟩⟩

theorem OwnB.form {w : World} {base : Nat} {v : Value} {l : List UInt8} (h : OwnB w base v l) (hn : 0 < l.length) : ∃ g cap, v = .slice (some ⟨g, 0, none⟩) l.length cap ∧ base ≤ g ∧ g < w.heap.size := World.ownsRow.form h hn
theorem OwnB.cell {w : World} {base g cap : Nat} {l : List UInt8} (h : OwnB w base (.slice (some ⟨g, 0, none⟩) l.length cap) l) (j : Nat) (hj : j < l.length) : w.cell? ⟨g, j, none⟩ = some (.int .u8 ((l[j]).toNat : Int)) := by
  rw [World.ownsRow.cellAt h j (by omega)]
  exact bv_get l j hj
theorem OwnB.free {w : World} {base g cap : Nat} {l : List UInt8} (h : OwnB w base (.slice (some ⟨g, 0, none⟩) l.length cap) l) (j : Nat) : w.frozen? ⟨g, j, none⟩ = false := World.ownsRow.frozenAt h j
theorem OwnB.store {w : World} {base g cap : Nat} {l : List UInt8} (h : OwnB w base (.slice (some ⟨g, 0, none⟩) l.length cap) l) (j : Nat) (u : UInt8) :
    OwnB (w.setCell ⟨g, j, none⟩ (.int .u8 (u.toNat : Int))) base (.slice (some ⟨g, 0, none⟩) l.length cap) (l.set j u) := by
  have := (World.ownsRow.stored h j (.int .u8 (u.toNat : Int))).1
  unfold OwnB
  rw [List.length_set]
  have e : bvb (l.set j u) = (bvb l).set j (.int .u8 (u.toNat : Int)) := by simp [bvb, List.map_set]
  rw [e]
  exact this

theorem OwnB.at_ {w : World} {base n c : Nat} {A : Option Addr} {m : List UInt8} (h : OwnB w base (.slice A n c) m) (hn : m.length = n) (j : Nat) (hj : j < n) :
    ∃ g, A = some ⟨g, 0, none⟩ ∧ base ≤ g ∧ w.cell? ⟨g, j, none⟩ = some (.int .u8 ((m.getD j 0).toNat : Int)) ∧ w.frozen? ⟨g, j, none⟩ = false ∧
      ∀ u : UInt8, OwnB (w.setCell ⟨g, j, none⟩ (.int .u8 (u.toNat : Int))) base (.slice A n c) (m.set j u) := by
  subst hn
  obtain ⟨g, cap, e, hb, _⟩ := h.form (by omega)
  injection e with e1 _ e3
  subst e1 e3
  refine ⟨g, rfl, hb, ?_, h.free j, fun u => h.store j u⟩
  rw [h.cell j hj]
  simp [List.getD, hj]

/-! The same in the words of any data. -/
theorem bv_cells (l : List UInt8) : cells l = bvb l := by
  induction l with
  | nil => rfl
  | cons a l ih =>
    have e : cells (a :: l) = Flat.enc a ++ cells l := rfl
    rw [e, ih]; rfl
theorem rd_of_sl {w : World} {B : Nat} {v : Value} {l : List UInt8} (h : Sl w B v l) : Rd w B v l := by
  obtain ⟨A, c, rfl, hc, _⟩ := h.form
  refine ⟨A, c, rfl, hc, fun h0 => ?_⟩
  obtain ⟨b, off, rfl, hb, _⟩ := h.byte 0 h0
  refine ⟨b, off, rfl, hb, fun k hk => ?_⟩
  obtain ⟨b', off', e, _, h2⟩ := h.byte k hk
  injection e with e
  injection e with e1 e2
  subst e1 e2
  exact h2
theorem OwnB.own {w : World} {base : Nat} {v : Value} {l : List UInt8} (h : OwnB w base v l) : Own w base 5 v l := by
  refine ⟨?_, fun _ _ => trivial⟩
  rw [bv_cells]
  exact h
theorem Own.ownB {w : World} {base : Nat} {v : Value} {l : List UInt8} (h : Own w base 5 v l) : OwnB w base v l := by
  have h1 := h.1
  rw [bv_cells] at h1
  exact h1

theorem info5 : (Tryd.prog.info? 5).map (fun i => (i.zero, i.size, i.bytes)) = some (some (.int .u8 0), 1, 1) := by kernel_rfl

theorem run_append_rd (w : World) (ty : TypeId) (base : Nat) (v : Value) (l0 : List UInt8) (hown : OwnB w base v l0) (B : Nat) (u : Value) (l : List UInt8) (hr : Rd w B u l)
    (hlen : l0.length + l.length ≤ 1000000) (hbase : base ≤ w.heap.size) :
    ∃ v' w', (Builtin.append_ #[28, 28] ty #[v, u]).run Tryd.prog w = .ok v' w' ∧ OwnB w' base v' (l0 ++ l) ∧ w.grownBy w' v.ownBlock ∧
      (v'.ownBlock = v.ownBlock ∨ v'.ownBlock = some w.heap.size) := by
  obtain ⟨i, hi, hz, hsz, hby⟩ := info_parts info5
  obtain ⟨A, c, rfl, hc, hx⟩ := hr.form
  rcases A with _ | ad
  · have hn : l = [] := by
      rcases Nat.eq_zero_or_pos l.length with h0 | h0
      · exact List.eq_nil_of_length_eq_zero h0
      · obtain ⟨b, off, h, _⟩ := hx h0
        cases h
    subst hn
    refine ⟨v, w, ?_, by simpa using hown, World.grownBy.refl w _, .inl rfl⟩
    rcases hown.2 with ⟨rfl, _⟩ | ⟨g, cap, cur, rfl, _, _, hnc, _⟩
    · simp [Builtin.append_, run_underlying Tryd.underlying28, sizeOf, typeInfo, hi, Builtin.lenOf, Builtin.firstCells]
    · simp [Builtin.append_, run_underlying Tryd.underlying28, sizeOf, typeInfo, hi, Builtin.lenOf, Builtin.firstCells, hnc, storeCells]
  · have hcells : ∀ j x, (bvb l)[j]? = some x → w.cell? (ad.add j) = some x := by
      intro j x hj
      have hjl : j < l.length := by
        rcases Nat.lt_or_ge j l.length with h | h
        · exact h
        · rw [List.getElem?_eq_none (by rw [bv_length]; exact h)] at hj; cases hj
      obtain ⟨b, off, e, _, hk⟩ := hx (by omega)
      obtain rfl : ad = ⟨b, off, none⟩ := Option.some.inj e
      rw [add_at, hk j hjl]
      rw [bv_get l j hjl] at hj
      exact hj
    obtain ⟨v', w', hrun, h2, h3, _, h5⟩ := run_append_own_at (P := Tryd.prog) w base 28 ty 5 i _ 1 1 Tryd.underlying28 hi hz hsz hby rfl (by decide) v l0.length (bvb l0) hown ad l.length c (bvb l) (by rw [bv_length]; omega) hcells (bv_one l)
      (by unfold maxLen; omega) (by omega) hbase
    refine ⟨v', w', hrun, ?_, h3, h5⟩
    unfold OwnB
    rw [bv_append, List.length_append]
    exact h2

theorem wpList_append_rd {w : World} {ops : Array Oper} {rest : List Oper} {o : Oper} {a : Act} {Q : Exit → Act → World → Prop} (hgd : o.guard = none) (s x : Operand)
    (ho : o.op = .call { callee := .builtin .append, args := #[s, x], argTypes := #[28, 28] })
    (base : Nat) (v : Value) (l0 : List UInt8) (hs : a.eval s = v) (hown : OwnB w base v l0) (B : Nat) (u : Value) (l : List UInt8) (hx : a.eval x = u) (hr : Rd w B u l)
    (hlen : l0.length + l.length ≤ 1000000) (hbase : base ≤ w.heap.size)
    (h : ∀ v' w', OwnB w' base v' (l0 ++ l) → w.grownBy w' v.ownBlock → (v'.ownBlock = v.ownBlock ∨ v'.ownBlock = some w.heap.size) → wpList Tryd.prog ops Q rest (a.put o.dst v') w') : wpList Tryd.prog ops Q (o :: rest) a w := by
  refine wpList_plain hgd fun K hK => ?_
  obtain ⟨v', w', hrun, h2, h3, h4⟩ := run_append_rd w o.type base v l0 hown B u l hr hlen hbase
  unfold Oper.wp execOp
  simp only [ho, resolve, invoke, builtin, Sem.run_bind, Sem.run_pure, Result.andThen_ok, List.map_toArray, List.map_cons, List.map_nil, hs, hx, hrun]
  exact hK _ _ (h v' w' h2 h3 h4)
end Go.Proofs.YtcacebkbfnnjbaaDoor
