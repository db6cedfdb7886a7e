/-
  Slices of the call's own whose elements lead on to other memory: what they read as, how they are kept, append. No program.
-/
import Derived.Test.YtdgfopiagfibkaaRep
namespace Go.Proofs.Ytdgfopiagfibkaa
open Go.RowKit Go.WideShapes Go.ChangeShapes Go.Deep

/-- Cells, one element behind the other. -/
def FitsL {α : Type} [Rep α] (w : World) (S : Nat → Prop) : List Value → List α → Prop
  | cs, [] => cs = []
  | cs, a :: l => ∃ c1 c2, cs = c1 ++ c2 ∧ Rep.fits w S c1 a ∧ FitsL w S c2 l

section
variable {α : Type} [Rep α] {w w' : World} {S T : Nat → Prop}
theorem FitsL.len : ∀ {cs : List Value} {l : List α}, FitsL w S cs l → cs.length = l.length * Rep.sz α
  | cs, [], h => by rw [show cs = [] from h]; simp
  | cs, a :: l, ⟨c1, c2, e, h1, h2⟩ => by rw [e, List.length_append, Rep.len h1, FitsL.len h2, List.length_cons, Nat.add_mul, Nat.one_mul, Nat.add_comm]
theorem FitsL.one : ∀ {cs : List Value} {l : List α}, FitsL w S cs l → ∀ u ∈ cs, u.oneCell' = true
  | cs, [], h => by rw [show cs = [] from h]; simp
  | cs, a :: l, ⟨c1, c2, e, h1, h2⟩ => fun u hu => by
    rw [e] at hu
    rcases List.mem_append.1 hu with hu | hu
    · exact Rep.one h1 u hu
    · exact FitsL.one h2 u hu
theorem FitsL.stay (hb : ∀ b, S b → b < w.heap.size → w'.heap[b]? = w.heap[b]?) : ∀ {cs : List Value} {l : List α}, FitsL w S cs l → FitsL w' S cs l
  | _, [], h => h
  | _, _ :: _, ⟨c1, c2, e, h1, h2⟩ => ⟨c1, c2, e, Rep.stay h1 hb, FitsL.stay hb h2⟩
theorem FitsL.wide (hT : ∀ b, S b → b < w.heap.size → T b) : ∀ {cs : List Value} {l : List α}, FitsL w S cs l → FitsL w T cs l
  | _, [], h => h
  | _, _ :: _, ⟨c1, c2, e, h1, h2⟩ => ⟨c1, c2, e, Rep.wide h1 hT, FitsL.wide hT h2⟩
theorem FitsL.append : ∀ {cs ds : List Value} {l m : List α}, FitsL w S cs l → FitsL w S ds m → FitsL w S (cs ++ ds) (l ++ m)
  | cs, ds, [], m, h, hm => by rw [show cs = [] from h]; exact hm
  | cs, ds, a :: l, m, ⟨c1, c2, e, h1, h2⟩, hm => ⟨c1, c2 ++ ds, by rw [e, List.append_assoc], h1, FitsL.append h2 hm⟩
theorem FitsL.at_ : ∀ {cs : List Value} {l : List α}, FitsL w S cs l → ∀ (k : Nat) (hk : k < l.length), ∃ ds, Rep.fits w S ds l[k] ∧ ∀ j u, ds[j]? = some u → cs[k * Rep.sz α + j]? = some u
  | cs, [], _, k, hk => absurd hk (by simp)
  | cs, a :: l, ⟨c1, c2, e, h1, h2⟩, 0, _ => ⟨c1, h1, fun j u hu => by
      rw [e, Nat.zero_mul, Nat.zero_add, List.getElem?_append_left (List.getElem?_eq_some_iff.1 hu).1]; exact hu⟩
  | cs, a :: l, ⟨c1, c2, e, h1, h2⟩, k + 1, hk => by
      obtain ⟨ds, h3, h4⟩ := FitsL.at_ h2 k (by simpa using hk)
      refine ⟨ds, h3, fun j u hu => ?_⟩
      have hl := Rep.len h1
      rw [e, List.getElem?_append_right (by rw [hl, Nat.add_mul]; omega), hl, ← h4 j u hu]
      congr 1
      rw [Nat.add_mul]; omega
theorem FitsL.of_cells {b : Nat} : ∀ {l : List α} {off : Nat}, (∀ k (h : k < l.length), ∃ ds, Rep.fits w S ds l[k] ∧ ∀ j u, ds[j]? = some u → w.cell? ⟨b, off + k * Rep.sz α + j, none⟩ = some u) →
    ∃ cs, FitsL w S cs l ∧ ∀ j u, cs[j]? = some u → w.cell? ⟨b, off + j, none⟩ = some u
  | [], off, _ => ⟨[], rfl, fun j u hu => by simp at hu⟩
  | a :: l, off, h => by
    obtain ⟨c1, h1, h2⟩ := h 0 (by simp)
    obtain ⟨c2, h3, h4⟩ := FitsL.of_cells (l := l) (off := off + Rep.sz α) (fun k hk => by
      obtain ⟨ds, g1, g2⟩ := h (k + 1) (by simpa using hk)
      refine ⟨ds, g1, fun j u hu => ?_⟩
      have := g2 j u hu
      rwa [show off + (k + 1) * Rep.sz α + j = off + Rep.sz α + k * Rep.sz α + j by rw [Nat.add_mul]; omega] at this)
    refine ⟨c1 ++ c2, ⟨c1, c2, rfl, h1, h3⟩, fun j u hu => ?_⟩
    have hl := Rep.len h1
    rcases Nat.lt_or_ge j c1.length with hj | hj
    · rw [List.getElem?_append_left hj] at hu
      have := h2 j u hu
      rwa [Nat.zero_mul, Nat.add_zero] at this
    · rw [List.getElem?_append_right hj] at hu
      have := h4 _ u hu
      rwa [show off + Rep.sz α + (j - c1.length) = off + j by omega] at this
theorem SlS.cells {A : Option Addr} {n c : Nat} {l : List α} (h : SlS w S (.slice A n c) l) :
    ∃ cs, FitsL w S cs l ∧ (n = 0 ∨ ∃ b off, A = some ⟨b, off, none⟩ ∧ S b ∧ b < w.heap.size ∧ ∀ j u, cs[j]? = some u → w.cell? ⟨b, off + j, none⟩ = some u) := by
  have hh := h
  obtain ⟨A', c', e, _, _, hx⟩ := h
  injection e with e1 e2 e3
  subst e1
  rcases Nat.eq_zero_or_pos l.length with h0 | h0
  · have : l = [] := List.eq_nil_of_length_eq_zero h0
    subst this
    exact ⟨[], rfl, .inl (by simpa using e2)⟩
  · obtain ⟨b, off, e4, hb, hc⟩ := hx h0
    obtain ⟨b', off', e5, _, hlt⟩ := SlS.inside hh h0
    rw [e4] at e5
    injection e5 with e5
    injection e5 with e5 _
    subst e5
    obtain ⟨cs, h1, h2⟩ := FitsL.of_cells hc
    exact ⟨cs, h1, .inr ⟨b, off, e4, hb, hlt, h2⟩⟩
/-- One element in a block of its own. -/
theorem SlS.new1 (w : World) (t : TypeId) (a : α) (cs : Array Value) (h : Rep.fits w S cs.toList a) :
    SlS (w.alloc (.cells cs t)) (fun b => (S b ∧ b < w.heap.size) ∨ b = w.heap.size) (.slice (some ⟨w.heap.size, 0, none⟩) 1 1) [a] := by
  refine ⟨_, 1, rfl, Nat.le_refl _, by unfold maxLen; omega, fun _ => ⟨w.heap.size, 0, rfl, .inr rfl, fun k hk => ⟨cs.toList, ?_, fun j u hu => ?_⟩⟩⟩
  · obtain rfl : k = 0 := by simpa using hk
    refine Rep.wide (Rep.stay h (w' := w.alloc (.cells cs t)) fun b _ hlt => Below.heap_alloc w _ b hlt) fun b hb hlt => ?_
    rw [World.size_alloc] at hlt
    rcases Nat.lt_or_ge b w.heap.size with h1 | h1
    · exact .inl ⟨hb, h1⟩
    · exact .inr (by omega)
  · obtain rfl : k = 0 := by simpa using hk
    rw [cell_of_row (w.alloc (.cells cs t)) w.heap.size _ cs t (0, 0) (heap_alloc_new w _)]
    simpa using hu

theorem SlS.set {v : Value} {l : List α} (h : SlS w S v l) {p : Addr} (hp : ¬ S p.block) (u : Value) : SlS (w.setCell p u) S v l := h.stay fun b hb _ => Below.heap_setCell w p u b (by rintro rfl; exact hp hb)
theorem SlS.here {v : Value} {l : List α} (h : SlS w S v l) : Sl w w.heap.size v l := SlS.wide h fun _ _ hb => hb
theorem SlS.drewN {v : Value} {l : List α} (h : SlS w S v l) (n : Nat) : SlS (w.drewN n) S v l := h.stay fun _ _ _ => rfl
theorem SlS.drew {v : Value} {l : List α} (h : SlS w S v l) : SlS w.drew S v l := h.stay fun _ _ _ => rfl
theorem Sl.drewN {B : Nat} {v : Value} {l : List α} (h : Sl w B v l) (n : Nat) : Sl (w.drewN n) B v l := SlS.drewN h n
theorem Sl.drew {B : Nat} {v : Value} {l : List α} (h : Sl w B v l) : Sl w.drew B v l := SlS.drew h
theorem Own.slS [Flat α] {base : Nat} {e : TypeId} {v : Value} {l : List α} (h : Own w base e v l) : SlS w (base ≤ ·) v l := by
  have hb := h.lt
  have hs := h.sl
  obtain ⟨A, c, rfl, hc, hm⟩ := hs.form
  refine ⟨A, c, rfl, hc, hm, fun h0 => ?_⟩
  obtain ⟨g, rfl, h1, _, _⟩ := h.at_ h0
  refine ⟨g, 0, rfl, h1, fun k hk => ?_⟩
  obtain ⟨b', off', ds, e, _, h2, h3⟩ := hs.at_ k hk hk
  injection e with e
  injection e with e1 e2
  subst e1 e2
  exact ⟨ds, Flat.iff.2 (Flat.iff.1 h2), h3⟩

/-- A slice of the call's own, made from block 'base' on; what its elements lead to lies in blocks of S, none of them the slice's own. -/
def OwnS (w : World) (base : Nat) (S : Nat → Prop) (e : TypeId) (v : Value) (l : List α) : Prop :=
  (∃ cs, w.ownsRow base e (Rep.sz α) v l.length cs ∧ FitsL w S cs l) ∧ ∀ b, S b → v.ownBlock ≠ some b
variable {base : Nat} {e : TypeId} {v : Value} {l : List α}
theorem OwnS.nil (w : World) (base : Nat) (S : Nat → Prop) (e : TypeId) : OwnS w base S e (.slice none 0 0) ([] : List α) := ⟨⟨[], World.ownsRow_nil w base _ _, rfl⟩, fun _ _ h => by cases h⟩
theorem OwnS.lt (h : OwnS w base S e v l) : ∀ k, v.ownBlock = some k → base ≤ k ∧ k < w.heap.size := by
  obtain ⟨⟨cs, h1, _⟩, _⟩ := h
  exact World.ownsRow.lt h1
theorem OwnS.slS (h : OwnS w base S e v l) : SlS w (fun b => S b ∨ v.ownBlock = some b) v l := by
  obtain ⟨⟨cs, h1, h2⟩, _⟩ := h
  have hw := h1
  rcases h1.2 with ⟨rfl, hn⟩ | ⟨g, cap, cur, rfl, hb, hg, hcap, hm, _, _⟩
  · have : l = [] := List.eq_nil_of_length_eq_zero hn
    subst this
    exact SlS.nil _ _
  · refine ⟨_, cap, rfl, hcap, hm, fun h0 => ⟨g, 0, rfl, .inr rfl, fun k hk => ?_⟩⟩
    obtain ⟨ds, h3, h4⟩ := FitsL.at_ h2 k hk
    refine ⟨ds, Rep.wide h3 fun b hb _ => .inl hb, fun j u hu => ?_⟩
    have := World.ownsRow.cells hw (g := g) rfl (k * Rep.sz α + j) u (h4 j u hu)
    rwa [add_at, ← Nat.add_assoc] at this
theorem OwnS.sl (h : OwnS w base S e v l) : Sl w w.heap.size v l := SlS.wide h.slS fun _ _ hb => hb
theorem OwnS.kept {row : Option Nat} (h : OwnS w base S e v l) (hg : w.grownBy w' row) (hne : v.ownBlock = none ∨ v.ownBlock ≠ row) (hS : ∀ b, S b → some b ≠ row) : OwnS w' base S e v l := by
  obtain ⟨⟨cs, h1, h2⟩, h3⟩ := h
  exact ⟨⟨cs, World.ownsRow.kept h1 hg hne, h2.stay fun b hb hlt => hg.block b hlt (hS b hb)⟩, h3⟩
theorem OwnS.below (h : OwnS w base S e v l) (hb : Below w.heap.size w w') : OwnS w' base S e v l := by
  have hlt := h.lt
  obtain ⟨⟨cs, h1, h2⟩, h3⟩ := h
  refine ⟨⟨cs, World.ownsRow.kept h1 (row := some w'.heap.size) ⟨hb.os, hb.tape, hb.output, hb.size, fun i hi _ => hb.block i hi⟩ ?_, h2.stay fun b _ hlt => hb.block b hlt⟩, h3⟩
  rcases hv : v.ownBlock with _ | g
  · exact .inl rfl
  · refine .inr ?_
    have := (hlt g hv).2
    have := hb.size
    intro e
    injection e with e
    omega
theorem OwnS.wide (h : OwnS w base S e v l) (hT : ∀ b, S b → b < w.heap.size → T b) (hne : ∀ b, T b → v.ownBlock ≠ some b) : OwnS w base T e v l := by
  obtain ⟨⟨cs, h1, h2⟩, _⟩ := h
  exact ⟨⟨cs, h1, h2.wide hT⟩, hne⟩
theorem OwnS.down {base' : Nat} (h : OwnS w base S e v l) (hb : base' ≤ base) : OwnS w base' S e v l := by
  obtain ⟨⟨cs, ⟨h0, h1⟩, h2⟩, h3⟩ := h
  refine ⟨⟨cs, ⟨h0, ?_⟩, h2⟩, h3⟩
  rcases h1 with h | ⟨g, cap, cur, e, hg, h⟩
  · exact .inl h
  · exact .inr ⟨g, cap, cur, e, by omega, h⟩
end

/-! append. -/
section
variable {α : Type} [Rep α] {P : Program} {e t : TypeId} {bytes : Nat}
theorem run_append_slS {w : World} {ty : TypeId} {base : Nat} {S T : Nat → Prop} {v : Value} {l0 : List α} (hrow : Row P t e α bytes) (hown : OwnS w base S e v l0) {u : Value} {l : List α} (hr : SlS w T u l)
    (hT : ∀ b, T b → v.ownBlock ≠ some b) (hlen : l0.length + l.length ≤ maxLen) (hby : (l0.length + l.length) * bytes ≤ 140737488355328) (hbase : base ≤ w.heap.size) :
    ∃ v' w', (Builtin.append_ #[t, t] ty #[v, u]).run P w = .ok v' w' ∧ OwnS w' base (fun b => (S b ∨ T b) ∧ b < w.heap.size) e v' (l0 ++ l) ∧ w.grownBy w' v.ownBlock ∧
      (v'.ownBlock = v.ownBlock ∨ v'.ownBlock = some w.heap.size) := by
  obtain ⟨ht, i, z, hi, hz, hsz, hbb, hzc⟩ := hrow
  obtain ⟨A, c, rfl, hc, hm⟩ := hr.form
  obtain ⟨ds, hf, hx⟩ := hr.cells
  obtain ⟨⟨cs, h1, h2⟩, h3⟩ := hown
  have fin : ∀ v' w', (Builtin.append_ #[t, t] ty #[v, .slice A l.length c]).run P w = .ok v' w' → w'.ownsRow base e (Rep.sz α) v' (l0.length + l.length) (cs ++ ds) → w.grownBy w' v.ownBlock →
      (v'.ownBlock = v.ownBlock ∨ v'.ownBlock = some w.heap.size) → ∃ v' w', (Builtin.append_ #[t, t] ty #[v, .slice A l.length c]).run P w = .ok v' w' ∧ OwnS w' base (fun b => (S b ∨ T b) ∧ b < w.heap.size) e v' (l0 ++ l) ∧ w.grownBy w' v.ownBlock ∧
      (v'.ownBlock = v.ownBlock ∨ v'.ownBlock = some w.heap.size) := by
    intro v' w' hrun ho hg hat
    refine ⟨v', w', hrun, ⟨⟨cs ++ ds, by rw [List.length_append]; exact ho, ?_⟩, ?_⟩, hg, hat⟩
    · have g1 : FitsL w (fun b => (S b ∨ T b) ∧ b < w.heap.size) (cs ++ ds) (l0 ++ l) := (h2.wide fun b hb hlt => ⟨.inl hb, hlt⟩).append (hf.wide fun b hb hlt => ⟨.inr hb, hlt⟩)
      refine g1.stay fun b hb hlt => hg.block b hlt ?_
      rcases hb.1 with h | h
      · exact fun e => h3 b h e.symm
      · exact fun e => hT b h e.symm
    · rintro b ⟨hb, hlt⟩ he
      rcases hat with h | h
      · rw [h] at he
        rcases hb with hb | hb
        · exact h3 b hb he
        · exact hT b hb he
      · rw [h] at he
        injection he with he
        omega
  have hempty : l.length = 0 → A = none → ∃ v' w', (Builtin.append_ #[t, t] ty #[v, .slice A l.length c]).run P w = .ok v' w' ∧ OwnS w' base (fun b => (S b ∨ T b) ∧ b < w.heap.size) e v' (l0 ++ l) ∧ w.grownBy w' v.ownBlock ∧
      (v'.ownBlock = v.ownBlock ∨ v'.ownBlock = some w.heap.size) := by
    rintro hn rfl
    have : l = [] := List.eq_nil_of_length_eq_zero hn
    subst this
    have hds : ds = [] := hf
    subst hds
    refine fin v w ?_ (by simpa using h1) (World.grownBy.refl w _) (.inl rfl)
    rcases h1.2 with ⟨rfl, _⟩ | ⟨g, cap, cur, rfl, _, _, hnc, _⟩
    · simp [Builtin.append_, run_underlying ht, sizeOf, typeInfo, hi, Builtin.lenOf, Builtin.firstCells]
    · simp [Builtin.append_, run_underlying ht, sizeOf, typeInfo, hi, Builtin.lenOf, Builtin.firstCells, hnc, storeCells]
  rcases A with _ | ad
  · refine hempty ?_ rfl
    rcases hx with h0 | ⟨b, off, h, _⟩
    · exact h0
    · cases h
  · have hcells : ∀ j x, ds[j]? = some x → w.cell? (ad.add j) = some x := by
      intro j x hj
      rcases hx with h0 | ⟨b, off, h, _, _, h2⟩
      · have : l = [] := List.eq_nil_of_length_eq_zero h0
        subst this
        rw [show ds = [] from hf] at hj
        simp at hj
      · injection h with h
        subst h
        rw [add_at]
        exact h2 j x hj
    obtain ⟨v', w', hrun, h2, h3, _, h5⟩ := run_append_own_at (P := P) w base t ty e i z (Rep.sz α) bytes ht hi hz hsz hbb hzc Rep.pos v l0.length cs h1 ad l.length c ds hf.len hcells hf.one
      hlen hby hbase
    exact fin v' w' hrun h2 h3 h5

theorem wpList_append_slS {w : World} {ops : Array Oper} {rest : List Oper} {o : Oper} {a : Act} {Q : Exit → Act → World → Prop} (hgd : o.guard = none) (s x : Operand)
    (ho : o.op = .call { callee := .builtin .append, args := #[s, x], argTypes := #[t, t] }) (hrow : Row P t e α bytes)
    (base : Nat) (S T : Nat → Prop) (v : Value) (l0 : List α) (hs : a.eval s = v) (hown : OwnS w base S e v l0) (u : Value) (l : List α) (hx : a.eval x = u) (hr : SlS w T u l)
    (hT : ∀ b, T b → v.ownBlock ≠ some b) (hlen : l0.length + l.length ≤ maxLen) (hby : (l0.length + l.length) * bytes ≤ 140737488355328) (hbase : base ≤ w.heap.size)
    (h : ∀ v' w', OwnS w' base (fun b => (S b ∨ T b) ∧ b < w.heap.size) e v' (l0 ++ l) → w.grownBy w' v.ownBlock → (v'.ownBlock = v.ownBlock ∨ v'.ownBlock = some w.heap.size) → wpList P ops Q rest (a.put o.dst v') w') : wpList P ops Q (o :: rest) a w := by
  refine wpList_plain hgd fun K hK => ?_
  obtain ⟨v', w', hrun, h2, h3, h4⟩ := run_append_slS (ty := o.type) hrow hown hr hT hlen hby hbase
  unfold Oper.wp execOp
  simp only [ho, resolve, invoke, builtin, Sem.run_bind, Sem.run_pure, Result.andThen_ok, List.map_toArray, List.map_cons, List.map_nil, hs, hx, hrun]
  exact hK _ _ (h v' w' h2 h3 h4)
theorem below_of_ownS {w w' w0 : World} {base : Nat} {S : Nat → Prop} {v : Value} {l : List α} (hb : Below base w0 w) (h : OwnS w base S e v l) (hg : w.grownBy w' v.ownBlock) (hbase : base ≤ w.heap.size) : Below base w0 w' :=
  hb.grown hg hbase (fun k hk => (h.lt k hk).1)
end
end Go.Proofs.Ytdgfopiagfibkaa
