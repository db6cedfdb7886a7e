/-
  Data that cells read as: numbers, bools, structs (as pairs), slices, in one class; how it is kept; what arguments give. No program.
-/
import Derived.Below
import Derived.Laws.OwnMore
import Derived.Deep.AppendLies
import Derived.Deep.Draws
import Derived.Deep.Slices
import Derived.Deep.Fields
import Derived.ChangeSame
import Derived.ChangeArms
import Derived.ChangeOld
import Derived.Maps.AppendAt
import Derived.OwnWalk
import Derived.OpenShut
import Derived.RegionTactic
namespace Go.Proofs.Ytpfhigcfpchkkaa
open Go.RowKit Go.WideShapes Go.ChangeShapes Go.Deep

theorem add_at (b off k : Nat) : (⟨b, off, none⟩ : Addr).add k = ⟨b, off + k, none⟩ := by unfold Addr.add; split <;> simp_all
theorem below_drewN {B : Nat} {a w : World} (h : Below B a w) (n : Nat) : Below B a (w.drewN n) := ⟨h.os, h.tape, h.output, h.size, h.block⟩

/-- Block g holds just these cells; none is frozen. -/
def Whole (w : World) (g : Nat) (t : TypeId) (cs : Array Value) : Prop := w.heap[g]? = some (.cells cs t (0, 0))
section
variable {w w' : World} {g : Nat} {t : TypeId} {cs : Array Value}
theorem Whole.lt (h : Whole w g t cs) : g < w.heap.size := by
  rcases Nat.lt_or_ge g w.heap.size with hlt | hge
  · exact hlt
  · unfold Whole at h; rw [Array.getElem?_eq_none hge] at h; cases h
theorem Whole.new (w : World) (t : TypeId) (cs : Array Value) : Whole (w.alloc (.cells cs t)) w.heap.size t cs := heap_alloc_new w _
theorem Whole.cell (h : Whole w g t cs) (i : Nat) : w.cell? ⟨g, i, none⟩ = cs[i]? := cell_of_row w g i cs t (0, 0) h
theorem Whole.free (h : Whole w g t cs) (i : Nat) : w.frozen? ⟨g, i, none⟩ = false := by
  unfold Whole at h
  simp [World.frozen?, h]
theorem Whole.below {B : Nat} (h : Whole w g t cs) (hb : Below B w w') (hg : g < B) : Whole w' g t cs := (hb.block g hg).trans h
theorem Whole.alloc (h : Whole w g t cs) (o : Obj) : Whole (w.alloc o) g t cs := (Below.heap_alloc w o g h.lt).trans h
theorem Whole.set (h : Whole w g t cs) (i : Nat) (u : Value) : Whole (w.setCell ⟨g, i, none⟩ u) g t (cs.setIfInBounds i u) := by
  unfold Whole at h ⊢
  simp [World.setCell, Array.getElem?_modify, h]
theorem Whole.far (h : Whole w g t cs) {p : Addr} (hp : g ≠ p.block) (u : Value) : Whole (w.setCell p u) g t cs := (Below.heap_setCell w p u g hp).trans h
end

/-- Cells that read as data, in a world, all that they lead to in blocks of S. -/
class Rep (α : Type) where
  sz : Nat
  pos : 0 < sz
  fits : World → (Nat → Prop) → List Value → α → Prop
  len : ∀ {w : World} {S : Nat → Prop} {cs : List Value} {a : α}, fits w S cs a → cs.length = sz
  one : ∀ {w : World} {S : Nat → Prop} {cs : List Value} {a : α}, fits w S cs a → ∀ u ∈ cs, u.oneCell' = true
  stay : ∀ {w w' : World} {S : Nat → Prop} {cs : List Value} {a : α}, fits w S cs a → (∀ b, S b → b < w.heap.size → w'.heap[b]? = w.heap[b]?) → fits w' S cs a
  wide : ∀ {w : World} {S T : Nat → Prop} {cs : List Value} {a : α}, fits w S cs a → (∀ b, S b → b < w.heap.size → T b) → fits w T cs a
/-- Data whose cells are all of it: no memory behind them. -/
class Flat (α : Type) [Rep α] where
  enc : α → List Value
  wf : α → Prop
  iff : ∀ {w : World} {S : Nat → Prop} {cs : List Value} {a : α}, Rep.fits w S cs a ↔ cs = enc a ∧ wf a
  one : ∀ a : α, ∀ u ∈ enc a, u.oneCell' = true

abbrev fits {α : Type} [Rep α] (w : World) (B : Nat) (cs : List Value) (a : α) : Prop := Rep.fits w (· < B) cs a
theorem fits_below {α : Type} [Rep α] {w w' : World} {B : Nat} {cs : List Value} {a : α} (h : fits w B cs a) (hb : Below B w w') : fits w' B cs a := Rep.stay h fun b hB _ => hb.block b hB
theorem fits_mono {α : Type} [Rep α] {w : World} {B B' : Nat} {cs : List Value} {a : α} (h : fits w B cs a) (hB : B ≤ B') : fits w B' cs a := Rep.wide h fun _ h _ => Nat.lt_of_lt_of_le h hB

instance : Rep Int where
  sz := 1
  pos := Nat.one_pos
  fits := fun _ _ cs n => cs = [.int .i64 n] ∧ -9223372036854775808 ≤ n ∧ n ≤ 9223372036854775807
  len := fun h => by rw [h.1]; rfl
  one := fun h u hu => by rw [h.1] at hu; simp at hu; subst hu; rfl
  stay := fun h _ => h
  wide := fun h _ => h
instance : Flat Int where
  enc := fun n => [.int .i64 n]
  wf := fun n => -9223372036854775808 ≤ n ∧ n ≤ 9223372036854775807
  iff := Iff.rfl
  one := fun a u hu => by simp at hu; subst hu; rfl
instance : Rep UInt8 where
  sz := 1
  pos := Nat.one_pos
  fits := fun _ _ cs b => cs = [.int .u8 (b.toNat : Int)]
  len := fun h => by rw [h]; rfl
  one := fun h u hu => by rw [h] at hu; simp at hu; subst hu; rfl
  stay := fun h _ => h
  wide := fun h _ => h
instance : Flat UInt8 where
  enc := fun b => [.int .u8 (b.toNat : Int)]
  wf := fun _ => True
  iff := ⟨fun h => ⟨h, trivial⟩, fun h => h.1⟩
  one := fun a u hu => by simp at hu; subst hu; rfl
instance : Rep UInt32 where
  sz := 1
  pos := Nat.one_pos
  fits := fun _ _ cs b => cs = [.int .u32 (b.toNat : Int)]
  len := fun h => by rw [h]; rfl
  one := fun h u hu => by rw [h] at hu; simp at hu; subst hu; rfl
  stay := fun h _ => h
  wide := fun h _ => h
instance : Flat UInt32 where
  enc := fun b => [.int .u32 (b.toNat : Int)]
  wf := fun _ => True
  iff := ⟨fun h => ⟨h, trivial⟩, fun h => h.1⟩
  one := fun a u hu => by simp at hu; subst hu; rfl
instance : Rep Bool where
  sz := 1
  pos := Nat.one_pos
  fits := fun _ _ cs b => cs = [.bool b]
  len := fun h => by rw [h]; rfl
  one := fun h u hu => by rw [h] at hu; simp at hu; subst hu; rfl
  stay := fun h _ => h
  wide := fun h _ => h
instance : Flat Bool where
  enc := fun b => [.bool b]
  wf := fun _ => True
  iff := ⟨fun h => ⟨h, trivial⟩, fun h => h.1⟩
  one := fun a u hu => by simp at hu; subst hu; rfl
instance {α β : Type} [Rep α] [Rep β] : Rep (α × β) where
  sz := Rep.sz α + Rep.sz β
  pos := Nat.lt_of_lt_of_le (Rep.pos (α := α)) (Nat.le_add_right _ _)
  fits := fun w S cs p => ∃ c1 c2, cs = c1 ++ c2 ∧ Rep.fits w S c1 p.1 ∧ Rep.fits w S c2 p.2
  len := fun ⟨c1, c2, h, h1, h2⟩ => by rw [h, List.length_append, Rep.len h1, Rep.len h2]
  one := fun ⟨c1, c2, h, h1, h2⟩ u hu => by
    rw [h] at hu
    rcases List.mem_append.1 hu with hu | hu
    · exact Rep.one h1 u hu
    · exact Rep.one h2 u hu
  stay := fun ⟨c1, c2, h, h1, h2⟩ hb => ⟨c1, c2, h, Rep.stay h1 hb, Rep.stay h2 hb⟩
  wide := fun ⟨c1, c2, h, h1, h2⟩ hb => ⟨c1, c2, h, Rep.wide h1 hb, Rep.wide h2 hb⟩
instance {α β : Type} [Rep α] [Rep β] [Flat α] [Flat β] : Flat (α × β) where
  enc := fun p => Flat.enc p.1 ++ Flat.enc p.2
  wf := fun p => Flat.wf p.1 ∧ Flat.wf p.2
  iff := by
    intro w S cs p
    constructor
    · rintro ⟨c1, c2, rfl, h1, h2⟩
      obtain ⟨rfl, w1⟩ := Flat.iff.1 h1
      obtain ⟨rfl, w2⟩ := Flat.iff.1 h2
      exact ⟨rfl, w1, w2⟩
    · rintro ⟨rfl, w1, w2⟩
      exact ⟨_, _, rfl, Flat.iff.2 ⟨rfl, w1⟩, Flat.iff.2 ⟨rfl, w2⟩⟩
  one := fun p u hu => by
    rcases List.mem_append.1 hu with h | h
    · exact Flat.one _ u h
    · exact Flat.one _ u h

/-- A slice value that reads as a list, all of it in blocks of S. -/
def SlS {α : Type} [Rep α] (w : World) (S : Nat → Prop) (v : Value) (l : List α) : Prop :=
  ∃ A c, v = .slice A l.length c ∧ l.length ≤ c ∧ c ≤ maxLen ∧ (0 < l.length → ∃ b off, A = some ⟨b, off, none⟩ ∧ S b ∧
    ∀ k (h : k < l.length), ∃ ds, Rep.fits w S ds l[k] ∧ ∀ j u, ds[j]? = some u → w.cell? ⟨b, off + k * Rep.sz α + j, none⟩ = some u)
/-- .. all of it below block B. -/
def Sl {α : Type} [Rep α] (w : World) (B : Nat) (v : Value) (l : List α) : Prop := SlS w (· < B) v l

theorem lt_of_cell {w : World} {b o : Nat} {u : Value} (h : w.cell? ⟨b, o, none⟩ = some u) : b < w.heap.size := by
  rcases Nat.lt_or_ge b w.heap.size with h1 | h1
  · exact h1
  · unfold World.cell? at h
    simp [Array.getElem?_eq_none h1] at h

section
variable {α : Type} [Rep α] {w w' : World} {S T : Nat → Prop} {B B' : Nat} {v : Value} {l : List α}
/-- The first cell of the first element. -/
theorem SlS.inside {A : Option Addr} {n c : Nat} (h : SlS w S (.slice A n c) l) (h0 : 0 < l.length) : ∃ b off, A = some ⟨b, off, none⟩ ∧ S b ∧ b < w.heap.size := by
  obtain ⟨A', c', e, _, _, hx⟩ := h
  injection e with e1 _ _
  subst e1
  obtain ⟨b, off, e2, hS, hk⟩ := hx h0
  obtain ⟨ds, h1, h2⟩ := hk 0 h0
  have hl := Rep.len h1
  have hp := Rep.pos (α := α)
  exact ⟨b, off, e2, hS, lt_of_cell (h2 0 _ (List.getElem?_eq_getElem (by omega)))⟩
theorem SlS.stay (h : SlS w S v l) (hb : ∀ b, S b → b < w.heap.size → w'.heap[b]? = w.heap[b]?) : SlS w' S v l := by
  have hh := h
  obtain ⟨A, c, e, hc, hm, hx⟩ := h
  subst e
  exact ⟨A, c, rfl, hc, hm, fun h0 => by
    obtain ⟨b, off, e2, hS, hk⟩ := hx h0
    obtain ⟨b', off', e3, _, hlt⟩ := SlS.inside hh h0
    rw [e2] at e3
    injection e3 with e3
    injection e3 with e3 _
    subst e3
    exact ⟨b, off, e2, hS, fun k h => by
      obtain ⟨ds, h1, h2⟩ := hk k h
      exact ⟨ds, Rep.stay h1 hb, fun j u hu => (World.cell?_of_block (a := ⟨b, off + k * Rep.sz α + j, none⟩) (hb b hS hlt)).trans (h2 j u hu)⟩⟩⟩
theorem SlS.wide (h : SlS w S v l) (hT : ∀ b, S b → b < w.heap.size → T b) : SlS w T v l := by
  have hh := h
  obtain ⟨A, c, e, hc, hm, hx⟩ := h
  subst e
  exact ⟨A, c, rfl, hc, hm, fun h0 => by
    obtain ⟨b, off, e2, hS, hk⟩ := hx h0
    obtain ⟨b', off', e3, _, hlt⟩ := SlS.inside hh h0
    rw [e2] at e3
    injection e3 with e3
    injection e3 with e3 _
    subst e3
    exact ⟨b, off, e2, hT b hS hlt, fun k h => by
      obtain ⟨ds, h1, h2⟩ := hk k h
      exact ⟨ds, Rep.wide h1 hT, h2⟩⟩⟩
theorem SlS.nil (w : World) (S : Nat → Prop) : SlS w S (.slice none 0 0) ([] : List α) := ⟨none, 0, rfl, Nat.le_refl _, by unfold maxLen; omega, fun h => absurd h (by simp)⟩
theorem SlS.form (h : SlS w S v l) : ∃ A c, v = .slice A l.length c ∧ l.length ≤ c ∧ c ≤ maxLen := by
  obtain ⟨A, c, e, hc, hm, _⟩ := h
  exact ⟨A, c, e, hc, hm⟩
theorem SlS.room {A : Option Addr} {n c : Nat} (h : SlS w S (.slice A n c) l) : l.length = n ∧ n ≤ c ∧ c ≤ maxLen := by
  obtain ⟨A', c', e, hc, hm, _⟩ := h
  injection e with _ e2 e3
  subst e3
  exact ⟨e2.symm, by omega, hm⟩
theorem SlS.at_ {A : Option Addr} {n c : Nat} (h : SlS w S (.slice A n c) l) (k : Nat) (hk : k < n) (hkl : k < l.length) :
    ∃ b off ds, A = some ⟨b, off, none⟩ ∧ S b ∧ Rep.fits w S ds l[k] ∧ ∀ j u, ds[j]? = some u → w.cell? ⟨b, off + k * Rep.sz α + j, none⟩ = some u := by
  obtain ⟨A', c', e, _, _, hx⟩ := h
  injection e with e1 e2 e3
  subst e1
  obtain ⟨b, off, e4, hb, hc⟩ := hx (by omega)
  obtain ⟨ds, h1, h2⟩ := hc k hkl
  exact ⟨b, off, ds, e4, hb, h1, h2⟩
theorem Sl.s (h : Sl w B v l) : SlS w (· < B) v l := h
theorem SlS.sl (h : SlS w S v l) (hS : ∀ b, S b → b < w.heap.size → b < B) : Sl w B v l := SlS.wide h hS
theorem Sl.below (h : Sl w B v l) (hb : Below B w w') : Sl w' B v l := SlS.stay h fun b hB _ => hb.block b hB
theorem Sl.mono (h : Sl w B v l) (hB : B ≤ B') : Sl w B' v l := SlS.wide h fun _ hb _ => Nat.lt_of_lt_of_le hb hB
/-- Whatever is read lies in blocks that there are. -/
theorem Sl.here (h : Sl w B v l) : Sl w w.heap.size v l := SlS.wide h fun _ _ hb => hb
theorem Sl.nil (w : World) (B : Nat) : Sl w B (.slice none 0 0) ([] : List α) := SlS.nil w _
theorem Sl.form (h : Sl w B v l) : ∃ A c, v = .slice A l.length c ∧ l.length ≤ c ∧ c ≤ maxLen := SlS.form h
theorem Sl.room {A : Option Addr} {n c : Nat} (h : Sl w B (.slice A n c) l) : l.length = n ∧ n ≤ c ∧ c ≤ maxLen := SlS.room h
theorem Sl.at_ {A : Option Addr} {n c : Nat} (h : Sl w B (.slice A n c) l) (k : Nat) (hk : k < n) (hkl : k < l.length) :
    ∃ b off ds, A = some ⟨b, off, none⟩ ∧ b < B ∧ fits w B ds l[k] ∧ ∀ j u, ds[j]? = some u → w.cell? ⟨b, off + k * Rep.sz α + j, none⟩ = some u := SlS.at_ h k hk hkl
end

instance {α : Type} [Rep α] : Rep (List α) where
  sz := 1
  pos := Nat.one_pos
  fits := fun w S cs l => ∃ v, cs = [v] ∧ SlS w S v l
  len := fun ⟨_, h, _⟩ => by rw [h]; rfl
  one := fun ⟨v, h, ⟨A, c, e, _⟩⟩ u hu => by rw [h, e] at hu; simp at hu; subst hu; rfl
  stay := fun ⟨v, h, h1⟩ hb => ⟨v, h, h1.stay hb⟩
  wide := fun ⟨v, h, h1⟩ hb => ⟨v, h, h1.wide hb⟩

/-- The byte at k of a slice of bytes. -/
theorem Sl.byte {w : World} {B n c : Nat} {A : Option Addr} {l : List UInt8} (h : Sl w B (.slice A n c) l) (k : Nat) (hk : k < l.length) :
    ∃ b off, A = some ⟨b, off, none⟩ ∧ b < B ∧ w.cell? ⟨b, off + k, none⟩ = some (.int .u8 ((l[k]).toNat : Int)) := by
  have hr := h.room
  obtain ⟨b, off, ds, e, hb, h1, h2⟩ := h.at_ k (by omega) hk
  have e1 : ds = [.int .u8 ((l[k]).toNat : Int)] := h1
  subst e1
  have := h2 0 _ rfl
  rw [show Rep.sz UInt8 = 1 from rfl, Nat.mul_one, Nat.add_zero] at this
  exact ⟨b, off, e, hb, this⟩
/-- The number at k of a slice of numbers. -/
theorem Sl.int {w : World} {B n c : Nat} {A : Option Addr} {l : List Int} (h : Sl w B (.slice A n c) l) (k : Nat) (hk : k < l.length) :
    ∃ b off, A = some ⟨b, off, none⟩ ∧ b < B ∧ w.cell? ⟨b, off + k, none⟩ = some (.int .i64 l[k]) ∧ -9223372036854775808 ≤ l[k] ∧ l[k] ≤ 9223372036854775807 := by
  have hr := h.room
  obtain ⟨b, off, ds, e, hb, h1, h2⟩ := h.at_ k (by omega) hk
  obtain ⟨e1, h3, h4⟩ : ds = [.int .i64 l[k]] ∧ _ ∧ _ := h1
  subst e1
  have := h2 0 _ rfl
  rw [show Rep.sz Int = 1 from rfl, Nat.mul_one, Nat.add_zero] at this
  exact ⟨b, off, e, hb, this, h3, h4⟩

/-- Slices that are cut. -/
theorem SlS.take {α : Type} [Rep α] {w : World} {S : Nat → Prop} {n c : Nat} {A : Option Addr} {l : List α} (h : SlS w S (.slice A n c) l) (k c' : Nat) (hk : k ≤ n) (hc : k ≤ c') (hc' : c' ≤ maxLen) : SlS w S (.slice A k c') (l.take k) := by
  have hr := h.room
  obtain ⟨A', c'', e, _, _, hx⟩ := h
  injection e with e1 e2 e3
  subst e1
  have hl : (l.take k).length = k := by rw [List.length_take]; omega
  refine ⟨_, c', by rw [hl], by rw [hl]; exact hc, hc', fun h0 => ?_⟩
  obtain ⟨b, off, e4, hb, hcc⟩ := hx (by omega)
  refine ⟨b, off, e4, hb, fun j hj => ?_⟩
  obtain ⟨ds, h1, h2⟩ := hcc j (by omega)
  refine ⟨ds, ?_, h2⟩
  rw [List.getElem_take]
  exact h1
theorem SlS.drop {α : Type} [Rep α] {w : World} {S : Nat → Prop} {n c : Nat} {A : Option Addr} {l : List α} (h : SlS w S (.slice A n c) l) (k : Nat) (hk : k ≤ n) :
    SlS w S (.slice (if c = k then A else A.map (·.add (k * Rep.sz α))) (n - k) (c - k)) (l.drop k) := by
  have hr := h.room
  obtain ⟨A', c', e, hcl, hm, hx⟩ := h
  injection e with e1 e2 e3
  subst e1 e3
  have hl : (l.drop k).length = n - k := by rw [List.length_drop]; omega
  refine ⟨_, c - k, by rw [hl], by rw [hl]; omega, by omega, fun h0 => ?_⟩
  obtain ⟨b, off, rfl, hb, hcc⟩ := hx (by omega)
  rw [if_neg (by omega)]
  refine ⟨b, off + k * Rep.sz α, by rw [Option.map_some, add_at], hb, fun j hj => ?_⟩
  obtain ⟨ds, h1, h2⟩ := hcc (k + j) (by omega)
  refine ⟨ds, ?_, fun i u hu => ?_⟩
  · rw [List.getElem_drop]; exact h1
  · have := h2 i u hu
    rwa [Nat.add_mul, ← Nat.add_assoc] at this
theorem Sl.take {α : Type} [Rep α] {w : World} {B n c : Nat} {A : Option Addr} {l : List α} (h : Sl w B (.slice A n c) l) (k c' : Nat) (hk : k ≤ n) (hc : k ≤ c') (hc' : c' ≤ maxLen) : Sl w B (.slice A k c') (l.take k) := SlS.take h k c' hk hc hc'
theorem Sl.drop {α : Type} [Rep α] {w : World} {B n c : Nat} {A : Option Addr} {l : List α} (h : Sl w B (.slice A n c) l) (k : Nat) (hk : k ≤ n) :
    Sl w B (.slice (if c = k then A else A.map (·.add (k * Rep.sz α))) (n - k) (c - k)) (l.drop k) := SlS.drop h k hk
/-! What a list's flat cells are. -/
section
variable {α : Type} [Rep α] [Flat α]
def cells (l : List α) : List Value := l.flatMap Flat.enc
theorem flat_len (a : α) (h : Flat.wf a) : (Flat.enc a : List Value).length = Rep.sz α :=
  Rep.len (w := default) (S := fun _ => False) (Flat.iff.2 ⟨rfl, h⟩)
theorem cells_nil : cells ([] : List α) = [] := rfl
theorem cells_append (l m : List α) : cells (l ++ m) = cells l ++ cells m := by simp [cells]
theorem cells_one (l : List α) : ∀ u ∈ cells l, u.oneCell' = true := by
  intro u hu
  simp only [cells, List.mem_flatMap] at hu
  obtain ⟨a, _, h⟩ := hu
  exact Flat.one a u h
theorem cells_len (l : List α) (h : ∀ a ∈ l, Flat.wf a) : (cells l).length = l.length * Rep.sz α := by
  induction l with
  | nil => simp [cells]
  | cons a l ih =>
    have e : cells (a :: l) = Flat.enc a ++ cells l := rfl
    rw [e, List.length_append, flat_len a (h a (by simp)), ih (fun b hb => h b (by simp [hb])), List.length_cons, Nat.add_mul, Nat.one_mul, Nat.add_comm]
theorem cells_at (l : List α) (h : ∀ a ∈ l, Flat.wf a) (k : Nat) (hk : k < l.length) (j : Nat) (u : Value) (hj : (Flat.enc l[k])[j]? = some u) : (cells l)[k * Rep.sz α + j]? = some u := by
  induction l generalizing k with
  | nil => simp at hk
  | cons a l ih =>
    have e : cells (a :: l) = Flat.enc a ++ cells l := rfl
    have hl := flat_len a (h a (by simp))
    cases k with
    | zero =>
      have hjl : j < (Flat.enc a : List Value).length := (List.getElem?_eq_some_iff.1 hj).1
      rw [e, Nat.zero_mul, Nat.zero_add, List.getElem?_append_left hjl]
      exact hj
    | succ k =>
      rw [e, List.getElem?_append_right (by rw [hl, Nat.add_mul]; omega), hl]
      have := ih (fun b hb => h b (by simp [hb])) k (by simpa using hk) (by simpa using hj)
      rw [← this]
      congr 1
      rw [Nat.add_mul]
      omega

/-- A slice of a block that is known whole. -/
theorem Sl.block {w : World} {B g c : Nat} {l : List α} {t : TypeId} {fr : Nat × Nat} {cs : Array Value} (h : w.heap[g]? = some (.cells cs t fr)) (hcs : cells l = cs.toList) (hw : ∀ a ∈ l, Flat.wf a) (hB : g < B) (hc : l.length ≤ c) (hm : c ≤ maxLen) : Sl w B (.slice (some ⟨g, 0, none⟩) l.length c) l := by
  refine ⟨_, c, rfl, hc, hm, fun _ => ⟨g, 0, rfl, hB, fun k hk => ⟨Flat.enc l[k], Flat.iff.2 ⟨rfl, hw _ (List.getElem_mem _)⟩, fun j u hu => ?_⟩⟩⟩
  rw [cell_of_row w g _ cs t fr h, Nat.zero_add]
  have h2 := cells_at l hw k hk j u hu
  rw [hcs] at h2
  simpa using h2

/-- One element in a block of its own. -/
theorem Sl.new1 (w : World) (t : TypeId) (a : α) (cs : Array Value) (hw : Flat.wf a) (h : Flat.enc a = cs.toList) : Sl (w.alloc (.cells cs t)) (w.heap.size + 1) (.slice (some ⟨w.heap.size, 0, none⟩) 1 1) [a] :=
  Sl.block (l := [a]) (heap_alloc_new w _) (by rw [← h]; simp [cells]) (by simpa using hw) (Nat.lt_succ_self _) (Nat.le_refl _) (by unfold maxLen; omega)

/-- A slice of the call's own, made from block 'base' on. -/
def Own (w : World) (base : Nat) (e : TypeId) (v : Value) (l : List α) : Prop := w.ownsRow base e (Rep.sz α) v l.length (cells l) ∧ ∀ a ∈ l, Flat.wf a
variable {w w' : World} {base : Nat} {e : TypeId} {v : Value} {l : List α}
theorem Own.new1 (w : World) (base : Nat) (e : TypeId) (a : α) (cs : Array Value) (hw : Flat.wf a) (h : Flat.enc a = cs.toList) (hb : base ≤ w.heap.size) : Own (w.alloc (.cells cs e)) base e (.slice (some ⟨w.heap.size, 0, none⟩) 1 1) [a] := by
  have hl := flat_len a hw
  rw [h] at hl
  have ho := World.ownsRow_lit (base := base) (e := e) (size := Rep.sz α) w cs 1 hb (by unfold maxLen; omega) (by simpa using hl)
  refine ⟨?_, by simpa using hw⟩
  rw [show cells [a] = cs.toList by rw [← h]; simp [cells]]
  exact ho
/-- A literal's elements in a block of their own. -/
theorem Own.newL (w : World) (base : Nat) (e : TypeId) (l : List α) (cs : Array Value) (hw : ∀ a ∈ l, Flat.wf a) (h : cells l = cs.toList) (hm : l.length ≤ maxLen) (hb : base ≤ w.heap.size) : Own (w.alloc (.cells cs e)) base e (.slice (some ⟨w.heap.size, 0, none⟩) l.length l.length) l := by
  have hl := cells_len l hw
  rw [h] at hl
  have ho := World.ownsRow_lit (base := base) (e := e) (size := Rep.sz α) w cs l.length hb hm (by simpa using hl)
  refine ⟨?_, hw⟩
  rw [h]
  exact ho
theorem Own.nil (w : World) (base : Nat) (e : TypeId) : Own w base e (.slice none 0 0) ([] : List α) := ⟨World.ownsRow_nil w base _ _, fun _ h => by simp at h⟩
theorem Own.sl (h : Own w base e v l) : Sl w w.heap.size v l := by
  have hw := h.1
  rcases h.1.2 with ⟨rfl, hn⟩ | ⟨g, cap, cur, rfl, hb, hg, hcap, hm, _, _⟩
  · have : l = [] := List.eq_nil_of_length_eq_zero hn
    subst this
    exact Sl.nil _ _
  · refine ⟨_, cap, rfl, hcap, hm, fun h0 => ⟨g, 0, rfl, ?_, fun k hk => ⟨Flat.enc l[k], Flat.iff.2 ⟨rfl, h.2 _ (List.getElem_mem _)⟩, fun j u hu => ?_⟩⟩⟩
    · rcases Nat.lt_or_ge g w.heap.size with hlt | hge
      · exact hlt
      · rw [Array.getElem?_eq_none hge] at hg; cases hg
    · have := World.ownsRow.cells hw (g := g) rfl (k * Rep.sz α + j) u (cells_at l h.2 k hk j u hu)
      rwa [add_at, ← Nat.add_assoc] at this
theorem Own.alloc (h : Own w base e v l) (o : Obj) : Own (w.alloc o) base e v l := ⟨World.ownsRow.alloc h.1 o, h.2⟩
theorem Own.drew (h : Own w base e v l) : Own w.drew base e v l := h
theorem Own.drewN (h : Own w base e v l) (k : Nat) : Own (w.drewN k) base e v l := h
theorem Own.kept {row : Option Nat} (h : Own w base e v l) (hg : w.grownBy w' row) (hne : v.ownBlock = none ∨ v.ownBlock ≠ row) : Own w' base e v l := ⟨World.ownsRow.kept h.1 hg hne, h.2⟩
theorem Own.lt (h : Own w base e v l) : ∀ k, v.ownBlock = some k → base ≤ k ∧ k < w.heap.size := World.ownsRow.lt h.1
/-- Nothing below block B has turned, and the row lies below it. -/
theorem Own.below (h : Own w base e v l) (hb : Below w.heap.size w w') : Own w' base e v l :=
  h.kept (row := some w'.heap.size) ⟨hb.os, hb.tape, hb.output, hb.size, fun i hi _ => hb.block i hi⟩ (by
    rcases hv : v.ownBlock with _ | g
    · exact .inl rfl
    · refine .inr ?_
      have := (h.lt g hv).2
      have := hb.size
      intro e
      injection e with e
      omega)
theorem Own.set (h : Own w base e v l) {p : Addr} (hp : p.block < base) (u : Value) : Own (w.setCell p u) base e v l := ⟨ownsRow_setCell_below h.1 hp u, h.2⟩
theorem Own.down {base' : Nat} (h : Own w base e v l) (hb : base' ≤ base) : Own w base' e v l := by
  refine ⟨⟨h.1.1, ?_⟩, h.2⟩
  rcases h.1.2 with h | ⟨g, cap, cur, e, hg, h⟩
  · exact .inl h
  · exact .inr ⟨g, cap, cur, e, by omega, h⟩
end

/-! append, onto a slice of the call's own. -/
section
variable {α : Type} [Rep α] [Flat α] {P : Program} {e t : TypeId} {z : Value} {bytes : Nat}
/-- The element type's row of the program's table. -/
def Row (P : Program) (t e : TypeId) (α : Type) [Rep α] (bytes : Nat) : Prop :=
  P.underlying t = some (.slice e) ∧ ∃ i z, P.info? e = some i ∧ i.zero = some z ∧ i.size = Rep.sz α ∧ i.bytes = bytes ∧ z.cells.size = Rep.sz α

theorem sl_cells {w : World} {B n c : Nat} {A : Option Addr} {l : List α} (h : Sl w B (.slice A n c) l) : (∀ a ∈ l, Flat.wf a) ∧ (n = 0 ∨ ∃ b off, A = some ⟨b, off, none⟩ ∧ b < B ∧ ∀ j u, (cells l)[j]? = some u → w.cell? ⟨b, off + j, none⟩ = some u) := by
  have hr := h.room
  obtain ⟨A', c', e, _, _, hx⟩ := h
  injection e with e1 e2 e3
  subst e1
  rcases Nat.eq_zero_or_pos l.length with h0 | h0
  · have : l = [] := List.eq_nil_of_length_eq_zero h0
    subst this
    exact ⟨fun _ h => by simp at h, .inl (by simpa using e2)⟩
  · obtain ⟨b, off, e4, hb, hc⟩ := hx h0
    have hw : ∀ a ∈ l, Flat.wf a := by
      intro a ha
      obtain ⟨k, hk, rfl⟩ := List.getElem_of_mem ha
      obtain ⟨ds, h1, _⟩ := hc k hk
      exact (Flat.iff.1 h1).2
    refine ⟨hw, .inr ⟨b, off, e4, hb, fun j u hu => ?_⟩⟩
    have hlen := cells_len l hw
    have hjl : j < l.length * Rep.sz α := by rw [← hlen]; exact (List.getElem?_eq_some_iff.1 hu).1
    have hsz := Rep.pos (α := α)
    have hk : j / Rep.sz α < l.length := Nat.div_lt_of_lt_mul (by rwa [Nat.mul_comm])
    obtain ⟨ds, h1, h2⟩ := hc (j / Rep.sz α) hk
    obtain ⟨rfl, hwf⟩ := Flat.iff.1 h1
    have hm := Nat.mod_lt j hsz
    have hl := flat_len l[j / Rep.sz α] hwf
    have hg : (Flat.enc l[j / Rep.sz α] : List Value)[j % Rep.sz α]? = some ((Flat.enc l[j / Rep.sz α])[j % Rep.sz α]'(by omega)) := List.getElem?_eq_getElem (by omega)
    have hq := cells_at l hw _ hk _ _ hg
    have hdm := Nat.div_add_mod j (Rep.sz α)
    rw [Nat.mul_comm] at hdm
    rw [hdm, hu] at hq
    have := h2 _ _ hg
    rw [Nat.add_assoc, hdm] at this
    rw [this, hq]

theorem run_append_sl {w : World} {ty : TypeId} {base : Nat} {v : Value} {l0 : List α} (hrow : Row P t e α bytes) (hown : Own w base e v l0) {B : Nat} {u : Value} {l : List α} (hr : Sl w B u l)
    (hlen : l0.length + l.length ≤ maxLen) (hby : (l0.length + l.length) * bytes ≤ 140737488355328) (hbase : base ≤ w.heap.size) :
    ∃ v' w', (Builtin.append_ #[t, t] ty #[v, u]).run P w = .ok v' w' ∧ Own w' base e v' (l0 ++ l) ∧ w.grownBy w' v.ownBlock ∧
      (v'.ownBlock = v.ownBlock ∨ v'.ownBlock = some w.heap.size) := by
  obtain ⟨ht, i, z, hi, hz, hsz, hbb, hzc⟩ := hrow
  obtain ⟨A, c, rfl, hc, hm⟩ := hr.form
  obtain ⟨hw, hx⟩ := sl_cells hr
  have hwa : ∀ a ∈ l0 ++ l, Flat.wf a := by
    intro a ha
    rcases List.mem_append.1 ha with h | h
    · exact hown.2 a h
    · exact hw a h
  have hempty : l.length = 0 → A = none → ∃ v' w', (Builtin.append_ #[t, t] ty #[v, .slice A l.length c]).run P w = .ok v' w' ∧ Own w' base e v' (l0 ++ l) ∧ w.grownBy w' v.ownBlock ∧
      (v'.ownBlock = v.ownBlock ∨ v'.ownBlock = some w.heap.size) := by
    rintro hn rfl
    have : l = [] := List.eq_nil_of_length_eq_zero hn
    subst this
    refine ⟨v, w, ?_, by simpa using hown, World.grownBy.refl w _, .inl rfl⟩
    rcases hown.1.2 with ⟨rfl, _⟩ | ⟨g, cap, cur, rfl, _, _, hnc, _⟩
    · simp [Builtin.append_, run_underlying ht, sizeOf, typeInfo, hi, Builtin.lenOf, Builtin.firstCells]
    · simp [Builtin.append_, run_underlying ht, sizeOf, typeInfo, hi, Builtin.lenOf, Builtin.firstCells, hnc, storeCells]
  rcases A with _ | ad
  · refine hempty ?_ rfl
    rcases hx with h0 | ⟨b, off, h, _⟩
    · exact h0
    · cases h
  · have hcells : ∀ j x, (cells l)[j]? = some x → w.cell? (ad.add j) = some x := by
      intro j x hj
      rcases hx with h0 | ⟨b, off, h, _, h2⟩
      · have : l = [] := List.eq_nil_of_length_eq_zero h0
        subst this
        simp [cells] at hj
      · injection h with h
        subst h
        rw [add_at]
        exact h2 j x hj
    obtain ⟨v', w', hrun, h2, h3, _, h5⟩ := run_append_own_at (P := P) w base t ty e i z (Rep.sz α) bytes ht hi hz hsz hbb hzc Rep.pos v l0.length (cells l0) hown.1 ad l.length c (cells l) (cells_len l hw) hcells (cells_one l)
      hlen hby hbase
    refine ⟨v', w', hrun, ⟨?_, hwa⟩, h3, h5⟩
    rw [cells_append, List.length_append]
    exact h2

theorem wpList_append_sl {w : World} {ops : Array Oper} {rest : List Oper} {o : Oper} {a : Act} {Q : Exit → Act → World → Prop} (hgd : o.guard = none) (s x : Operand)
    (ho : o.op = .call { callee := .builtin .append, args := #[s, x], argTypes := #[t, t] }) (hrow : Row P t e α bytes)
    (base : Nat) (v : Value) (l0 : List α) (hs : a.eval s = v) (hown : Own w base e v l0) (B : Nat) (u : Value) (l : List α) (hx : a.eval x = u) (hr : Sl w B u l)
    (hlen : l0.length + l.length ≤ maxLen) (hby : (l0.length + l.length) * bytes ≤ 140737488355328) (hbase : base ≤ w.heap.size)
    (h : ∀ v' w', Own w' base e v' (l0 ++ l) → w.grownBy w' v.ownBlock → (v'.ownBlock = v.ownBlock ∨ v'.ownBlock = some w.heap.size) → wpList P ops Q rest (a.put o.dst v') w') : wpList P ops Q (o :: rest) a w := by
  refine wpList_plain hgd fun K hK => ?_
  obtain ⟨v', w', hrun, h2, h3, h4⟩ := run_append_sl (ty := o.type) hrow hown hr hlen hby hbase
  unfold Oper.wp execOp
  simp only [ho, resolve, invoke, builtin, Sem.run_bind, Sem.run_pure, Result.andThen_ok, List.map_toArray, List.map_cons, List.map_nil, hs, hx, hrun]
  exact hK _ _ (h v' w' h2 h3 h4)
theorem below_of_own {w w' w0 : World} {base : Nat} {v : Value} {l : List α} (hb : Below base w0 w) (h : Own w base e v l) (hg : w.grownBy w' v.ownBlock) (hbase : base ≤ w.heap.size) : Below base w0 w' :=
  hb.grown hg hbase (fun k hk => (h.lt k hk).1)
end

/-! make, and stores into a row of the call's own. -/
section
variable {α : Type} [Rep α] [Flat α] {P : Program} {w : World} {base : Nat} {e t : TypeId}
theorem made_list (z : Array Value) (n : Nat) : (madeCells z (n * z.size)).toList = (List.replicate n z.toList).flatten := by
  apply List.ext_getElem?
  intro k
  induction n generalizing k with
  | zero => simp [madeCells]
  | succ n ih =>
    rw [List.replicate_succ, List.flatten_cons]
    have hk0 : ∀ m k : Nat, (madeCells z m).toList[k]? = if k < m then some (z[k % z.size]!) else none := by
      intro m k
      simp [madeCells]
      split
      · simp_all
      · simp_all
    rw [hk0, List.getElem?_append]
    split
    · rename_i h
      split
      · rename_i h2
        rw [Array.length_toList] at h2
        rw [Nat.mod_eq_of_lt h2, Array.getElem?_toList, Array.getElem?_eq_getElem h2, getElem!_pos z k h2]
      · rename_i h2
        rw [Array.length_toList] at h2 ⊢
        rw [← ih, hk0, if_pos (by rw [Nat.add_mul] at h; omega)]
        congr 2
        rw [← Nat.mod_eq_sub_mod (by omega)]
    · rename_i h
      split
      · rename_i h2
        rw [Array.length_toList] at h2
        rw [Nat.add_mul] at h
        omega
      · rename_i h2
        rw [Array.length_toList] at h2 ⊢
        rw [← ih, hk0, if_neg (by rw [Nat.add_mul] at h; omega)]
/-- The element type's row, with its zero. -/
def RowZ (P : Program) (t e : TypeId) (bytes : Nat) (a0 : α) : Prop :=
  P.underlying t = some (.slice e) ∧ ∃ i z, P.info? e = some i ∧ i.zero = some z ∧ i.size = Rep.sz α ∧ i.bytes = bytes ∧ Flat.enc a0 = z.cells.toList
theorem wpList_make_sl {a0 : α} {bytes : Nat} (hrow : RowZ P t e bytes a0) (h0 : Flat.wf a0) {ops : Array Oper} {rest : List Oper} {o : Oper} {a : Act} {Q : Exit → Act → World → Prop}
    (hg : o.guard = none) (l c : Operand) (hop : o.op = Op.makeSlice t l c) (base : Nat) (kl kc : IntKind) (L C : Int) (n : Nat) (hl : a.eval l = .int kl L) (hc : a.eval c = .int kc C) (hL : L = (n : Int)) (hC : C = (n : Int))
    (b2 : bytes * n ≤ 281474976710656) (b3 : n ≤ maxLen) (b4 : base ≤ w.heap.size)
    (hK : ∀ w', Own w' base e (.slice (some ⟨w.heap.size, 0, none⟩) n n) (List.replicate n a0) → w.grownBy w' none → wpList P ops Q rest (a.put o.dst (.slice (some ⟨w.heap.size, 0, none⟩) n n)) w') :
    wpList P ops Q (o :: rest) a w := by
  obtain ⟨h1, i, z, h2, h3, h4, h5, h6⟩ := hrow
  have hlen := flat_len a0 h0
  rw [h6, Array.length_toList] at hlen
  refine wpList_make_full w hg l c t hop base e i z (Rep.sz α) h1 h2 h3 h4 kl kc L C n hl hc hL hC (by rw [h5]; exact b2) b3 b4 (fun w' r1 r2 => hK w' ⟨?_, fun a ha => by rw [(List.mem_replicate.1 ha).2]; exact h0⟩ r2)
  rw [← hlen, made_list, hlen, ← h6] at r1
  have e2 : cells (List.replicate n a0) = (List.replicate n (Flat.enc a0)).flatten := by simp [cells, List.flatMap, List.map_replicate]
  rw [List.length_replicate, e2]
  exact r1
theorem cells_set (hs : Rep.sz α = 1) {a : α} {u : Value} (hu : Flat.enc a = [u]) : ∀ (m : List α), (∀ x ∈ m, Flat.wf x) → ∀ j, cells (m.set j a) = (cells m).set j u
  | [], _, j => by simp [cells]
  | x :: m, h, j => by
    have hx := flat_len x (h x (by simp))
    rw [hs] at hx
    obtain ⟨v, hv⟩ : ∃ v, (Flat.enc x : List Value) = [v] := List.length_eq_one_iff.1 hx
    have e1 : ∀ (y : α) (l : List α), cells (y :: l) = Flat.enc y ++ cells l := fun _ _ => rfl
    cases j with
    | zero => rw [List.set_cons_zero, e1, e1, hu, hv]; rfl
    | succ j => rw [List.set_cons_succ, e1, e1, cells_set hs hu m (fun y hy => h y (by simp [hy])) j, hv]; rfl
theorem Own.store1 (hs : Rep.sz α = 1) {g n c : Nat} {m : List α} (h : Own w base e (.slice (some ⟨g, 0, none⟩) n c) m) (j : Nat) {a : α} {u : Value} (hu : Flat.enc a = [u]) (hw : Flat.wf a) :
    Own (w.setCell ⟨g, j, none⟩ u) base e (.slice (some ⟨g, 0, none⟩) n c) (m.set j a) := by
  have hn := h.sl.room.1
  have h1 := h.1
  rw [hn] at h1
  refine ⟨?_, fun x hx => ?_⟩
  · rw [List.length_set, hn, cells_set hs hu m h.2]
    exact (World.ownsRow.stored h1 j u).1
  · rcases List.mem_or_eq_of_mem_set hx with hx | rfl
    · exact h.2 x hx
    · exact hw
theorem Own.at_ {A : Option Addr} {n c : Nat} {m : List α} (h : Own w base e (.slice A n c) m) (hn : 0 < n) : ∃ g, A = some ⟨g, 0, none⟩ ∧ base ≤ g ∧ g < w.heap.size ∧ ∀ j, w.frozen? ⟨g, j, none⟩ = false := by
  have hl := h.sl.room.1
  have h1 := h.1
  rw [hl] at h1
  obtain ⟨g, cap, e1, hb, hlt⟩ := h1.form hn
  injection e1 with e1 _ e3
  subst e1 e3
  exact ⟨g, rfl, hb, hlt, fun j => World.ownsRow.frozenAt h1 j⟩
end

/-! What the reading of an argument gives. -/
/-- Every reading of cells of type t gives such data. -/
def Opens (P : Program) (t : TypeId) (α : Type) [Rep α] : Prop :=
  ∀ {H : Type} {enc : TypeId × Value → H} {w : World} {base : Nat} {sp : Nat → Bool} {hd : Bool} {fuel : Nat} {cs : List Value} {x : DataW H × List MemPlace},
    (∀ b, sp b = true) → DataW.trod enc P w base sp hd fuel t cs = some x → ∃ a : α, fits w w.heap.size cs a

theorem opens_int {P : Program} {t : TypeId} (ht : P.underlying t = some (.int .i64)) : Opens P t Int := by
  intro H enc w base sp hd fuel cs x _ h
  obtain ⟨n, rfl, _, hw⟩ := DataW.trod_int ht h
  refine ⟨n, rfl, ?_⟩
  simp [Lit.wf, IntKind.min, IntKind.max, IntKind.signed, IntKind.bits] at hw; omega
theorem opens_u8 {P : Program} {t : TypeId} (ht : P.underlying t = some (.int .u8)) : Opens P t UInt8 := by
  intro H enc w base sp hd fuel cs x _ h
  obtain ⟨n, rfl, _, hw⟩ := DataW.trod_int ht h
  have hn : 0 ≤ n ∧ n < 256 := by simp [Lit.wf, IntKind.min, IntKind.max, IntKind.signed, IntKind.bits] at hw; omega
  refine ⟨UInt8.ofNat n.toNat, ?_⟩
  have e3 : (UInt8.ofNat n.toNat).toNat = n.toNat := UInt8.toNat_ofNat_of_lt' (by show _ < 256; omega)
  show [Value.int .u8 n] = [Value.int .u8 _]
  rw [e3, Int.toNat_of_nonneg hn.1]
theorem opens_u32 {P : Program} {t : TypeId} (ht : P.underlying t = some (.int .u32)) : Opens P t UInt32 := by
  intro H enc w base sp hd fuel cs x _ h
  obtain ⟨n, rfl, _, hw⟩ := DataW.trod_int ht h
  have hn : 0 ≤ n ∧ n < 4294967296 := by simp [Lit.wf, IntKind.min, IntKind.max, IntKind.signed, IntKind.bits] at hw; omega
  refine ⟨UInt32.ofNat n.toNat, ?_⟩
  have e3 : (UInt32.ofNat n.toNat).toNat = n.toNat := UInt32.toNat_ofNat_of_lt' (by show _ < 4294967296; omega)
  show [Value.int .u32 n] = [Value.int .u32 _]
  rw [e3, Int.toNat_of_nonneg hn.1]
theorem opens_bool {P : Program} {t : TypeId} (ht : P.underlying t = some .bool) : Opens P t Bool := by
  intro H enc w base sp hd fuel cs x _ h
  obtain ⟨b, rfl, _⟩ := DataW.trod_bool ht h
  exact ⟨b, rfl⟩
theorem list_of_all {α : Type} {p : Nat → α → Prop} : ∀ n : Nat, (∀ k, k < n → ∃ a, p k a) → ∃ l : List α, l.length = n ∧ ∀ k (h : k < l.length), p k l[k]
  | 0, _ => ⟨[], rfl, fun k h => absurd h (by simp)⟩
  | n + 1, h => by
    obtain ⟨l, hl, hp⟩ := list_of_all n (fun k hk => h k (by omega))
    obtain ⟨a, ha⟩ := h n (by omega)
    refine ⟨l ++ [a], by simp [hl], fun k hk => ?_⟩
    by_cases hkn : k < l.length
    · rw [List.getElem_append_left hkn]; exact hp k hkn
    · obtain rfl : k = n := by simp [hl] at hk; omega
      rw [List.getElem_append_right (by omega)]
      simpa using ha
theorem opens_slice {P : Program} {t e : TypeId} {α : Type} [Rep α] (ht : P.underlying t = some (.slice e)) (he : P.cellsOf e = Rep.sz α) (ho : Opens P e α) : Opens P t (List α) := by
  intro H enc w base sp hd fuel cs x hsp h
  rcases open_slice ht h with ⟨rfl, _⟩ | ⟨a, len, cap, m, n, D, Pl, rfl, _, hl, hm, hmm, _, hi⟩
  · exact ⟨[], _, rfl, Sl.nil _ _⟩
  · rw [if_pos (hsp _)] at hmm
    rw [he, hmm] at hi
    obtain ⟨l, hll, hp⟩ := list_of_all (p := fun k (x : α) => ∃ ds, fits w w.heap.size ds x ∧ ∀ j u, ds[j]? = some u → w.cell? (a.add (k * Rep.sz α + j)) = some u) len (fun k hk => by
      obtain ⟨cs', hc, ht'⟩ := hi k (by omega)
      obtain ⟨x, hx⟩ := ho hsp ht'
      obtain ⟨_, hcl, hat⟩ := World.cells?_some hc
      refine ⟨x, cs', hx, fun j u hu => ?_⟩
      have hj : j < Rep.sz α := by rw [← hcl]; exact (List.getElem?_eq_some_iff.1 hu).1
      rw [← Go.Deep.add_add, hat j hj, hu])
    refine ⟨l, _, rfl, a, cap, by rw [hll], by omega, hm, fun h0 => ?_⟩
    obtain ⟨ds0, hf0, hc0⟩ := hp 0 h0
    have hl0 := Rep.len hf0
    have hpos := Rep.pos (α := α)
    have hd0 : ds0[0]? = some (ds0[0]'(by omega)) := List.getElem?_eq_getElem (by omega)
    have h00 := hc0 0 _ hd0
    obtain ⟨b, off, spot⟩ := a
    have hspot : spot = none := by simpa [Addr.add] using World.cell?_spot h00
    subst hspot
    refine ⟨b, off, rfl, ?_, fun k hk => ?_⟩
    · rw [add_at] at h00
      exact block_lt_of_cell h00
    · obtain ⟨ds, hf, hc⟩ := hp k hk
      refine ⟨ds, hf, fun j u hu => ?_⟩
      have := hc j u hu
      rwa [add_at, ← Nat.add_assoc] at this

/-- The fields of a struct, from a cell on, as nested pairs. -/
def OpensFs (P : Program) (off : Nat) : List Field → (α : Type) → [Rep α] → Prop := fun fs α _ =>
  ∀ {H : Type} {enc : TypeId × Value → H} {w : World} {base : Nat} {sp : Nat → Bool} {hd : Bool} {fuel : Nat} {cs : List Value} {xs : List (DataW H × List MemPlace)},
    (∀ b, sp b = true) → xs.length = fs.length → (∀ (i : Nat) (f : Field), fs[i]? = some f → DataW.trod enc P w base sp hd fuel f.type ((cs.drop f.offset).take (P.cellsOf f.type)) = xs[i]?) →
    ∃ a : α, fits w w.heap.size ((cs.drop off).take (Rep.sz α)) a
theorem opensFs_one {P : Program} {off : Nat} {f : Field} {α : Type} [Rep α] (ho : f.offset = off) (hc : P.cellsOf f.type = Rep.sz α) (h : Opens P f.type α) : OpensFs P off [f] α := by
  intro H enc w base sp hd fuel cs xs hsp hxl hx
  have h1 := hx 0 f rfl
  match xs, hxl with
  | [x0], _ =>
    rw [ho, hc] at h1
    exact h hsp h1
theorem opensFs_cons {P : Program} {off : Nat} {f : Field} {fs : List Field} {α β : Type} [Rep α] [Rep β] (ho : f.offset = off) (hc : P.cellsOf f.type = Rep.sz α) (h : Opens P f.type α) (hr : OpensFs P (off + Rep.sz α) fs β) : OpensFs P off (f :: fs) (α × β) := by
  intro H enc w base sp hd fuel cs xs hsp hxl hx
  have h1 := hx 0 f rfl
  match xs, hxl with
  | x0 :: xs, hxl =>
    rw [ho, hc] at h1
    obtain ⟨a, ha⟩ := h hsp h1
    obtain ⟨b, hb⟩ := hr (xs := xs) hsp (by simpa using hxl) (fun i f hi => by have := hx (i + 1) f (by simpa using hi); simpa using this)
    refine ⟨(a, b), (cs.drop off).take (Rep.sz α), (cs.drop (off + Rep.sz α)).take (Rep.sz β), ?_, ha, hb⟩
    rw [← List.drop_drop]
    exact List.take_add
theorem opens_struct {P : Program} {t : TypeId} {fs : Array Field} {α : Type} [Rep α] (ht : P.underlying t = some (.struct fs)) (hc : P.cellsOf t = Rep.sz α) (h : OpensFs P 0 fs.toList α) : Opens P t α := by
  intro H enc w base sp hd fuel cs x hsp hx
  obtain ⟨xs, n, _, _, hl, hxl, hf⟩ := DataW.trod_struct ht hx
  obtain ⟨a, ha⟩ := h (xs := xs) hsp (by simpa using hxl) (fun i f hi => hf i f (by simpa using hi))
  refine ⟨a, ?_⟩
  rw [List.drop_zero, List.take_of_length_le (by omega)] at ha
  exact ha
end Go.Proofs.Ytpfhigcfpchkkaa
