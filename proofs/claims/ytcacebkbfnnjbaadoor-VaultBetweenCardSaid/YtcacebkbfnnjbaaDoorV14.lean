/-
  Parts that the statement rests on, joined: Orz, Kept, Ors, Ort.
-/
import Derived.Test.YtcacebkbfnnjbaaDoorV3
import Derived.Below
import Derived.Tactics
import Derived.Tactics2
import Derived.OrdersHeld
import Derived.RegionTactic
import Derived.KernelRfl
/-
  A region that draws its order, whose last operations (Z) store into what was there: what reads what was there is taken first, calls and what makes memory come up as they may; behind the operations of Z nothing is asked of the world. No program.
-/







namespace Go.Proofs.YtcacebkbfnnjbaaDoor
open Go.RowKit

section
variable {P : Program} {ops : Array Oper} {Q : Exit → Act → World → Prop} {md : Region.Mode} {S : World → Prop} {Z : List Nat}

/-- Whatever order is picked; S holds behind every operation that is none of Z. -/
def wpAnyZ (P : Program) (md : Region.Mode) (ops : Array Oper) (Q : Exit → Act → World → Prop) (S : World → Prop) (Z : List Nat) : Nat → Array Bool → Act → World → Prop
  | 0, listed, a, w => Region.ready md ops listed = [] ∧ Q .normal a w
  | fuel + 1, listed, a, w =>
    (Region.ready md ops listed = [] → Q .normal a w) ∧
    ∀ i ∈ Region.ready md ops listed, wpOp P ops Q i (fun a' w' => (i ∉ Z → S w → S w') ∧ wpAnyZ P md ops Q S Z fuel (listed.setIfInBounds i true) a' w') a w
theorem wpAny_of_z : ∀ (fuel : Nat) (listed : Array Bool) (a : Act) (w : World), wpAnyZ P md ops Q S Z fuel listed a w → wpAny P md ops Q fuel listed a w
  | 0, _, _, _, h => h
  | fuel + 1, _, _, _, h => ⟨h.1, fun i hi => wpOp_mono (fun a' w' h' => wpAny_of_z fuel _ a' w' h'.2) (h.2 i hi)⟩
/-- Each of Z waits for number i. -/
def waitsAll (md : Region.Mode) (ops : Array Oper) (Z : List Nat) (i : Nat) : Bool := Z.all fun z => match ops[z]? with
  | some o => o.after.any fun e => Region.binds md e && e.on == i
  | none => false
theorem waits_spec {i z : Nat} {oz : Oper} (h : waitsAll md ops Z i = true) (hz : z ∈ Z) (ho : ops[z]? = some oz) : ∃ e ∈ oz.after, Region.binds md e = true ∧ e.on = i := by
  have := List.all_eq_true.1 h z hz
  rw [ho] at this
  simp only [Array.any_eq_true] at this
  obtain ⟨k, hk, hb⟩ := this
  simp only [Bool.and_eq_true, beq_iff_eq] at hb
  exact ⟨_, Array.getElem_mem hk, hb.1, hb.2⟩

theorem wpAnyZ_first {i : Nat} {oi : Oper} {v : Value} (hi : ops[i]? = some oi) (hsel : ∀ (j : Nat) (o : Oper) cs b, ops[j]? = some o → o.op ≠ .select cs b)
    (hQ : ∀ c a w, Q (.panic c) (a.put oi.dst v) w → Q (.panic c) a w) (k0 : Nat) (hZ : waitsAll md ops Z k0 = true) (hki : k0 = i ∨ waitsAll md ops [k0] i = true) :
    ∀ (fuel : Nat) (listed : Array Bool) (a : Act) (w : World), listed.getD k0 true = false →
      (∀ j oj, ops[j]? = some oj → j ≠ i → listed.getD j true = false → (∀ e ∈ oj.after, Region.binds md e = true → e.on ≠ i) → oi.apart ops oj = true) →
      i ∈ Region.ready md ops listed → YieldsIf P ops S oi v a → S w →
      wpAnyZ P md ops Q S Z fuel (listed.setIfInBounds i true) (a.put oi.dst v) w → wpAnyZ P md ops Q S Z (fuel + 1) listed a w := by
  intro fuel
  induction fuel with
  | zero =>
    intro listed a w _ _ hr hy hS H
    refine ⟨fun h => (by rw [h] at hr; cases hr), fun j hj => ?_⟩
    by_cases hji : j = i
    · subst hji; exact hy.wpOp hi hS ⟨fun _ _ => hS, H⟩
    · have := ready_mono hj hji
      rw [H.1] at this
      cases this
  | succ fuel ih =>
    intro listed a w hk0 hfree hr hy hS H
    refine ⟨fun h => (by rw [h] at hr; cases hr), fun j hj => ?_⟩
    by_cases hji : j = i
    · subst hji; exact hy.wpOp hi hS ⟨fun _ _ => hS, H⟩
    · have h1 := H.2 j (ready_mono hj hji)
      obtain ⟨hjun, oj, hoj, hall⟩ := mem_ready.1 hj
      have hnot : ∀ e ∈ oj.after, Region.binds md e = true → e.on ≠ i := fun e he hb heq => by
        have h1 := hall e he hb
        have h0 := (mem_ready.1 hr).1
        rw [heq] at h1
        rcases Nat.lt_or_ge i listed.size with h' | h'
        · simp [h'] at h0 h1; rw [h0] at h1; cases h1
        · simp [Array.getElem?_eq_none h'] at h1
      have hjZ : j ∉ Z := fun hz => by
        obtain ⟨e, he, hb, heq⟩ := waits_spec hZ hz hoj
        have h1 := hall e he hb
        rw [heq] at h1
        rcases Nat.lt_or_ge k0 listed.size with h' | h'
        · simp [h'] at hk0 h1; rw [hk0] at h1; cases h1
        · simp [Array.getElem?_eq_none h'] at h1
      have hjk0 : j ≠ k0 := fun hjk => by
        rcases hki with hki | hki
        · exact hji (hjk.trans hki)
        · subst hjk
          obtain ⟨e, he, hb, heq⟩ := waits_spec hki (by simp) hoj
          exact hnot e he hb heq
      have hk0' : (listed.setIfInBounds j true).getD k0 true = false := by rw [getD_set_ne true hjk0]; exact hk0
      have h2 := wpOp_putIf hoj (hfree j oj hoj hji hjun hnot) (fun cs b => hsel i oi cs b hi) (fun cs b => hsel j oj cs b hoj) hQ hy h1
      have hfree' : ∀ k ok, ops[k]? = some ok → k ≠ i → (listed.setIfInBounds j true).getD k true = false →
          (∀ e ∈ ok.after, Region.binds md e = true → e.on ≠ i) → oi.apart ops ok = true := fun k ok hk hki hun hno => by
        refine hfree k ok hk hki ?_ hno
        by_cases hjk : j = k
        · subst hjk; exact hjun
        · rw [getD_set_ne true hjk] at hun; exact hun
      refine wpOp_mono (fun a' w' h3 => ⟨fun _ _ => h3.2.1 hjZ hS, ih (listed.setIfInBounds j true) a' w' hk0' hfree' (ready_mono hr (Ne.symm hji)) h3.1 (h3.2.1 hjZ hS) ?_⟩) h2
      rw [Array.setIfInBounds_comm _ _ hji]
      exact h3.2.2

/-- What is left of a region: but for the operations of Z, below block B the world stays as it is in w0. -/
def AnyZ (P : Program) (md : Region.Mode) (ops : Array Oper) (Q : Exit → Act → World → Prop) (B : Nat) (w0 : World) (Z : List Nat) (fuel : Nat) (listed : Array Bool) (a : Act) (w : World) : Prop :=
  wpAnyZ P md ops Q (fun w' => Below B w0 w') Z fuel listed a w
/-- What is left when number i comes up. -/
def OneZ (P : Program) (md : Region.Mode) (ops : Array Oper) (Q : Exit → Act → World → Prop) (B : Nat) (w0 : World) (Z : List Nat) (i fuel : Nat) (listed : Array Bool) (a : Act) (w : World) : Prop :=
  wpOp P ops Q i (fun a' w' => (i ∉ Z → Below B w0 w → Below B w0 w') ∧ AnyZ P md ops Q B w0 Z fuel (listed.setIfInBounds i true) a' w') a w
variable {B : Nat} {w0 : World}

theorem z_start {id : Nat} {a : Act} {w : World} (B : Nat) (Z : List Nat) (hm : P.follows .mixedOrders = true) (h : AnyZ P .any ops Q B w.drew Z ops.size (Array.replicate ops.size false) a w.drew) : (Code.region id ops true).wp P Q a w :=
  wp_region_any hm (wpAny_of_z _ _ _ _ h)
theorem z_take {i : Nat} {oi : Oper} {v : Value} {fuel : Nat} {listed : Array Bool} {a : Act} {w : World} (hi : ops[i]? = some oi)
    (hs : Region.noSelect ops = true) (hf : Region.free md ops listed i = true) (hr : (Region.ready md ops listed).contains i = true) (k0 : Nat) (hk0 : listed.getD k0 true = false) (hZ : waitsAll md ops Z k0 = true) (hki : k0 = i ∨ waitsAll md ops [k0] i = true)
    (hQ : ∀ c a w, Q (.panic c) (a.put oi.dst v) w → Q (.panic c) a w) (hw : Region.wanted oi (yielded ops a.tmps) = true) (hb : Below B w0 w)
    (hy : ∀ w', Below B w0 w' → (execOp a.eval oi).run P w' = .ok (.value v) w')
    (h : AnyZ P md ops Q B w0 Z fuel (listed.setIfInBounds i true) (a.put oi.dst v) w) : AnyZ P md ops Q B w0 Z (fuel + 1) listed a w :=
  wpAnyZ_first hi (Region.noSelect_spec hs) hQ k0 hZ hki fuel listed a w hk0 (Region.free_spec hi hf) (by simpa using hr) (.inl ⟨hw, hy⟩) hb h
theorem z_skip {i : Nat} {oi : Oper} {fuel : Nat} {listed : Array Bool} {a : Act} {w : World} (hi : ops[i]? = some oi)
    (hs : Region.noSelect ops = true) (hf : Region.free md ops listed i = true) (hr : (Region.ready md ops listed).contains i = true) (k0 : Nat) (hk0 : listed.getD k0 true = false) (hZ : waitsAll md ops Z k0 = true) (hki : k0 = i ∨ waitsAll md ops [k0] i = true)
    (hQ : ∀ c a w, Q (.panic c) (a.put oi.dst undef) w → Q (.panic c) a w) (hw : Region.wanted oi (yielded ops a.tmps) = false) (hb : Below B w0 w)
    (h : AnyZ P md ops Q B w0 Z fuel (listed.setIfInBounds i true) (a.put oi.dst undef) w) : AnyZ P md ops Q B w0 Z (fuel + 1) listed a w :=
  wpAnyZ_first hi (Region.noSelect_spec hs) hQ k0 hZ hki fuel listed a w hk0 (Region.free_spec hi hf) (by simpa using hr) (.inr ⟨hw, rfl⟩) hb h
theorem z_all {is : List Nat} {fuel : Nat} {listed : Array Bool} {a : Act} {w : World} (hr : Region.ready md ops listed = is) (hne : is ≠ []) (h : ∀ i ∈ is, OneZ P md ops Q B w0 Z i fuel listed a w) : AnyZ P md ops Q B w0 Z (fuel + 1) listed a w :=
  ⟨fun h0 => absurd (hr ▸ h0) hne, hr ▸ h⟩
theorem z_one {i : Nat} {fuel : Nat} {listed : Array Bool} {a : Act} {w : World} (hr : Region.ready md ops listed = [i]) (h : OneZ P md ops Q B w0 Z i fuel listed a w) : AnyZ P md ops Q B w0 Z (fuel + 1) listed a w :=
  z_all hr (by simp) fun j hj => by obtain rfl : j = i := by simpa using hj
                                    exact h
theorem z_two {i j : Nat} {fuel : Nat} {listed : Array Bool} {a : Act} {w : World} (hr : Region.ready md ops listed = [i, j]) (h : OneZ P md ops Q B w0 Z i fuel listed a w) (h2 : OneZ P md ops Q B w0 Z j fuel listed a w) : AnyZ P md ops Q B w0 Z (fuel + 1) listed a w :=
  z_all hr (by simp) fun k hk => by
    have hk : k = i ∨ k = j := by simpa using hk
    rcases hk with rfl | rfl
    · exact h
    · exact h2
theorem z_done {fuel : Nat} {listed : Array Bool} {a : Act} {w : World} (hr : Region.ready md ops listed = []) (h : Q .normal a w) : AnyZ P md ops Q B w0 Z fuel listed a w := by
  cases fuel with
  | zero => exact ⟨hr, h⟩
  | succ fuel => exact ⟨fun _ => h, fun i hi => by rw [hr] at hi; cases hi⟩
theorem onez_call {i : Nat} {oi : Oper} {f : FuncId} {args : Array Value} {fuel : Nat} {listed : Array Bool} {a : Act} {w : World} (hi : ops[i]? = some oi)
    (hw : Region.wanted oi (yielded ops a.tmps) = true) (he : (execOp a.eval oi).run P w = .ok (.enter f args) w)
    (hc : Calls P f args w fun e w' => ∃ v, e = .returned v ∧ (i ∉ Z → Below B w0 w') ∧ AnyZ P md ops Q B w0 Z fuel (listed.setIfInBounds i true) (a.put oi.dst v) w') : OneZ P md ops Q B w0 Z i fuel listed a w := by
  refine wpOp_step hi (fun K hK => ?_)
  rw [if_pos hw]
  unfold Oper.wp
  rw [he]
  refine hc.mono fun e w' ⟨v, h1, h2, h3⟩ => ?_
  subst h1
  exact hK _ _ ⟨fun h _ => h2 h, h3⟩
theorem onez_run {i : Nat} {oi : Oper} {v : Value} {fuel : Nat} {listed : Array Bool} {a : Act} {w w' : World} (hi : ops[i]? = some oi)
    (hw : Region.wanted oi (yielded ops a.tmps) = true) (he : (execOp a.eval oi).run P w = .ok (.value v) w') (hb : i ∉ Z → Below B w0 w')
    (h : AnyZ P md ops Q B w0 Z fuel (listed.setIfInBounds i true) (a.put oi.dst v) w') : OneZ P md ops Q B w0 Z i fuel listed a w := by
  refine wpOp_step hi (fun K hK => ?_)
  rw [if_pos hw]
  unfold Oper.wp
  rw [he]
  exact hK _ _ ⟨fun hh _ => hb hh, h⟩
/-- What leaves the world as it is may come at any time. -/
theorem onez_same {i : Nat} {oi : Oper} {v : Value} {fuel : Nat} {listed : Array Bool} {a : Act} {w : World} (hi : ops[i]? = some oi)
    (hw : Region.wanted oi (yielded ops a.tmps) = true) (he : (execOp a.eval oi).run P w = .ok (.value v) w)
    (h : AnyZ P md ops Q B w0 Z fuel (listed.setIfInBounds i true) (a.put oi.dst v) w) : OneZ P md ops Q B w0 Z i fuel listed a w := by
  refine wpOp_step hi (fun K hK => ?_)
  rw [if_pos hw]
  unfold Oper.wp
  rw [he]
  exact hK _ _ ⟨fun _ hh => hh, h⟩
theorem onez_skip {i : Nat} {oi : Oper} {fuel : Nat} {listed : Array Bool} {a : Act} {w w' : World} (hi : ops[i]? = some oi)
    (hw : Region.wanted oi (yielded ops a.tmps) = true) (he : (execOp a.eval oi).run P w = .ok .skip w') (hb : i ∉ Z → Below B w0 w')
    (h : AnyZ P md ops Q B w0 Z fuel (listed.setIfInBounds i true) (a.put oi.dst undef) w') : OneZ P md ops Q B w0 Z i fuel listed a w := by
  refine wpOp_step hi (fun K hK => ?_)
  rw [if_pos hw]
  unfold Oper.wp
  rw [he]
  exact hK _ _ ⟨fun hh _ => hb hh, h⟩
theorem onez_append_sl {α : Type} [Rep α] [Flat α] {e t : TypeId} {bytes : Nat} {i : Nat} {oi : Oper} {fuel : Nat} {listed : Array Bool} {a : Act} {w : World} (hi : ops[i]? = some oi)
    (hw : Region.wanted oi (yielded ops a.tmps) = true) (s x : Operand)
    (ho : oi.op = .call { callee := .builtin .append, args := #[s, x], argTypes := #[t, t] }) (hrow : Row P t e α bytes)
    (base : Nat) (v : Value) (l0 : List α) (hs : a.eval s = v) (hown : Own w base e v l0) (Bu : Nat) (u : Value) (l : List α) (hx : a.eval x = u) (hr : Sl w Bu u l)
    (hlen : l0.length + l.length ≤ maxLen) (hby : (l0.length + l.length) * bytes ≤ 140737488355328) (hbase : base ≤ w.heap.size) (hB : B ≤ base) (hb0 : Below B w0 w)
    (h : ∀ v' w', Own w' base e v' (l0 ++ l) → w.grownBy w' v.ownBlock → Below B w w' → AnyZ P md ops Q B w0 Z fuel (listed.setIfInBounds i true) (a.put oi.dst v') w') : OneZ P md ops Q B w0 Z i fuel listed a w := by
  obtain ⟨v', w', hrun, h2, h3, h4⟩ := run_append_sl (ty := oi.type) hrow hown hr hlen hby hbase
  have hb : Below B w w' := (Below.refl B w).grown h3 (Nat.le_trans hB hbase) (fun k hk => Nat.le_trans hB (hown.lt k hk).1)
  refine onez_run hi hw ?_ (fun _ => hb0.trans hb) (h v' w' h2 h3 hb)
  unfold execOp
  simp only [ho, resolve, invoke, builtin, Sem.run_bind, Sem.run_pure, Result.andThen_ok, List.map_toArray, List.map_cons, List.map_nil, hs, hx, hrun]
end
end Go.Proofs.YtcacebkbfnnjbaaDoor

/-
  What a call keeps, but for some blocks; slices of the call's own where they were; append, and what the old slice reads as behind it. No program.
-/


namespace Go.Proofs.YtcacebkbfnnjbaaDoor
open Go.RowKit

/-- But for the blocks of D nothing that was there has turned. -/
structure Kept (D : Nat → Prop) (w w' : World) : Prop where
  os : w'.os = w.os
  tape : w'.tape = w.tape
  output : w'.output = w.output
  size : w.heap.size ≤ w'.heap.size
  block : ∀ b, b < w.heap.size → ¬ D b → w'.heap[b]? = w.heap[b]?
section
variable {D : Nat → Prop} {w w' w'' : World}
theorem Kept.refl (D : Nat → Prop) (w : World) : Kept D w w := ⟨rfl, rfl, rfl, Nat.le_refl _, fun _ _ _ => rfl⟩
theorem Kept.trans (h : Kept D w w') (h2 : Kept D w' w'') : Kept D w w'' :=
  ⟨h2.os.trans h.os, h2.tape.trans h.tape, h2.output.trans h.output, Nat.le_trans h.size h2.size, fun b hb hD => (h2.block b (Nat.lt_of_lt_of_le hb h.size) hD).trans (h.block b hb hD)⟩
theorem Below.kept (h : Below w.heap.size w w') : Kept D w w' := ⟨h.os, h.tape, h.output, h.size, fun b hb _ => h.block b hb⟩
theorem Kept.set (h : Kept D w w') {p : Addr} (hp : D p.block ∨ w.heap.size ≤ p.block) (u : Value) : Kept D w (w'.setCell p u) :=
  ⟨h.os, h.tape, h.output, by simpa [World.setCell] using h.size, fun b hb hD => (Below.heap_setCell w' p u b (fun e => by
    subst e
    rcases hp with hp | hp
    · exact hD hp
    · omega)).trans (h.block b hb hD)⟩
theorem Kept.below (h : Kept D w w') {B : Nat} (hD : ∀ b, D b → B ≤ b) (hB : B ≤ w.heap.size) : Below B w w' := ⟨h.os, h.tape, h.output, h.size, fun b hb => h.block b (by omega) (fun hd => by have := hD b hd; omega)⟩
theorem Kept.mono {D' : Nat → Prop} (h : Kept D w w') (hD : ∀ b, b < w.heap.size → D b → D' b) : Kept D' w w' := ⟨h.os, h.tape, h.output, h.size, fun b hb hd => h.block b hb (fun x => hd (hD b hb x))⟩
theorem Kept.join {D' : Nat → Prop} (h : Kept D w w') (h2 : Kept D' w' w'') (hD : ∀ b, b < w.heap.size → D' b → D b) : Kept D w w'' :=
  ⟨h2.os.trans h.os, h2.tape.trans h.tape, h2.output.trans h.output, Nat.le_trans h.size h2.size, fun b hb hn => (h2.block b (Nat.lt_of_lt_of_le hb h.size) (fun hd => hn (hD b hb hd))).trans (h.block b hb hn)⟩
theorem Kept.whole (h : Kept D w w') {g : Nat} {t : TypeId} {cs : Array Value} (hw : Whole w g t cs) (hg : ¬ D g) : Whole w' g t cs := (h.block g hw.lt hg).trans hw
theorem Kept.sl (h : Kept D w w') {α : Type} [Rep α] {S : Nat → Prop} {v : Value} {l : List α} (hs : SlS w S v l) (hS : ∀ b, S b → ¬ D b) : SlS w' S v l := hs.stay fun b hb hlt => h.block b hlt (hS b hb)
theorem grown_kept {r : Option Nat} (h : w.grownBy w' r) : Kept (fun b => r = some b) w w' := ⟨h.os, h.tape, h.output, h.size, fun b hb hd => h.block b hb (fun e => hd e.symm)⟩
end
theorem Whole.setTo {w : World} {g : Nat} {t : TypeId} {cs cs2 : Array Value} (h : Whole w g t cs) (i : Nat) (u : Value) (e : cs.setIfInBounds i u = cs2) : Whole (w.setCell ⟨g, i, none⟩ u) g t cs2 := e ▸ h.set i u
theorem sls_far {α : Type} [Rep α] {S : Nat → Prop} {w : World} {v : Value} {l : List α} (h : SlS w S v l) {p : Addr} (hp : ¬ S p.block) (u : Value) : SlS (w.setCell p u) S v l := h.stay fun b hb _ => Below.heap_setCell w p u b (fun e => hp (e ▸ hb))
def lbk (A : Option Addr) : Option Nat := A.map (·.block)
theorem own_lbk (A : Option Addr) (n c : Nat) : (Value.slice A n c).ownBlock = lbk A := by cases A <;> rfl
section
variable {α : Type} [Rep α] [Flat α] {w w' : World} {base : Nat} {e : TypeId} {v : Value} {l : List α}
theorem Own.at (h : Own w base e v l) (hk : ∀ b, v.ownBlock = some b → w'.heap[b]? = w.heap[b]?) : Own w' base e v l := by
  refine ⟨⟨h.1.1, ?_⟩, h.2⟩
  rcases h.1.2 with h | ⟨g, cap, cur, rfl, hg, hh, h⟩
  · exact .inl h
  · exact .inr ⟨g, cap, cur, rfl, hg, (hk g rfl).trans hh, h⟩
theorem own_far (h : Own w base e v l) {p : Addr} (hp : v.ownBlock ≠ some p.block) (u : Value) : Own (w.setCell p u) base e v l :=
  h.at fun b hb => Below.heap_setCell w p u b (fun e => hp (by rw [hb, e]))
theorem Own.keep {D : Nat → Prop} (h : Own w base e v l) (hk : Kept D w w') (hD : ∀ b, v.ownBlock = some b → ¬ D b) : Own w' base e v l := h.at fun b hb => hk.block b (h.lt b hb).2 (hD b hb)
/-- Its first ones. -/
theorem Own.upto {A : Option Addr} {n c : Nat} (h : Own w base e (.slice A n c) l) (k : Nat) (hk : k ≤ n) : Own w base e (.slice A k c) (l.take k) := by
  have hn := h.sl.room.1
  have hlen : (l.take k).length = k := by rw [List.length_take]; omega
  have hwf : ∀ a ∈ l.take k, Flat.wf a := fun a ha => h.2 a (List.mem_of_mem_take ha)
  have hc1 := cells_len l h.2
  have hc2 := cells_len _ hwf
  have happ := cells_append (l.take k) (l.drop k)
  rw [List.take_append_drop] at happ
  refine ⟨⟨hc2, ?_⟩, hwf⟩
  rw [hlen]
  rcases h.1.2 with ⟨h1, _⟩ | ⟨g, cap, cur, h1, hg, hh, hnc, hcm, hcs, htake⟩
  · obtain ⟨rfl, rfl, rfl⟩ := Value.slice.inj h1
    exact .inl ⟨by rw [show k = 0 by omega], by omega⟩
  · obtain ⟨rfl, _, rfl⟩ := Value.slice.inj h1
    refine .inr ⟨g, c, cur, rfl, hg, hh, by omega, hcm, hcs, ?_⟩
    have h3 : cur.toList.take (k * Rep.sz α) = (cur.toList.take (l.length * Rep.sz α)).take (k * Rep.sz α) := by rw [List.take_take, Nat.min_eq_left (Nat.mul_le_mul_right _ (by omega))]
    rw [h3, htake, happ, List.take_append_of_le_length (by rw [hc2, hlen]; exact Nat.le_refl _), List.take_of_length_le (by rw [hc2, hlen]; exact Nat.le_refl _)]
end

/-! Behind append the old slice reads as it did. -/
theorem run_append_old {α : Type} [Rep α] [Flat α] {P : Program} {e t : TypeId} {bytes : Nat} {w w' : World} {ty : TypeId} {base : Nat} {v v' : Value} {l0 : List α} (hrow : Row P t e α bytes) (hown : Own w base e v l0) {B : Nat} {u : Value} {l : List α} (hr : Sl w B u l)
    (hlen : l0.length + l.length ≤ maxLen) (hby : (l0.length + l.length) * bytes ≤ 140737488355328) (hrun : (Builtin.append_ #[t, t] ty #[v, u]).run P w = .ok v' w') : Own w' base e v l0 := by
  obtain ⟨ht, i, z, hi, hz, hsz, hbb, hzc⟩ := hrow
  obtain ⟨A, c, rfl, hc, hm⟩ := hr.form
  obtain ⟨hw, hx⟩ := sl_cells hr
  have hcl := cells_len l hw
  have hcl0 := cells_len l0 hown.2
  rcases hown.1.2 with ⟨rfl, hn⟩ | ⟨g, cap, cur, rfl, hbg, hg, hnc, hcm, hcs, htake⟩
  · obtain rfl : l0 = [] := List.eq_nil_of_length_eq_zero hn
    exact Own.nil _ _ _
  · rcases A with _ | ad
    · have hn : l.length = 0 := by
        rcases hx with h0 | ⟨b, off, h, _⟩
        · exact h0
        · cases h
      obtain rfl : l = [] := List.eq_nil_of_length_eq_zero hn
      have hr0 : (Builtin.append_ #[t, t] ty #[.slice (some ⟨g, 0, none⟩) l0.length cap, .slice none ([] : List α).length c]).run P w = .ok (.slice (some ⟨g, 0, none⟩) l0.length cap) w := by
        simp [Builtin.append_, run_underlying ht, sizeOf, typeInfo, hi, Builtin.lenOf, Builtin.firstCells, hnc, storeCells]
      rw [hr0] at hrun
      injection hrun with _ h2
      subst h2
      exact hown
    · have hcells : ∀ j x, (cells l)[j]? = some x → w.cell? (ad.add j) = some x := by
        intro j x hj
        rcases hx with h0 | ⟨b, off, h, _, h2⟩
        · have : l = [] := List.eq_nil_of_length_eq_zero h0
          subst this
          simp [cells] at hj
        · injection h with h
          subst h
          rw [add_at]
          exact h2 j x hj
      by_cases hroom : l0.length + l.length ≤ cap
      · have hfit : l0.length * i.size + (cells l).length ≤ cur.size := by rw [hsz, hcl, hcs, ← Nat.add_mul]; exact Nat.mul_le_mul_right _ hroom
        have hr1 := run_append_room (P := P) w t ty e i ht hi g l0.length cap cur hg ad l.length c (cells l) (by rw [hsz]; exact hcl) hcells (cells_one l) hroom hfit
        rw [hr1] at hrun
        injection hrun with _ h2
        subst h2
        have hlt : (cur.toList.take (l0.length * Rep.sz α)).length = l0.length * Rep.sz α := by rw [htake]; exact hcl0
        refine ⟨⟨hown.1.1, .inr ⟨g, cap, _, rfl, hbg, setRow_heap w g cur _ e _ hg, hnc, hcm, ?_, ?_⟩⟩, hown.2⟩
        · rw [hsz] at hfit ⊢
          simp only [List.size_toArray, List.length_append, List.length_take, List.length_drop, Array.length_toList]
          rw [hcl] at hfit ⊢
          omega
        · show List.take _ (cur.toList.take (l0.length * i.size) ++ cells l ++ cur.toList.drop (l0.length * i.size + (cells l).length)) = _
          rw [hsz, List.append_assoc, List.take_append_of_le_length (by rw [hlt]; exact Nat.le_refl _), List.take_of_length_le (by rw [hlt]; exact Nat.le_refl _), htake]
      · have holds : ∀ j u, (cells l0)[j]? = some u → w.cell? ((⟨g, 0, none⟩ : Addr).add j) = some u := World.ownsRow.cells hown.1 (g := g) rfl
        have hr1 := run_append_grow (P := P) w t ty e i z ht hi hz ⟨g, 0, none⟩ l0.length cap (cells l0) (by rw [hsz]; exact hcl0) holds ad l.length c (cells l) (by rw [hsz]; exact hcl) hcells (by omega) (by unfold maxLen at hlen; omega) (growslice_fits (by omega) (by rw [hbb]; exact hby))
        rw [hr1] at hrun
        injection hrun with _ h2
        subst h2
        exact hown.drew.alloc _
end Go.Proofs.YtcacebkbfnnjbaaDoor

/-
  A region that draws its order, walked under a word of one's own on the world (XOrz, with any S in place of 'Below'): a slice of the call's own that was there is appended to. No program.
-/

namespace Go.Proofs.YtcacebkbfnnjbaaDoor
open Go.RowKit

section
variable {P : Program} {ops : Array Oper} {Q : Exit → Act → World → Prop} {md : Region.Mode} {Z : List Nat} {S : World → Prop}
def AnyS (P : Program) (md : Region.Mode) (ops : Array Oper) (Q : Exit → Act → World → Prop) (S : World → Prop) (Z : List Nat) (fuel : Nat) (listed : Array Bool) (a : Act) (w : World) : Prop :=
  wpAnyZ P md ops Q S Z fuel listed a w
def OneS (P : Program) (md : Region.Mode) (ops : Array Oper) (Q : Exit → Act → World → Prop) (S : World → Prop) (Z : List Nat) (i fuel : Nat) (listed : Array Bool) (a : Act) (w : World) : Prop :=
  wpOp P ops Q i (fun a' w' => (i ∉ Z → S w → S w') ∧ AnyS P md ops Q S Z fuel (listed.setIfInBounds i true) a' w') a w
theorem s_start {id : Nat} {a : Act} {w : World} (S : World → Prop) (Z : List Nat) (hm : P.follows .mixedOrders = true) (h : AnyS P .any ops Q S Z ops.size (Array.replicate ops.size false) a w.drew) : (Code.region id ops true).wp P Q a w :=
  wp_region_any hm (wpAny_of_z _ _ _ _ h)
theorem s_take {i : Nat} {oi : Oper} {v : Value} {fuel : Nat} {listed : Array Bool} {a : Act} {w : World} (hi : ops[i]? = some oi)
    (hs : Region.noSelect ops = true) (hf : Region.free md ops listed i = true) (hr : (Region.ready md ops listed).contains i = true) (k0 : Nat) (hk0 : listed.getD k0 true = false) (hZ : waitsAll md ops Z k0 = true) (hki : k0 = i ∨ waitsAll md ops [k0] i = true)
    (hQ : ∀ c a w, Q (.panic c) (a.put oi.dst v) w → Q (.panic c) a w) (hw : Region.wanted oi (yielded ops a.tmps) = true) (hb : S w)
    (hy : ∀ w', S w' → (execOp a.eval oi).run P w' = .ok (.value v) w')
    (h : AnyS P md ops Q S Z fuel (listed.setIfInBounds i true) (a.put oi.dst v) w) : AnyS P md ops Q S Z (fuel + 1) listed a w :=
  wpAnyZ_first hi (Region.noSelect_spec hs) hQ k0 hZ hki fuel listed a w hk0 (Region.free_spec hi hf) (by simpa using hr) (.inl ⟨hw, hy⟩) hb h
theorem s_all {is : List Nat} {fuel : Nat} {listed : Array Bool} {a : Act} {w : World} (hr : Region.ready md ops listed = is) (hne : is ≠ []) (h : ∀ i ∈ is, OneS P md ops Q S Z i fuel listed a w) : AnyS P md ops Q S Z (fuel + 1) listed a w :=
  ⟨fun h0 => absurd (hr ▸ h0) hne, hr ▸ h⟩
theorem s_one {i : Nat} {fuel : Nat} {listed : Array Bool} {a : Act} {w : World} (hr : Region.ready md ops listed = [i]) (h : OneS P md ops Q S Z i fuel listed a w) : AnyS P md ops Q S Z (fuel + 1) listed a w :=
  s_all hr (by simp) fun j hj => by obtain rfl : j = i := by simpa using hj
                                    exact h
theorem s_done {fuel : Nat} {listed : Array Bool} {a : Act} {w : World} (hr : Region.ready md ops listed = []) (h : Q .normal a w) : AnyS P md ops Q S Z fuel listed a w := by
  cases fuel with
  | zero => exact ⟨hr, h⟩
  | succ fuel => exact ⟨fun _ => h, fun i hi => by rw [hr] at hi; cases hi⟩
theorem ones_run {i : Nat} {oi : Oper} {v : Value} {fuel : Nat} {listed : Array Bool} {a : Act} {w w' : World} (hi : ops[i]? = some oi)
    (hw : Region.wanted oi (yielded ops a.tmps) = true) (he : (execOp a.eval oi).run P w = .ok (.value v) w') (hb : i ∉ Z → S w')
    (h : AnyS P md ops Q S Z fuel (listed.setIfInBounds i true) (a.put oi.dst v) w') : OneS P md ops Q S Z i fuel listed a w := by
  refine wpOp_step hi (fun K hK => ?_)
  rw [if_pos hw]
  unfold Oper.wp
  rw [he]
  exact hK _ _ ⟨fun hh _ => hb hh, h⟩
theorem ones_same {i : Nat} {oi : Oper} {v : Value} {fuel : Nat} {listed : Array Bool} {a : Act} {w : World} (hi : ops[i]? = some oi)
    (hw : Region.wanted oi (yielded ops a.tmps) = true) (he : (execOp a.eval oi).run P w = .ok (.value v) w)
    (h : AnyS P md ops Q S Z fuel (listed.setIfInBounds i true) (a.put oi.dst v) w) : OneS P md ops Q S Z i fuel listed a w := by
  refine wpOp_step hi (fun K hK => ?_)
  rw [if_pos hw]
  unfold Oper.wp
  rw [he]
  exact hK _ _ ⟨fun _ hh => hh, h⟩
theorem ones_skip {i : Nat} {oi : Oper} {fuel : Nat} {listed : Array Bool} {a : Act} {w w' : World} (hi : ops[i]? = some oi)
    (hw : Region.wanted oi (yielded ops a.tmps) = true) (he : (execOp a.eval oi).run P w = .ok .skip w') (hb : i ∉ Z → S w')
    (h : AnyS P md ops Q S Z fuel (listed.setIfInBounds i true) (a.put oi.dst undef) w') : OneS P md ops Q S Z i fuel listed a w := by
  refine wpOp_step hi (fun K hK => ?_)
  rw [if_pos hw]
  unfold Oper.wp
  rw [he]
  exact hK _ _ ⟨fun hh _ => hb hh, h⟩
theorem ones_append_sl {α : Type} [Rep α] [Flat α] {e t : TypeId} {bytes : Nat} {i : Nat} {oi : Oper} {fuel : Nat} {listed : Array Bool} {a : Act} {w : World} (hi : ops[i]? = some oi)
    (hw : Region.wanted oi (yielded ops a.tmps) = true) (s x : Operand)
    (ho : oi.op = .call { callee := .builtin .append, args := #[s, x], argTypes := #[t, t] }) (hrow : Row P t e α bytes)
    (base : Nat) (v : Value) (l0 : List α) (hs : a.eval s = v) (hown : Own w base e v l0) (Bu : Nat) (u : Value) (l : List α) (hx : a.eval x = u) (hr : Sl w Bu u l)
    (hlen : l0.length + l.length ≤ maxLen) (hby : (l0.length + l.length) * bytes ≤ 140737488355328) (hbase : base ≤ w.heap.size) (hS : ∀ w', w.grownBy w' v.ownBlock → S w')
    (h : ∀ v' w', Own w' base e v' (l0 ++ l) → w.grownBy w' v.ownBlock → (v'.ownBlock = v.ownBlock ∨ v'.ownBlock = some w.heap.size) → AnyS P md ops Q S Z fuel (listed.setIfInBounds i true) (a.put oi.dst v') w') : OneS P md ops Q S Z i fuel listed a w := by
  obtain ⟨v', w', hrun, h2, h3, h4⟩ := run_append_sl (ty := oi.type) hrow hown hr hlen hby hbase
  refine ones_run hi hw ?_ (fun _ => hS w' h3) (h v' w' h2 h3 h4)
  unfold execOp
  simp only [ho, resolve, invoke, builtin, Sem.run_bind, Sem.run_pure, Result.andThen_ok, List.map_toArray, List.map_cons, List.map_nil, hs, hx, hrun]
end
end Go.Proofs.YtcacebkbfnnjbaaDoor

/-
  A region that draws its order, under a word of one's own on the world (XOrs): two or three that may come up, calls, append with what the old slice reads as. No program.
-/


namespace Go.Proofs.YtcacebkbfnnjbaaDoor
open Go.RowKit

section
variable {P : Program} {ops : Array Oper} {Q : Exit → Act → World → Prop} {md : Region.Mode} {Z : List Nat} {S : World → Prop}
theorem s_skip {i : Nat} {oi : Oper} {fuel : Nat} {listed : Array Bool} {a : Act} {w : World} (hi : ops[i]? = some oi)
    (hs : Region.noSelect ops = true) (hf : Region.free md ops listed i = true) (hr : (Region.ready md ops listed).contains i = true) (k0 : Nat) (hk0 : listed.getD k0 true = false) (hZ : waitsAll md ops Z k0 = true) (hki : k0 = i ∨ waitsAll md ops [k0] i = true)
    (hQ : ∀ c a w, Q (.panic c) (a.put oi.dst undef) w → Q (.panic c) a w) (hw : Region.wanted oi (yielded ops a.tmps) = false) (hb : S w)
    (h : AnyS P md ops Q S Z fuel (listed.setIfInBounds i true) (a.put oi.dst undef) w) : AnyS P md ops Q S Z (fuel + 1) listed a w :=
  wpAnyZ_first hi (Region.noSelect_spec hs) hQ k0 hZ hki fuel listed a w hk0 (Region.free_spec hi hf) (by simpa using hr) (.inr ⟨hw, rfl⟩) hb h
theorem s_two {i j : Nat} {fuel : Nat} {listed : Array Bool} {a : Act} {w : World} (hr : Region.ready md ops listed = [i, j]) (h : OneS P md ops Q S Z i fuel listed a w) (h2 : OneS P md ops Q S Z j fuel listed a w) : AnyS P md ops Q S Z (fuel + 1) listed a w :=
  s_all hr (by simp) fun k hk => by
    have hk : k = i ∨ k = j := by simpa using hk
    rcases hk with rfl | rfl
    · exact h
    · exact h2
theorem s_three {i j k : Nat} {fuel : Nat} {listed : Array Bool} {a : Act} {w : World} (hr : Region.ready md ops listed = [i, j, k]) (h : OneS P md ops Q S Z i fuel listed a w) (h2 : OneS P md ops Q S Z j fuel listed a w) (h3 : OneS P md ops Q S Z k fuel listed a w) : AnyS P md ops Q S Z (fuel + 1) listed a w :=
  s_all hr (by simp) fun m hm => by
    have hm : m = i ∨ m = j ∨ m = k := by simpa using hm
    rcases hm with rfl | rfl | rfl
    · exact h
    · exact h2
    · exact h3
theorem ones_call {i : Nat} {oi : Oper} {f : FuncId} {args : Array Value} {fuel : Nat} {listed : Array Bool} {a : Act} {w : World} (hi : ops[i]? = some oi)
    (hw : Region.wanted oi (yielded ops a.tmps) = true) (he : (execOp a.eval oi).run P w = .ok (.enter f args) w)
    (hc : Calls P f args w fun e w' => ∃ v, e = .returned v ∧ (i ∉ Z → S w') ∧ AnyS P md ops Q S Z fuel (listed.setIfInBounds i true) (a.put oi.dst v) w') : OneS P md ops Q S Z i fuel listed a w := by
  refine wpOp_step hi (fun K hK => ?_)
  rw [if_pos hw]
  unfold Oper.wp
  rw [he]
  refine hc.mono fun e w' ⟨v, h1, h2, h3⟩ => ?_
  subst h1
  exact hK _ _ ⟨fun h _ => h2 h, h3⟩
theorem ones_append_old {α : Type} [Rep α] [Flat α] {e t : TypeId} {bytes : Nat} {i : Nat} {oi : Oper} {fuel : Nat} {listed : Array Bool} {a : Act} {w : World} (hi : ops[i]? = some oi)
    (hw : Region.wanted oi (yielded ops a.tmps) = true) (s x : Operand)
    (ho : oi.op = .call { callee := .builtin .append, args := #[s, x], argTypes := #[t, t] }) (hrow : Row P t e α bytes)
    (base : Nat) (v : Value) (l0 : List α) (hs : a.eval s = v) (hown : Own w base e v l0) (Bu : Nat) (u : Value) (l : List α) (hx : a.eval x = u) (hr : Sl w Bu u l)
    (hlen : l0.length + l.length ≤ maxLen) (hby : (l0.length + l.length) * bytes ≤ 140737488355328) (hbase : base ≤ w.heap.size) (hS : ∀ w', w.grownBy w' v.ownBlock → S w')
    (h : ∀ v' w', Own w' base e v' (l0 ++ l) → Own w' base e v l0 → w.grownBy w' v.ownBlock → (v'.ownBlock = v.ownBlock ∨ v'.ownBlock = some w.heap.size) → AnyS P md ops Q S Z fuel (listed.setIfInBounds i true) (a.put oi.dst v') w') : OneS P md ops Q S Z i fuel listed a w := by
  obtain ⟨v', w', hrun, h2, h3, h4⟩ := run_append_sl (ty := oi.type) hrow hown hr hlen hby hbase
  have h5 := run_append_old hrow hown hr hlen hby hrun
  refine ones_run hi hw ?_ (fun _ => hS w' h3) (h v' w' h2 h5 h3 h4)
  unfold execOp
  simp only [ho, resolve, invoke, builtin, Sem.run_bind, Sem.run_pure, Result.andThen_ok, List.map_toArray, List.map_cons, List.map_nil, hs, hx, hrun]
end
end Go.Proofs.YtcacebkbfnnjbaaDoor
