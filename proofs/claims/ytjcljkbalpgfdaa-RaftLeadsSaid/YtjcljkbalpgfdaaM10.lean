/-
  Parts that the statement rests on, joined: Orz, Ors, Orzm.
-/
import Derived.Test.YtjcljkbalpgfdaaM1
import Derived.Below
import Derived.Tactics
import Derived.Tactics2
import Derived.OrdersHeld
import Derived.RegionTactic
import Derived.KernelRfl
import Derived.OwnWalk
/-
  A region that draws its order, whose last operations (Z) store into what was there: what reads what was there is taken first, calls and what makes memory come up as they may; behind the operations of Z nothing is asked of the world. No program.
-/







namespace Go.Proofs.Ytjcljkbalpgfdaa
open Go.RowKit

section
variable {P : Program} {ops : Array Oper} {Q : Exit → Act → World → Prop} {md : Region.Mode} {S : World → Prop} {Z : List Nat}

/-- Whatever order is picked; S holds behind every operation that is none of Z. -/
def wpAnyZ (P : Program) (md : Region.Mode) (ops : Array Oper) (Q : Exit → Act → World → Prop) (S : World → Prop) (Z : List Nat) : Nat → Array Bool → Act → World → Prop
  | 0, listed, a, w => Region.ready md ops listed = [] ∧ Q .normal a w
  | fuel + 1, listed, a, w =>
    (Region.ready md ops listed = [] → Q .normal a w) ∧
    ∀ i ∈ Region.ready md ops listed, wpOp P ops Q i (fun a' w' => (i ∉ Z → S w → S w') ∧ wpAnyZ P md ops Q S Z fuel (listed.setIfInBounds i true) a' w') a w
theorem wpAny_of_z : ∀ (fuel : Nat) (listed : Array Bool) (a : Act) (w : World), wpAnyZ P md ops Q S Z fuel listed a w → wpAny P md ops Q fuel listed a w
  | 0, _, _, _, h => h
  | fuel + 1, _, _, _, h => ⟨h.1, fun i hi => wpOp_mono (fun a' w' h' => wpAny_of_z fuel _ a' w' h'.2) (h.2 i hi)⟩
/-- Each of Z waits for number i. -/
def waitsAll (md : Region.Mode) (ops : Array Oper) (Z : List Nat) (i : Nat) : Bool := Z.all fun z => match ops[z]? with
  | some o => o.after.any fun e => Region.binds md e && e.on == i
  | none => false
theorem waits_spec {i z : Nat} {oz : Oper} (h : waitsAll md ops Z i = true) (hz : z ∈ Z) (ho : ops[z]? = some oz) : ∃ e ∈ oz.after, Region.binds md e = true ∧ e.on = i := by
  have := List.all_eq_true.1 h z hz
  rw [ho] at this
  simp only [Array.any_eq_true] at this
  obtain ⟨k, hk, hb⟩ := this
  simp only [Bool.and_eq_true, beq_iff_eq] at hb
  exact ⟨_, Array.getElem_mem hk, hb.1, hb.2⟩

theorem wpAnyZ_first {i : Nat} {oi : Oper} {v : Value} (hi : ops[i]? = some oi) (hsel : ∀ (j : Nat) (o : Oper) cs b, ops[j]? = some o → o.op ≠ .select cs b)
    (hQ : ∀ c a w, Q (.panic c) (a.put oi.dst v) w → Q (.panic c) a w) (k0 : Nat) (hZ : waitsAll md ops Z k0 = true) (hki : k0 = i ∨ waitsAll md ops [k0] i = true) :
    ∀ (fuel : Nat) (listed : Array Bool) (a : Act) (w : World), listed.getD k0 true = false →
      (∀ j oj, ops[j]? = some oj → j ≠ i → listed.getD j true = false → (∀ e ∈ oj.after, Region.binds md e = true → e.on ≠ i) → oi.apart ops oj = true) →
      i ∈ Region.ready md ops listed → YieldsIf P ops S oi v a → S w →
      wpAnyZ P md ops Q S Z fuel (listed.setIfInBounds i true) (a.put oi.dst v) w → wpAnyZ P md ops Q S Z (fuel + 1) listed a w := by
  intro fuel
  induction fuel with
  | zero =>
    intro listed a w _ _ hr hy hS H
    refine ⟨fun h => (by rw [h] at hr; cases hr), fun j hj => ?_⟩
    by_cases hji : j = i
    · subst hji; exact hy.wpOp hi hS ⟨fun _ _ => hS, H⟩
    · have := ready_mono hj hji
      rw [H.1] at this
      cases this
  | succ fuel ih =>
    intro listed a w hk0 hfree hr hy hS H
    refine ⟨fun h => (by rw [h] at hr; cases hr), fun j hj => ?_⟩
    by_cases hji : j = i
    · subst hji; exact hy.wpOp hi hS ⟨fun _ _ => hS, H⟩
    · have h1 := H.2 j (ready_mono hj hji)
      obtain ⟨hjun, oj, hoj, hall⟩ := mem_ready.1 hj
      have hnot : ∀ e ∈ oj.after, Region.binds md e = true → e.on ≠ i := fun e he hb heq => by
        have h1 := hall e he hb
        have h0 := (mem_ready.1 hr).1
        rw [heq] at h1
        rcases Nat.lt_or_ge i listed.size with h' | h'
        · simp [h'] at h0 h1; rw [h0] at h1; cases h1
        · simp [Array.getElem?_eq_none h'] at h1
      have hjZ : j ∉ Z := fun hz => by
        obtain ⟨e, he, hb, heq⟩ := waits_spec hZ hz hoj
        have h1 := hall e he hb
        rw [heq] at h1
        rcases Nat.lt_or_ge k0 listed.size with h' | h'
        · simp [h'] at hk0 h1; rw [hk0] at h1; cases h1
        · simp [Array.getElem?_eq_none h'] at h1
      have hjk0 : j ≠ k0 := fun hjk => by
        rcases hki with hki | hki
        · exact hji (hjk.trans hki)
        · subst hjk
          obtain ⟨e, he, hb, heq⟩ := waits_spec hki (by simp) hoj
          exact hnot e he hb heq
      have hk0' : (listed.setIfInBounds j true).getD k0 true = false := by rw [getD_set_ne true hjk0]; exact hk0
      have h2 := wpOp_putIf hoj (hfree j oj hoj hji hjun hnot) (fun cs b => hsel i oi cs b hi) (fun cs b => hsel j oj cs b hoj) hQ hy h1
      have hfree' : ∀ k ok, ops[k]? = some ok → k ≠ i → (listed.setIfInBounds j true).getD k true = false →
          (∀ e ∈ ok.after, Region.binds md e = true → e.on ≠ i) → oi.apart ops ok = true := fun k ok hk hki hun hno => by
        refine hfree k ok hk hki ?_ hno
        by_cases hjk : j = k
        · subst hjk; exact hjun
        · rw [getD_set_ne true hjk] at hun; exact hun
      refine wpOp_mono (fun a' w' h3 => ⟨fun _ _ => h3.2.1 hjZ hS, ih (listed.setIfInBounds j true) a' w' hk0' hfree' (ready_mono hr (Ne.symm hji)) h3.1 (h3.2.1 hjZ hS) ?_⟩) h2
      rw [Array.setIfInBounds_comm _ _ hji]
      exact h3.2.2

/-- What is left of a region: but for the operations of Z, below block B the world stays as it is in w0. -/
def AnyZ (P : Program) (md : Region.Mode) (ops : Array Oper) (Q : Exit → Act → World → Prop) (B : Nat) (w0 : World) (Z : List Nat) (fuel : Nat) (listed : Array Bool) (a : Act) (w : World) : Prop :=
  wpAnyZ P md ops Q (fun w' => Below B w0 w') Z fuel listed a w
/-- What is left when number i comes up. -/
def OneZ (P : Program) (md : Region.Mode) (ops : Array Oper) (Q : Exit → Act → World → Prop) (B : Nat) (w0 : World) (Z : List Nat) (i fuel : Nat) (listed : Array Bool) (a : Act) (w : World) : Prop :=
  wpOp P ops Q i (fun a' w' => (i ∉ Z → Below B w0 w → Below B w0 w') ∧ AnyZ P md ops Q B w0 Z fuel (listed.setIfInBounds i true) a' w') a w
variable {B : Nat} {w0 : World}

theorem z_start {id : Nat} {a : Act} {w : World} (B : Nat) (Z : List Nat) (hm : P.follows .mixedOrders = true) (h : AnyZ P .any ops Q B w.drew Z ops.size (Array.replicate ops.size false) a w.drew) : (Code.region id ops true).wp P Q a w :=
  wp_region_any hm (wpAny_of_z _ _ _ _ h)
theorem z_take {i : Nat} {oi : Oper} {v : Value} {fuel : Nat} {listed : Array Bool} {a : Act} {w : World} (hi : ops[i]? = some oi)
    (hs : Region.noSelect ops = true) (hf : Region.free md ops listed i = true) (hr : (Region.ready md ops listed).contains i = true) (k0 : Nat) (hk0 : listed.getD k0 true = false) (hZ : waitsAll md ops Z k0 = true) (hki : k0 = i ∨ waitsAll md ops [k0] i = true)
    (hQ : ∀ c a w, Q (.panic c) (a.put oi.dst v) w → Q (.panic c) a w) (hw : Region.wanted oi (yielded ops a.tmps) = true) (hb : Below B w0 w)
    (hy : ∀ w', Below B w0 w' → (execOp a.eval oi).run P w' = .ok (.value v) w')
    (h : AnyZ P md ops Q B w0 Z fuel (listed.setIfInBounds i true) (a.put oi.dst v) w) : AnyZ P md ops Q B w0 Z (fuel + 1) listed a w :=
  wpAnyZ_first hi (Region.noSelect_spec hs) hQ k0 hZ hki fuel listed a w hk0 (Region.free_spec hi hf) (by simpa using hr) (.inl ⟨hw, hy⟩) hb h
theorem z_skip {i : Nat} {oi : Oper} {fuel : Nat} {listed : Array Bool} {a : Act} {w : World} (hi : ops[i]? = some oi)
    (hs : Region.noSelect ops = true) (hf : Region.free md ops listed i = true) (hr : (Region.ready md ops listed).contains i = true) (k0 : Nat) (hk0 : listed.getD k0 true = false) (hZ : waitsAll md ops Z k0 = true) (hki : k0 = i ∨ waitsAll md ops [k0] i = true)
    (hQ : ∀ c a w, Q (.panic c) (a.put oi.dst undef) w → Q (.panic c) a w) (hw : Region.wanted oi (yielded ops a.tmps) = false) (hb : Below B w0 w)
    (h : AnyZ P md ops Q B w0 Z fuel (listed.setIfInBounds i true) (a.put oi.dst undef) w) : AnyZ P md ops Q B w0 Z (fuel + 1) listed a w :=
  wpAnyZ_first hi (Region.noSelect_spec hs) hQ k0 hZ hki fuel listed a w hk0 (Region.free_spec hi hf) (by simpa using hr) (.inr ⟨hw, rfl⟩) hb h
theorem z_all {is : List Nat} {fuel : Nat} {listed : Array Bool} {a : Act} {w : World} (hr : Region.ready md ops listed = is) (hne : is ≠ []) (h : ∀ i ∈ is, OneZ P md ops Q B w0 Z i fuel listed a w) : AnyZ P md ops Q B w0 Z (fuel + 1) listed a w :=
  ⟨fun h0 => absurd (hr ▸ h0) hne, hr ▸ h⟩
theorem z_one {i : Nat} {fuel : Nat} {listed : Array Bool} {a : Act} {w : World} (hr : Region.ready md ops listed = [i]) (h : OneZ P md ops Q B w0 Z i fuel listed a w) : AnyZ P md ops Q B w0 Z (fuel + 1) listed a w :=
  z_all hr (by simp) fun j hj => by obtain rfl : j = i := by simpa using hj
                                    exact h
theorem z_two {i j : Nat} {fuel : Nat} {listed : Array Bool} {a : Act} {w : World} (hr : Region.ready md ops listed = [i, j]) (h : OneZ P md ops Q B w0 Z i fuel listed a w) (h2 : OneZ P md ops Q B w0 Z j fuel listed a w) : AnyZ P md ops Q B w0 Z (fuel + 1) listed a w :=
  z_all hr (by simp) fun k hk => by
    have hk : k = i ∨ k = j := by simpa using hk
    rcases hk with rfl | rfl
    · exact h
    · exact h2
theorem z_done {fuel : Nat} {listed : Array Bool} {a : Act} {w : World} (hr : Region.ready md ops listed = []) (h : Q .normal a w) : AnyZ P md ops Q B w0 Z fuel listed a w := by
  cases fuel with
  | zero => exact ⟨hr, h⟩
  | succ fuel => exact ⟨fun _ => h, fun i hi => by rw [hr] at hi; cases hi⟩
theorem onez_call {i : Nat} {oi : Oper} {f : FuncId} {args : Array Value} {fuel : Nat} {listed : Array Bool} {a : Act} {w : World} (hi : ops[i]? = some oi)
    (hw : Region.wanted oi (yielded ops a.tmps) = true) (he : (execOp a.eval oi).run P w = .ok (.enter f args) w)
    (hc : Calls P f args w fun e w' => ∃ v, e = .returned v ∧ (i ∉ Z → Below B w0 w') ∧ AnyZ P md ops Q B w0 Z fuel (listed.setIfInBounds i true) (a.put oi.dst v) w') : OneZ P md ops Q B w0 Z i fuel listed a w := by
  refine wpOp_step hi (fun K hK => ?_)
  rw [if_pos hw]
  unfold Oper.wp
  rw [he]
  refine hc.mono fun e w' ⟨v, h1, h2, h3⟩ => ?_
  subst h1
  exact hK _ _ ⟨fun h _ => h2 h, h3⟩
theorem onez_run {i : Nat} {oi : Oper} {v : Value} {fuel : Nat} {listed : Array Bool} {a : Act} {w w' : World} (hi : ops[i]? = some oi)
    (hw : Region.wanted oi (yielded ops a.tmps) = true) (he : (execOp a.eval oi).run P w = .ok (.value v) w') (hb : i ∉ Z → Below B w0 w')
    (h : AnyZ P md ops Q B w0 Z fuel (listed.setIfInBounds i true) (a.put oi.dst v) w') : OneZ P md ops Q B w0 Z i fuel listed a w := by
  refine wpOp_step hi (fun K hK => ?_)
  rw [if_pos hw]
  unfold Oper.wp
  rw [he]
  exact hK _ _ ⟨fun hh _ => hb hh, h⟩
/-- What leaves the world as it is may come at any time. -/
theorem onez_same {i : Nat} {oi : Oper} {v : Value} {fuel : Nat} {listed : Array Bool} {a : Act} {w : World} (hi : ops[i]? = some oi)
    (hw : Region.wanted oi (yielded ops a.tmps) = true) (he : (execOp a.eval oi).run P w = .ok (.value v) w)
    (h : AnyZ P md ops Q B w0 Z fuel (listed.setIfInBounds i true) (a.put oi.dst v) w) : OneZ P md ops Q B w0 Z i fuel listed a w := by
  refine wpOp_step hi (fun K hK => ?_)
  rw [if_pos hw]
  unfold Oper.wp
  rw [he]
  exact hK _ _ ⟨fun _ hh => hh, h⟩
theorem onez_skip {i : Nat} {oi : Oper} {fuel : Nat} {listed : Array Bool} {a : Act} {w w' : World} (hi : ops[i]? = some oi)
    (hw : Region.wanted oi (yielded ops a.tmps) = true) (he : (execOp a.eval oi).run P w = .ok .skip w') (hb : i ∉ Z → Below B w0 w')
    (h : AnyZ P md ops Q B w0 Z fuel (listed.setIfInBounds i true) (a.put oi.dst undef) w') : OneZ P md ops Q B w0 Z i fuel listed a w := by
  refine wpOp_step hi (fun K hK => ?_)
  rw [if_pos hw]
  unfold Oper.wp
  rw [he]
  exact hK _ _ ⟨fun hh _ => hb hh, h⟩
theorem onez_append_sl {α : Type} [Rep α] [Flat α] {e t : TypeId} {bytes : Nat} {i : Nat} {oi : Oper} {fuel : Nat} {listed : Array Bool} {a : Act} {w : World} (hi : ops[i]? = some oi)
    (hw : Region.wanted oi (yielded ops a.tmps) = true) (s x : Operand)
    (ho : oi.op = .call { callee := .builtin .append, args := #[s, x], argTypes := #[t, t] }) (hrow : Row P t e α bytes)
    (base : Nat) (v : Value) (l0 : List α) (hs : a.eval s = v) (hown : Own w base e v l0) (Bu : Nat) (u : Value) (l : List α) (hx : a.eval x = u) (hr : Sl w Bu u l)
    (hlen : l0.length + l.length ≤ maxLen) (hby : (l0.length + l.length) * bytes ≤ 140737488355328) (hbase : base ≤ w.heap.size) (hB : B ≤ base) (hb0 : Below B w0 w)
    (h : ∀ v' w', Own w' base e v' (l0 ++ l) → w.grownBy w' v.ownBlock → Below B w w' → AnyZ P md ops Q B w0 Z fuel (listed.setIfInBounds i true) (a.put oi.dst v') w') : OneZ P md ops Q B w0 Z i fuel listed a w := by
  obtain ⟨v', w', hrun, h2, h3, h4⟩ := run_append_sl (ty := oi.type) hrow hown hr hlen hby hbase
  have hb : Below B w w' := (Below.refl B w).grown h3 (Nat.le_trans hB hbase) (fun k hk => Nat.le_trans hB (hown.lt k hk).1)
  refine onez_run hi hw ?_ (fun _ => hb0.trans hb) (h v' w' h2 h3 hb)
  unfold execOp
  simp only [ho, resolve, invoke, builtin, Sem.run_bind, Sem.run_pure, Result.andThen_ok, List.map_toArray, List.map_cons, List.map_nil, hs, hx, hrun]
end
end Go.Proofs.Ytjcljkbalpgfdaa

/-
  A region that draws its order, walked under a word of one's own on the world (XOrz, with any S in place of 'Below'): a slice of the call's own that was there is appended to. No program.
-/

namespace Go.Proofs.Ytjcljkbalpgfdaa
open Go.RowKit

section
variable {P : Program} {ops : Array Oper} {Q : Exit → Act → World → Prop} {md : Region.Mode} {Z : List Nat} {S : World → Prop}
def AnyS (P : Program) (md : Region.Mode) (ops : Array Oper) (Q : Exit → Act → World → Prop) (S : World → Prop) (Z : List Nat) (fuel : Nat) (listed : Array Bool) (a : Act) (w : World) : Prop :=
  wpAnyZ P md ops Q S Z fuel listed a w
def OneS (P : Program) (md : Region.Mode) (ops : Array Oper) (Q : Exit → Act → World → Prop) (S : World → Prop) (Z : List Nat) (i fuel : Nat) (listed : Array Bool) (a : Act) (w : World) : Prop :=
  wpOp P ops Q i (fun a' w' => (i ∉ Z → S w → S w') ∧ AnyS P md ops Q S Z fuel (listed.setIfInBounds i true) a' w') a w
theorem s_start {id : Nat} {a : Act} {w : World} (S : World → Prop) (Z : List Nat) (hm : P.follows .mixedOrders = true) (h : AnyS P .any ops Q S Z ops.size (Array.replicate ops.size false) a w.drew) : (Code.region id ops true).wp P Q a w :=
  wp_region_any hm (wpAny_of_z _ _ _ _ h)
theorem s_take {i : Nat} {oi : Oper} {v : Value} {fuel : Nat} {listed : Array Bool} {a : Act} {w : World} (hi : ops[i]? = some oi)
    (hs : Region.noSelect ops = true) (hf : Region.free md ops listed i = true) (hr : (Region.ready md ops listed).contains i = true) (k0 : Nat) (hk0 : listed.getD k0 true = false) (hZ : waitsAll md ops Z k0 = true) (hki : k0 = i ∨ waitsAll md ops [k0] i = true)
    (hQ : ∀ c a w, Q (.panic c) (a.put oi.dst v) w → Q (.panic c) a w) (hw : Region.wanted oi (yielded ops a.tmps) = true) (hb : S w)
    (hy : ∀ w', S w' → (execOp a.eval oi).run P w' = .ok (.value v) w')
    (h : AnyS P md ops Q S Z fuel (listed.setIfInBounds i true) (a.put oi.dst v) w) : AnyS P md ops Q S Z (fuel + 1) listed a w :=
  wpAnyZ_first hi (Region.noSelect_spec hs) hQ k0 hZ hki fuel listed a w hk0 (Region.free_spec hi hf) (by simpa using hr) (.inl ⟨hw, hy⟩) hb h
theorem s_all {is : List Nat} {fuel : Nat} {listed : Array Bool} {a : Act} {w : World} (hr : Region.ready md ops listed = is) (hne : is ≠ []) (h : ∀ i ∈ is, OneS P md ops Q S Z i fuel listed a w) : AnyS P md ops Q S Z (fuel + 1) listed a w :=
  ⟨fun h0 => absurd (hr ▸ h0) hne, hr ▸ h⟩
theorem s_one {i : Nat} {fuel : Nat} {listed : Array Bool} {a : Act} {w : World} (hr : Region.ready md ops listed = [i]) (h : OneS P md ops Q S Z i fuel listed a w) : AnyS P md ops Q S Z (fuel + 1) listed a w :=
  s_all hr (by simp) fun j hj => by obtain rfl : j = i := by simpa using hj
                                    exact h
theorem s_done {fuel : Nat} {listed : Array Bool} {a : Act} {w : World} (hr : Region.ready md ops listed = []) (h : Q .normal a w) : AnyS P md ops Q S Z fuel listed a w := by
  cases fuel with
  | zero => exact ⟨hr, h⟩
  | succ fuel => exact ⟨fun _ => h, fun i hi => by rw [hr] at hi; cases hi⟩
theorem ones_run {i : Nat} {oi : Oper} {v : Value} {fuel : Nat} {listed : Array Bool} {a : Act} {w w' : World} (hi : ops[i]? = some oi)
    (hw : Region.wanted oi (yielded ops a.tmps) = true) (he : (execOp a.eval oi).run P w = .ok (.value v) w') (hb : i ∉ Z → S w')
    (h : AnyS P md ops Q S Z fuel (listed.setIfInBounds i true) (a.put oi.dst v) w') : OneS P md ops Q S Z i fuel listed a w := by
  refine wpOp_step hi (fun K hK => ?_)
  rw [if_pos hw]
  unfold Oper.wp
  rw [he]
  exact hK _ _ ⟨fun hh _ => hb hh, h⟩
theorem ones_same {i : Nat} {oi : Oper} {v : Value} {fuel : Nat} {listed : Array Bool} {a : Act} {w : World} (hi : ops[i]? = some oi)
    (hw : Region.wanted oi (yielded ops a.tmps) = true) (he : (execOp a.eval oi).run P w = .ok (.value v) w)
    (h : AnyS P md ops Q S Z fuel (listed.setIfInBounds i true) (a.put oi.dst v) w) : OneS P md ops Q S Z i fuel listed a w := by
  refine wpOp_step hi (fun K hK => ?_)
  rw [if_pos hw]
  unfold Oper.wp
  rw [he]
  exact hK _ _ ⟨fun _ hh => hh, h⟩
theorem ones_skip {i : Nat} {oi : Oper} {fuel : Nat} {listed : Array Bool} {a : Act} {w w' : World} (hi : ops[i]? = some oi)
    (hw : Region.wanted oi (yielded ops a.tmps) = true) (he : (execOp a.eval oi).run P w = .ok .skip w') (hb : i ∉ Z → S w')
    (h : AnyS P md ops Q S Z fuel (listed.setIfInBounds i true) (a.put oi.dst undef) w') : OneS P md ops Q S Z i fuel listed a w := by
  refine wpOp_step hi (fun K hK => ?_)
  rw [if_pos hw]
  unfold Oper.wp
  rw [he]
  exact hK _ _ ⟨fun hh _ => hb hh, h⟩
theorem ones_append_sl {α : Type} [Rep α] [Flat α] {e t : TypeId} {bytes : Nat} {i : Nat} {oi : Oper} {fuel : Nat} {listed : Array Bool} {a : Act} {w : World} (hi : ops[i]? = some oi)
    (hw : Region.wanted oi (yielded ops a.tmps) = true) (s x : Operand)
    (ho : oi.op = .call { callee := .builtin .append, args := #[s, x], argTypes := #[t, t] }) (hrow : Row P t e α bytes)
    (base : Nat) (v : Value) (l0 : List α) (hs : a.eval s = v) (hown : Own w base e v l0) (Bu : Nat) (u : Value) (l : List α) (hx : a.eval x = u) (hr : Sl w Bu u l)
    (hlen : l0.length + l.length ≤ maxLen) (hby : (l0.length + l.length) * bytes ≤ 140737488355328) (hbase : base ≤ w.heap.size) (hS : ∀ w', w.grownBy w' v.ownBlock → S w')
    (h : ∀ v' w', Own w' base e v' (l0 ++ l) → w.grownBy w' v.ownBlock → (v'.ownBlock = v.ownBlock ∨ v'.ownBlock = some w.heap.size) → AnyS P md ops Q S Z fuel (listed.setIfInBounds i true) (a.put oi.dst v') w') : OneS P md ops Q S Z i fuel listed a w := by
  obtain ⟨v', w', hrun, h2, h3, h4⟩ := run_append_sl (ty := oi.type) hrow hown hr hlen hby hbase
  refine ones_run hi hw ?_ (fun _ => hS w' h3) (h v' w' h2 h3 h4)
  unfold execOp
  simp only [ho, resolve, invoke, builtin, Sem.run_bind, Sem.run_pure, Result.andThen_ok, List.map_toArray, List.map_cons, List.map_nil, hs, hx, hrun]
end
end Go.Proofs.Ytjcljkbalpgfdaa

/-
  A region that draws its order (XOrz): what makes rows, and three that may come up. No program.
-/


namespace Go.Proofs.Ytjcljkbalpgfdaa
open Go.RowKit

section
variable {P : Program} {ops : Array Oper} {Q : Exit → Act → World → Prop} {md : Region.Mode} {Z : List Nat} {B : Nat} {w0 : World}
theorem z_three {i j k : Nat} {fuel : Nat} {listed : Array Bool} {a : Act} {w : World} (hr : Region.ready md ops listed = [i, j, k]) (h : OneZ P md ops Q B w0 Z i fuel listed a w) (h2 : OneZ P md ops Q B w0 Z j fuel listed a w) (h3 : OneZ P md ops Q B w0 Z k fuel listed a w) : AnyZ P md ops Q B w0 Z (fuel + 1) listed a w :=
  z_all hr (by simp) fun m hm => by
    have hm : m = i ∨ m = j ∨ m = k := by simpa using hm
    rcases hm with rfl | rfl | rfl
    · exact h
    · exact h2
    · exact h3
theorem onez_make_sl {α : Type} [Rep α] [Flat α] {e t : TypeId} {bytes : Nat} {a0 : α} {i : Nat} {oi : Oper} {fuel : Nat} {listed : Array Bool} {a : Act} {w : World} (hi : ops[i]? = some oi)
    (hw : Region.wanted oi (yielded ops a.tmps) = true) (hrow : RowZ P t e bytes a0) (h0 : Flat.wf a0) (l c : Operand) (hop : oi.op = Op.makeSlice t l c)
    (kl kc : IntKind) (L C : Int) (n : Nat) (hl : a.eval l = .int kl L) (hc : a.eval c = .int kc C) (hL : L = (n : Int)) (hC : C = (n : Int))
    (b2 : bytes * n ≤ 281474976710656) (b3 : n ≤ maxLen) (hB : B ≤ w.heap.size) (hb0 : Below B w0 w)
    (h : ∀ w', Own w' w.heap.size e (.slice (some ⟨w.heap.size, 0, none⟩) n n) (List.replicate n a0) → Below w.heap.size w w' → AnyZ P md ops Q B w0 Z fuel (listed.setIfInBounds i true) (a.put oi.dst (.slice (some ⟨w.heap.size, 0, none⟩) n n)) w') : OneZ P md ops Q B w0 Z i fuel listed a w := by
  obtain ⟨h1, ii, z, h2, h3, h4, h5, h6⟩ := hrow
  have hlen := flat_len a0 h0
  rw [h6, Array.length_toList] at hlen
  obtain ⟨w', hrun, r1, r2⟩ := run_make_full (P := P) w w.heap.size t e ii z (Rep.sz α) h1 h2 h3 h4 kl kc n (by rw [h5]; exact b2) b3 (Nat.le_refl _)
  have hb : Below w.heap.size w w' := (Below.refl _ w).grown r2 (Nat.le_refl _) (fun k hk => by cases hk)
  subst hL
  subst hC
  refine onez_run hi hw ?_ (fun _ => hb0.trans (hb.mono hB)) (h w' ⟨?_, fun a ha => by rw [(List.mem_replicate.1 ha).2]; exact h0⟩ hb)
  · simp [execOp, hop, hl, hc, hrun, Result.andThen]
  · rw [← hlen, made_list, hlen, ← h6] at r1
    have e2 : cells (List.replicate n a0) = (List.replicate n (Flat.enc a0)).flatten := by simp [cells, List.flatMap, List.map_replicate]
    rw [List.length_replicate, e2]
    exact r1
end
end Go.Proofs.Ytjcljkbalpgfdaa
