/-
  A region that draws its order, makes memory, stores and calls, walked in every order that may be, up to one condition behind it (a cut): below a block B all stays; what reads there alone is taken first. No program.
-/
import Derived.Below
import Derived.Tactics
import Derived.Tactics2
import Derived.OrdersHeld
import Derived.RegionTactic
import Derived.KernelRfl
namespace Go.Proofs.Ytdgfopiagfibkaa
open Go.RowKit

/-- Nothing but falling off the end, with J. -/
def Norm (J : Act → World → Prop) : Exit → Act → World → Prop
  | .normal, a, w => J a w
  | _, _, _ => False

section
variable {P : Program} {ops : Array Oper} {Q : Exit → Act → World → Prop} {md : Region.Mode}

theorem wp_cut {c : Code} {J : Act → World → Prop} {a : Act} {w : World} (h : c.wp P (Norm J) a w) (hJ : ∀ a w, J a w → Q .normal a w) : c.wp P Q a w :=
  Code.wp_mono (by
    intro e a w h
    cases e <;> first | exact hJ _ _ h | exact h.elim) h

/-- What is left of a region: below block B the world stays as it is in w. -/
def AnyB (P : Program) (md : Region.Mode) (ops : Array Oper) (Q : Exit → Act → World → Prop) (B : Nat) (fuel : Nat) (listed : Array Bool) (a : Act) (w : World) : Prop :=
  wpAnyH P md ops Q (fun w' => Below B w w') fuel listed a w
/-- What is left when number i comes up. -/
def OneB (P : Program) (md : Region.Mode) (ops : Array Oper) (Q : Exit → Act → World → Prop) (B : Nat) (i fuel : Nat) (listed : Array Bool) (a : Act) (w : World) : Prop :=
  wpOp P ops Q i (fun a' w' => Below B w w' ∧ AnyB P md ops Q B fuel (listed.setIfInBounds i true) a' w') a w

theorem heldB_weaken {S S' : World → Prop} (hS : ∀ w, S' w → S w) : ∀ (fuel : Nat) (listed : Array Bool) (a : Act) (w : World), wpAnyH P md ops Q S' fuel listed a w → wpAnyH P md ops Q S fuel listed a w
  | 0, _, _, _, h => h
  | fuel + 1, _, _, _, h => ⟨h.1, fun i hi => wpOp_mono (fun a w hh => ⟨hS _ hh.1, heldB_weaken hS fuel _ a w hh.2⟩) (h.2 i hi)⟩

theorem b_start {id : Nat} {a : Act} {w : World} (B : Nat) (hm : P.follows .mixedOrders = true) (h : AnyB P .any ops Q B ops.size (Array.replicate ops.size false) a w.drew) : (Code.region id ops true).wp P Q a w :=
  wp_region_held hm h
theorem b_take {B i : Nat} {oi : Oper} {v : Value} {fuel : Nat} {listed : Array Bool} {a : Act} {w : World} (hi : ops[i]? = some oi)
    (hs : Region.noSelect ops = true) (hf : Region.free md ops listed i = true) (hr : (Region.ready md ops listed).contains i = true)
    (hQ : ∀ c a w, Q (.panic c) (a.put oi.dst v) w → Q (.panic c) a w) (hw : Region.wanted oi (yielded ops a.tmps) = true)
    (hy : ∀ w', Below B w w' → (execOp a.eval oi).run P w' = .ok (.value v) w')
    (h : AnyB P md ops Q B fuel (listed.setIfInBounds i true) (a.put oi.dst v) w) : AnyB P md ops Q B (fuel + 1) listed a w :=
  wpAnyH_take hi hs hf hr hQ (.inl ⟨hw, hy⟩) (Below.refl _ _) h
theorem b_skip {B i : Nat} {oi : Oper} {fuel : Nat} {listed : Array Bool} {a : Act} {w : World} (hi : ops[i]? = some oi)
    (hs : Region.noSelect ops = true) (hf : Region.free md ops listed i = true) (hr : (Region.ready md ops listed).contains i = true)
    (hQ : ∀ c a w, Q (.panic c) (a.put oi.dst undef) w → Q (.panic c) a w) (hw : Region.wanted oi (yielded ops a.tmps) = false)
    (h : AnyB P md ops Q B fuel (listed.setIfInBounds i true) (a.put oi.dst undef) w) : AnyB P md ops Q B (fuel + 1) listed a w :=
  wpAnyH_take hi hs hf hr hQ (.inr ⟨hw, rfl⟩) (Below.refl _ _) h
theorem b_all {B : Nat} {is : List Nat} {fuel : Nat} {listed : Array Bool} {a : Act} {w : World} (hr : Region.ready md ops listed = is) (hne : is ≠ []) (h : ∀ i ∈ is, OneB P md ops Q B i fuel listed a w) : AnyB P md ops Q B (fuel + 1) listed a w :=
  wpAnyH_all hr hne fun i hi => wpOp_mono (fun _ _ hh => ⟨hh.1, heldB_weaken (fun _ h => hh.1.trans h) fuel _ _ _ hh.2⟩) (h i hi)
theorem b_one {B i : Nat} {fuel : Nat} {listed : Array Bool} {a : Act} {w : World} (hr : Region.ready md ops listed = [i]) (h : OneB P md ops Q B i fuel listed a w) : AnyB P md ops Q B (fuel + 1) listed a w :=
  b_all hr (by simp) fun j hj => by obtain rfl : j = i := by simpa using hj
                                    exact h
theorem b_two {B i j : Nat} {fuel : Nat} {listed : Array Bool} {a : Act} {w : World} (hr : Region.ready md ops listed = [i, j]) (h : OneB P md ops Q B i fuel listed a w) (h2 : OneB P md ops Q B j fuel listed a w) : AnyB P md ops Q B (fuel + 1) listed a w :=
  b_all hr (by simp) fun k hk => by
    have hk : k = i ∨ k = j := by simpa using hk
    rcases hk with rfl | rfl
    · exact h
    · exact h2
theorem b_done {B : Nat} {fuel : Nat} {listed : Array Bool} {a : Act} {w : World} (hr : Region.ready md ops listed = []) (h : Q .normal a w) : AnyB P md ops Q B fuel listed a w := wpAnyH_done hr h fuel
theorem one_call {B i : Nat} {oi : Oper} {f : FuncId} {args : Array Value} {fuel : Nat} {listed : Array Bool} {a : Act} {w : World} (hi : ops[i]? = some oi)
    (hw : Region.wanted oi (yielded ops a.tmps) = true) (he : (execOp a.eval oi).run P w = .ok (.enter f args) w)
    (hc : Calls P f args w fun e w' => ∃ v, e = .returned v ∧ Below B w w' ∧ AnyB P md ops Q B fuel (listed.setIfInBounds i true) (a.put oi.dst v) w') : OneB P md ops Q B i fuel listed a w := by
  refine wpOp_step hi (fun K hK => ?_)
  rw [if_pos hw]
  unfold Oper.wp
  rw [he]
  refine hc.mono fun e w' ⟨v, h1, h2, h3⟩ => ?_
  subst h1
  exact hK _ _ ⟨h2, h3⟩
theorem one_run {B i : Nat} {oi : Oper} {v : Value} {fuel : Nat} {listed : Array Bool} {a : Act} {w w' : World} (hi : ops[i]? = some oi)
    (hw : Region.wanted oi (yielded ops a.tmps) = true) (he : (execOp a.eval oi).run P w = .ok (.value v) w') (hb : Below B w w')
    (h : AnyB P md ops Q B fuel (listed.setIfInBounds i true) (a.put oi.dst v) w') : OneB P md ops Q B i fuel listed a w := by
  refine wpOp_step hi (fun K hK => ?_)
  rw [if_pos hw]
  unfold Oper.wp
  rw [he]
  exact hK _ _ ⟨hb, h⟩
theorem one_skip {B i : Nat} {oi : Oper} {fuel : Nat} {listed : Array Bool} {a : Act} {w w' : World} (hi : ops[i]? = some oi)
    (hw : Region.wanted oi (yielded ops a.tmps) = true) (he : (execOp a.eval oi).run P w = .ok .skip w') (hb : Below B w w')
    (h : AnyB P md ops Q B fuel (listed.setIfInBounds i true) (a.put oi.dst undef) w') : OneB P md ops Q B i fuel listed a w := by
  refine wpOp_step hi (fun K hK => ?_)
  rw [if_pos hw]
  unfold Oper.wp
  rw [he]
  exact hK _ _ ⟨hb, h⟩
end
end Go.Proofs.Ytdgfopiagfibkaa
