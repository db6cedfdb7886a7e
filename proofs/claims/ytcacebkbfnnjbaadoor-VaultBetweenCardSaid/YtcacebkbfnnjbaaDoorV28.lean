/-
  Parts that the statement rests on, joined: Goto, Fwd.
-/
import Derived.ScopeJumps
import Derived.Tactics
/-
  A scope in which the run jumps back to one label: what stands behind the label is walked once, for the first time and for every jump. No program.
-/


namespace Go.Proofs.YtcacebkbfnnjbaaDoor

theorem jump_mono {l : Nat} {J J' : Act → World → Prop} {Q : Exit → Act → World → Prop} (h : ∀ a w, J a w → J' a w) : ∀ e a w, Exit.jump l J Q e a w → Exit.jump l J' Q e a w
  | .goto _, _, _, hh => ⟨hh.1, h _ _ hh.2⟩
  | .normal, _, _, hh => hh
  | .exit _, _, _, hh => hh
  | .ret, _, _, hh => hh
  | .panic _, _, _, hh => hh
  | .outgrown, _, _, hh => hh
theorem wp_scope_goto {P : Program} {a : Act} {w : World} {Q : Exit → Act → World → Prop} {c b : Code} (l : Nat) (J : Act → World → Prop) (μ : Act → World → Nat) (hf : findLabel c l = some (.seq .skip b))
    (pass : ∀ a w, J a w → b.wp P (Exit.jump l (fun a' w' => J a' w' ∧ μ a' w' < μ a w) Q) a w)
    (first : (∀ a w, J a w → b.wp P (Exit.jump l J Q) a w) → c.wp P (Exit.jump l J Q) a w) : (Code.scope c).wp P Q a w :=
  wp_scope_jumps l J μ hf (first fun a w h => Code.wp_mono (jump_mono fun _ _ h => h.1) (pass a w h))
    (fun a w h => wp_seq (wp_skip (pass a w h)))
end Go.Proofs.YtcacebkbfnnjbaaDoor

/-
  A scope out of which the run jumps ahead only: what stands behind a label is walked where the run jumps to it, with the frame that it then has. No program.
-/


namespace Go.Proofs.YtcacebkbfnnjbaaDoor

/-- As Q; no goto. -/
def Exit.end_ (Q : Exit → Act → World → Prop) : Exit → Act → World → Prop
  | .goto _, _, _ => False
  | e, a, w => Q e a w
/-- As Q; by a goto: what stands behind its label. -/
def Exit.fwd (P : Program) (c : Code) (Q : Exit → Act → World → Prop) : Exit → Act → World → Prop
  | .goto l, a, w => ∃ b, findLabel c l = some (.seq .skip b) ∧ b.wp P (Exit.end_ Q) a w
  | e, a, w => Q e a w
theorem wp_scope_fwd {P : Program} {a : Act} {w : World} {Q : Exit → Act → World → Prop} {c : Code} (first : c.wp P (Exit.fwd P c Q) a w) : (Code.scope c).wp P Q a w := by
  intro b k cs
  obtain ⟨e, a₁, w₁, hq, harr⟩ := first b (.inScope c :: k) cs
  cases e with
  | normal => exact ⟨.normal, a₁, w₁, hq, .head step_scope (Steps.trans harr (.one step_inScope))⟩
  | exit id => exact ⟨.exit id, a₁, w₁, hq, fun k' hk => .head step_scope (harr k' (by simp [exitTo, hk]))⟩
  | goto l' =>
    obtain ⟨r, hf, hJ⟩ := hq
    have hg : gotoIn l' (.inScope c :: k) = some (.code (.seq .skip r) :: .inScope c :: k) := by simp [gotoIn, hf]
    obtain ⟨e₂, a₂, w₂, hq₂, harr₂⟩ := wp_seq (wp_skip hJ) b (.inScope c :: k) cs
    have h0 := Steps.head step_scope (harr _ hg)
    cases e₂ with
    | normal => exact ⟨.normal, a₂, w₂, hq₂, Steps.trans h0 (Steps.trans harr₂ (.one step_inScope))⟩
    | exit id => exact ⟨.exit id, a₂, w₂, hq₂, fun k' hk => Steps.trans h0 (harr₂ k' (by simp [exitTo, hk]))⟩
    | goto l => exact hq₂.elim
    | ret => exact ⟨_, a₂, w₂, hq₂, .of_steps h0 harr₂⟩
    | panic ch => exact ⟨_, a₂, w₂, hq₂, .of_steps h0 harr₂⟩
    | outgrown => exact ⟨_, a₂, w₂, hq₂, .of_steps h0 harr₂⟩
  | ret => exact ⟨_, a₁, w₁, hq, .of_steps (.one step_scope) harr⟩
  | panic ch => exact ⟨_, a₁, w₁, hq, .of_steps (.one step_scope) harr⟩
  | outgrown => exact ⟨_, a₁, w₁, hq, .of_steps (.one step_scope) harr⟩
/-- As Q; by a goto: J. -/
def Exit.jumps (J : Nat → Act → World → Prop) (Q : Exit → Act → World → Prop) : Exit → Act → World → Prop
  | .goto l, a, w => J l a w
  | e, a, w => Q e a w
theorem jumps_ret {J : Nat → Act → World → Prop} {Q : Exit → Act → World → Prop} {a : Act} {w : World} (h : Q .ret a w) : Exit.jumps J Q .ret a w := h
theorem jumps_goto {J : Nat → Act → World → Prop} {Q : Exit → Act → World → Prop} {l : Nat} {a : Act} {w : World} (h : J l a w) : Exit.jumps J Q (.goto l) a w := h
theorem end_ret {Q : Exit → Act → World → Prop} {a : Act} {w : World} (h : Q .ret a w) : Exit.end_ Q .ret a w := h
theorem wp_scope_ahead {P : Program} {a : Act} {w : World} {Q : Exit → Act → World → Prop} {c : Code}
    (first : ∀ J : Nat → Act → World → Prop, (∀ l b a w, findLabel c l = some (.seq .skip b) → b.wp P (Exit.end_ Q) a w → J l a w) → c.wp P (Exit.jumps J Q) a w) : (Code.scope c).wp P Q a w :=
  wp_scope_fwd (Code.wp_mono (fun e a w h => by cases e <;> exact h) (first (fun l a w => ∃ b, findLabel c l = some (.seq .skip b) ∧ b.wp P (Exit.end_ Q) a w) fun _ b _ _ h1 h2 => ⟨b, h1, h2⟩))
end Go.Proofs.YtcacebkbfnnjbaaDoor
