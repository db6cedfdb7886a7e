/-
  A scope in which the run jumps back to one label: what stands behind the label is walked once, for the first time and for every jump. No program.
-/
import Derived.ScopeJumps
import Derived.Tactics
namespace Go.Proofs.Ytdgfopiagfibkaa

theorem jump_mono {l : Nat} {J J' : Act → World → Prop} {Q : Exit → Act → World → Prop} (h : ∀ a w, J a w → J' a w) : ∀ e a w, Exit.jump l J Q e a w → Exit.jump l J' Q e a w
  | .goto _, _, _, hh => ⟨hh.1, h _ _ hh.2⟩
  | .normal, _, _, hh => hh
  | .exit _, _, _, hh => hh
  | .ret, _, _, hh => hh
  | .panic _, _, _, hh => hh
  | .outgrown, _, _, hh => hh
theorem wp_scope_goto {P : Program} {a : Act} {w : World} {Q : Exit → Act → World → Prop} {c b : Code} (l : Nat) (J : Act → World → Prop) (μ : Act → World → Nat) (hf : findLabel c l = some (.seq .skip b))
    (pass : ∀ a w, J a w → b.wp P (Exit.jump l (fun a' w' => J a' w' ∧ μ a' w' < μ a w) Q) a w)
    (first : (∀ a w, J a w → b.wp P (Exit.jump l J Q) a w) → c.wp P (Exit.jump l J Q) a w) : (Code.scope c).wp P Q a w :=
  wp_scope_jumps l J μ hf (first fun a w h => Code.wp_mono (jump_mono fun _ _ h => h.1) (pass a w h))
    (fun a w h => wp_seq (wp_skip (pass a w h)))
end Go.Proofs.Ytdgfopiagfibkaa
