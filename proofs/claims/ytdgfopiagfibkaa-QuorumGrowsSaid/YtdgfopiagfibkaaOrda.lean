/-
  'append' inside a region that draws its order, on a slice of the call's own. No program.
-/
import Derived.Test.YtdgfopiagfibkaaRep
import Derived.Test.YtdgfopiagfibkaaOrd
namespace Go.Proofs.Ytdgfopiagfibkaa
open Go.RowKit

theorem one_append_sl {α : Type} [Rep α] [Flat α] {P : Program} {e t : TypeId} {bytes : Nat} {ops : Array Oper} {Q : Exit → Act → World → Prop} {md : Region.Mode} {B i : Nat} {oi : Oper} {fuel : Nat} {listed : Array Bool} {a : Act} {w : World} (hi : ops[i]? = some oi)
    (hw : Region.wanted oi (yielded ops a.tmps) = true) (s x : Operand)
    (ho : oi.op = .call { callee := .builtin .append, args := #[s, x], argTypes := #[t, t] }) (hrow : Row P t e α bytes)
    (base : Nat) (v : Value) (l0 : List α) (hs : a.eval s = v) (hown : Own w base e v l0) (Bu : Nat) (u : Value) (l : List α) (hx : a.eval x = u) (hr : Sl w Bu u l)
    (hlen : l0.length + l.length ≤ maxLen) (hby : (l0.length + l.length) * bytes ≤ 140737488355328) (hbase : base ≤ w.heap.size) (hB : B ≤ base)
    (h : ∀ v' w', Own w' base e v' (l0 ++ l) → Below B w w' → AnyB P md ops Q B fuel (listed.setIfInBounds i true) (a.put oi.dst v') w') : OneB P md ops Q B i fuel listed a w := by
  obtain ⟨v', w', hrun, h2, h3, h4⟩ := run_append_sl (ty := oi.type) hrow hown hr hlen hby hbase
  have hb : Below B w w' := (Below.refl B w).grown h3 (Nat.le_trans hB hbase) (fun k hk => Nat.le_trans hB (hown.lt k hk).1)
  refine one_run hi hw ?_ hb (h v' w' h2 hb)
  unfold execOp
  simp only [ho, resolve, invoke, builtin, Sem.run_bind, Sem.run_pure, Result.andThen_ok, List.map_toArray, List.map_cons, List.map_nil, hs, hx, hrun]
end Go.Proofs.Ytdgfopiagfibkaa
