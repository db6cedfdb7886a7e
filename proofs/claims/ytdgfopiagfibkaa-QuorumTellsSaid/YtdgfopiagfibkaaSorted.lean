/-
  What slices.Sort leaves: the same list of the call's own, in order.
-/
import Derived.Test.YtdgfopiagfibkaaClonei
import Derived.Test.YtdgfopiagfibkaaShelf
import Derived.Test.YtdgfopiagfibkaaQr
import Derived.Sort.OwnSortedInts
namespace Go.Proofs.Ytdgfopiagfibkaa
open Go.RowKit Go.Sort

theorem cells_int (l : List Int) : cells l = l.map (Value.int .i64) := by
  induction l with
  | nil => rfl
  | cons x l ih => rw [List.map_cons, ← ih]; rfl
theorem sort_any (g n c : Nat) (l : List Int) (w : World) (base : Nat) (h0 : 0 < n) (hl : l.length ≤ 1000000) (ho : Own w base 3 (.slice (some ⟨g, 0, none⟩) n c) l) :
    Calls Try.prog 16 #[.slice (some ⟨g, 0, none⟩) n c] w fun e w' => e = .returned (.tuple #[]) ∧ Own w' base 3 (.slice (some ⟨g, 0, none⟩) n c) (Qr.sort l) ∧ (∀ B, B ≤ base → base ≤ w.heap.size → Below B w w') := by
  have hn := ho.sl.room.1
  have hlt := ho.lt g rfl
  subst hn
  have h1 := ho.1
  rw [cells_int] at h1
  rcases h1.2 with ⟨e, _⟩ | ⟨g', cap, cur, e, hb, hg, hcap, hm, hs, ht⟩
  · cases e
  injection e with e1 _ e3
  injection e1 with e1
  injection e1 with e1
  subst e1 e3
  have hH : Holds (Value.int .i64) w g 0 l.toArray := holds_of_blockI hg (by rw [← ht]; simp [Rep.sz])
  refine (Try.slices_Sort_int g 0 c l w hH hlt.2 (by omega)).mono ?_
  rintro e w' ⟨rfl, q, os, rfl⟩
  refine ⟨rfl, ⟨?_, fun x hx => ho.2 x ((Qr.sort_perm l).mem_iff.1 hx)⟩, fun B hB hbase => (Below.refl B w).grown (grownBy_sortedI _) (Nat.le_trans hB hbase) (fun k hk => by cases hk; exact Nat.le_trans hB hlt.1)⟩
  rw [cells_int, Qr.sort_len]
  exact ownsRow_sortedI (ss := l) (ts := Qr.sort l) (Qr.sort_len l) hb hg hcap hm hs
end Go.Proofs.Ytdgfopiagfibkaa
