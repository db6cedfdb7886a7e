/-
  What slices.Clone answers: a list of the call's own.
-/
import Derived.Test.YtdgfopiagfibkaaInts
namespace Go.Proofs.Ytdgfopiagfibkaa
open Go.RowKit

/-- A list of numbers of the call's own. -/
def IntsOut (w : World) (l : List Int) (e : Ending) (w' : World) : Prop :=
  ∃ A c, e = .returned (.slice A l.length c) ∧ Own w' w.heap.size 3 (.slice A l.length c) l ∧ Below w.heap.size w w'
theorem intsOut_of {w w' : World} {l : List Int} {v : Value} (h : Own w' w.heap.size 3 v l) (hb : Below w.heap.size w w') : IntsOut w l (.returned v) w' := by
  obtain ⟨A, c, rfl, _, _⟩ := h.sl.form
  exact ⟨A, c, rfl, h, hb⟩

set_option maxRecDepth 100000 in
theorem clonei_any (v : Value) (l : List Int) (hl : l.length ≤ 100000) (w : World) (B : Nat) (hB : B ≤ w.heap.size) (hv : Sl w B v l) :
    Calls Try.prog 15 #[v] w (IntsOut w l) := by
  obtain ⟨A, c, rfl, hc, hm⟩ := hv.form
  have hnil := fun (w : World) (a : Option Addr) (n c : Nat) => Lib.run_eql_slice_nil (P := Try.prog) w 22 3 a n c 0 0 Try.underlying22
  rcases A with _ | ⟨g, o, s⟩
  · have hl0 : l = [] := by
      rcases l with _ | ⟨x, l⟩
      · rfl
      · obtain ⟨b, off, h, _⟩ := hv.int 0 (by simp)
        cases h
    subst hl0
    go_enter Try.func15, Try.ntmps15
    go_wp2_with fail
    go_ret
    exact ⟨none, 0, rfl, Own.nil _ _ _, Below.refl _ _⟩
  · have hb1 : Below w.heap.size w (w.alloc (.cells #[] 3)) := (Below.refl _ _).alloc (Nat.le_refl _) _
    have HO := Lib.hid (Own.newL (α := Int) w w.heap.size 3 [] #[] (fun _ h => by simp at h) rfl (Nat.zero_le _) (Nat.le_refl _))
    have HV := Lib.hid (hv.below (hb1.mono hB))
    have HB := Lib.hid hb1
    clear hv hb1
    generalize hn : l.length = n at *
    have HN := Lib.hid hn
    clear hn
    go_enter Try.func15, Try.ntmps15
    go_wp2_with (at_builtin; refine wpList_append_sl rfl (.tmp 5) (.tmp 6) rfl rowI w.heap.size _ [] rfl HO.out B _ l rfl HV.out (by rw [HN.out]; unfold maxLen; simp; omega) (by rw [HN.out]; simp; omega) (by simp) ?_; intro v3 w3 hown3 hg3 hat3; rw [List.nil_append] at hown3; have hb3 := below_of_own HB.out HO.out hg3 (by simp); have HO3 := Lib.hid hown3; have HB3 := Lib.hid hb3; clear hown3 hg3 hat3 hb3)
    go_ret
    exact intsOut_of HO3.out HB3.out
end Go.Proofs.Ytdgfopiagfibkaa
