/-
  What stands in the place of a log that may not be.
-/
import Derived.Test.YtdgfopiagfibkaaMay
import Derived.Test.YtdgfopiagfibkaaCell
namespace Go.Proofs.Ytdgfopiagfibkaa
open Go.RowKit

def FairOut (w : World) (B : Nat) (x : Lg.L) (e : Ending) (w' : World) : Prop :=
  ∃ v', e = .returned (lv x.1 x.2.1 v') ∧ Sl w' B v' x.2.2 ∧ Below w.heap.size w w'

set_option maxRecDepth 100000 in
theorem fair_any (b t : Int) (v : Value) (l : List E) (w : World) (B : Nat) (hB : B ≤ w.heap.size) (hv : Sl w B v l) :
    Calls Try.prog 21 #[lv b t v] w (FairOut w B (Lg.fair (b, t, l))) := by
  obtain ⟨A, c, rfl, hc, hm⟩ := hv.form
  unfold maxLen at hm
  have hb0 : Below w.heap.size w (w.alloc (.cells #[.int .i64 b, .int .i64 t, .slice A l.length c] 38)) := (Below.refl _ _).alloc (Nat.le_refl _) _
  have hb1 : Below w.heap.size w ((w.alloc (.cells #[.int .i64 b, .int .i64 t, .slice A l.length c] 38)).alloc (.cells #[.int .i64 0, .int .i64 0, .slice none 0 0] 38)) := hb0.alloc hb0.size _
  have HM := Lib.hid (may_any b t _ l _ B (Nat.le_trans hB hb1.size) (hv.below (hb1.mono hB)))
  have hW := Lib.hid ((Whole.new w 38 #[.int .i64 b, .int .i64 t, .slice A l.length c]).alloc (.cells #[.int .i64 0, .int .i64 0, .slice none 0 0] 38))
  have hW2 := Lib.hid (Whole.new (w.alloc (.cells #[.int .i64 b, .int .i64 t, .slice A l.length c] 38)) 38 #[.int .i64 0, .int .i64 0, .slice none 0 0])
  have HB := Lib.hid hb1
  have HV := Lib.hid (fun W (h : Below w.heap.size w W) => hv.below (h.mono hB))
  have hyes := Lib.hid (@Lg.fair_of (b, t, l))
  have hno := Lib.hid (@Lg.fair_not (b, t, l))
  clear hv hb0 hb1
  generalize Lg.fair (b, t, l) = x at *
  generalize Lg.may (b, t, l) = r at *
  generalize l.length = n at *
  go_enter Try.func21, Try.ntmps21
  go_wp2_with fail
  with_reducible refine HM.out.mono ?_
  rintro e w2 ⟨rfl, hb2⟩
  have hbb := HB.out.trans (hb2.mono HB.out.size)
  have hw1 := hW.out.below hb2 hW.out.lt
  have hw2 := hW2.out.below hb2 hW2.out.lt
  rw [World.size_alloc] at hw2
  obtain ⟨k0, k1, k2⟩ := hw1.c3
  obtain ⟨k3, k4, k5⟩ := hw2.c3
  obtain ⟨f3, f4, f5⟩ := hw2.f3
  have HW2 := Lib.hid hw2
  have HB2 := Lib.hid hbb
  clear hw1 hw2 hbb hb2 HM
  rcases r with _ | _
  · have e := hno.out rfl
    subst e
    go_wp2_with fail
    refine bodyPost_ret (results_log rfl rfl (HW2.out.set3 _ _ _)) rfl ?_
    exact ⟨_, rfl, Sl.nil _ _, below_set3 HB2.out (by omega) _ _ _⟩
  · have e := hyes.out rfl
    subst e
    go_wp2_with fail
    refine bodyPost_ret (results_log rfl rfl (HW2.out.set3 _ _ _)) rfl ?_
    have hx := below_set3 HB2.out (g := w.heap.size + 1) (by omega) (.int .i64 b) (.int .i64 t) (.slice A n c)
    exact ⟨_, rfl, HV.out _ hx, hx⟩
end Go.Proofs.Ytdgfopiagfibkaa
