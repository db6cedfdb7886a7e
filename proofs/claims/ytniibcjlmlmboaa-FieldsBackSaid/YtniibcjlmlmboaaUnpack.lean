/-
  What Unpack answers.
-/
import Derived.Test.YtniibcjlmlmboaaCut
namespace Go.Proofs.Ytniibcjlmlmboaa
open Go.RowKit

def UnpackOut (w : World) : Fm.Got (List Int × List UInt8) → Ending → World → Prop
  | .err er, e, w' => e = .returned (.tuple #[.agg #[.slice none 0 0, .slice none 0 0], .int .i64 er]) ∧ Below w.heap.size w w'
  | .ok f _, e, w' => ∃ sN sD, e = .returned (.tuple #[.agg #[sN, sD], .int .i64 0]) ∧ Own w' w.heap.size 3 sN f.1 ∧ Own w' w.heap.size 5 sD f.2 ∧ Below w.heap.size w w'

set_option maxRecDepth 100000 in
theorem unpack_any (v : Value) (l : List UInt8) (hl : l.length ≤ 1000000) (w : World) (B : Nat) (hB : B ≤ w.heap.size) (hv : Sl w B v l) :
    Calls Try.prog 18 #[v] w (UnpackOut w (Fm.unpack l)) := by
  have hb0 : Below w.heap.size w (w.alloc (.cells #[.slice none 0 0, .slice none 0 0] 25)) := (Below.refl _ _).alloc (Nat.le_refl _) _
  have hC := cut_any v l hl (w.alloc (.cells #[.slice none 0 0, .slice none 0 0] 25)) B (by simp; omega) (hv.below (hb0.mono hB))
  obtain ⟨A, c, rfl, _, _⟩ := hv.form
  have HC := Lib.hid hC
  clear hC hv
  cases h1 : Fm.cut l with
  | err er =>
    have hc : Fm.unpack l = .err er := by unfold Fm.unpack; rw [h1]
    rw [hc]
    rw [h1] at HC
    have her := Fm.cut_err h1
    clear h1 hc
    generalize l.length = n at *
    rcases her with rfl | rfl | rfl
    all_goals
      go_enter Try.func18, Try.ntmps18
      go_wp2_with fail
      refine HC.out.mono ?_
      rintro e w1 ⟨rfl, hb1⟩
      have hb := hb0.trans (hb1.mono (by simp))
      have hW := (Whole.new w _ _).below hb1 (by simp)
      have hlt := hW.lt
      have k0 := hW.cell 0
      have k1 := hW.cell 1
      have f0 := hW.free 0
      have f1 := hW.free 1
      simp at k0 k1
      clear hW
      go_wp2_with fail
      refine bodyPost_ret (v := .tuple #[.agg #[.slice none 0 0, .slice none 0 0], _]) (by simp [results, Try.results18, go_sem, k0, k1, hlt]) rfl ⟨rfl, ((hb.setCell (by simp) _).setCell (by simp) _).alloc (by simp; omega) _⟩
  | ok f r =>
    have hrl := Fm.cut_rest h1
    have hc : Fm.unpack l = if r = [] then .ok f [] else .err 2 := by unfold Fm.unpack; rw [h1]
    rw [hc]
    rw [h1] at HC
    clear h1 hc
    by_cases hr : r = []
    · rw [if_pos hr]
      subst hr
      generalize hl0 : l.length = n at *
      have HL := Lib.hid hl0
      clear hl0
      go_enter Try.func18, Try.ntmps18
      go_wp2_with fail
      refine HC.out.mono ?_
      rintro e w1 ⟨sN, sD, rfl, ho1, ho2, hb1⟩
      rw [HL.out]
      have hb := hb0.trans (hb1.mono (by simp))
      have hW := (Whole.new w _ _).below hb1 (by simp)
      have hlt := hW.lt
      have k0 := hW.cell 0
      have k1 := hW.cell 1
      have f0 := hW.free 0
      have f1 := hW.free 1
      simp at k0 k1
      obtain ⟨A4, c4, rfl, _, _⟩ := ho1.sl.form
      obtain ⟨A5, c5, rfl, _, _⟩ := ho2.sl.form
      have HO1 := Lib.hid (ho1.down (base' := w.heap.size + 1) (by simp))
      have HO2 := Lib.hid (ho2.down (base' := w.heap.size + 1) (by simp))
      clear hW ho1 ho2
      generalize f.1.length = n4 at *
      generalize f.2.length = n5 at *
      go_wp2_with fail
      refine bodyPost_ret (v := .tuple #[.agg #[.slice A4 n4 c4, .slice A5 n5 c5], _]) (by simp [results, Try.results18, go_sem, k0, k1, hlt]) rfl
        ⟨_, _, rfl, (((HO1.out.set (by simp) _).set (by simp) _).alloc _).down (by simp), (((HO2.out.set (by simp) _).set (by simp) _).alloc _).down (by simp), ((hb.setCell (by simp) _).setCell (by simp) _).alloc (by simp; omega) _⟩
    · rw [if_neg hr]
      have hm : 0 < r.length := List.length_pos_iff.2 hr
      generalize hl0 : l.length = n at *
      have HL := Lib.hid hl0
      clear hl0
      generalize hr0 : r.length = m at *
      have HR := Lib.hid hr0
      clear hr0
      go_enter Try.func18, Try.ntmps18
      go_wp2_with fail
      refine HC.out.mono ?_
      rintro e w1 ⟨sN, sD, rfl, ho1, ho2, hb1⟩
      rw [HL.out, HR.out]
      have hb := hb0.trans (hb1.mono (by simp))
      have hW := (Whole.new w _ _).below hb1 (by simp)
      have hlt := hW.lt
      have k0 := hW.cell 0
      have k1 := hW.cell 1
      have f0 := hW.free 0
      have f1 := hW.free 1
      simp at k0 k1
      obtain ⟨A4, c4, rfl, _, _⟩ := ho1.sl.form
      obtain ⟨A5, c5, rfl, _, _⟩ := ho2.sl.form
      clear hW ho1 ho2
      generalize f.1.length = n4 at *
      generalize f.2.length = n5 at *
      go_wp2_with fail
      refine bodyPost_ret (v := .tuple #[.agg #[.slice none 0 0, .slice none 0 0], _]) (by simp [results, Try.results18, go_sem, k0, k1, hlt]) rfl ⟨rfl, ((hb.setCell (by simp) _).setCell (by simp) _).alloc (by simp; omega) _⟩
end Go.Proofs.Ytniibcjlmlmboaa
