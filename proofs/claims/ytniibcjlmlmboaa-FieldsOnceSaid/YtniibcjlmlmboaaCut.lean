/-
  What Cut and Unpack answer.
-/
import Derived.Test.YtniibcjlmlmboaaNums
import Derived.Test.YtniibcjlmlmboaaData
namespace Go.Proofs.Ytniibcjlmlmboaa
open Go.RowKit

theorem bcell {W w1 : World} (hb : Below W.heap.size W w1) : (∀ b o, b < W.heap.size → w1.cell? ⟨b, o, none⟩ = W.cell? ⟨b, o, none⟩) ∧ (∀ b o, b < W.heap.size → w1.frozen? ⟨b, o, none⟩ = W.frozen? ⟨b, o, none⟩) :=
  ⟨fun b o h => hb.cell (p := ⟨b, o, none⟩) h, fun b o h => hb.frozen (p := ⟨b, o, none⟩) h⟩

def CutOut (w : World) (l : List UInt8) : Fm.Got (List Int × List UInt8) → Ending → World → Prop
  | .err er, e, w' => e = .returned (.tuple #[.agg #[.slice none 0 0, .slice none 0 0], .int .i64 0, .int .i64 er]) ∧ Below w.heap.size w w'
  | .ok f r, e, w' => ∃ sN sD, e = .returned (.tuple #[.agg #[sN, sD], .int .i64 ((l.length : Int) - (r.length : Int)), .int .i64 0]) ∧ Own w' w.heap.size 3 sN f.1 ∧ Own w' w.heap.size 5 sD f.2 ∧ Below w.heap.size w w'

set_option maxRecDepth 100000 in
theorem cut_any (v : Value) (l : List UInt8) (hl : l.length ≤ 1000000) (w : World) (B : Nat) (hB : B ≤ w.heap.size) (hv : Sl w B v l) :
    Calls Try.prog 16 #[v] w (CutOut w l (Fm.cut l)) := by
  have hb0 : Below w.heap.size w (w.alloc (.cells #[.slice none 0 0, .slice none 0 0] 25)) := (Below.refl _ _).alloc (Nat.le_refl _) _
  have hN := cutNumbers_any v l hl (w.alloc (.cells #[.slice none 0 0, .slice none 0 0] 25)) B (by simp; omega) (hv.below (hb0.mono hB))
  obtain ⟨A, c, rfl, _, _⟩ := hv.form
  have HN := Lib.hid hN
  clear hN hv
  cases h1 : Fm.cutH l with
  | err er =>
    have hc : Fm.cut l = .err er := by unfold Fm.cut; rw [h1]
    rw [hc]
    rw [h1] at HN
    have her : er = 2 ∨ er = 3 := Fm.cutH_err h1
    clear h1 hc
    rcases her with rfl | rfl
    all_goals
      go_enter Try.func16, Try.ntmps16
      go_wp2_with fail
      refine HN.out.mono ?_
      rintro e w1 ⟨rfl, hb1⟩
      have hb := hb0.trans (hb1.mono (by simp))
      have hW := (Whole.new w _ _).below hb1 (by simp)
      have k0 := hW.cell 0
      have k1 := hW.cell 1
      have f0 := hW.free 0
      have f1 := hW.free 1
      simp at k0 k1
      clear hW
      go_wp2_with fail
      refine bodyPost_ret (v := .tuple #[.agg #[.slice none 0 0, .slice none 0 0], .int .i64 0, _]) (by simp [results, Try.results16, go_sem, k0, k1]) rfl ⟨rfl, (hb.setCell (by simp) _).setCell (by simp) _⟩
  | ok N r =>
    have hrl := Fm.cutH_rest h1
    rw [h1] at HN
    have hD := Lib.hid (fun W (h : Sl W B (.slice (none : Option Addr) 0 0) r) => h)
    have hdat := Lib.hid (fun W v (hB : B ≤ W.heap.size) (h : Sl W B v r) => cutData_any v r (by omega) W B hB h)
    have hcc : Fm.cut l = match Fm.cutD r with
      | .err e => .err e
      | .ok D r => .ok (N, D) r := by unfold Fm.cut; rw [h1]; rfl
    rw [hcc]
    clear hcc h1 hD
    cases h2 : Fm.cutD r with
    | err er =>
      have her := Fm.cutD_err h2
      rw [h2] at hdat
      clear h2
      rcases her with rfl | rfl
      all_goals
        go_enter Try.func16, Try.ntmps16
        go_wp2_with fail
        refine HN.out.mono ?_
        rintro e w1 ⟨sN, A2, c2, rfl, ho1, hs1, hb1⟩
        have hz1 := hb1.size
        have HD := Lib.hid (hdat.out w1 _ (by simp at hz1; omega) hs1)
        have hb := hb0.trans (hb1.mono (by simp))
        have hW := Lib.hid ((Whole.new w _ _).below hb1 (by simp))
        clear hs1 ho1 hdat HN hrl
        generalize r.length = m at *
        go_wp2_with fail
        refine HD.out.mono ?_
        rintro e w2 ⟨rfl, hb2⟩
        have hW2 := hW.out.below hb2 hW.out.lt
        have k0 := hW2.cell 0
        have k1 := hW2.cell 1
        have f0 := hW2.free 0
        have f1 := hW2.free 1
        simp at k0 k1
        clear hW hW2
        go_wp2_with fail
        refine bodyPost_ret (v := .tuple #[.agg #[.slice none 0 0, .slice none 0 0], .int .i64 0, _]) (by simp [results, Try.results16, go_sem, k0, k1]) rfl ⟨rfl, ((hb.trans (hb2.mono (by simp at hz1; omega))).setCell (by simp) _).setCell (by simp) _⟩
    | ok D r2 =>
      have hr2 := Fm.cutD_rest h2
      rw [h2] at hdat
      clear h2
      go_enter Try.func16, Try.ntmps16
      go_wp2_with fail
      refine HN.out.mono ?_
      rintro e w1 ⟨sN, A2, c2, rfl, ho1, hs1, hb1⟩
      have hz1 := hb1.size
      rw [World.size_alloc] at hz1
      have HD := Lib.hid (hdat.out w1 _ (by omega) hs1)
      have hb := hb0.trans (hb1.mono (by simp))
      have hW := Lib.hid ((Whole.new w _ _).below hb1 (by simp))
      clear hs1 hdat HN
      generalize hm : r.length = m at *
      have HM := Lib.hid hm
      clear hm
      go_wp2_with fail
      refine HD.out.mono ?_
      rintro e w2 ⟨sD, A3, c3, rfl, ho2, hs2, hb2⟩
      have hW2 := hW.out.below hb2 hW.out.lt
      have k0 := hW2.cell 0
      have k1 := hW2.cell 1
      have f0 := hW2.free 0
      have f1 := hW2.free 1
      simp at k0 k1
      have ho1' := (ho1.below hb2).down (base' := w.heap.size + 1) (by simp)
      have ho2' := ho2.down (base' := w.heap.size + 1) hz1
      have hbb := hb.trans (hb2.mono (by omega))
      obtain ⟨A4, c4, rfl, _, _⟩ := ho1.sl.form
      obtain ⟨A5, c5, rfl, _, _⟩ := ho2.sl.form
      have HO1 := Lib.hid ho1'
      have HO2 := Lib.hid ho2'
      clear hW hW2 hs2 ho1 ho2 ho1' ho2'
      generalize N.length = n4 at *
      generalize D.length = n5 at *
      generalize hl0 : l.length = n at *
      generalize hm2 : r2.length = m2 at *
      have HL := Lib.hid hl0
      have HM2 := Lib.hid hm2
      clear hl0 hm2
      go_wp2_with fail
      have h := HL.out
      subst h
      have h := HM2.out
      subst h
      refine bodyPost_ret (v := .tuple #[.agg #[.slice A4 n4 c4, .slice A5 n5 c5], .int .i64 ((l.length : Int) - (r2.length : Int)), .int .i64 0]) (by simp [results, Try.results16, go_sem, k0, k1]) rfl
        ⟨_, _, rfl, ((HO1.out.set (by simp) _).set (by simp) _).down (by simp), ((HO2.out.set (by simp) _).set (by simp) _).down (by simp), (hbb.setCell (by simp) _).setCell (by simp) _⟩
end Go.Proofs.Ytniibcjlmlmboaa
