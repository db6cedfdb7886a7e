/-
  Parts that the statement rests on, joined: Same.
-/
import Derived.Test.YtcacebkbfnnjbaaDoorV15
import Derived.BigQuiet
import Derived.LoopTactic
/-
  What the reference's Same and Logs answer of what is the same.
-/



namespace Go.Proofs.YtcacebkbfnnjbaaDoor
open Go.RowKit

theorem neq_same (e : E) (w : World) : (binOp .neq 57 (.agg (ec e)) (.agg (ec e))).run Tryd.prog w = .ok (.bool false) w := by
  unfold ec
  go_simp

set_option maxRecDepth 100000 in
theorem same_any (v1 v2 : Value) (l : List E) (w : World) (B : Nat) (_hB : B ≤ w.heap.size) (h1 : Sl w B v1 l) (h2 : Sl w B v2 l) :
    Calls Tryd.prog 19 #[v1, v2] w fun e w' => e = .returned (.bool true) ∧ Below w.heap.size w w' := by
  obtain ⟨A1, c1, rfl, hc1, hm1⟩ := h1.form
  obtain ⟨A2, c2, rfl, hc2, hm2⟩ := h2.form
  unfold maxLen at hm1 hm2
  have H1 := Lib.hid h1
  have H2 := Lib.hid h2
  clear h1 h2
  generalize hn : l.length = n at *
  have HN := Lib.hid hn
  clear hn
  have hne : ((n : Int) != (n : Int)) = false := by simp
  go_enter Tryd.func19, Tryd.ntmps19
  go_wp2_with fail
  go_loopw [5] (fun i wr => ∃ k : Nat, k ≤ n ∧ i = .int .i64 (k : Int) ∧ Sl wr B (.slice A1 n c1) l ∧ Sl wr B (.slice A2 n c2) l ∧ Below w.heap.size w wr) (fun i _ => n - (intOf i).toNat)
  case atStart => exact ⟨0, Nat.zero_le _, rfl, H1.out, H2.out, Below.refl _ _⟩
  case round =>
    obtain ⟨k, hk, rfl, h1, h2, hb⟩ := hrel
    by_cases hlt : k < n
    · have hkl : k < l.length := by rw [HN.out]; exact hlt
      obtain ⟨b1, o1, rfl, -, g0, g1, g2, g3, g4, g5, g6, -⟩ := h1.entry k hkl
      obtain ⟨b2, o2, rfl, -, j0, j1, j2, j3, j4, j5, j6, -⟩ := h2.entry k hkl
      have q := neq_same l[k]
      have S1 := Lib.hid h1
      have S2 := Lib.hid h2
      have HB := Lib.hid hb
      clear h1 h2 hb
      generalize l[k] = y at *
      obtain ⟨y0, y1, y2, y3, y4, y5, y6⟩ := y
      dsimp only [ec] at *
      clear hkl
      have i1 : (0 : Int) ≤ (k : Int) := by omega
      have i2 : (k : Int) < (n : Int) := by omega
      go_wp2_with fail
      go_quiet (fail)
      go_wp2_with fail
      exact ⟨⟨k + 1, by omega, by go_num, S1.out.drewN nq, S2.out.drewN nq, below_drewN HB.out nq⟩, by simp [intOf]; omega⟩
    · go_wp2_with fail
      go_ret
      exact ⟨rfl, hb⟩

set_option maxRecDepth 100000 in
theorem logs_any (b t : Int) (v1 v2 : Value) (l : List E) (w : World) (B : Nat) (hB : B ≤ w.heap.size) (h1 : Sl w B v1 l) (h2 : Sl w B v2 l) :
    Calls Tryd.prog 23 #[lv b t v1, lv b t v2] w fun e w' => e = .returned (.bool true) ∧ Below w.heap.size w w' := by
  obtain ⟨A1, c1, rfl, hc1, hm1⟩ := h1.form
  obtain ⟨A2, c2, rfl, hc2, hm2⟩ := h2.form
  have hb1 : Below w.heap.size w (w.alloc (.cells #[.int .i64 b, .int .i64 t, .slice A1 l.length c1] 38)) := (Below.refl _ _).alloc (Nat.le_refl _) _
  have hb2 := hb1.alloc hb1.size (.cells #[.int .i64 b, .int .i64 t, .slice A2 l.length c2] 38)
  have HS := Lib.hid (same_any _ _ l _ B (Nat.le_trans hB hb2.size) (h1.below (hb2.mono hB)) (h2.below (hb2.mono hB)))
  have HW1 := Lib.hid ((Whole.new w 38 #[.int .i64 b, .int .i64 t, .slice A1 l.length c1]).alloc (.cells #[.int .i64 b, .int .i64 t, .slice A2 l.length c2] 38))
  have HW2 := Lib.hid (Whole.new (w.alloc (.cells #[.int .i64 b, .int .i64 t, .slice A1 l.length c1] 38)) 38 #[.int .i64 b, .int .i64 t, .slice A2 l.length c2])
  have HB := Lib.hid hb2
  clear h1 h2 hb1 hb2
  generalize l.length = n at *
  have e1 : (b == b) = true := by simp
  have e2 : (t == t) = true := by simp
  go_enter Tryd.func23, Tryd.ntmps23
  go_wp2_with fail
  with_reducible refine HS.out.mono ?_
  rintro e w2 ⟨rfl, hb3⟩
  have hw1 := HW1.out.below hb3 HW1.out.lt
  have hw2 := HW2.out.below hb3 HW2.out.lt
  rw [World.size_alloc] at hw2
  obtain ⟨k0, k1, -⟩ := hw1.c3
  obtain ⟨k3, k4, -⟩ := hw2.c3
  have HB3 := Lib.hid (HB.out.trans (hb3.mono HB.out.size))
  clear hw1 hw2 hb3
  go_wp2_with fail
  go_ret
  exact ⟨rfl, HB3.out⟩
end Go.Proofs.YtcacebkbfnnjbaaDoor
