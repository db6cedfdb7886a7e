/-
  Parts that the statement rests on, joined: Eq, Pagreed, Rcommon.
-/
import Derived.Test.YtcacebkbfnnjbaaDoorV17
import Derived.BigQuiet
import Derived.Laws.StructEq
import Derived.LoopTactic
/-
  Entries and ballots compared.
-/



namespace Go.Proofs.YtcacebkbfnnjbaaDoor
open Go.RowKit

theorem eql_ent (a b : E) (w : World) : (binOp .eql 57 (.agg (ec a)) (.agg (ec b))).run Tryd.prog w = .ok (.bool (decide (a = b))) w := by
  obtain ⟨a0, a1, a2, a3, a4, a5, a6⟩ := a
  obtain ⟨b0, b1, b2, b3, b4, b5, b6⟩ := b
  unfold ec
  go_simp
  repeat' split
  all_goals simp [*]
theorem neq_bal (a b : Vt.B) (w : World) : (binOp .neq 30 (bv a.1 a.2) (bv b.1 b.2)).run Tryd.prog w = .ok (.bool (decide (a ≠ b))) w := by
  obtain ⟨a0, a1⟩ := a
  obtain ⟨b0, b1⟩ := b
  go_simp
  repeat' split
  all_goals simp [*]
end Go.Proofs.YtcacebkbfnnjbaaDoor

/-
  What agreed and the reference's common answer.
-/


namespace Go.Proofs.YtcacebkbfnnjbaaDoor
open Go.RowKit

set_option maxRecDepth 100000 in
set_option maxHeartbeats 8000000 in
theorem agreed_any (v1 v2 : Value) (l m : List E) (w : World) (B : Nat) (_hB : B ≤ w.heap.size) (h1 : Sl w B v1 l) (h2 : Sl w B v2 m) :
    Calls Tryd.prog 41 #[v1, v2] w fun e w' => e = .returned (.int .i64 (Vl.agreed l m : Int)) ∧ Below w.heap.size w w' := by
  obtain ⟨A1, c1, rfl, hc1, hm1⟩ := h1.form
  obtain ⟨A2, c2, rfl, hc2, hm2⟩ := h2.form
  unfold maxLen at hm1 hm2
  have H1 := Lib.hid h1
  have H2 := Lib.hid h2
  have HZ := Lib.hid (Vl.agTo_zero l m)
  clear h1 h2
  generalize hR : Vl.agreed l m = R at *
  have HR := Lib.hid hR
  generalize hn : l.length = n at *
  generalize hn2 : m.length = n2 at *
  have HN := Lib.hid hn
  have HN2 := Lib.hid hn2
  clear hn hn2 hR
  go_enter Tryd.func41, Tryd.ntmps41
  go_wp2_with fail
  go_loopw [5] (fun i wr => ∃ k : Nat, Vl.agTo l m k ∧ i = .int .i64 (k : Int) ∧ Sl wr B (.slice A1 n c1) l ∧ Sl wr B (.slice A2 n2 c2) m ∧ Below w.heap.size w wr) (fun i _ => n - (intOf i).toNat)
  case atStart => exact ⟨0, HZ.out, rfl, H1.out, H2.out, Below.refl _ _⟩
  case round =>
    obtain ⟨k, hat, rfl, h1, h2, hb⟩ := hrel
    have HAT := Lib.hid hat
    have hk1 : k ≤ n := by have := hat.1; rw [HN.out] at this; exact this
    have hk2 : k ≤ n2 := by have := hat.2.1; rw [HN2.out] at this; exact this
    clear hat
    have i1 : (0 : Int) ≤ (k : Int) := by omega
    by_cases hlt : k < n
    · have d1 : decide (k < n) = true := by simpa using hlt
      have i2 : (k : Int) < (n : Int) := by omega
      by_cases hlt2 : k < n2
      · have d2 : decide (k < n2) = true := by simpa using hlt2
        have i3 : (k : Int) < (n2 : Int) := by omega
        have hkl : k < l.length := by rw [HN.out]; exact hlt
        have hkm : k < m.length := by rw [HN2.out]; exact hlt2
        obtain ⟨b1, o1, rfl, -, g0, g1, g2, g3, g4, g5, g6, -⟩ := h1.entry k hkl
        obtain ⟨b2, o2, rfl, -, j0, j1, j2, j3, j4, j5, j6, -⟩ := h2.entry k hkm
        have HEQ := Lib.hid (fun h => Vl.agTo_step HAT.out hkl hkm h)
        have HNE := Lib.hid (fun h : l[k] ≠ m[k] => (Vl.agTo_stop HAT.out (.inr (.inr ⟨hkl, hkm, h⟩))).symm.trans HR.out)
        have S1 := Lib.hid h1
        have S2 := Lib.hid h2
        have HB := Lib.hid hb
        clear h1 h2 hb
        generalize l[k] = x at *
        generalize m[k] = y at *
        obtain ⟨x0, x1, x2, x3, x4, x5, x6⟩ := x
        obtain ⟨y0, y1, y2, y3, y4, y5, y6⟩ := y
        dsimp only [ec] at *
        clear hkl hkm
        by_cases he : (x0, x1, x2, x3, x4, x5, x6) = ((y0, y1, y2, y3, y4, y5, y6) : E)
        · have HA := Lib.hid (HEQ.out he)
          clear HEQ HNE
          simp only [Prod.mk.injEq] at he
          obtain ⟨rfl, rfl, rfl, rfl, rfl, rfl, rfl⟩ := he
          go_wp2_with fail
          go_quiet (fail)
          go_wp2_with fail
          exact ⟨⟨k + 1, HA.out, by go_num, S1.out.drewN nq, S2.out.drewN nq, below_drewN HB.out nq⟩, by simp [intOf]; omega⟩
        · have HA := Lib.hid (HNE.out he)
          have hn7 : ¬ (x0 = y0 ∧ x1 = y1 ∧ x2 = y2 ∧ x3 = y3 ∧ x4 = y4 ∧ x5 = y5 ∧ x6 = y6) := fun h => he (by obtain ⟨rfl, rfl, rfl, rfl, rfl, rfl, rfl⟩ := h; rfl)
          clear he HEQ HNE
          have hc : ¬ x0 = y0 ∨ (x0 = y0 ∧ ¬ x1 = y1) ∨ (x0 = y0 ∧ x1 = y1 ∧ ¬ x2 = y2) ∨ (x0 = y0 ∧ x1 = y1 ∧ x2 = y2 ∧ ¬ x3 = y3) ∨ (x0 = y0 ∧ x1 = y1 ∧ x2 = y2 ∧ x3 = y3 ∧ ¬ x4 = y4) ∨ (x0 = y0 ∧ x1 = y1 ∧ x2 = y2 ∧ x3 = y3 ∧ x4 = y4 ∧ ¬ x5 = y5) ∨ (x0 = y0 ∧ x1 = y1 ∧ x2 = y2 ∧ x3 = y3 ∧ x4 = y4 ∧ x5 = y5 ∧ ¬ x6 = y6) := by omega
          clear hn7
          rcases hc with h | ⟨rfl, h⟩ | ⟨rfl, rfl, h⟩ | ⟨rfl, rfl, rfl, h⟩ | ⟨rfl, rfl, rfl, rfl, h⟩ | ⟨rfl, rfl, rfl, rfl, rfl, h⟩ | ⟨rfl, rfl, rfl, rfl, rfl, rfl, h⟩
          all_goals (go_wp2_with fail; go_quiet (fail); go_wp2_with fail; go_ret; (obtain rfl := HA.out; exact ⟨rfl, below_drewN HB.out nq⟩))
      · have d2 : decide (k < n2) = false := by simpa using hlt2
        have HA := Lib.hid ((Vl.agTo_stop HAT.out (.inr (.inl (by rw [HN2.out]; omega)))).symm.trans HR.out)
        have HB := Lib.hid hb
        clear h1 h2 hb
        go_wp2_with fail
        go_quiet (fail)
        go_wp2_with fail
        go_ret
        (obtain rfl := HA.out; exact ⟨rfl, below_drewN HB.out nq⟩)
    · have d1 : decide (k < n) = false := by simpa using hlt
      have HA := Lib.hid ((Vl.agTo_stop HAT.out (.inl (by rw [HN.out]; omega))).symm.trans HR.out)
      have HB := Lib.hid hb
      clear h1 h2 hb
      go_wp2_with fail
      go_quiet (fail)
      go_wp2_with fail
      go_ret
      (obtain rfl := HA.out; exact ⟨rfl, below_drewN HB.out nq⟩)
end Go.Proofs.YtcacebkbfnnjbaaDoor

/-
  What the reference's common answers.
-/


namespace Go.Proofs.YtcacebkbfnnjbaaDoor
open Go.RowKit

set_option maxRecDepth 100000 in
set_option maxHeartbeats 8000000 in
theorem common_any (v1 v2 : Value) (l m : List E) (w : World) (B : Nat) (_hB : B ≤ w.heap.size) (h1 : Sl w B v1 l) (h2 : Sl w B v2 m) :
    Calls Tryd.prog 31 #[v1, v2] w fun e w' => e = .returned (.int .i64 (Vl.agreed l m : Int)) ∧ Below w.heap.size w w' := by
  obtain ⟨A1, c1, rfl, hc1, hm1⟩ := h1.form
  obtain ⟨A2, c2, rfl, hc2, hm2⟩ := h2.form
  unfold maxLen at hm1 hm2
  have H1 := Lib.hid h1
  have H2 := Lib.hid h2
  have HZ := Lib.hid (Vl.agTo_zero l m)
  clear h1 h2
  generalize hR : Vl.agreed l m = R at *
  have HR := Lib.hid hR
  generalize hn : l.length = n at *
  generalize hn2 : m.length = n2 at *
  have HN := Lib.hid hn
  have HN2 := Lib.hid hn2
  clear hn hn2 hR
  go_enter Tryd.func31, Tryd.ntmps31
  go_wp2_with fail
  go_loopw [5] (fun i wr => ∃ k : Nat, Vl.agTo l m k ∧ i = .int .i64 (k : Int) ∧ Sl wr B (.slice A1 n c1) l ∧ Sl wr B (.slice A2 n2 c2) m ∧ Below w.heap.size w wr) (fun i _ => n - (intOf i).toNat)
  case atStart => exact ⟨0, HZ.out, rfl, H1.out, H2.out, Below.refl _ _⟩
  case round =>
    obtain ⟨k, hat, rfl, h1, h2, hb⟩ := hrel
    have HAT := Lib.hid hat
    have hk1 : k ≤ n := by have := hat.1; rw [HN.out] at this; exact this
    have hk2 : k ≤ n2 := by have := hat.2.1; rw [HN2.out] at this; exact this
    clear hat
    have i1 : (0 : Int) ≤ (k : Int) := by omega
    by_cases hlt : k < n
    · have d1 : decide (k < n) = true := by simpa using hlt
      have i2 : (k : Int) < (n : Int) := by omega
      by_cases hlt2 : k < n2
      · have d2 : decide (k < n2) = true := by simpa using hlt2
        have i3 : (k : Int) < (n2 : Int) := by omega
        have hkl : k < l.length := by rw [HN.out]; exact hlt
        have hkm : k < m.length := by rw [HN2.out]; exact hlt2
        obtain ⟨b1, o1, rfl, -, g0, g1, g2, g3, g4, g5, g6, -⟩ := h1.entry k hkl
        obtain ⟨b2, o2, rfl, -, j0, j1, j2, j3, j4, j5, j6, -⟩ := h2.entry k hkm
        have HEQ := Lib.hid (fun h => Vl.agTo_step HAT.out hkl hkm h)
        have HNE := Lib.hid (fun h : l[k] ≠ m[k] => (Vl.agTo_stop HAT.out (.inr (.inr ⟨hkl, hkm, h⟩))).symm.trans HR.out)
        have S1 := Lib.hid h1
        have S2 := Lib.hid h2
        have HB := Lib.hid hb
        clear h1 h2 hb
        generalize l[k] = x at *
        generalize m[k] = y at *
        obtain ⟨x0, x1, x2, x3, x4, x5, x6⟩ := x
        obtain ⟨y0, y1, y2, y3, y4, y5, y6⟩ := y
        dsimp only [ec] at *
        clear hkl hkm
        by_cases he : (x0, x1, x2, x3, x4, x5, x6) = ((y0, y1, y2, y3, y4, y5, y6) : E)
        · have HA := Lib.hid (HEQ.out he)
          clear HEQ HNE
          simp only [Prod.mk.injEq] at he
          obtain ⟨rfl, rfl, rfl, rfl, rfl, rfl, rfl⟩ := he
          go_wp2_with fail
          go_quiet (fail)
          go_wp2_with fail
          exact ⟨⟨k + 1, HA.out, by go_num, S1.out.drewN nq, S2.out.drewN nq, below_drewN HB.out nq⟩, by simp [intOf]; omega⟩
        · have HA := Lib.hid (HNE.out he)
          have hn7 : ¬ (x0 = y0 ∧ x1 = y1 ∧ x2 = y2 ∧ x3 = y3 ∧ x4 = y4 ∧ x5 = y5 ∧ x6 = y6) := fun h => he (by obtain ⟨rfl, rfl, rfl, rfl, rfl, rfl, rfl⟩ := h; rfl)
          clear he HEQ HNE
          have hc : ¬ x0 = y0 ∨ (x0 = y0 ∧ ¬ x1 = y1) ∨ (x0 = y0 ∧ x1 = y1 ∧ ¬ x2 = y2) ∨ (x0 = y0 ∧ x1 = y1 ∧ x2 = y2 ∧ ¬ x3 = y3) ∨ (x0 = y0 ∧ x1 = y1 ∧ x2 = y2 ∧ x3 = y3 ∧ ¬ x4 = y4) ∨ (x0 = y0 ∧ x1 = y1 ∧ x2 = y2 ∧ x3 = y3 ∧ x4 = y4 ∧ ¬ x5 = y5) ∨ (x0 = y0 ∧ x1 = y1 ∧ x2 = y2 ∧ x3 = y3 ∧ x4 = y4 ∧ x5 = y5 ∧ ¬ x6 = y6) := by omega
          clear hn7
          rcases hc with h | ⟨rfl, h⟩ | ⟨rfl, rfl, h⟩ | ⟨rfl, rfl, rfl, h⟩ | ⟨rfl, rfl, rfl, rfl, h⟩ | ⟨rfl, rfl, rfl, rfl, rfl, h⟩ | ⟨rfl, rfl, rfl, rfl, rfl, rfl, h⟩
          all_goals (go_wp2_with fail; go_quiet (fail); go_wp2_with fail; go_ret; (obtain rfl := HA.out; exact ⟨rfl, below_drewN HB.out nq⟩))
      · have d2 : decide (k < n2) = false := by simpa using hlt2
        have HA := Lib.hid ((Vl.agTo_stop HAT.out (.inr (.inl (by rw [HN2.out]; omega)))).symm.trans HR.out)
        have HB := Lib.hid hb
        clear h1 h2 hb
        go_wp2_with fail
        go_quiet (fail)
        go_wp2_with fail
        go_ret
        (obtain rfl := HA.out; exact ⟨rfl, below_drewN HB.out nq⟩)
    · have d1 : decide (k < n) = false := by simpa using hlt
      have HA := Lib.hid ((Vl.agTo_stop HAT.out (.inl (by rw [HN.out]; omega))).symm.trans HR.out)
      have HB := Lib.hid hb
      clear h1 h2 hb
      go_wp2_with fail
      go_quiet (fail)
      go_wp2_with fail
      go_ret
      (obtain rfl := HA.out; exact ⟨rfl, below_drewN HB.out nq⟩)
end Go.Proofs.YtcacebkbfnnjbaaDoor
