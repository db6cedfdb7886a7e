/-
  What the reference's Same answers of one list twice.
-/
import Derived.Test.YtpfhigcfpchkkaaSe
import Derived.BigQuiet
import Derived.LoopTactic
namespace Go.Proofs.Ytpfhigcfpchkkaa
open Go.RowKit

theorem neq_same (e : Se) (w : World) : (binOp .neq 37 (.agg (sc e)) (.agg (sc e))).run Try.prog w = .ok (.bool false) w := by
  unfold sc
  go_simp

set_option maxRecDepth 100000 in
theorem same_any (v1 v2 : Value) (l : List Se) (w : World) (B : Nat) (h1 : Sl w B v1 l) (h2 : Sl w B v2 l) :
    Calls Try.prog 15 #[v1, v2] w fun e w' => e = .returned (.bool true) ∧ Below w.heap.size w w' := by
  obtain ⟨A1, c1, rfl, hc1, hm1⟩ := h1.form
  obtain ⟨A2, c2, rfl, hc2, hm2⟩ := h2.form
  unfold maxLen at hm1 hm2
  have H1 := Lib.hid h1
  have H2 := Lib.hid h2
  clear h1 h2
  generalize hn : l.length = n at *
  have HN := Lib.hid hn
  clear hn
  have hne : ((n : Int) != (n : Int)) = false := by simp
  go_enter Try.func15, Try.ntmps15
  go_wp2_with fail
  go_loopw [5] (fun i wr => ∃ k : Nat, k ≤ n ∧ i = .int .i64 (k : Int) ∧ Sl wr B (.slice A1 n c1) l ∧ Sl wr B (.slice A2 n c2) l ∧ Below w.heap.size w wr) (fun i _ => n - (intOf i).toNat)
  case atStart => exact ⟨0, Nat.zero_le _, rfl, H1.out, H2.out, Below.refl _ _⟩
  case round =>
    obtain ⟨k, hk, rfl, h1, h2, hb⟩ := hrel
    by_cases hlt : k < n
    · have hkl : k < l.length := by rw [HN.out]; exact hlt
      obtain ⟨b1, o1, rfl, -, g0, g1, g2, -⟩ := h1.sess k hkl
      obtain ⟨b2, o2, rfl, -, j0, j1, j2, -⟩ := h2.sess k hkl
      have q := neq_same l[k]
      have S1 := Lib.hid h1
      have S2 := Lib.hid h2
      have HB := Lib.hid hb
      clear h1 h2 hb
      generalize l[k] = y at *
      obtain ⟨y0, y1, y2⟩ := y
      dsimp only [sc] at *
      clear hkl
      have i1 : (0 : Int) ≤ (k : Int) := by omega
      have i2 : (k : Int) < (n : Int) := by omega
      go_wp2_with fail
      go_quiet (fail)
      go_wp2_with fail
      exact ⟨⟨k + 1, by omega, by go_num, S1.out.drewN nq, S2.out.drewN nq, below_drewN HB.out nq⟩, by simp [intOf]; omega⟩
    · go_wp2_with fail
      go_ret
      exact ⟨rfl, hb⟩
end Go.Proofs.Ytpfhigcfpchkkaa
