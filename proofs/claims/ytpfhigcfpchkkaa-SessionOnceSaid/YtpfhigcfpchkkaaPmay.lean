/-
  What May answers.
-/
import Derived.Test.YtpfhigcfpchkkaaPok
import Derived.LoopTactic
namespace Go.Proofs.Ytpfhigcfpchkkaa
open Go.RowKit

set_option maxRecDepth 100000 in
theorem may_any (v : Value) (l : List Se) (w : World) (B : Nat) (hB : B ≤ w.heap.size) (hv : Sl w B v l) :
    Calls Try.prog 11 #[v] w fun e w' => e = .returned (.bool (Sm.may l)) ∧ Below w.heap.size w w' := by
  obtain ⟨A, c, rfl, hc, hm⟩ := hv.form
  unfold maxLen at hm
  have H := Lib.hid hv
  have HU := Lib.hid (Sm.upTo_zero l)
  have hmay : Sm.may l = (decide (l.length ≤ 16) && Sm.rise 0 l) := rfl
  clear hv
  generalize Sm.may l = R at *
  generalize Sm.rise 0 l = r at *
  generalize hn : l.length = n at *
  have HN := Lib.hid hn
  clear hn
  by_cases h16 : 16 < n
  · rw [show decide (n ≤ 16) = false by simp; omega] at hmay
    obtain rfl : R = false := hmay
    go_enter Try.func11, Try.ntmps11
    go_wp2_with fail
    go_ret
    exact ⟨rfl, Below.refl _ _⟩
  · rw [show decide (n ≤ 16) = true by simp; omega] at hmay
    obtain rfl : R = r := hmay
    go_enter Try.func11, Try.ntmps11
    go_wp2_with fail
    go_loopw [3, 11] (fun a i wr => ∃ (k : Nat) (x : Int), k ≤ n ∧ i = .int .i64 (k : Int) ∧ a = .int .i64 x ∧ Hid (Sm.upTo R l k x) ∧ Sl wr B (.slice A n c) l ∧ Below w.heap.size w wr) (fun _ i _ => n - (intOf i).toNat)
    case atStart => exact ⟨0, _, Nat.zero_le _, rfl, rfl, HU, H.out, Below.refl _ _⟩
    case round =>
      obtain ⟨k, x, hk, rfl, rfl, hu, h1, hb⟩ := hrel
      by_cases hlt : k < n
      · have hkl : k < l.length := by rw [HN.out]; exact hlt
        obtain ⟨b1, o1, rfl, hbB, g0, g1, g2, -⟩ := h1.sess k hkl
        have hst := Lib.hid (Sm.upTo_stop hu.out hkl)
        have hsp := Lib.hid (Sm.upTo_step hu.out hkl)
        have S1 := Lib.hid (h1.below ((Below.refl B wr).alloc (Nat.le_trans hB hb.size) (.cells (sc l[k]) 37)))
        have HB := Lib.hid (hb.alloc hb.size (.cells (sc l[k]) 37))
        have C1 := Lib.hid (client_any (l[k]).1)
        have C2 := Lib.hid (seq_any (l[k]).2.1)
        have hz := hb.size
        clear h1 hb hu
        generalize l[k] = y at *
        obtain ⟨t, q, z⟩ := y
        dsimp only at *
        clear hkl
        rcases ho1 : Sm.okc t with _ | _
        · obtain rfl := hst.out (by rw [ho1]; simp)
          rw [ho1] at C1
          clear hst hsp ho1
          go_wp2_with fail
          with_reducible refine (C1.out _).mono ?_
          rintro e w2 ⟨rfl, rfl⟩
          go_wp2_with fail
          go_ret
          exact ⟨rfl, HB.out⟩
        rcases ho2 : Sm.oks q with _ | _
        · obtain rfl := hst.out (by rw [ho2]; simp)
          rw [ho1] at C1
          rw [ho2] at C2
          clear hst hsp ho1 ho2
          go_wp2_with fail
          with_reducible refine (C1.out _).mono ?_
          rintro e w2 ⟨rfl, rfl⟩
          go_wp2_with fail
          with_reducible refine (C2.out _).mono ?_
          rintro e w2 ⟨rfl, rfl⟩
          go_wp2_with fail
          go_ret
          exact ⟨rfl, HB.out⟩
        by_cases c3 : x < t
        · have hup := Lib.hid (hsp.out ho1 ho2 c3)
          rw [ho1] at C1
          rw [ho2] at C2
          clear hst hsp ho1 ho2
          have d3 : decide (t ≤ x) = false := by simp; omega
          go_wp2_with fail
          with_reducible refine (C1.out _).mono ?_
          rintro e w2 ⟨rfl, rfl⟩
          go_wp2_with fail
          with_reducible refine (C2.out _).mono ?_
          rintro e w2 ⟨rfl, rfl⟩
          go_wp2_with fail
          go_roundw
          case rel => exact ⟨k + 1, t, by omega, by go_num, rfl, hup, S1.out, HB.out⟩
          case measure => simp [intOf]; omega
        · obtain rfl := hst.out (fun h => c3 h.2.2)
          rw [ho1] at C1
          rw [ho2] at C2
          clear hst hsp ho1 ho2
          go_wp2_with fail
          with_reducible refine (C1.out _).mono ?_
          rintro e w2 ⟨rfl, rfl⟩
          go_wp2_with fail
          with_reducible refine (C2.out _).mono ?_
          rintro e w2 ⟨rfl, rfl⟩
          go_wp2_with fail
          go_ret
          exact ⟨rfl, HB.out⟩
      · obtain rfl := Sm.upTo_end hu.out (by rw [HN.out]; omega)
        go_wp2_with fail
        go_ret
        exact ⟨rfl, hb⟩
end Go.Proofs.Ytpfhigcfpchkkaa
