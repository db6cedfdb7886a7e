/-
  What the reference's May answers.
-/
import Derived.Test.YtpfhigcfpchkkaaPok
import Derived.LoopTactic
import Derived.BigQuiet
namespace Go.Proofs.Ytpfhigcfpchkkaa
open Go.RowKit

theorem quiet_same9 {P : Program} {f : FuncId} {args : Array Value} {w : World} {n : Nat} {v : Value}
    (h : Calls P f args (w.drewN n) fun e w' => e = .returned v ∧ w' = w.drewN n) : Calls P f args (w.drewN n) fun e w'' => e = .returned v ∧ ∃ m, w'' = w.drewN m :=
  h.mono fun _ _ ⟨he, hm⟩ => ⟨he, n, hm⟩
set_option maxRecDepth 100000 in
theorem rmay_any (v : Value) (l : List Se) (w : World) (B : Nat) (hB : B ≤ w.heap.size) (hv : Sl w B v l) :
    Calls Try.prog 12 #[v] w fun e w' => e = .returned (.bool (Sm.may l)) ∧ Below w.heap.size w w' := by
  obtain ⟨A, c, rfl, hc, hm⟩ := hv.form
  unfold maxLen at hm
  have H := Lib.hid hv
  have HU := Lib.hid (Sm.upTo_zero l)
  have hmay : Sm.may l = (decide (l.length ≤ 16) && Sm.rise 0 l) := rfl
  clear hv
  generalize Sm.may l = R at *
  generalize Sm.rise 0 l = r at *
  generalize hn : l.length = n at *
  have HN := Lib.hid hn
  clear hn
  by_cases h16 : 16 < n
  · rw [show decide (n ≤ 16) = false by simp; omega] at hmay
    obtain rfl : R = false := hmay
    go_enter Try.func12, Try.ntmps12
    go_wp2_with fail
    go_ret
    exact ⟨rfl, Below.refl _ _⟩
  · rw [show decide (n ≤ 16) = true by simp; omega] at hmay
    obtain rfl : R = r := hmay
    go_enter Try.func12, Try.ntmps12
    go_wp2_with fail
    go_loopw [3] (fun i wr => ∃ (k : Nat) (x : Int), k ≤ n ∧ i = .int .i64 (k : Int) ∧ Hid (Sm.upTo R l k x) ∧ Hid ((k = 0 ∧ x = 0) ∨ ∃ (j : Nat) (h : j < l.length), k = j + 1 ∧ x = (l[j]).1) ∧ Below w.heap.size w wr) (fun i _ => n - (intOf i).toNat)
    case atStart => exact ⟨0, _, Nat.zero_le _, rfl, HU, .inl ⟨rfl, rfl⟩, Below.refl _ _⟩
    case round =>
      obtain ⟨k, x, hk, rfl, hu, hx, hb⟩ := hrel
      by_cases hlt : k < n
      · have hkl : k < l.length := by rw [HN.out]; exact hlt
        obtain ⟨b1, o1, rfl, hbB, g0, g1, g2, -⟩ := H.out.sessW k hkl (hb.mono hB)
        have hst := Lib.hid (Sm.upTo_stop hu.out hkl)
        have hsp := Lib.hid (Sm.upTo_step hu.out hkl)
        have HX : Hid (∀ z : Int, z = (l[k]).1 → Hid ((k + 1 = 0 ∧ z = 0) ∨ ∃ (j : Nat) (h : j < l.length), k + 1 = j + 1 ∧ z = (l[j]).1)) := fun z hz => .inr ⟨k, hkl, rfl, hz⟩
        have C1 := Lib.hid (rok_any (l[k]).1 (l[k]).2.1)
        have HB := Lib.hid hb
        have HP : Hid (k = 0 ∧ x = 0 ∨ 0 < k ∧ wr.cell? ⟨b1, o1 + (k - 1) * 3, none⟩ = some (.int .i64 x)) := by
          rcases hx.out with h | ⟨j, h, h0, h1⟩
          · exact .inl h
          · obtain ⟨b2, o2, e2, -, p0, -⟩ := H.out.sessW j h (hb.mono hB)
            injection e2 with e2
            injection e2 with e2 e3
            subst e2 e3
            exact .inr ⟨by omega, by rw [h1, h0, Nat.add_sub_cancel]; exact p0⟩
        clear hu hb hx
        generalize l[k] = y at *
        obtain ⟨t, q, z⟩ := y
        dsimp only at *
        clear hkl
        have i1 : (0 : Int) ≤ (k : Int) := by omega
        have i2 : (k : Int) < (n : Int) := by omega
        rcases ho : (Sm.okc t && Sm.oks q) with _ | _
        · obtain rfl := hst.out (fun h => by rw [h.1, h.2.1] at ho; cases ho)
          rw [ho] at C1
          clear hst hsp ho
          have tok : True := trivial
          go_wp2_with fail
          go_quiet ((go_at_call 19; exact quiet_same9 (C1.out _)))
          go_wp2_with fail
          go_quiet (fail)
          go_wp2_with fail
          go_ret
          exact ⟨rfl, below_drewN (below_drewN HB.out _) _⟩
        · obtain ⟨ho1, ho2⟩ : Sm.okc t = true ∧ Sm.oks q = true := by simpa using ho
          by_cases c3 : x < t
          · have hup := Lib.hid (hsp.out ho1 ho2 c3)
            rw [ho] at C1
            clear hst hsp ho ho1 ho2
            have d3 : decide (t ≤ x) = false := by simp; omega
            have tok : True := trivial
            rcases HP.out with ⟨h0, -⟩ | ⟨h0, p0⟩
            · have d0 : decide (0 < k) = false := by simp [h0]
              clear h0
              go_wp2_with fail
              go_quiet ((go_at_call 19; exact quiet_same9 (C1.out _)))
              go_wp2_with fail
              go_quiet (fail)
              go_wp2_with fail
              go_roundw
              case rel => exact ⟨k + 1, t, by omega, by go_num, hup, HX.out _ rfl, below_drewN HB.out _⟩
              case measure => simp [intOf]; omega
            · have d0 : decide (0 < k) = true := by simpa using h0
              have i3 : (0 : Int) ≤ (k : Int) - 1 := by omega
              have i4 : (k : Int) - 1 < (n : Int) := by omega
              have i5 : ((k : Int) - 1).toNat = k - 1 := by omega
              go_wp2_with fail
              go_quiet ((go_at_call 19; exact quiet_same9 (C1.out _)))
              go_wp2_with fail
              go_quiet (fail)
              go_wp2_with fail
              go_roundw
              case rel => exact ⟨k + 1, t, by omega, by go_num, hup, HX.out _ rfl, below_drewN HB.out _⟩
              case measure => simp [intOf]; omega
          · obtain rfl := hst.out (fun h => c3 h.2.2)
            have ht1 := (Sm.okc_iff.1 ho1).1
            rw [ho] at C1
            clear hst hsp ho ho1 ho2
            have d3 : decide (t ≤ x) = true := by simp; omega
            have tok : True := trivial
            rcases HP.out with ⟨-, h0⟩ | ⟨h0, p0⟩
            · omega
            · have d0 : decide (0 < k) = true := by simpa using h0
              have i3 : (0 : Int) ≤ (k : Int) - 1 := by omega
              have i4 : (k : Int) - 1 < (n : Int) := by omega
              have i5 : ((k : Int) - 1).toNat = k - 1 := by omega
              go_wp2_with fail
              go_quiet ((go_at_call 19; exact quiet_same9 (C1.out _)))
              go_wp2_with fail
              go_quiet (fail)
              go_wp2_with fail
              go_ret
              exact ⟨rfl, below_drewN (below_drewN HB.out _) _⟩
      · obtain rfl := Sm.upTo_end hu.out (by rw [HN.out]; omega)
        go_wp2_with fail
        go_ret
        exact ⟨rfl, hb⟩
end Go.Proofs.Ytpfhigcfpchkkaa
