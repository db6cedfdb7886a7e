/-
  What the reference's test on terms answers.
-/
import Derived.Test.YthcfaccglioikaaEnt
import Derived.Test.YthcfaccglioikaaLg
import Derived.LoopTactic
namespace Go.Proofs.Ythcfaccglioikaa
open Go.RowKit

set_option maxRecDepth 100000 in
theorem rising_any (v : Value) (l : List E) (m : Int) (w : World) (B : Nat) (_hB : B ≤ w.heap.size) (hv : Sl w B v l) :
    Calls Try.prog 26 #[v, .int .i64 m] w fun e w' => e = .returned (.bool (Lg.rise m l)) ∧ Below w.heap.size w w' := by
  obtain ⟨A, c, rfl, hc, hm⟩ := hv.form
  unfold maxLen at hm
  have H := Lib.hid hv
  have HU := Lib.hid (Lg.upTo_zero m l)
  clear hv
  generalize Lg.rise m l = r at *
  generalize hn : l.length = n at *
  have HN := Lib.hid hn
  clear hn
  go_enter Try.func26, Try.ntmps26
  go_wp2_with fail
  go_loopw [5, 6] (fun a i wr => ∃ (k : Nat) (x : Int), k ≤ n ∧ i = .int .i64 (k : Int) ∧ a = .int .i64 x ∧ Hid (Lg.upTo r l k x) ∧ Sl wr B (.slice A n c) l ∧ Below w.heap.size w wr) (fun _ i _ => n - (intOf i).toNat)
  case atStart => exact ⟨0, m, Nat.zero_le _, rfl, rfl, HU, H.out, Below.refl _ _⟩
  case round =>
    obtain ⟨k, x, hk, rfl, rfl, hu, h1, hb⟩ := hrel
    by_cases hlt : k < n
    · have hkl : k < l.length := by rw [HN.out]; exact hlt
      obtain ⟨b1, o1, rfl, g0⟩ := h1.term k hkl
      have hst := Lib.hid (Lg.upTo_stop hu.out hkl)
      have hsp := Lib.hid (Lg.upTo_step hu.out hkl)
      have S1 := Lib.hid h1
      have HB := Lib.hid hb
      clear h1 hb hu
      generalize (l[k]).1 = t at *
      clear hkl
      by_cases c1 : t < 1
      · obtain rfl := hst.out (by omega)
        go_wp2_with fail
        go_ret
        exact ⟨rfl, HB.out⟩
      · by_cases c2 : 1073741824 < t
        · obtain rfl := hst.out (by omega)
          go_wp2_with fail
          go_ret
          exact ⟨rfl, HB.out⟩
        · by_cases c3 : t < x
          · obtain rfl := hst.out (by omega)
            go_wp2_with fail
            go_ret
            exact ⟨rfl, HB.out⟩
          · have hup := Lib.hid (hsp.out (by omega))
            clear hst hsp
            go_wp2_with fail
            go_roundw
            case rel => exact ⟨k + 1, t, by omega, by go_num, rfl, hup, S1.out, HB.out⟩
            case measure => simp [intOf]; omega
    · obtain rfl := Lg.upTo_end hu.out (by rw [HN.out]; omega)
      go_wp2_with fail
      go_ret
      exact ⟨rfl, hb⟩
end Go.Proofs.Ythcfaccglioikaa
