/-
  What the program's test on terms answers.
-/
import Derived.Test.YtdgfopiagfibkaaEnt
import Derived.Test.YtdgfopiagfibkaaLg
import Derived.LoopTactic
namespace Go.Proofs.Ytdgfopiagfibkaa
open Go.RowKit

set_option maxRecDepth 100000 in
theorem follow_any (v : Value) (l : List E) (m : Int) (w : World) (B : Nat) (hB : B ≤ w.heap.size) (hv : Sl w B v l) :
    Calls Try.prog 40 #[.int .i64 m, v] w fun e w' => e = .returned (.bool (Lg.rise m l)) ∧ Below w.heap.size w w' := by
  obtain ⟨A, c, rfl, hc, hm⟩ := hv.form
  unfold maxLen at hm
  have H := Lib.hid hv
  have HU0 := Lg.upTo_max m l
  clear hv
  generalize Lg.rise m l = r at *
  generalize hn : l.length = n at *
  have HN := Lib.hid hn
  clear hn
  by_cases hm1 : m < 1
  all_goals
    first | rw [if_pos hm1] at HU0 | rw [if_neg hm1] at HU0
    have HU := Lib.hid HU0
    clear HU0
    go_enter Try.func40, Try.ntmps40
    go_wp2_with fail
    go_loopw [5, 12] (fun a i wr => ∃ (k : Nat) (x : Int), k ≤ n ∧ i = .int .i64 (k : Int) ∧ a = .int .i64 x ∧ 1 ≤ x ∧ Hid (Lg.upTo r l k x) ∧ Sl wr B (.slice A n c) l ∧ Below w.heap.size w wr) (fun _ i _ => n - (intOf i).toNat)
    case atStart => exact ⟨0, _, Nat.zero_le _, rfl, rfl, by omega, HU, H.out, Below.refl _ _⟩
    case round =>
      obtain ⟨k, x, hk, rfl, rfl, hx1, hu, h1, hb⟩ := hrel
      by_cases hlt : k < n
      · have hkl : k < l.length := by rw [HN.out]; exact hlt
        obtain ⟨b1, o1, rfl, hbB, g0, g1, g2, g3, g4, g5, g6, -⟩ := h1.entry k hkl
        have hst := Lib.hid (Lg.upTo_stop hu.out hkl)
        have hsp := Lib.hid (Lg.upTo_step hu.out hkl)
        have S1 := Lib.hid (h1.below ((Below.refl B wr).alloc (Nat.le_trans hB hb.size) (.cells (ec l[k]) 35)))
        have HB := Lib.hid (hb.alloc hb.size (.cells (ec l[k]) 35))
        have hz := hb.size
        clear h1 hb hu
        generalize l[k] = y at *
        obtain ⟨t, y1, y2, y3, y4, y5, y6⟩ := y
        dsimp only at *
        clear hkl
        by_cases c3 : t < x
        · obtain rfl := hst.out (by omega)
          go_wp2_with fail
          go_ret
          exact ⟨rfl, HB.out⟩
        · by_cases c2 : 1073741824 < t
          · obtain rfl := hst.out (by omega)
            go_wp2_with fail
            go_ret
            exact ⟨rfl, HB.out⟩
          · have hup := Lib.hid (hsp.out (by omega))
            clear hst hsp
            go_wp2_with fail
            go_roundw
            case rel => exact ⟨k + 1, t, by omega, by go_num, rfl, by omega, hup, S1.out, HB.out⟩
            case measure => simp [intOf]; omega
      · obtain rfl := Lg.upTo_end hu.out (by rw [HN.out]; omega)
        go_wp2_with fail
        go_ret
        exact ⟨rfl, hb⟩
end Go.Proofs.Ytdgfopiagfibkaa
