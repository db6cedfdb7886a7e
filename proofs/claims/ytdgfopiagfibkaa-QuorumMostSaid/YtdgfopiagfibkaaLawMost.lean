/-
  QuorumMost: a majority has what most have, and no majority has more.
-/
import Derived.Test.YtdgfopiagfibkaaAwk
namespace Go.Proofs.Ytdgfopiagfibkaa
open Go.RowKit

set_option maxRecDepth 100000 in
theorem most_law (w : World) (v : Value) (l : List Int) (hv : Sl w w.heap.size v l) (i : Int) :
    Calls Try.prog 5 #[v, .int .i64 i] w fun e w' => e = .returned (.bool true) ∧ Below w.heap.size w w' := by
  obtain ⟨A, c, rfl, hc, hm⟩ := hv.form
  have HB := Lib.hid (Below.refl w.heap.size w)
  have HK := Lib.hid (fun W => awake_any W)
  have H1 := Lib.hid (fun (h : l.length ≤ 1000 ∧ 0 < l.length) W => show Calls Try.prog 8 #[.int .i64 (l.length : Int)] W fun e w' => e = .returned (.int .i64 ((l.length / 2 + 1 : Nat) : Int)) ∧ W = w' by rw [← Qr.maj_nat h.2]; exact maj_any (l.length : Int) (by omega) W)
  have H3 := Lib.hid (fun j W (h : Below w.heap.size w W) => held_any _ l j W w.heap.size h.size (hv.below h))
  have H5 := Lib.hid (fun W (h : Below w.heap.size w W) (hl : l.length ≤ 100000) => most_any _ l hl W w.heap.size h.size (hv.below h))
  have HX := Lib.hid (fun (h : 0 < l.length) => (Qr.held_most h (Qr.most l)).2 (Int.le_refl _))
  have HY := Lib.hid (fun (h : 0 < l.length) (hi : Qr.most l < i) => show ¬ l.length / 2 + 1 ≤ Qr.held l i from fun hh => by have := (Qr.held_most h i).1 hh; omega)
  clear hv
  generalize Qr.most l = x3 at *
  generalize Qr.held l = hd at *
  generalize l.length = k at *
  go_enter Try.func5, Try.ntmps5
  go_wp2_with fail
  with_reducible refine (HK.out _).mono ?_
  rintro e w1 ⟨rfl, hb⟩
  replace HB := Lib.hid (HB.out.trans (hb.mono HB.out.size))
  clear hb HK
  by_cases hk : 100 < k
  · go_wp2_with fail
    go_ret
    exact ⟨rfl, HB.out⟩
  have d1 : decide (100 < k) = false := by simpa using hk
  by_cases h0 : k = 0
  · subst h0
    go_wp2_with fail
    go_ret
    exact ⟨rfl, HB.out⟩
  have hne : ((k : Int) == 0) = false := by simpa using h0
  have hx := HX.out (by omega)
  have HY2 := Lib.hid (HY.out (by omega))
  replace H1 := Lib.hid (H1.out (by omega))
  generalize k / 2 + 1 = q at *
  clear HX HY
  go_wp2_with fail
  with_reducible refine (H5.out _ HB.out (by omega)).mono ?_
  rintro e w2 ⟨rfl, hb⟩
  replace HB := Lib.hid (HB.out.trans (hb.mono HB.out.size))
  clear hb
  go_wp2_with fail
  with_reducible refine (H1.out _).mono ?_
  rintro e w3 ⟨rfl, rfl⟩
  go_wp2_with fail
  with_reducible refine (H3.out x3 _ HB.out).mono ?_
  rintro e w3 ⟨rfl, rfl⟩
  have d2 : decide (q ≤ hd x3) = true := by simpa using hx
  by_cases hi : i ≤ x3
  · go_wp2_with fail
    go_ret
    exact ⟨rfl, HB.out⟩
  · have hy := HY2.out (by omega)
    have d3 : decide (i ≤ x3) = false := by simpa using hi
    clear HY2
    go_wp2_with fail
    with_reducible refine (H3.out i _ HB.out).mono ?_
    rintro e w3 ⟨rfl, rfl⟩
    have d4 : decide (hd i < q) = true := by simp; omega
    go_wp2_with fail
    go_ret
    exact ⟨rfl, HB.out⟩
end Go.Proofs.Ytdgfopiagfibkaa
