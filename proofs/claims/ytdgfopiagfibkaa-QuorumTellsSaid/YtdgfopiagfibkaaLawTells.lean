/-
  QuorumTells: what is more than half, what is held, what most have, is what the reference says.
-/
import Derived.Test.YtdgfopiagfibkaaAwk
import Derived.Test.YtdgfopiagfibkaaRmost
namespace Go.Proofs.Ytdgfopiagfibkaa
open Go.RowKit

set_option maxRecDepth 100000 in
theorem tells_law (w : World) (v : Value) (l : List Int) (hv : Sl w w.heap.size v l) (i n : Int) (hn : -9223372036854775808 ≤ n ∧ n ≤ 9223372036854775807) :
    Calls Try.prog 3 #[v, .int .i64 i, .int .i64 n] w fun e w' => e = .returned (.bool true) ∧ Below w.heap.size w w' := by
  obtain ⟨A, c, rfl, hc, hm⟩ := hv.form
  have HB := Lib.hid (Below.refl w.heap.size w)
  have HK := Lib.hid (fun W => awake_any W)
  have H1 := Lib.hid (fun W => maj_any n hn W)
  have H2 := Lib.hid (fun W => rmaj_any n hn W)
  have H3 := Lib.hid (fun W (h : Below w.heap.size w W) => held_any _ l i W w.heap.size h.size (hv.below h))
  have H4 := Lib.hid (fun W (h : Below w.heap.size w W) => rheld_any _ l i W w.heap.size h.size (hv.below h))
  have H5 := Lib.hid (fun W (h : Below w.heap.size w W) (hl : l.length ≤ 100000) => most_any _ l hl W w.heap.size h.size (hv.below h))
  have H6 := Lib.hid (fun W (h : Below w.heap.size w W) (hl : l.length ≤ 100000) => rmost_any _ l hl W w.heap.size h.size (hv.below h))
  clear hv
  generalize Qr.maj n = x1 at *
  generalize Qr.held l i = x2 at *
  generalize Qr.most l = x3 at *
  generalize l.length = k at *
  go_enter Try.func3, Try.ntmps3
  go_wp2_with fail
  with_reducible refine (HK.out _).mono ?_
  rintro e w1 ⟨rfl, hb⟩
  replace HB := Lib.hid (HB.out.trans (hb.mono HB.out.size))
  clear hb HK
  by_cases hk : 100 < k
  · go_wp2_with fail
    go_ret
    exact ⟨rfl, HB.out⟩
  have d1 : decide (100 < k) = false := by simpa using hk
  go_wp2_with fail
  with_reducible refine (H1.out _).mono ?_
  rintro e w2 ⟨rfl, rfl⟩
  go_wp2_with fail
  with_reducible refine (H2.out _).mono ?_
  rintro e w2 ⟨rfl, rfl⟩
  go_wp2_with fail
  with_reducible refine (H3.out _ HB.out).mono ?_
  rintro e w2 ⟨rfl, rfl⟩
  go_wp2_with fail
  with_reducible refine (H4.out _ HB.out).mono ?_
  rintro e w2 ⟨rfl, rfl⟩
  go_wp2_with fail
  with_reducible refine (H5.out _ HB.out (by omega)).mono ?_
  rintro e w2 ⟨rfl, hb⟩
  replace HB := Lib.hid (HB.out.trans (hb.mono HB.out.size))
  clear hb
  go_wp2_with fail
  with_reducible refine (H6.out _ HB.out (by omega)).mono ?_
  rintro e w3 ⟨rfl, rfl⟩
  go_wp2_with fail
  go_ret
  exact ⟨rfl, HB.out⟩
end Go.Proofs.Ytdgfopiagfibkaa
