/-
  SessionTells: whether any sessions may be, and what was answered, is what the reference says.
-/
import Derived.Test.YtpfhigcfpchkkaaAwk
import Derived.Test.YtpfhigcfpchkkaaRlook
namespace Go.Proofs.Ytpfhigcfpchkkaa
open Go.RowKit

set_option maxRecDepth 100000 in
theorem tells_law (w : World) (v : Value) (l : List Se) (hv : Sl w w.heap.size v l) (c q : Int) :
    Calls Try.prog 3 #[v, .int .i64 c, .int .i64 q] w fun e w' => e = .returned (.bool true) ∧ Below w.heap.size w w' := by
  obtain ⟨A, cap, rfl, hc, hm⟩ := hv.form
  have HK := Lib.hid (awake_any w)
  have HA := Lib.hid (fun W (h : Below w.heap.size w W) => look_any _ l c q W w.heap.size h.size (hv.below h))
  have HR := Lib.hid (fun W (h : Below w.heap.size w W) => rlook_any _ l c q W w.heap.size h.size (hv.below h))
  have HM := Lib.hid (fun W (h : Below w.heap.size w W) => may_any _ l W w.heap.size h.size (hv.below h))
  have HN := Lib.hid (fun W (h : Below w.heap.size w W) => rmay_any _ l W w.heap.size h.size (hv.below h))
  clear hv
  generalize Sm.look l c q = X at *
  generalize Sm.may l = r at *
  generalize l.length = n at *
  obtain ⟨x1, x2, x3⟩ := X
  dsimp only at HA HR
  go_enter Try.func3, Try.ntmps3
  go_wp2_with fail
  with_reducible refine HK.out.mono ?_
  rintro e w1 ⟨rfl, hb1⟩
  have HB1 := Lib.hid hb1
  clear hb1 HK
  by_cases c1 : 100 < n
  · go_wp2_with fail
    go_ret
    exact ⟨rfl, HB1.out⟩
  have e1 : (x1 == x1) = true := by simp
  have e2 : (x2 == x2) = true := by simp
  have e3 : (x3 == x3) = true := by simp
  have e4 : (r == r) = true := by simp
  go_wp2_with fail
  with_reducible refine (HA.out _ HB1.out).mono ?_
  rintro e w2 ⟨rfl, hb2⟩
  have HB2 := Lib.hid (HB1.out.trans (hb2.mono HB1.out.size))
  clear hb2 HA
  go_wp2_with fail
  with_reducible refine (HR.out _ HB2.out).mono ?_
  rintro e w3 ⟨rfl, hb3⟩
  have HB3 := Lib.hid (HB2.out.trans (hb3.mono HB2.out.size))
  clear hb3 HR
  go_wp2_with fail
  with_reducible refine (HM.out _ HB3.out).mono ?_
  rintro e w4 ⟨rfl, hb4⟩
  have HB4 := Lib.hid (HB3.out.trans (hb4.mono HB3.out.size))
  clear hb4 HM
  go_wp2_with fail
  with_reducible refine (HN.out _ HB4.out).mono ?_
  rintro e w5 ⟨rfl, hb5⟩
  have HB5 := Lib.hid (HB4.out.trans (hb5.mono HB4.out.size))
  clear hb5 HN
  go_wp2_with fail
  go_ret
  exact ⟨rfl, HB5.out⟩
end Go.Proofs.Ytpfhigcfpchkkaa
