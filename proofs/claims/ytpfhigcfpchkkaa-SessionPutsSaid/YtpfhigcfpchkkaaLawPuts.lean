/-
  SessionPuts: any sessions with any answer more are what the reference says, or refused as it refuses.
-/
import Derived.Test.YtpfhigcfpchkkaaAwk
import Derived.Test.YtpfhigcfpchkkaaRput
import Derived.Test.YtpfhigcfpchkkaaSame
namespace Go.Proofs.Ytpfhigcfpchkkaa
open Go.RowKit

set_option maxRecDepth 100000 in
theorem puts_law (w : World) (v : Value) (l : List Se) (hv : Sl w w.heap.size v l) (c q a : Int) (ha : -9223372036854775808 ≤ a ∧ a ≤ 9223372036854775807) :
    Calls Try.prog 4 #[v, .int .i64 c, .int .i64 q, .int .i64 a] w fun e w' => e = .returned (.bool true) ∧ Below w.heap.size w w' := by
  obtain ⟨A, cap, rfl, hc, hm⟩ := hv.form
  have HK := Lib.hid (awake_any w)
  have HA := Lib.hid (fun W (h : Below w.heap.size w W) => put_any _ l c q a ha W w.heap.size h.size (hv.below h))
  have HR := Lib.hid (fun W (h : Below w.heap.size w W) => rput_any _ l c q a ha W w.heap.size h.size (hv.below h))
  have hmay := Lib.hid (@Sm.put_may l c q a)
  clear hv
  generalize Sm.put l c q a = X at *
  generalize l.length = n at *
  obtain ⟨m, x⟩ := X
  dsimp only at hmay
  go_enter Try.func4, Try.ntmps4
  go_wp2_with fail
  with_reducible refine HK.out.mono ?_
  rintro e w1 ⟨rfl, hb1⟩
  have HB1 := Lib.hid hb1
  clear hb1 HK
  by_cases c1 : 100 < n
  · go_wp2_with fail
    go_ret
    exact ⟨rfl, HB1.out⟩
  have e1 : (x == x) = true := by simp
  go_wp2_with fail
  with_reducible refine (HA.out _ HB1.out).mono ?_
  rintro e w2 ⟨A2, c2, rfl, hown2, hb2⟩
  dsimp only at hown2 ⊢
  have HS2 := Lib.hid hown2.sl
  have HB2 := Lib.hid (HB1.out.trans (hb2.mono HB1.out.size))
  clear hown2 hb2 HA
  go_wp2_with fail
  with_reducible refine (HR.out _ HB2.out).mono ?_
  rintro e w3 ⟨A3, c3, rfl, hown3, hb3⟩
  dsimp only at hown3 ⊢
  have HS3 := Lib.hid hown3.sl
  have HS23 := Lib.hid ((HS2.out.below hb3).mono hb3.size)
  have HB3 := Lib.hid (HB2.out.trans (hb3.mono HB2.out.size))
  have HG := Lib.hid (same_any _ _ m w3 _ HS23.out HS3.out)
  have HM := Lib.hid (fun W (h : Below w3.heap.size w3 W) => may_any _ m W w3.heap.size h.size (HS23.out.below h))
  clear hown3 hb3 HR HS3 HS2 HS23
  generalize m.length = p at *
  go_wp2_with fail
  with_reducible refine HG.out.mono ?_
  rintro e w4 ⟨rfl, hb4⟩
  have HB4 := Lib.hid (HB3.out.trans (hb4.mono HB3.out.size))
  by_cases h0 : x = 0
  · subst h0
    have hM := HM.out w4 hb4
    rw [hmay.out rfl] at hM
    have HM4 := Lib.hid hM
    clear hM HM hmay hb4
    go_wp2_with fail
    with_reducible refine HM4.out.mono ?_
    rintro e w5 ⟨rfl, hb5⟩
    have HB5 := Lib.hid (HB4.out.trans (hb5.mono HB4.out.size))
    clear hb5
    go_wp2_with fail
    go_ret
    exact ⟨rfl, HB5.out⟩
  · have e2 : (x != 0) = true := by simpa using h0
    clear HM hmay hb4
    go_wp2_with fail
    go_ret
    exact ⟨rfl, HB4.out⟩
end Go.Proofs.Ytpfhigcfpchkkaa
