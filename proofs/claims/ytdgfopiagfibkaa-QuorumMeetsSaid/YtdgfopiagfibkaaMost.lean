/-
  What Most answers.
-/
import Derived.Test.YtdgfopiagfibkaaSorted
import Derived.Test.YtdgfopiagfibkaaMaj
namespace Go.Proofs.Ytdgfopiagfibkaa
open Go.RowKit

set_option maxRecDepth 100000 in
theorem most_any (v : Value) (l : List Int) (hl : l.length ≤ 100000) (w : World) (B : Nat) (hB : B ≤ w.heap.size) (hv : Sl w B v l) :
    Calls Try.prog 12 #[v] w fun e w' => e = .returned (.int .i64 (Qr.most l)) ∧ Below w.heap.size w w' := by
  obtain ⟨A, c, rfl, hc, hm⟩ := hv.form
  by_cases h0 : l.length = 0
  · obtain rfl : l = [] := List.eq_nil_of_length_eq_zero h0
    rw [Qr.most_nil]
    clear hv h0
    simp only [List.length_nil]
    go_enter Try.func12, Try.ntmps12
    go_wp2_with fail
    go_ret
    exact ⟨rfl, Below.refl _ _⟩
  · have hp : 0 < l.length := by omega
    have h0p := hp
    clear h0
    have HQ := Lib.hid (clonei_any _ l hl w B hB hv)
    have HM := Lib.hid (fun W => maj_any (l.length : Int) (by omega) W)
    rw [Qr.maj_nat hp] at HM
    have hsp := Qr.spot_lt hp
    have hme := Qr.most_get hp
    have hsl := Qr.sort_len l
    have HS := Lib.hid (fun g c2 W h => sort_any g l.length c2 l W w.heap.size hp (by omega) h)
    clear hv
    generalize Qr.most l = r at *
    generalize hsrt : Qr.sort l = s at *
    have HSP := Lib.hid hsp
    have HME := Lib.hid hme
    have HLL := Lib.hid hsl
    have HL : Hid (Qr.spot l = l.length - (l.length / 2 + 1)) := Lib.hid rfl
    clear hsp hme hsl hsrt
    generalize hk : Qr.spot l = k at *
    generalize hn : l.length = n at *
    have HN := Lib.hid hn
    clear hn hk
    have hkn : k < n := by have := HSP.out; have := HLL.out; omega
    have hkd := HL.out
    have hne : ((n : Int) == 0) = false := by simp; omega
    go_enter Try.func12, Try.ntmps12
    go_wp2_with fail
    with_reducible refine HQ.out.mono ?_
    rintro e w1 ⟨A1, c1, rfl, ho1, hb1⟩
    rw [HN.out] at ho1 ⊢
    obtain ⟨g1, rfl, hg1, hg2, -⟩ := ho1.at_ h0p
    go_wp2_with fail
    with_reducible refine (HS.out g1 c1 w1 ho1).mono ?_
    rintro e w2 ⟨rfl, ho2, hb2⟩
    have HB := Lib.hid (hb1.trans (hb2 _ (Nat.le_refl _) hb1.size))
    have hslen := HLL.out
    obtain ⟨b3, o3, hA3, hlt3, g3, -⟩ := ho2.sl.int k (by omega)
    have hv3 : s[k]'(by omega) = r := by have := HME.out; rw [List.getElem?_eq_getElem (by omega)] at this; exact Option.some.inj this
    rw [hv3] at g3
    injection hA3 with hA3
    injection hA3 with e1 e2
    subst e1 e2
    clear ho1 ho2 hb1 hb2 hv3 HS HQ HME HSP HLL HL hslen
    go_wp2_with fail
    with_reducible refine (HM.out w2).mono ?_
    rintro e w3 ⟨rfl, rfl⟩
    have hm1 : 0 < n / 2 + 1 ∧ n / 2 + 1 ≤ n := by omega
    clear HM HN hne
    generalize n / 2 + 1 = m at *
    have hsub : (n : Int) - (m : Int) = (k : Int) := by omega
    rw [Nat.zero_add] at g3
    clear hkd
    go_wp2_with fail
    go_ret
    exact ⟨rfl, HB.out⟩
end Go.Proofs.Ytdgfopiagfibkaa
