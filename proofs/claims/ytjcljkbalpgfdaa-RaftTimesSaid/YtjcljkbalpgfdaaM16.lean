/-
  Parts that the statement rests on, joined: Sorted, Most.
-/
import Derived.Test.YtjcljkbalpgfdaaM2
import Derived.Test.YtjcljkbalpgfdaaM3
import Derived.Test.YtjcljkbalpgfdaaM15
import Derived.Sort.OwnSortedInts
/-
  What slices.Sort leaves: the same list of the call's own, in order.
-/




namespace Go.Proofs.Ytjcljkbalpgfdaa
open Go.RowKit Go.Sort

theorem cells_int (l : List Int) : cells l = l.map (Value.int .i64) := by
  induction l with
  | nil => rfl
  | cons x l ih => rw [List.map_cons, ← ih]; rfl
theorem sort_any (g n c : Nat) (l : List Int) (w : World) (base : Nat) (h0 : 0 < n) (hl : l.length ≤ 1000000) (ho : Own w base 3 (.slice (some ⟨g, 0, none⟩) n c) l) :
    Calls Try.prog 56 #[.slice (some ⟨g, 0, none⟩) n c] w fun e w' => e = .returned (.tuple #[]) ∧ Own w' base 3 (.slice (some ⟨g, 0, none⟩) n c) (Qr.sort l) ∧ (∀ B, B ≤ base → base ≤ w.heap.size → Below B w w') := by
  have hn := ho.sl.room.1
  have hlt := ho.lt g rfl
  subst hn
  have h1 := ho.1
  rw [cells_int] at h1
  rcases h1.2 with ⟨e, _⟩ | ⟨g', cap, cur, e, hb, hg, hcap, hm, hs, ht⟩
  · cases e
  injection e with e1 _ e3
  injection e1 with e1
  injection e1 with e1
  subst e1 e3
  have hH : Holds (Value.int .i64) w g 0 l.toArray := holds_of_blockI hg (by rw [← ht]; simp [Rep.sz])
  refine (Try.slices_Sort_int g 0 c l w hH hlt.2 (by omega)).mono ?_
  rintro e w' ⟨rfl, q, os, rfl⟩
  refine ⟨rfl, ⟨?_, fun x hx => ho.2 x ((Qr.sort_perm l).mem_iff.1 hx)⟩, fun B hB hbase => (Below.refl B w).grown (grownBy_sortedI _) (Nat.le_trans hB hbase) (fun k hk => by cases hk; exact Nat.le_trans hB hlt.1)⟩
  rw [cells_int, Qr.sort_len]
  exact ownsRow_sortedI (ss := l) (ts := Qr.sort l) (Qr.sort_len l) hb hg hcap hm hs
end Go.Proofs.Ytjcljkbalpgfdaa

/-
  What Most answers.
-/


namespace Go.Proofs.Ytjcljkbalpgfdaa
open Go.RowKit

set_option maxRecDepth 100000 in
theorem most_any (v : Value) (l : List Int) (hl : l.length ≤ 100000) (w : World) (B : Nat) (hB : B ≤ w.heap.size) (hv : Sl w B v l) :
    Calls Try.prog 51 #[v] w fun e w' => e = .returned (.int .i64 (Qr.most l)) ∧ Below w.heap.size w w' := by
  obtain ⟨A, c, rfl, hc, hm⟩ := hv.form
  by_cases h0 : l.length = 0
  · obtain rfl : l = [] := List.eq_nil_of_length_eq_zero h0
    rw [Qr.most_nil]
    clear hv h0
    simp only [List.length_nil]
    go_enter Try.func51, Try.ntmps51
    go_wp2_with fail
    go_ret
    exact ⟨rfl, Below.refl _ _⟩
  · have hp : 0 < l.length := by omega
    have h0p := hp
    clear h0
    have HQ := Lib.hid (clonei_any _ l hl w B hB hv)
    have HM := Lib.hid (fun W => maj_any (l.length : Int) (by omega) W)
    rw [Qr.maj_nat hp] at HM
    have hsp := Qr.spot_lt hp
    have hme := Qr.most_get hp
    have hsl := Qr.sort_len l
    have HS := Lib.hid (fun g c2 W h => sort_any g l.length c2 l W w.heap.size hp (by omega) h)
    clear hv
    generalize Qr.most l = r at *
    generalize hsrt : Qr.sort l = s at *
    have HSP := Lib.hid hsp
    have HME := Lib.hid hme
    have HLL := Lib.hid hsl
    have HL : Hid (Qr.spot l = l.length - (l.length / 2 + 1)) := Lib.hid rfl
    clear hsp hme hsl hsrt
    generalize hk : Qr.spot l = k at *
    generalize hn : l.length = n at *
    have HN := Lib.hid hn
    clear hn hk
    have hkn : k < n := by have := HSP.out; have := HLL.out; omega
    have hkd := HL.out
    have hne : ((n : Int) == 0) = false := by simp; omega
    go_enter Try.func51, Try.ntmps51
    go_wp2_with fail
    with_reducible refine HQ.out.mono ?_
    rintro e w1 ⟨A1, c1, rfl, ho1, hb1⟩
    rw [HN.out] at ho1 ⊢
    obtain ⟨g1, rfl, hg1, hg2, -⟩ := ho1.at_ h0p
    go_wp2_with fail
    with_reducible refine (HS.out g1 c1 w1 ho1).mono ?_
    rintro e w2 ⟨rfl, ho2, hb2⟩
    have HB := Lib.hid (hb1.trans (hb2 _ (Nat.le_refl _) hb1.size))
    have hslen := HLL.out
    obtain ⟨b3, o3, hA3, hlt3, g3, -⟩ := ho2.sl.int k (by omega)
    have hv3 : s[k]'(by omega) = r := by have := HME.out; rw [List.getElem?_eq_getElem (by omega)] at this; exact Option.some.inj this
    rw [hv3] at g3
    injection hA3 with hA3
    injection hA3 with e1 e2
    subst e1 e2
    clear ho1 ho2 hb1 hb2 hv3 HS HQ HME HSP HLL HL hslen
    go_wp2_with fail
    with_reducible refine (HM.out w2).mono ?_
    rintro e w3 ⟨rfl, rfl⟩
    have hm1 : 0 < n / 2 + 1 ∧ n / 2 + 1 ≤ n := by omega
    clear HM HN hne
    generalize n / 2 + 1 = m at *
    have hsub : (n : Int) - (m : Int) = (k : Int) := by omega
    rw [Nat.zero_add] at g3
    clear hkd
    go_wp2_with fail
    go_ret
    exact ⟨rfl, HB.out⟩
end Go.Proofs.Ytjcljkbalpgfdaa
