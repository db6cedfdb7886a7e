/-
  Any bytes begin with the frame that the reference gets, and run through its frames: what the law's text comes to.
-/
import Derived.Test.YtnodogcabpjahaaDoorAwk
import Derived.Test.YtnodogcabpjahaaDoorRrun
import Derived.Test.YtnodogcabpjahaaDoorFsame
namespace Go.Proofs.YtnodogcabpjahaaDoor
open Go.RowKit

/-- One frame in a slice of its own. -/
theorem one_frame {w : World} {k : Int} {n c : Nat} {A : Option Addr} {b : List UInt8} (hk : -9223372036854775808 ≤ k ∧ k ≤ 9223372036854775807) (h : Sl w w.heap.size (.slice A n c) b) :
    Sl (w.alloc (.cells #[.int .i64 k, .slice A n c] 24)) (w.heap.size + 1) (.slice (some ⟨w.heap.size, 0, none⟩) 1 1) [((k, b) : Frm.F)] :=
  SlS.wide (SlS.new1 w 24 (k, b) #[.int .i64 k, .slice A n c] (frame_fits hk h)) fun x hx _ => by
    rcases hx with ⟨_, h⟩ | h
    · show x < _; omega
    · show x < _; omega
theorem get_kind (l : List UInt8) : -9223372036854775808 ≤ (Frm.get l).1.1 ∧ (Frm.get l).1.1 ≤ 9223372036854775807 := by
  rcases Frm.get_cases l with h | ⟨e, _, h⟩
  · have := (Frm.get_fn h).1
    have h1 := this.1
    have h2 := this.2.1
    omega
  · rw [h]
    simp [Frm.err]

set_option maxRecDepth 100000 in
theorem gets_law (w : World) (hT : Tab w) (v : Value) (l : List UInt8) (hv : Sl w w.heap.size v l) :
    Calls Tryd.prog 4 #[v] w fun e w' => e = .returned (.bool true) ∧ Below w.heap.size w w' := by
  obtain ⟨A, c, rfl, _, hm⟩ := hv.form
  unfold maxLen at hm
  have hpos := hT.pos
  have HK := Lib.hid (awake_any w hT)
  by_cases hout : 6000 < l.length
  · clear hv hT
    generalize l.length = n at *
    go_enter Tryd.func4, Tryd.ntmps4
    go_wp2_with fail
    refine HK.out.mono ?_
    rintro e w1 ⟨rfl, hb1⟩
    go_wp2_with fail
    go_ret
    exact ⟨rfl, hb1⟩
  · have HG := Lib.hid (fun W (h : Below w.heap.size w W) => get_any _ l (by omega) W w.heap.size h.size (hv.below h) (hT.below h hpos))
    have HRG := Lib.hid (fun W (h : Below w.heap.size w W) => refGet_any _ l (by omega) W w.heap.size h.size (hv.below h))
    have HR := Lib.hid (fun W (h : Below w.heap.size w W) => run_any _ l (by omega) W w.heap.size h.size (hv.below h) (hT.below h hpos))
    have HRR := Lib.hid (fun W (h : Below w.heap.size w W) => refRun_any _ l (by omega) W w.heap.size h.size (hv.below h))
    have hkd := get_kind l
    have hrl := (Frm.run_used l.length l (Nat.le_refl _)).2.2
    clear hv hT
    generalize Frm.run l = r at *
    generalize Frm.get l = g at *
    obtain ⟨rf, rn, re⟩ := r
    obtain ⟨⟨gk, gb⟩, gn, ge⟩ := g
    simp only at hkd hrl
    have HS := Lib.hid (fun W v1 v2 (h1 : Sl W W.heap.size v1 rf) (h2 : Sl W W.heap.size v2 rf) => fsame_any v1 v2 rf (by omega) W W.heap.size (Nat.le_refl _) h1 h2)
    have HS1 := Lib.hid (fun W v1 v2 (h1 : Sl W W.heap.size v1 [((gk, gb) : Frm.F)]) (h2 : Sl W W.heap.size v2 [((gk, gb) : Frm.F)]) => fsame_any v1 v2 [(gk, gb)] (by simp) W W.heap.size (Nat.le_refl _) h1 h2)
    generalize l.length = n at *
    have e1 : (gn == gn) = true := by simp
    have e2 : (ge == ge) = true := by simp
    have e3 : (rn == rn) = true := by simp
    have e4 : (re == re) = true := by simp
    go_enter Tryd.func4, Tryd.ntmps4
    go_wp2_with fail
    refine HK.out.mono ?_
    rintro e w1 ⟨rfl, hb1⟩
    have HG1 := Lib.hid (HG.out w1 hb1)
    go_wp2_with fail
    with_reducible refine HG1.out.mono ?_
    rintro e w2 ⟨A2, c2, rfl, ho2, hb2⟩
    have hb12 := hb1.trans (hb2.mono hb1.size)
    have hz2 := hb12.size
    have HO2 := Lib.hid (ho2.sl)
    have hx2 : Below w2.heap.size w2 (w2.alloc (.cells #[.int .i64 gk, .slice A2 gb.length c2] 24)) := (Below.refl _ _).alloc (Nat.le_refl _) _
    have hw2 := Lib.hid (Whole.new w2 24 #[.int .i64 gk, .slice A2 gb.length c2])
    have hb13 := hb12.trans (hx2.mono hz2)
    have HRG2 := Lib.hid (HRG.out _ hb13)
    clear ho2
    go_wp2_with fail
    with_reducible refine HRG2.out.mono ?_
    rintro e w3 ⟨A3, c3, rfl, ho3, hb3⟩
    dsimp only at ho3 ⊢
    have hb14 := hb13.trans (hb3.mono hb13.size)
    have HO3 := Lib.hid ho3.here
    have hx3 : Below w3.heap.size w3 (w3.alloc (.cells #[.int .i64 gk, .slice A3 gb.length c3] 24)) := (Below.refl _ _).alloc (Nat.le_refl _) _
    have hw3 := Lib.hid (Whole.new w3 24 #[.int .i64 gk, .slice A3 gb.length c3])
    have hb15 := hb14.trans (hx3.mono hb14.size)
    have HR3 := Lib.hid (HR.out _ hb15)
    clear ho3
    go_wp2_with fail
    with_reducible refine HR3.out.mono ?_
    rintro e w4 ⟨A4, c4, rfl, ho4, hb4⟩
    have hb16 := hb15.trans (hb4.mono hb15.size)
    have HO4 := Lib.hid ho4
    have HRR4 := Lib.hid (HRR.out _ hb16)
    clear ho4
    go_wp2_with fail
    with_reducible refine HRR4.out.mono ?_
    rintro e w5 ⟨A5, c5, rfl, ho5, hb5⟩
    have hb17 := hb16.trans (hb5.mono hb16.size)
    have hz3 : w2.heap.size + 1 ≤ w3.heap.size := by have := hb3.size; simpa using this
    have hz4 : w3.heap.size + 1 ≤ w4.heap.size := by have := hb4.size; simpa using this
    have hz5 := hb5.size
    -- what was there stays
    have hx25 : Below (w2.heap.size + 1) (w2.alloc (.cells #[.int .i64 gk, .slice A2 gb.length c2] 24)) w5 := by
      have h1 : Below (w2.heap.size + 1) (w2.alloc (.cells #[.int .i64 gk, .slice A2 gb.length c2] 24)) w3 := hb3.mono (by simp)
      have h2 := h1.trans (hx3.mono hz3)
      exact (h2.trans (hb4.mono (by simp; omega))).trans (hb5.mono (by omega))
    have hx35 : Below (w3.heap.size + 1) (w3.alloc (.cells #[.int .i64 gk, .slice A3 gb.length c3] 24)) w5 := (hb4.mono (by simp)).trans (hb5.mono hz4)
    have hW2 := hw2.out.below hx25 (Nat.lt_succ_self _)
    have hW3 := hw3.out.below hx35 (Nat.lt_succ_self _)
    have k0 : w5.cell? ⟨w2.heap.size, 0, none⟩ = some (.int .i64 gk) := hW2.cell 0
    have k1 : w5.cell? ⟨w2.heap.size, 1, none⟩ = some (.slice A2 gb.length c2) := hW2.cell 1
    have hW3' := hW3.alloc (.cells #[.int .i64 gk, .slice A2 gb.length c2] 24)
    have k2 : (w5.alloc (.cells #[.int .i64 gk, .slice A2 gb.length c2] 24)).cell? ⟨w3.heap.size, 0, none⟩ = some (.int .i64 gk) := hW3'.cell 0
    have k3 : (w5.alloc (.cells #[.int .i64 gk, .slice A2 gb.length c2] 24)).cell? ⟨w3.heap.size, 1, none⟩ = some (.slice A3 gb.length c3) := hW3'.cell 1
    have hs2 : Sl w5 w5.heap.size (.slice A2 gb.length c2) gb := ((HO2.out.below (hx2)).below (hx25.mono (Nat.le_succ _))).here
    have hs3 : Sl w5 w5.heap.size (.slice A3 gb.length c3) gb := ((HO3.out.below (hx3)).below (hx35.mono (Nat.le_succ _))).here
    have hx6 : Below w5.heap.size w5 ((w5.alloc (.cells #[.int .i64 gk, .slice A2 gb.length c2] 24)).alloc (.cells #[.int .i64 gk, .slice A3 gb.length c3] 24)) := ((Below.refl _ _).alloc (Nat.le_refl _) _).alloc (by simp) _
    have o1 := (one_frame (A := A2) (c := c2) hkd hs2).below (((Below.refl (w5.heap.size + 1) (w5.alloc (.cells #[.int .i64 gk, .slice A2 gb.length c2] 24))).alloc (by simp) (.cells #[.int .i64 gk, .slice A3 gb.length c3] 24)))
    have o2 := one_frame (A := A3) (c := c3) hkd ((hs3.below ((Below.refl _ _).alloc (Nat.le_refl _) (.cells #[.int .i64 gk, .slice A2 gb.length c2] 24))).here)
    rw [World.size_alloc] at o2
    have HC1 := Lib.hid (HS1.out _ _ _ o1.here o2.here)
    have HX6 := Lib.hid hx6
    have hb18 := hb17.trans (hx6.mono hb17.size)
    have HO5 := Lib.hid (HO4.out.below hb5)
    have HO6 := Lib.hid ho5
    clear hW2 hW3 hW3' o1 o2 hs2 hs3 hx25 hx35 ho5
    generalize gb.length = bl at *
    generalize rf.length = fl at *
    go_wp2_with fail
    with_reducible refine HC1.out.mono ?_
    rintro e w6 ⟨rfl, hb6⟩
    have hx7 := HX6.out.trans (hb6.mono HX6.out.size)
    have HC2 := Lib.hid (HS.out w6 _ _ ((HO5.out.mono hz5).below hx7).here (HO6.out.below hx7).here)
    go_wp2_with fail
    with_reducible refine HC2.out.mono ?_
    rintro e w7 ⟨rfl, hb7⟩
    have hb19 := (hb18.trans (hb6.mono hb18.size))
    have hb20 := hb19.trans (hb7.mono hb19.size)
    go_wp2_with fail
    go_ret
    exact ⟨rfl, hb20⟩
end Go.Proofs.YtnodogcabpjahaaDoor
