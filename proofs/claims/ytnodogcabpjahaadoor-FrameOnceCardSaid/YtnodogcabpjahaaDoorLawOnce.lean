/-
  A frame that is got is put as just the bytes that it was got from: what the law's text comes to.
-/
import Derived.Test.YtnodogcabpjahaaDoorAwk
namespace Go.Proofs.YtnodogcabpjahaaDoor
open Go.RowKit

set_option maxRecDepth 100000 in
theorem once_law (w : World) (hT : Tab w) (v : Value) (l : List UInt8) (hv : Sl w w.heap.size v l) :
    Calls Tryd.prog 6 #[v] w fun e w' => e = .returned (.bool true) ∧ Below w.heap.size w w' := by
  obtain ⟨A, c, rfl, hc, hm⟩ := hv.form
  unfold maxLen at hm
  have hpos := hT.pos
  have HK := Lib.hid (awake_any w hT)
  by_cases hout : 6000 < l.length
  · clear hv hT
    generalize l.length = n at *
    go_enter Tryd.func6, Tryd.ntmps6
    go_wp2_with fail
    refine HK.out.mono ?_
    rintro e w1 ⟨rfl, hb1⟩
    go_wp2_with fail
    go_ret
    exact ⟨rfl, hb1⟩
  · have HG := Lib.hid (fun W (h : Below w.heap.size w W) => get_any _ l (by omega) W w.heap.size h.size (hv.below h) (hT.below h hpos))
    have HV := Lib.hid (fun W (h : Below w.heap.size w W) => hv.below h)
    have HT := Lib.hid (fun W (h : Below w.heap.size w W) => hT.below h hpos)
    have hcs := Frm.get_cases l
    have hfn := @Frm.get_fn l
    have hll : l.length ≤ 6000 := by omega
    clear hv hT hout
    by_cases hge : (Frm.get l).2.2 = 0
    · obtain ⟨hok, hn, hle, htk⟩ := hfn hge
      clear hcs hfn
      have hput := Frm.put_ok hok
      have hel := Frm.enc_length (Frm.get l).1
      generalize Frm.get l = g at *
      obtain ⟨⟨gk, gb⟩, gn, ge⟩ := g
      simp only at hge hn hle htk hput hel
      subst hge
      subst hn
      have hkd := hok.2.1
      have HPut := Lib.hid hput
      generalize Frm.enc (gk, gb) = p at *
      generalize hgl : gb.length = bl at *
      have HGL := Lib.hid hgl
      have HEL := Lib.hid hel
      have HTK := Lib.hid htk
      have HPT := Lib.hid (fun W v (h : Sl W W.heap.size v gb) (hT : Tab W) => put_any gk v gb W W.heap.size (Nat.le_refl _) h hT)
      have HTKL := Lib.hid (fun W (h : Below w.heap.size w W) => (HV.out W h).take (bl + 8) c (by omega) (by omega) (by unfold maxLen; omega))
      clear hgl hel htk hput hok
      generalize hnl : l.length = n at *
      have HNL := Lib.hid hnl
      clear hnl
      have i1 : (0 : Int) ≤ ((bl + 8 : Nat) : Int) := by omega
      have i2 : ((bl + 8 : Nat) : Int) ≤ (c : Int) := by omega
      have i3 : ((bl + 8 : Nat) : Int).toNat = bl + 8 := by omega
      generalize hbn : bl + 8 = bn at *
      have HBN := Lib.hid hbn
      clear hbn
      go_enter Tryd.func6, Tryd.ntmps6
      go_wp2_with fail
      refine HK.out.mono ?_
      rintro e w1 ⟨rfl, hb1⟩
      have HG1 := Lib.hid (HG.out w1 hb1)
      go_wp2_with fail
      with_reducible refine HG1.out.mono ?_
      rintro e w2 ⟨A2, c2, rfl, ho2, hb2⟩
      dsimp only at ho2 ⊢
      rw [HGL.out] at ho2 ⊢
      have hb12 := hb1.trans (hb2.mono hb1.size)
      have hx2 : Below w2.heap.size w2 (w2.alloc (.cells #[.int .i64 gk, .slice A2 bl c2] 24)) := (Below.refl _ _).alloc (Nat.le_refl _) _
      have hb13 := hb12.trans (hx2.mono hb12.size)
      have HP1 := Lib.hid (HPT.out _ _ (ho2.sl.below hx2).here (HT.out _ hb13))
      have HB13 := Lib.hid hb13
      clear ho2
      go_wp2_with fail
      with_reducible refine HP1.out.mono ?_
      rintro e w3 ⟨A3, c3, rfl, ho3, hb3⟩
      rw [HPut.out] at ho3 ⊢
      dsimp only at ho3 ⊢
      rw [HEL.out] at ho3 ⊢
      have hb14 := HB13.out.trans (hb3.mono HB13.out.size)
      have hsl := HTKL.out _ hb14
      rw [HTK.out] at hsl
      have q1 := fun j => conv_sl (ho3.sl.drewN j)
      have q2 := fun j => conv_sl (hsl.drewN j)
      have hs : ((strOf p).toList == (strOf p).toList) = true := by simp
      have hd : ((bn : Int) == (bn : Int)) = true := by simp
      have hd2 : decide ((bn : Int) ≤ (n : Int)) = true := by simp; omega
      clear ho3 hsl
      generalize strOf p = S at *
      go_wp2_with fail
      go_quiet (fail)
      go_wp2_with fail
      go_ret
      exact ⟨rfl, below_drewN hb14 _⟩
    · rcases hcs with h | ⟨er, _, h⟩
      · exact absurd h hge
      · rw [h] at HG hge
        have hne : (er != 0) = true := by simpa [Frm.err] using hge
        clear h hge hfn
        generalize l.length = n at *
        go_enter Tryd.func6, Tryd.ntmps6
        go_wp2_with fail
        refine HK.out.mono ?_
        rintro e w1 ⟨rfl, hb1⟩
        have HG1 := Lib.hid (HG.out w1 hb1)
        go_wp2_with fail
        with_reducible refine HG1.out.mono ?_
        rintro e w2 ⟨A2, c2, rfl, ho2, hb2⟩
        simp only [Frm.err, List.length_nil]
        have hb12 := hb1.trans (hb2.mono hb1.size)
        clear ho2
        go_wp2_with fail
        go_ret
        exact ⟨rfl, hb12.alloc hb12.size _⟩
end Go.Proofs.YtnodogcabpjahaaDoor
