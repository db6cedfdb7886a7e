/-
  What the reference's Run answers.
-/
import Derived.Test.YtnodogcabpjahaaDoorRun
import Derived.Test.YtnodogcabpjahaaDoorRget
namespace Go.Proofs.YtnodogcabpjahaaDoor
open Go.RowKit

set_option maxRecDepth 100000 in
theorem refRun_any (v : Value) (l : List UInt8) (hl : l.length ≤ 1000000) (w : World) (B : Nat) (hB : B ≤ w.heap.size) (hv : Sl w B v l) :
    Calls Tryd.prog 16 #[v] w (RunRes w (Frm.run l)) := by
  obtain ⟨A, c, rfl, hc, hm⟩ := hv.form
  unfold maxLen at hm
  have hV := Lib.hid (fun W (h : Below w.heap.size w W) => hv.below (h.mono hB))
  have H0 := Lib.hid (runAt_zero l)
  clear hv
  have HL : Hid (l.length ≤ 1000000) := hl
  generalize hnl : l.length = m at *
  have HN := Lib.hid hnl
  clear hnl
  go_enter Tryd.func16, Tryd.ntmps16
  go_wp2_with fail
  go_loopw [5, 6] (fun x i wr => ∃ (fs : List Frm.F) (u : Nat) (S : Nat → Prop), RunAt l fs u ∧ OwnS wr w.heap.size S 24 x fs ∧ Below w.heap.size w wr ∧ i = .int .i64 (u : Int)) (fun _ i _ => m - (intOf i).toNat)
  case atStart => exact ⟨[], 0, fun _ => False, H0.out, OwnS.nil _ _ _ _, Below.refl _ _, rfl⟩
  case round =>
    obtain ⟨fs, u, S, hat, hown, hb, rfl⟩ := hrel
    have hum : u ≤ m := by have := hat.1; rw [HN.out] at this; exact this
    have hfu := hat.2.1
    have HAT := Lib.hid hat
    clear hat
    by_cases hlt : u < m
    · have he : decide (u < m) = true := by simpa using hlt
      have hsl := (hV.out wr hb)
      obtain ⟨b, off, rfl, hbB, _⟩ := hsl.byte 0 (by rw [HN.out]; omega)
      have hdr := hsl.drop u hum
      rw [if_neg (show ¬ c = u by omega), show Rep.sz UInt8 = 1 from rfl, Nat.mul_one, Option.map_some, add_at] at hdr
      have hG := Lib.hid (refGet_any _ (l.drop u) (by rw [List.length_drop, HN.out]; have := HL.out; omega) wr B (Nat.le_trans hB hb.size) hdr)
      have hcu : ¬ c = u := by omega
      have p1 : (u : Int) ≤ (m : Int) := by omega
      have p2 : (0 : Int) ≤ (u : Int) := by omega
      have hstop := Lib.hid (runAt_stop HAT.out (by rw [HN.out]; exact hlt))
      have hstep := Lib.hid (runAt_step HAT.out (by rw [HN.out]; exact hlt))
      have hkind := Lib.hid (Frm.get_len (l.drop u))
      have hfn := Lib.hid (@Frm.get_fn (l.drop u))
      have hlo := hown.lt
      obtain ⟨Af, cf, rfl, _, _⟩ := hown.sl.form
      have HO := Lib.hid hown
      clear hsl hdr hown
      generalize hfl : fs.length = n at *
      have HFL := Lib.hid hfl
      clear hfl
      generalize Frm.get (l.drop u) = g at *
      obtain ⟨⟨gk, gb⟩, gn, ge⟩ := g
      simp only at hstop hstep hkind hfn
      by_cases hge : ge = 0
      · subst hge
        obtain ⟨gm, rfl, hpos, hat2⟩ := hstep.out rfl
        have hk := (hfn.out rfl).1
        have HAT2 := Lib.hid hat2
        clear hat2 hstop hstep
        have hum2 : u + gm ≤ m := by have := HAT2.out.1; rw [HN.out] at this; exact this
        have hz := hb.size
        go_wp2_with fail
        refine hG.out.mono ?_
        rintro e w1 ⟨A2, c2, rfl, ho2, hb2⟩
        have HF := Lib.hid (HO.out.below hb2)
        have hfit := frame_fits (k := gk) (by have := hk.1; have := hk.2.1; simp only at *; omega) ho2
        have hbb := hb.trans (hb2.mono hz)
        clear hG hfn
        have hz2 := hb2.size
        have hb3 : Below w1.heap.size w1 ((w1.alloc (.cells #[.int .i64 gk, .slice A2 gb.length c2] 24)).alloc (.cells #[.int .i64 gk, .slice A2 gb.length c2] 24)) := ((Below.refl _ _).alloc (Nat.le_refl _) _).alloc (by simp) _
        have hsrc := SlS.new1 (w1.alloc (.cells #[.int .i64 gk, .slice A2 gb.length c2] 24)) 24 (gk, gb) #[.int .i64 gk, .slice A2 gb.length c2] (Rep.stay hfit (w' := w1.alloc (.cells #[.int .i64 gk, .slice A2 gb.length c2] 24)) fun b _ hlt => Below.heap_alloc w1 _ b hlt)
        rw [World.size_alloc] at hsrc
        have HS := Lib.hid hsrc
        have HF2 := Lib.hid (HF.out.below hb3)
        have HBB := Lib.hid ((hbb.trans (hb3.mono (Nat.le_trans hz hz2))))
        clear hsrc hb3 hfit ho2 hbb
        generalize gb.length = gl at *
        have hfl2 := HFL.out
        have hlm := HL.out
        go_wp2_with (at_builtin; refine wpList_append_slS rfl (.tmp 27) (.tmp 29) rfl rowF w.heap.size S _ _ fs rfl HF2.out _ [(gk, gb)] rfl HS.out (by intro x hx hx2; have := hlo _ hx2; omega) (by rw [HFL.out]; unfold maxLen; simp; omega) (by rw [HFL.out]; simp; omega) (by simp; omega) ?_; intro v3 w3 hown3 hg3 hat3; have hb5 := below_of_ownS HBB.out HF2.out hg3 (by simp; omega); have HO3 := Lib.hid hown3; clear hg3 hat3 hown3)
        go_wp2_with fail
        go_roundw
        case rel => exact ⟨fs ++ [(gk, gb)], u + gm, _, HAT2.out, HO3.out, hb5, by go_num⟩
        case measure => simp [intOf]; omega
      · have hne : (ge != 0) = true := by simpa using hge
        have HF := Lib.hid (hstop.out hge)
        clear hstop hstep hfn hkind
        go_wp2_with fail
        refine hG.out.mono ?_
        rintro e w1 ⟨A2, c2, rfl, _, hb2⟩
        have HO1 := HO.out.below hb2
        have hbb := hb.trans (hb2.mono hb.size)
        generalize gb.length = gl at *
        go_wp2_with fail
        go_ret3
        exact runRes_of HF.out HFL.out (Sl.below HO1.sl ((Below.refl _ _).alloc (Nat.le_refl _) _) |>.mono (by simp)) (hbb.alloc hbb.size _)
    · have he : decide (u < m) = false := by simpa using hlt
      have hfin := Lib.hid (runAt_end HAT.out (by rw [HN.out]; omega))
      obtain ⟨Af, cf, rfl, _, _⟩ := hown.sl.form
      have HO := Lib.hid hown
      clear hown
      generalize hfl : fs.length = n at *
      have HFL := Lib.hid hfl
      clear hfl
      go_wp2_with fail
      go_ret3
      exact runRes_of hfin.out HFL.out HO.out.sl hb
end Go.Proofs.YtnodogcabpjahaaDoor
