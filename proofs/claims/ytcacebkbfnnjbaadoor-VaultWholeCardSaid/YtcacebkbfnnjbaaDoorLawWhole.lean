/-
  The law of the whole: what was saved reads back, and of its first bytes only what was whole.
-/
import Derived.Test.YtcacebkbfnnjbaaDoorV15
import Derived.Test.YtcacebkbfnnjbaaDoorV24
import Derived.Test.YtcacebkbfnnjbaaDoorV30
import Derived.Test.YtcacebkbfnnjbaaDoorV32
import Derived.Test.YtcacebkbfnnjbaaDoorV34
namespace Go.Proofs.YtcacebkbfnnjbaaDoor
open Go.RowKit

set_option maxRecDepth 100000 in
set_option maxHeartbeats 8000000 in
theorem whole_law (w : World) (hT : Tab w) (b1 b2 l1 l2 : Int) (vl : Value) (l : List E) (hL : Sl w w.heap.size vl l) (cut : Int) (hcut : -9223372036854775808 ≤ cut ∧ cut ≤ 9223372036854775807) :
    Calls Tryd.prog 7 #[bv b1 b2, lv l1 l2 vl, .int .i64 cut] w fun e w' => e = .returned (.bool true) ∧ Below w.heap.size w w' := by
  obtain ⟨Al, cl, rfl, _, hml⟩ := hL.form
  unfold maxLen at hml
  have hpos := hT.pos
  have HT := Lib.hid (fun W (h : Below w.heap.size w W) => hT.below h hpos)
  have HL := Lib.hid (fun W (h : Below w.heap.size w W) => hL.below h)
  generalize hn : l.length = n at *
  have HN := Lib.hid hn
  clear hn hT hL hpos
  have h1 : Below w.heap.size w (w.alloc (.cells #[.int .i64 b1, .int .i64 b2] 30)) := (Below.refl _ _).alloc (Nat.le_refl _) _
  have h2 := h1.alloc h1.size (.cells #[.int .i64 l1, .int .i64 l2, .slice Al n cl] 38)
  have x1 := bx_new w b1 b2 l1 l2 (.slice Al n cl)
  have hsz : w.heap.size + 2 ≤ ((w.alloc (.cells #[.int .i64 b1, .int .i64 b2] 30)).alloc (.cells #[.int .i64 l1, .int .i64 l2, .slice Al n cl] 38)).heap.size := by simp
  have X1 := Lib.hid x1
  have HB := Lib.hid h2
  clear h1 h2 x1
  have HK := Lib.hid (awake_any _ (HT.out _ HB.out))
  go_enter Tryd.func7, Tryd.ntmps7
  go_wp2_with fail
  refine HK.out.mono ?_
  rintro e w1 ⟨rfl, hb⟩
  have hz0 := HB.out.size
  have hg := Nat.le_trans hsz hb.size
  replace X1 := Lib.hid (X1.out.below hb (by omega) (by omega))
  replace HB := Lib.hid (HB.out.trans (hb.mono hz0))
  clear hb HK hz0 hsz
  go_wp2_with fail
  refine (new_any _).mono ?_
  rintro e w2 ⟨rfl, hn2, hb⟩
  have HV := Lib.hid (vin_new w1 hn2 hb)
  generalize w1.heap.size = g at *
  replace X1 := Lib.hid (X1.out.below hb (by omega) (by omega))
  replace HB := Lib.hid (HB.out.trans (hb.mono (by omega)))
  clear hn2 hb
  have hg0 : 0 < g := by omega
  obtain ⟨p0, p1⟩ := X1.out.b.c2
  obtain ⟨r0, r1, r2⟩ := X1.out.l.c3
  by_cases ho70 : 70 < n
  · go_wp2_with fail
    go_ret
    exact ⟨rfl, HB.out⟩
  go_wp2_with fail
  have hLg := (HL.out _ HB.out).mono (B' := g) (by omega)
  have HS1 := Lib.hid (save_in HV.out Vl.ok_new hg0 b1 b2 l1 l2 _ l hLg (HT.out _ HB.out))
  have HOK := Lib.hid (Vl.save_ok Vl.ok_new (b1, b2) (l1, l2, l))
  clear hLg
  by_cases hz : (Vl.save Vl.new (b1, b2) (l1, l2, l)).2 = 0
  rotate_left
  · have hne : ((Vl.save Vl.new (b1, b2) (l1, l2, l)).2 != 0) = true := by simpa using hz
    have hv0 := Vl.save_err hz
    rw [hv0] at HS1 HOK
    generalize (Vl.save Vl.new (b1, b2) (l1, l2, l)).2 = er at *
    clear hz hv0
    refine (HS1.out).mono ?_
    rintro e w3 ⟨rfl, hv, hb⟩
    replace X1 := Lib.hid (X1.out.below hb (by omega) (by omega))
    replace HB := Lib.hid (HB.out.trans (hb.mono (by omega)))
    replace HV := Lib.hid hv
    clear hv hb
    clear p0 p1 r0 r1 r2
    obtain ⟨p0, p1⟩ := X1.out.b.c2
    obtain ⟨r0, r1, r2⟩ := X1.out.l.c3
    clear HS1
    go_wp2_with fail
    have hby := bytes_in HV.out HOK.out
    simp only [Vl.new] at hby
    refine (hby).mono ?_
    rintro e w4 ⟨A4, c4, rfl, ho, hb⟩
    have hgs := HV.out.le
    have hbg := hb.mono hgs
    replace X1 := Lib.hid (X1.out.below hbg (by omega) (by omega))
    replace HB := Lib.hid (HB.out.trans (hbg.mono (by omega)))
    replace HV := Lib.hid (HV.out.stay hb)
    clear hb hbg hgs
    clear p0 p1 r0 r1 r2
    obtain ⟨p0, p1⟩ := X1.out.b.c2
    obtain ⟨r0, r1, r2⟩ := X1.out.l.c3
    clear hby ho
    simp only [List.length_nil]
    go_wp2_with fail
    go_ret
    exact ⟨rfl, HB.out⟩
  obtain ⟨rfl, rfl, -⟩ := saved_zero hz
  have hst := saved_state hz
  have HRP := Lib.hid (fun k => Vl.read_part hz k)
  rw [hz] at HS1
  clear hz
  generalize (Vl.save Vl.new (b1, b2) (0, 0, l)).1 = v1 at *
  have hdl := HOK.out.len
  have hra := HOK.out.all
  rw [hst] at hra
  have HRA := Lib.hid hra
  generalize hdn : v1.disk.length = dn at *
  have HDN := Lib.hid hdn
  clear hst hra hdn
  refine (HS1.out).mono ?_
  rintro e w3 ⟨rfl, hv, hb⟩
  replace X1 := Lib.hid (X1.out.below hb (by omega) (by omega))
  replace HB := Lib.hid (HB.out.trans (hb.mono (by omega)))
  replace HV := Lib.hid hv
  clear hv hb
  clear p0 p1 r0 r1 r2
  obtain ⟨p0, p1⟩ := X1.out.b.c2
  obtain ⟨r0, r1, r2⟩ := X1.out.l.c3
  clear HS1
  go_wp2_with fail
  have hby := bytes_in HV.out HOK.out
  skip
  refine hby.mono ?_
  rintro e w4 ⟨A4, c4, rfl, ho, hb⟩
  simp only [HDN.out] at ho ⊢
  have HO4 := Lib.hid ho
  have hrm := ho.sl.room
  have hgs := HV.out.le
  have hbg := hb.mono hgs
  replace X1 := Lib.hid (X1.out.below hbg (by omega) (by omega))
  replace HB := Lib.hid (HB.out.trans (hbg.mono (by omega)))
  clear HV HOK hbg hb hby hgs ho
  clear p0 p1 r0 r1 r2
  obtain ⟨p0, p1⟩ := X1.out.b.c2
  obtain ⟨r0, r1, r2⟩ := X1.out.l.c3
  go_wp2_with fail
  have hrd := rd_any (.slice A4 dn c4) v1.disk (by rw [HDN.out]; omega) w4 _ (Nat.le_refl _) HO4.out.sl.here (HT.out _ HB.out)
  rw [HRA.out] at hrd
  refine hrd.mono ?_
  rintro e w5 ⟨A5, c5, rfl, ho, hb⟩
  simp only [HN.out] at ho ⊢
  have hb5 := hb.alloc hb.size (.cells #[.int .i64 b1, .int .i64 b2] 30)
  replace hb5 := hb5.alloc hb5.size (.cells #[.int .i64 0, .int .i64 0, .slice A5 n c5] 38)
  have hal := ((Below.refl w5.heap.size w5).alloc (Nat.le_refl _) (.cells #[.int .i64 b1, .int .i64 b2] 30)).alloc (by simp) (.cells #[.int .i64 0, .int .i64 0, .slice A5 n c5] 38)
  have HX3 := Lib.hid ((Whole.new w5 30 #[.int .i64 b1, .int .i64 b2]).alloc (.cells #[.int .i64 0, .int .i64 0, .slice A5 n c5] 38))
  have HX4 := Lib.hid (Whole.new1 w5 (.cells #[.int .i64 b1, .int .i64 b2] 30) 38 #[.int .i64 0, .int .i64 0, .slice A5 n c5])
  have HO5 := Lib.hid ((ho.alloc (.cells #[.int .i64 b1, .int .i64 b2] 30)).alloc (.cells #[.int .i64 0, .int .i64 0, .slice A5 n c5] 38))
  replace X1 := Lib.hid (X1.out.below hb5 X1.out.b.lt X1.out.l.lt)
  replace HO4 := Lib.hid (HO4.out.below hb5)
  replace HB := Lib.hid (HB.out.trans (hb5.mono HB.out.size))
  clear hrd ho hb hb5 hal
  clear p0 p1 r0 r1 r2
  obtain ⟨p0, p1⟩ := X1.out.b.c2
  obtain ⟨r0, r1, r2⟩ := X1.out.l.c3
  obtain ⟨q0, q1⟩ := HX3.out.c2
  obtain ⟨u0, u1, u2⟩ := HX4.out.c3
  go_wp2_with fail
  have hLg := HL.out _ HB.out
  have hlogs := logs_any 0 0 _ _ l _ _ (Nat.le_refl _) HO5.out.sl.here (hLg.mono HB.out.size)
  refine hlogs.mono ?_
  rintro e w6 ⟨rfl, hb⟩
  replace X1 := Lib.hid (X1.out.below hb X1.out.b.lt X1.out.l.lt)
  replace HX3 := Lib.hid (HX3.out.below hb HX3.out.lt)
  replace HO4 := Lib.hid (HO4.out.below hb)
  replace HB := Lib.hid (HB.out.trans (hb.mono HB.out.size))
  clear hb hLg hlogs q0 q1 u0 u1 u2 HX4 HO5
  clear p0 p1 r0 r1 r2
  obtain ⟨p0, p1⟩ := X1.out.b.c2
  obtain ⟨r0, r1, r2⟩ := X1.out.l.c3
  obtain ⟨q0, q1⟩ := HX3.out.c2
  by_cases hc1 : cut < 0
  · go_wp2_with fail
    go_ret
    exact ⟨rfl, HB.out⟩
  by_cases hc2 : (dn : Int) < cut
  · go_wp2_with fail
    go_ret
    exact ⟨rfl, HB.out⟩
  obtain ⟨kn, rfl⟩ : ∃ kn : Nat, cut = (kn : Int) := ⟨cut.toNat, by omega⟩
  have hkd : kn ≤ dn := by omega
  have hsl := fun W => run_uptoB A4 dn c4 kn (kn : Int) rfl (by omega) W
  have hs7 := SlS.uptoB HO4.out.sl.here kn hkd
  generalize (if c4 = 0 then A4 else A4.map (·.add (0 * 1))) = A7 at hsl hs7
  have HS7 := Lib.hid hs7
  have hrl : (v1.disk.take kn).length ≤ 1000000 := by rw [List.length_take]; omega
  have HRL := Lib.hid hrl
  have hrp := HRP.out kn
  clear hs7 hrl HRP HRA
  go_wp2_with fail
  have hrd := rd_any _ (v1.disk.take kn) HRL.out w6 _ (Nat.le_refl _) HS7.out (HT.out _ HB.out)
  clear HRL HS7 hsl
  generalize Vl.read (v1.disk.take kn) = r at *
  obtain ⟨⟨⟨t, vo⟩, s⟩, u⟩ := r
  obtain ⟨hp1, hp2, hp3⟩ := hrp
  simp only at hp1 hp2 hp3
  rw [HN.out] at hp2
  generalize hsn : s.length = sn at *
  have HSN := Lib.hid hsn
  clear hsn
  refine hrd.mono ?_
  rintro e w7 ⟨A8, c8, rfl, ho, hb⟩
  simp only [HSN.out] at ho ⊢
  have hb5 := hb.alloc hb.size (.cells #[.int .i64 t, .int .i64 vo] 30)
  replace hb5 := hb5.alloc hb5.size (.cells #[.int .i64 0, .int .i64 0, .slice A8 sn c8] 38)
  have hal := ((Below.refl w7.heap.size w7).alloc (Nat.le_refl _) (.cells #[.int .i64 t, .int .i64 vo] 30)).alloc (by simp) (.cells #[.int .i64 0, .int .i64 0, .slice A8 sn c8] 38)
  have HX5 := Lib.hid ((Whole.new w7 30 #[.int .i64 t, .int .i64 vo]).alloc (.cells #[.int .i64 0, .int .i64 0, .slice A8 sn c8] 38))
  have HX6 := Lib.hid (Whole.new1 w7 (.cells #[.int .i64 t, .int .i64 vo] 30) 38 #[.int .i64 0, .int .i64 0, .slice A8 sn c8])
  have HO8 := Lib.hid ((ho.alloc (.cells #[.int .i64 t, .int .i64 vo] 30)).alloc (.cells #[.int .i64 0, .int .i64 0, .slice A8 sn c8] 38))
  replace X1 := Lib.hid (X1.out.below hb5 X1.out.b.lt X1.out.l.lt)
  replace HB := Lib.hid (HB.out.trans (hb5.mono HB.out.size))
  clear hrd ho hb hb5 hal q0 q1 HX3 HO4
  clear p0 p1 r0 r1 r2
  obtain ⟨p0, p1⟩ := X1.out.b.c2
  obtain ⟨r0, r1, r2⟩ := X1.out.l.c3
  obtain ⟨u0, u1, u2⟩ := HX6.out.c3
  have hsi : (sn : Int) ≤ (n : Int) := by omega
  have hui : (u : Int) ≤ (kn : Int) := by omega
  have hlm := (HL.out _ HB.out).room
  have hsl2 := fun W => run_upto Al n cl sn (sn : Int) rfl (by omega) W
  have hs9 := fun W (h : Below w.heap.size w W) => (HL.out W h).upto sn hp2
  generalize (if cl = 0 then Al else Al.map (·.add (0 * 7))) = A9 at hsl2 hs9
  have HS9 := Lib.hid hs9
  rw [← hp1] at HS9
  clear hs9 hp1 hlm
  go_wp2_with fail
  generalize ((w7.alloc (.cells #[.int .i64 t, .int .i64 vo] 30)).alloc (.cells #[.int .i64 0, .int .i64 0, .slice A8 sn c8] 38)) = w8 at *
  refine s_start (fun W => Kept (fun _ => False) (w8).drew W) [] (by kernel_rfl) ?_
  have HC := Lib.hid (Kept.refl (fun _ => False) (w8).drew)
  have HXX := Lib.hid (fun W (hW : Kept (fun _ => False) w8.drew W) => (⟨(hW.whole (show Whole w8.drew _ _ _ from X1.out.l) (fun h => h)).c3.1, (hW.whole (show Whole w8.drew _ _ _ from X1.out.l) (fun h => h)).c3.2.1, (hW.whole (show Whole w8.drew _ _ _ from X1.out.l) (fun h => h)).c3.2.2, (hW.whole (show Whole w8.drew _ _ _ from HX6.out) (fun h => h)).c3⟩ : _ ∧ _ ∧ _ ∧ _))
  have HSM := Lib.hid (fun W (hW : Kept (fun _ => False) w8.drew W) => same_any _ _ s W W.heap.size (Nat.le_refl _) (((HO8.out.drew).keep hW (fun _ _ h => h)).sl) ((HS9.out W (HB.out.drew.trans (hW.below (B := w.heap.size) (fun _ h => h.elim) HB.out.size))).mono (Nat.le_trans HB.out.size hW.size)))
  have HD := Lib.hid HB.out.drew
  have hz1 : w.heap.size ≤ w8.drew.heap.size := HB.out.size
  clear p0 p1 r0 r1 r2 u0 u1 u2
  generalize (w8).drew = z1 at *
  refine s_take (i := 0) (v := ?_) rfl (by kernel_rfl) (by kernel_rfl) (by kernel_rfl) (k0 := 0) (by kernel_rfl) (by kernel_rfl) (.inl rfl) (fun _ _ _ h => h) (by rfl) HC.out ?_ ?_
  rotate_left
  · intro W hW
    go_simp
    first | done | rfl
  simp only [Act.put, List.setIfInBounds_toArray, List.set_cons_zero, List.set_cons_succ, List.getElem_toArray, List.getElem_cons_zero]
  refine s_take (i := 1) (v := ?_) rfl (by kernel_rfl) (by kernel_rfl) (by kernel_rfl) (k0 := 1) (by kernel_rfl) (by kernel_rfl) (.inl rfl) (fun _ _ _ h => h) (by rfl) HC.out ?_ ?_
  rotate_left
  · intro W hW
    obtain ⟨r0, r1, r2, u0, u1, u2⟩ := HXX.out _ hW
    go_simp
    first | done | rfl
  simp only [Act.put, List.setIfInBounds_toArray, List.set_cons_zero, List.set_cons_succ, List.getElem_toArray, List.getElem_cons_zero, List.getElem_cons_succ]
  refine s_take (i := 2) (v := ?_) rfl (by kernel_rfl) (by kernel_rfl) (by kernel_rfl) (k0 := 2) (by kernel_rfl) (by kernel_rfl) (.inl rfl) (fun _ _ _ h => h) (by rfl) HC.out ?_ ?_
  rotate_left
  · intro W hW
    go_simp
    first | done | rfl
  simp only [Act.put, List.setIfInBounds_toArray, List.set_cons_zero, List.set_cons_succ, List.getElem_toArray, List.getElem_cons_zero, List.getElem_cons_succ]
  refine s_take (i := 3) (v := ?_) rfl (by kernel_rfl) (by kernel_rfl) (by kernel_rfl) (k0 := 3) (by kernel_rfl) (by kernel_rfl) (.inl rfl) (fun _ _ _ h => h) (by rfl) HC.out ?_ ?_
  rotate_left
  · intro W hW
    obtain ⟨r0, r1, r2, u0, u1, u2⟩ := HXX.out _ hW
    go_simp
    first | done | rfl
  simp only [Act.put, List.setIfInBounds_toArray, List.set_cons_zero, List.set_cons_succ, List.getElem_toArray, List.getElem_cons_zero, List.getElem_cons_succ]
  refine s_take (i := 4) (v := ?_) rfl (by kernel_rfl) (by kernel_rfl) (by kernel_rfl) (k0 := 4) (by kernel_rfl) (by kernel_rfl) (.inl rfl) (fun _ _ _ h => h) (by rfl) HC.out ?_ ?_
  rotate_left
  · intro W hW
    go_simp
    first | done | rfl
  simp only [Act.put, List.setIfInBounds_toArray, List.set_cons_zero, List.set_cons_succ, List.getElem_toArray, List.getElem_cons_zero, List.getElem_cons_succ]
  refine s_take (i := 5) (v := ?_) rfl (by kernel_rfl) (by kernel_rfl) (by kernel_rfl) (k0 := 5) (by kernel_rfl) (by kernel_rfl) (.inl rfl) (fun _ _ _ h => h) (by rfl) HC.out ?_ ?_
  rotate_left
  · intro W hW
    obtain ⟨r0, r1, r2, u0, u1, u2⟩ := HXX.out _ hW
    go_simp
    first | done | rfl
  simp only [Act.put, List.setIfInBounds_toArray, List.set_cons_zero, List.set_cons_succ, List.getElem_toArray, List.getElem_cons_zero, List.getElem_cons_succ]
  refine s_take (i := 6) (v := ?_) rfl (by kernel_rfl) (by kernel_rfl) (by kernel_rfl) (k0 := 6) (by kernel_rfl) (by kernel_rfl) (.inl rfl) (fun _ _ _ h => h) (by rfl) HC.out ?_ ?_
  rotate_left
  · intro W hW
    go_simp
    first | done | rfl
  simp only [Act.put, List.setIfInBounds_toArray, List.set_cons_zero, List.set_cons_succ, List.getElem_toArray, List.getElem_cons_zero, List.getElem_cons_succ]
  refine s_take (i := 7) (v := ?_) rfl (by kernel_rfl) (by kernel_rfl) (by kernel_rfl) (k0 := 7) (by kernel_rfl) (by kernel_rfl) (.inl rfl) (fun _ _ _ h => h) (by rfl) HC.out ?_ ?_
  rotate_left
  · intro W hW
    go_simp
    first | done | rfl
  simp only [Act.put, List.setIfInBounds_toArray, List.set_cons_zero, List.set_cons_succ, List.getElem_toArray, List.getElem_cons_zero, List.getElem_cons_succ]
  refine s_one (i := 8) (by kernel_rfl) ?_
  refine ones_call (i := 8) (f := 19) (args := ?_) rfl (by rfl) ?_ ?_
  rotate_left
  · go_simp
    first | done | rfl
  with_reducible refine (HSM.out _ HC.out).mono ?_
  rintro e z2 ⟨rfl, hb⟩
  refine ⟨_, rfl, fun _ => HC.out.trans (Below.kept hb), ?_⟩
  replace HC := Lib.hid (HC.out.trans (Below.kept hb))
  clear hb
  simp only [Act.put, List.setIfInBounds_toArray, List.set_cons_zero, List.set_cons_succ, List.getElem_toArray, List.getElem_cons_zero, List.getElem_cons_succ]
  refine s_take (i := 9) (v := ?_) rfl (by kernel_rfl) (by kernel_rfl) (by kernel_rfl) (k0 := 9) (by kernel_rfl) (by kernel_rfl) (.inl rfl) (fun _ _ _ h => h) (by rfl) HC.out ?_ ?_
  rotate_left
  · intro W hW
    go_simp
    first | done | rfl
  simp only [Act.put, List.setIfInBounds_toArray, List.set_cons_zero, List.set_cons_succ, List.getElem_toArray, List.getElem_cons_zero, List.getElem_cons_succ]
  refine s_done (by kernel_rfl) ?_
  have HBF := Lib.hid (HD.out.trans (HC.out.below (B := w.heap.size) (fun _ h => h.elim) hz1))
  go_simp
  go_wp2_with fail
  go_ret
  exact ⟨rfl, HBF.out⟩
end Go.Proofs.YtcacebkbfnnjbaaDoor
