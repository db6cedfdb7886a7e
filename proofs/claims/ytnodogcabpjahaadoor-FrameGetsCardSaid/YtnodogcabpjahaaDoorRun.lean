/-
  What Run answers.
-/
import Derived.Test.YtnodogcabpjahaaDoorGet
import Derived.Test.YtnodogcabpjahaaDoorGoto
import Derived.LoopTactic
namespace Go.Proofs.YtnodogcabpjahaaDoor
open Go.RowKit

/-- Frames fs are read, the first u bytes are theirs. -/
def RunAt (l : List UInt8) (fs : List Frm.F) (u : Nat) : Prop :=
  u ≤ l.length ∧ fs.length ≤ u ∧ Frm.run l = (fs ++ (Frm.run (l.drop u)).1, (u : Int) + (Frm.run (l.drop u)).2.1, (Frm.run (l.drop u)).2.2)
theorem runAt_zero (l : List UInt8) : RunAt l [] 0 := ⟨Nat.zero_le _, Nat.le_refl _, by simp⟩
theorem runAt_end {l : List UInt8} {fs : List Frm.F} {u : Nat} (h : RunAt l fs u) (hu : l.length ≤ u) : Frm.run l = (fs, (u : Int), 0) := by
  obtain ⟨_, _, h3⟩ := h
  rw [h3, List.drop_eq_nil_of_le hu, Frm.run_nil]
  simp
theorem drop_ne {l : List UInt8} {u : Nat} (hu : u < l.length) : l.drop u ≠ [] := by
  intro h
  have := congrArg List.length h
  rw [List.length_drop] at this
  simp at this
  omega
theorem runAt_stop {l : List UInt8} {fs : List Frm.F} {u : Nat} (h : RunAt l fs u) (hu : u < l.length) (hg : (Frm.get (l.drop u)).2.2 ≠ 0) : Frm.run l = (fs, (u : Int), (Frm.get (l.drop u)).2.2) := by
  obtain ⟨_, _, h3⟩ := h
  rw [h3, Frm.run_stop (drop_ne hu) hg]
  simp
theorem runAt_step {l : List UInt8} {fs : List Frm.F} {u : Nat} (h : RunAt l fs u) (hu : u < l.length) (hg : (Frm.get (l.drop u)).2.2 = 0) : ∃ n : Nat, (Frm.get (l.drop u)).2.1 = (n : Int) ∧ 0 < n ∧ RunAt l (fs ++ [(Frm.get (l.drop u)).1]) (u + n) := by
  obtain ⟨_, h2, h3⟩ := h
  obtain ⟨_, g2, g3, _⟩ := Frm.get_fn hg
  refine ⟨(Frm.get (l.drop u)).1.2.length + 8, g2, by omega, ?_, ?_, ?_⟩
  · rw [List.length_drop] at g3; omega
  · rw [List.length_append, List.length_singleton]; omega
  · rw [h3, Frm.run_cons (drop_ne hu) hg, g2, Int.toNat_natCast, List.drop_drop]
    refine Prod.ext ?_ (Prod.ext ?_ rfl)
    · simp
    · simp only [Int.natCast_add]; omega

def RunRes (w : World) (r : List Frm.F × Int × Int) (e : Ending) (w' : World) : Prop :=
  ∃ A c, e = .returned (.tuple #[.slice A r.1.length c, .int .i64 r.2.1, .int .i64 r.2.2]) ∧ Sl w' w'.heap.size (.slice A r.1.length c) r.1 ∧ Below w.heap.size w w'
theorem runRes_of {w w' : World} {r : List Frm.F × Int × Int} {fs : List Frm.F} {u er : Int} {n c : Nat} {A : Option Addr} (hr : r = (fs, u, er)) (hn : fs.length = n) (h : Sl w' w'.heap.size (.slice A n c) fs) (hb : Below w.heap.size w w') : RunRes w r (.returned (.tuple #[.slice A n c, .int .i64 u, .int .i64 er])) w' := by
  subst hr
  subst hn
  exact ⟨A, c, rfl, h, hb⟩

theorem rowF : Row Tryd.prog 32 24 Frm.F 32 := by
  obtain ⟨i, hi, hz, hsz, hby⟩ := info_parts (show (Tryd.prog.info? 24).map (fun i => (i.zero, i.size, i.bytes)) = some (some (.agg #[.int .i64 0, .slice none 0 0]), 2, 32) by kernel_rfl)
  exact ⟨Tryd.underlying32, i, _, hi, hz, hsz, hby, rfl⟩
/-- A frame in two cells. -/
theorem frame_fits {w : World} {S : Nat → Prop} {k : Int} {v : Value} {b : List UInt8} (hk : -9223372036854775808 ≤ k ∧ k ≤ 9223372036854775807) (h : SlS w S v b) : Rep.fits w S (#[.int .i64 k, v] : Array Value).toList ((k, b) : Frm.F) :=
  ⟨[.int .i64 k], [v], rfl, ⟨rfl, hk⟩, ⟨v, rfl, h⟩⟩

set_option maxRecDepth 100000 in
theorem run_any (v : Value) (l : List UInt8) (hl : l.length ≤ 1000000) (w : World) (B : Nat) (hB : B ≤ w.heap.size) (hv : Sl w B v l) (hT : Tab w) :
    Calls Tryd.prog 15 #[v] w (RunRes w (Frm.run l)) := by
  obtain ⟨A, c, rfl, hc, hm⟩ := hv.form
  unfold maxLen at hm
  have hV := Lib.hid (fun W (h : Below w.heap.size w W) => hv.below (h.mono hB))
  have HT := Lib.hid (fun W (h : Below w.heap.size w W) => hT.below h hT.pos)
  have H0 := Lib.hid (runAt_zero l)
  clear hv hT
  have HL : Hid (l.length ≤ 1000000) := hl
  generalize hnl : l.length = m at *
  have HN := Lib.hid hnl
  clear hnl
  go_enter Tryd.func15, Tryd.ntmps15
  go_wp2_with fail
  refine wp_scope_goto 0 (fun a' w' => ∃ (fs : List Frm.F) (u : Nat) (S : Nat → Prop) (fv : Value), RunAt l fs u ∧ OwnS w' w.heap.size S 24 fv fs ∧ Below w.heap.size w w' ∧ ∃ (u1 u7 u8 u9 u10 u11 u12 u13 u14 u15 u16 u17 u18 u19 u20 u21 u22 u23 u24 u25 u26 u27 u28 u29 u30 u31 u32 u33 u34 u35 : Value), a' = { tmps := #[.slice A m c, u1, .slice none 0 0, .int .i64 0, .int .i64 0, fv, .int .i64 (u : Int), u7, u8, u9, u10, u11, u12, u13, u14, u15, u16, u17, u18, u19, u20, u21, u22, u23, u24, u25, u26, u27, u28, u29, u30, u31, u32, u33, u34, u35], defers := [] }) (fun a' _ => m - (intOf (a'.tmps.getD 6 undef)).toNat) rfl ?_ ?_
  · rintro a' w' ⟨fs, u, S, fv, hat, hown, hb, u1, u7, u8, u9, u10, u11, u12, u13, u14, u15, u16, u17, u18, u19, u20, u21, u22, u23, u24, u25, u26, u27, u28, u29, u30, u31, u32, u33, u34, u35, rfl⟩
    have hum : u ≤ m := by have := hat.1; rw [HN.out] at this; exact this
    have hfu := hat.2.1
    have HAT := Lib.hid hat
    clear hat
    by_cases hlt : u < m
    · have he : ((u : Int) == (m : Int)) = false := by rw [beq_eq_false_iff_ne]; omega
      have hsl := (hV.out w' hb)
      obtain ⟨b, off, rfl, hbB, _⟩ := hsl.byte 0 (by rw [HN.out]; omega)
      have hdr := hsl.drop u hum
      rw [if_neg (show ¬ c = u by omega), show Rep.sz UInt8 = 1 from rfl, Nat.mul_one, Option.map_some, add_at] at hdr
      have hG := Lib.hid (get_any _ (l.drop u) (by rw [List.length_drop, HN.out]; have := HL.out; omega) w' B (Nat.le_trans hB hb.size) hdr (HT.out w' hb))
      have hcu : ¬ c = u := by omega
      have p1 : (u : Int) ≤ (m : Int) := by omega
      have p2 : (0 : Int) ≤ (u : Int) := by omega
      have hstop := Lib.hid (runAt_stop HAT.out (by rw [HN.out]; exact hlt))
      have hstep := Lib.hid (runAt_step HAT.out (by rw [HN.out]; exact hlt))
      have hkind := Lib.hid (Frm.get_len (l.drop u))
      have hfn := Lib.hid (@Frm.get_fn (l.drop u))
      have hlo := hown.lt
      obtain ⟨Af, cf, rfl, _, _⟩ := hown.sl.form
      have HO := Lib.hid hown
      clear hsl hdr hown
      generalize hfl : fs.length = n at *
      have HFL := Lib.hid hfl
      clear hfl
      generalize Frm.get (l.drop u) = g at *
      obtain ⟨⟨gk, gb⟩, gn, ge⟩ := g
      simp only at hstop hstep hkind hfn
      by_cases hge : ge = 0
      · subst hge
        obtain ⟨gm, rfl, hpos, hat2⟩ := hstep.out rfl
        have hk := (hfn.out rfl).1
        have HAT2 := Lib.hid hat2
        clear hat2 hstop hstep
        have hum2 : u + gm ≤ m := by have := HAT2.out.1; rw [HN.out] at this; exact this
        have hz := hb.size
        go_wp2_with fail
        refine hG.out.mono ?_
        rintro e w1 ⟨A2, c2, rfl, ho2, hb2⟩
        have HF := Lib.hid (HO.out.below hb2)
        have hfit := frame_fits (k := gk) (by have := hk.1; have := hk.2.1; simp only at *; omega) ho2.slS
        have hbb := hb.trans (hb2.mono hz)
        clear hG hfn
        have hz2 := hb2.size
        have hb3 : Below w1.heap.size w1 ((w1.alloc (.cells #[.int .i64 gk, .slice A2 gb.length c2] 24)).alloc (.cells #[.int .i64 gk, .slice A2 gb.length c2] 24)) := ((Below.refl _ _).alloc (Nat.le_refl _) _).alloc (by simp) _
        have hsrc := SlS.new1 (w1.alloc (.cells #[.int .i64 gk, .slice A2 gb.length c2] 24)) 24 (gk, gb) #[.int .i64 gk, .slice A2 gb.length c2] (Rep.stay hfit (w' := w1.alloc (.cells #[.int .i64 gk, .slice A2 gb.length c2] 24)) fun b _ hlt => Below.heap_alloc w1 _ b hlt)
        rw [World.size_alloc] at hsrc
        have HS := Lib.hid hsrc
        have HF2 := Lib.hid (HF.out.below hb3)
        have HBB := Lib.hid ((hbb.trans (hb3.mono (Nat.le_trans hz hz2))))
        clear hsrc hb3 hfit ho2 hbb
        generalize gb.length = gl at *
        have hfl2 := HFL.out
        have hlm := HL.out
        go_wp2_with (at_builtin; refine wpList_append_slS rfl (.tmp 29) (.tmp 31) rfl rowF w.heap.size S _ _ fs rfl HF2.out _ [(gk, gb)] rfl HS.out (by intro x hx hx2; have := hlo _ hx2; omega) (by rw [HFL.out]; unfold maxLen; simp; omega) (by rw [HFL.out]; simp; omega) (by simp; omega) ?_; intro v3 w3 hown3 hg3 hat3; have hb5 := below_of_ownS HBB.out HF2.out hg3 (by simp; omega); have HO3 := Lib.hid hown3; clear hg3 hat3 hown3)
        go_step3
        exact ⟨rfl, ⟨fs ++ [(gk, gb)], u + gm, _, v3, HAT2.out, HO3.out, hb5, _, _, _, _, _, _, _, _, _, _, _, _, _, _, _, _, _, _, _, _, _, _, _, _, _, _, _, _, _, _, rfl⟩, by simp [intOf]; omega⟩
      · have hne : (ge != 0) = true := by simpa using hge
        have HF := Lib.hid (hstop.out hge)
        clear hstop hstep hfn hkind
        go_wp2_with fail
        refine hG.out.mono ?_
        rintro e w1 ⟨A2, c2, rfl, _, hb2⟩
        have HO1 := HO.out.below hb2
        have hbb := hb.trans (hb2.mono hb.size)
        generalize gb.length = gl at *
        go_wp2_with fail
        simp only [Exit.jump]
        go_ret3
        exact runRes_of HF.out HFL.out (Sl.below HO1.sl ((Below.refl _ _).alloc (Nat.le_refl _) _) |>.mono (by simp)) (hbb.alloc hbb.size _)
    · have he : ((u : Int) == (m : Int)) = true := by rw [beq_iff_eq]; omega
      have hfin := Lib.hid (runAt_end HAT.out (by rw [HN.out]; omega))
      obtain ⟨Af, cf, rfl, _, _⟩ := hown.sl.form
      have HO := Lib.hid hown
      clear hown
      generalize hfl : fs.length = n at *
      have HFL := Lib.hid hfl
      clear hfl
      go_wp2_with fail
      simp only [Exit.jump]
      go_ret3
      exact runRes_of hfin.out HFL.out HO.out.sl hb
  · intro hgo
    go_wp2_with fail
    go_step3
    go_simp
    refine (by assumption : ∀ (a : Act) (w : World), _ → _) _ _ (hgo _ _ ?_)
    exact ⟨[], 0, fun _ => False, .slice none 0 0, H0.out, OwnS.nil _ _ _ _, Below.refl _ _, _, _, _, _, _, _, _, _, _, _, _, _, _, _, _, _, _, _, _, _, _, _, _, _, _, _, _, _, _, _, rfl⟩
end Go.Proofs.YtnodogcabpjahaaDoor
