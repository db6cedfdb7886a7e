/-
  What the reference's Get answers; what both have in common.
-/
import Derived.Test.YtnodogcabpjahaaDoorGet
namespace Go.Proofs.YtnodogcabpjahaaDoor
open Go.RowKit

/-- What Get answers: a frame that reads as g's, a number, an error. -/
def GetRes (w : World) (g : Frm.G) (e : Ending) (w' : World) : Prop :=
  ∃ A c, e = .returned (.tuple #[.agg #[.int .i64 g.1.1, .slice A g.1.2.length c], .int .i64 g.2.1, .int .i64 g.2.2]) ∧ SlS w' (w.heap.size ≤ ·) (.slice A g.1.2.length c) g.1.2 ∧ Below w.heap.size w w'
theorem getOut_res {w : World} {g : Frm.G} {e : Ending} {w' : World} (h : GetOut w g e w') : GetRes w g e w' := by
  obtain ⟨A, c, he, ho, hb⟩ := h
  exact ⟨A, c, he, ho.slS, hb⟩
theorem getRes_err {w w' : World} {er : Int} (h : Below w.heap.size w w') : GetRes w (Frm.err er) (.returned (.tuple #[.agg #[.int .i64 0, .slice none 0 0], .int .i64 0, .int .i64 er])) w' :=
  ⟨none, 0, rfl, SlS.nil _ _, h⟩
theorem getRes_ok {w w' : World} {l : List UInt8} {k m n c : Nat} {X : Int} {A : Option Addr} (hX : (m : Int) = X) (hl : l.length = n) (h : SlS w' (w.heap.size ≤ ·) (.slice A n c) l) (hb : Below w.heap.size w w') : GetRes w (((k : Int), l), (m : Int), 0) (.returned (.tuple #[.agg #[.int .i64 (k : Int), .slice A n c], .int .i64 X, .int .i64 0])) w' := by
  subst hl
  subst hX
  exact ⟨A, c, rfl, h, hb⟩

theorem cell_far2d {w : World} {p p' q : Addr} (h : q.block ≠ p.block) (h' : q.block ≠ p'.block) (u u' : Value) : ((w.setCell p u).setCell p' u').drew.cell? q = w.cell? q := (cell_far (w := w.setCell p u) h' u').trans (cell_far h u)

set_option maxRecDepth 100000 in
set_option maxHeartbeats 1600000 in
theorem refGet_any (v : Value) (l : List UInt8) (hl : l.length ≤ 1000000) (w : World) (B : Nat) (hB : B ≤ w.heap.size) (hv : Sl w B v l) :
    Calls Tryd.prog 14 #[v] w (GetRes w (Frm.get l)) := by
  obtain ⟨A, c, rfl, hc, hm⟩ := hv.form
  unfold maxLen at hm
  have hb0 : Below w.heap.size w ((w.alloc (.cells #[.int .i64 0, .slice none 0 0] 24)).alloc (.cells #[.int .i64 0, .slice none 0 0] 24)) := ((Below.refl _ _).alloc (Nat.le_refl _) _).alloc (by simp) _
  have hV := Lib.hid (fun W (h : Below w.heap.size w W) => hv.below (h.mono hB))
  have HB0 := Lib.hid hb0
  have HWR := Lib.hid ((Whole.new w 24 #[.int .i64 0, .slice none 0 0]).alloc (.cells #[.int .i64 0, .slice none 0 0] 24))
  have hwn := Whole.new (w.alloc (.cells #[.int .i64 0, .slice none 0 0] 24)) 24 #[.int .i64 0, .slice none 0 0]
  rw [World.size_alloc] at hwn
  have HWN := Lib.hid hwn
  clear hb0 hwn
  match l, hl, hv, hc, hV with
  | [], hl, hv, hc, hV =>
    clear hv hV
    go_enter Tryd.func14, Tryd.ntmps14
    go_wp2_with fail
    exact bodyPost_ret (v := .tuple #[.agg #[.int .i64 0, .slice none 0 0], .int .i64 0, _]) (by simp [results, Tryd.results14, go_sem]) rfl (getRes_err HB0.out)
  | x :: r, hl, hv, hc, hV =>
    have hv0 := hV.out _ HB0.out
    obtain ⟨b, off, rfl, hbB, c0⟩ := hv0.byte 0 (by simp)
    simp only [List.getElem_cons_zero, Nat.add_zero] at c0
    have hl1 : 0 < (x :: r).length := by simp
    have hne : ((((x :: r).length : Nat) : Int) == 0) = false := by simp; omega
    by_cases hx : x ≠ 83
    · have e : Frm.get (x :: r) = Frm.err 2 := by rw [get_size, bsz_mark hx, if_neg (by decide)]
      rw [e]
      have hb : ((x.toNat : Int) != 83) = true := by
        rw [bne_iff_ne]; exact fun h => hx (mark_int.2 h)
      clear hv hv0 hV e
      generalize (x :: r).length = n at *
      generalize x.toNat = xn at *
      go_enter Tryd.func14, Tryd.ntmps14
      go_wp2_with fail
      exact bodyPost_ret (v := .tuple #[.agg #[.int .i64 0, .slice none 0 0], .int .i64 0, _]) (by simp [results, Tryd.results14, go_sem]) rfl (getRes_err HB0.out)
    · have hb : ((x.toNat : Int) != 83) = false := by
        have := mark_int.1 (Decidable.not_not.1 hx)
        rw [this]; rfl
      by_cases h4 : (x :: r).length < 4
      · have e : Frm.get (x :: r) = Frm.err 3 := by rw [get_size, bsz_short hx h4, if_neg (by decide)]
        rw [e]
        clear hv hv0 hV e
        generalize (x :: r).length = n at *
        generalize x.toNat = xn at *
        go_enter Tryd.func14, Tryd.ntmps14
        go_wp2_with fail
        exact bodyPost_ret (v := .tuple #[.agg #[.int .i64 0, .slice none 0 0], .int .i64 0, _]) (by simp [results, Tryd.results14, go_sem]) rfl (getRes_err HB0.out)
      · match r, hl, hv, hc, hV, hv0, hl1, hne, h4 with
        | [], _, _, _, _, _, _, _, h4 => exact absurd h4 (by simp)
        | [_], _, _, _, _, _, _, _, h4 => exact absurd h4 (by simp)
        | [_, _], _, _, _, _, _, _, _, h4 => exact absurd h4 (by simp)
        | k :: h :: y :: r, hl, hv, hc, hV, hv0, hl1, hne, h4 =>
          have e : Frm.get (x :: k :: h :: y :: r) = Frm.getB k (h.toNat * 256 + y.toNat) (x :: k :: h :: y :: r) := if_neg hx
          rw [e]
          clear e
          unfold Frm.getB
          obtain ⟨b', off', e, _, c1⟩ := hv0.byte 1 (by simp)
          injection e with e
          injection e with e1 e2
          subst e1 e2
          obtain ⟨b', off', e, _, c2⟩ := hv0.byte 2 (by simp)
          injection e with e
          injection e with e1 e2
          subst e1 e2
          obtain ⟨b', off', e, _, c3⟩ := hv0.byte 3 (by simp)
          injection e with e
          injection e with e1 e2
          subst e1 e2
          simp only [List.getElem_cons_zero, List.getElem_cons_succ] at c1 c2 c3
          have hkb := k.toNat_lt
          have hhb := h.toNat_lt
          have hyb := y.toNat_lt
          have hge : 4 ≤ (x :: k :: h :: y :: r).length := by omega
          generalize x :: k :: h :: y :: r = l at *
          clear h4
          have HL : Hid (l.length ≤ 1000000) := hl
          generalize x.toNat = xn at *
          generalize k.toNat = kn at *
          generalize h.toNat = hn at *
          generalize y.toNat = yn at *
          have i1 : (2 : Int) < (l.length : Int) := by omega
          have i2 : (3 : Int) < (l.length : Int) := by omega
          have hsi : ((hn * 256 + yn : Nat) : Int) = (hn : Int) * 256 + (yn : Int) := by omega
          obtain ⟨s, hs⟩ : ∃ s, s = hn * 256 + yn := ⟨_, rfl⟩
          rw [← hs] at hsi ⊢
          have w1 : IntKind.i64.wrap ((hn : Int) * 256) = (hn : Int) * 256 := by rw [IntKind.wrap_i64]; omega
          have w2 : IntKind.i64.wrap ((hn : Int) * 256 + (yn : Int)) = (s : Int) := by rw [IntKind.wrap_i64]; omega
          have hsb : s < 65536 := by omega
          clear hsi hs
          by_cases h4 : 4096 < s
          · rw [if_pos h4]
            clear hv hv0 hV
            generalize l.length = m at *
            go_enter Tryd.func14, Tryd.ntmps14
            go_wp2_with fail
            go_quiet (fail)
            clear w1 w2
            go_wp2_with fail
            exact bodyPost_ret (v := .tuple #[.agg #[.int .i64 0, .slice none 0 0], .int .i64 0, _]) (by simp [results, Tryd.results14, go_sem]) rfl (getRes_err (((below_drewN HB0.out _).setCell (by simp) _).setCell (by simp) _))
          · rw [if_neg h4]
            by_cases h8 : l.length < s + 8
            · rw [if_pos h8]
              clear hv hv0 hV
              have hd : decide ((l.length : Int) < (s : Int) + 8) = true := by simp; omega
              generalize l.length = m at *
              go_enter Tryd.func14, Tryd.ntmps14
              go_wp2_with fail
              go_quiet (fail)
              clear w1 w2
              go_wp2_with fail
              exact bodyPost_ret (v := .tuple #[.agg #[.int .i64 0, .slice none 0 0], .int .i64 0, _]) (by simp [results, Tryd.results14, go_sem]) rfl (getRes_err (((below_drewN HB0.out _).setCell (by simp) _).setCell (by simp) _))
            · rw [if_neg h8]
              have hd : decide ((l.length : Int) < (s : Int) + 8) = false := by simp; omega
              have htk : (l.take (s + 8)).length = s + 8 := by rw [List.length_take]; omega
              have hO := Lib.hid (fun W (h : Below w.heap.size w W) => refOpen_sl (.slice (some ⟨b, off, none⟩) (s + 8) c) (l.take (s + 8)) (by rw [htk]; omega) W w.heap.size h.size ((hV.out W h).take (s + 8) c (by omega) (by omega) (by unfold maxLen; omega) |>.mono hB))
              have hbody := @unsl_body l
              have hxl := @unsl_length (l.take (s + 8))
              rw [htk] at hxl
              have j1 : (s : Int) + 8 ≤ (c : Int) := by omega
              have j2 : ((s : Int) + 8).toNat = s + 8 := by omega
              have j3 : (0 : Int) ≤ (s : Int) + 8 := by omega
              cases hu : unsl (l.take (s + 8)) with
              | none =>
                rw [hu] at hO
                dsimp only
                clear hv hv0 hV hbody hxl htk hu
                generalize l.length = m at *
                go_enter Tryd.func14, Tryd.ntmps14
                go_wp2_with fail
                go_quiet (fail)
                clear w1 w2
                go_wp2_with fail
                refine (hO.out _ (below_drewN HB0.out _)).mono ?_
                rintro e w2 ⟨A2, c2, rfl, ho2, hb3⟩
                have hb4 := (below_drewN HB0.out nq).trans (hb3.mono HB0.out.size)
                have hWR := HWR.out.below (B := w.heap.size + 2) ((below_drewN (Below.refl _ _) nq).trans (hb3.mono (by simp))) (by omega)
                have hWN := HWN.out.below (B := w.heap.size + 2) ((below_drewN (Below.refl _ _) nq).trans (hb3.mono (by simp))) (by omega)
                have k0 : w2.cell? ⟨w.heap.size, 0, none⟩ = some (.int .i64 0) := hWR.cell 0
                have k1 : w2.cell? ⟨w.heap.size, 1, none⟩ = some (.slice none 0 0) := hWR.cell 1
                have k2 : w2.cell? ⟨w.heap.size + 1, 0, none⟩ = some (.int .i64 0) := hWN.cell 0
                have k3 : w2.cell? ⟨w.heap.size + 1, 1, none⟩ = some (.slice none 0 0) := hWN.cell 1
                have f0 := hWR.free 0
                have f1 := hWR.free 1
                have hlt := hWR.lt
                clear hWR hWN ho2
                simp only [Option.isSome_none, Option.getD_none, List.length_nil]
                go_wp2_with fail
                exact bodyPost_ret (v := .tuple #[.agg #[.int .i64 0, .slice none 0 0], .int .i64 0, _]) (by simp [results, Tryd.results14, go_sem, k0, k1]) rfl (getRes_err ((hb4.setCell (by simp) _).setCell (by simp) _))
              | some z =>
                rw [hu] at hO
                have hxb := hbody (by omega) hu
                have HZL := Lib.hid (hxl hu)
                dsimp only
                rw [hxb]
                have hbl : ((l.drop 4).take s).length = s := by rw [List.length_take, List.length_drop]; omega
                have HX := Lib.hid (fun W S A n c (h : SlS W S (.slice A n c) z) (h4 : 4 ≤ n) => hxb ▸ h.drop 4 h4)
                have HK := Lib.hid (fun W (h : Below w.heap.size w W) => (h.mono hB).cell (p := ⟨b, off + 1, none⟩) (by assumption))
                have c1w : w.cell? ⟨b, off + 1, none⟩ = some (.int .u8 (kn : Int)) := (HK.out _ HB0.out).symm.trans c1
                clear hv hv0 hV hbody hxl htk hu hxb
                generalize (l.drop 4).take s = bd at *
                generalize l.length = m at *
                have HBL := Lib.hid hbl
                clear hbl
                go_enter Tryd.func14, Tryd.ntmps14
                go_wp2_with fail
                go_quiet (fail)
                clear w1 w2
                go_wp2_with fail
                refine (hO.out _ (below_drewN HB0.out _)).mono ?_
                rintro e w2 ⟨A2, c2, rfl, ho2, hb3⟩
                have hb4 := (below_drewN HB0.out nq).trans (hb3.mono HB0.out.size)
                have hWR := HWR.out.below (B := w.heap.size + 2) ((below_drewN (Below.refl _ _) nq).trans (hb3.mono (by simp))) (by omega)
                have hWN := HWN.out.below (B := w.heap.size + 2) ((below_drewN (Below.refl _ _) nq).trans (hb3.mono (by simp))) (by omega)
                have k0 : w2.cell? ⟨w.heap.size, 0, none⟩ = some (.int .i64 0) := hWR.cell 0
                have k1 : w2.cell? ⟨w.heap.size, 1, none⟩ = some (.slice none 0 0) := hWR.cell 1
                have k2 : w2.cell? ⟨w.heap.size + 1, 0, none⟩ = some (.int .i64 0) := hWN.cell 0
                have k3 : w2.cell? ⟨w.heap.size + 1, 1, none⟩ = some (.slice none 0 0) := hWN.cell 1
                have f0 := hWR.free 0
                have f1 := hWR.free 1
                have hlt := hWR.lt
                simp only [Option.isSome_some, Option.getD_some] at ho2 ⊢
                have hs2 := ho2.slS
                rw [show ∀ k, (((w.alloc (.cells #[.int .i64 0, .slice none 0 0] 24)).alloc (.cells #[.int .i64 0, .slice none 0 0] 24)).drewN k).heap.size = w.heap.size + 2 from fun _ => by simp [World.drewN]] at hs2
                obtain ⟨g, rfl, _, hg, _⟩ := ho2.at_ (by have := HZL.out; omega)
                have hd2 := HX.out _ _ _ _ _ hs2 (by have := HZL.out; omega)
                have hc2 := hs2.room.2.1
                have hbn : b ≠ w.heap.size := by omega
                have kk1 : w2.cell? ⟨b, off + 1, none⟩ = some (.int .u8 (kn : Int)) := (HK.out w2 hb4).trans c1w
                have HB4 := Lib.hid hb4
                have HLT := Lib.hid hlt
                clear ho2 hs2 HX hWN hWR HK
                generalize z.length = zl at *
                obtain rfl : zl = s + 4 := by have := HZL.out; omega
                rw [show Rep.sz UInt8 = 1 from rfl, Nat.mul_one, Option.map_some, add_at, Nat.zero_add, Nat.add_sub_cancel] at hd2
                have q1 : (1 : Int) < (m : Int) := by omega
                have q2 : (4 : Int) ≤ (s : Int) + 4 := by omega
                have q3 : (4 : Int) ≤ ((s + 4 : Nat) : Int) := by omega
                have q4 : IntKind.i64.wrap (kn : Int) = (kn : Int) := by rw [IntKind.wrap_i64]; omega
                have q5 : IntKind.i64.wrap ((s : Int) + 8) = (s : Int) + 8 := by rw [IntKind.wrap_i64]; omega
                by_cases hc4 : c2 = 4
                · subst hc4
                  rw [if_pos rfl] at hd2
                  obtain rfl : s = 0 := by omega
                  have HD := Lib.hid hd2
                  clear hd2
                  have q6 : IntKind.i64.wrap 8 = 8 := by rw [IntKind.wrap_i64]; omega
                  go_wp2_with fail
                  go_region_held3 (fun w' => w'.cell? ⟨b, off + 1, none⟩ = some (.int .u8 (kn : Int))) (first | assumption | (rw [cell_far2d hbn hbn]; assumption) | go_keep) (fail)
                  go_wp2_with fail
                  exact bodyPost_ret (v := .tuple #[.agg #[.int .i64 (kn : Int), .slice (some ⟨g, 0, none⟩) 0 0], .int .i64 8, .int .i64 0]) (by simp [results, Tryd.results14, go_sem, k0, k1]) rfl
                    (getRes_ok (by omega) HBL.out ((((HD.out.set (p := ⟨w.heap.size, 0, none⟩) (by simp) _).set (p := ⟨w.heap.size, 1, none⟩) (by simp) _).drew).wide (fun x (hx : w.heap.size + 2 ≤ x) _ => by show w.heap.size ≤ x; omega)) (((HB4.out.setCell (by simp) _).setCell (by simp) _).drew))
                · rw [if_neg hc4] at hd2
                  have HD := Lib.hid hd2
                  clear hd2
                  go_wp2_with fail
                  go_region_held3 (fun w' => w'.cell? ⟨b, off + 1, none⟩ = some (.int .u8 (kn : Int))) (first | assumption | (rw [cell_far2d hbn hbn]; assumption) | go_keep) (fail)
                  go_wp2_with fail
                  exact bodyPost_ret (v := .tuple #[.agg #[.int .i64 (kn : Int), .slice (some ⟨g, 4, none⟩) s (c2 - 4)], .int .i64 ((s : Int) + 8), .int .i64 0]) (by simp [results, Tryd.results14, go_sem, k0, k1]) rfl
                    (getRes_ok (by omega) HBL.out ((((HD.out.set (p := ⟨w.heap.size, 0, none⟩) (by simp) _).set (p := ⟨w.heap.size, 1, none⟩) (by simp) _).drew).wide (fun x (hx : w.heap.size + 2 ≤ x) _ => by show w.heap.size ≤ x; omega)) (((HB4.out.setCell (by simp) _).setCell (by simp) _).drew))
end Go.Proofs.YtnodogcabpjahaaDoor
