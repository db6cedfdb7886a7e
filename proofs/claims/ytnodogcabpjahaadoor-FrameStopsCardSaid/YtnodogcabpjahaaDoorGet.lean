/-
  What Get answers.
-/
import Derived.Test.YtnodogcabpjahaaDoorSize
import Derived.StillTailTactics
import Derived.Deep.RegionHeld3
namespace Go.Proofs.YtnodogcabpjahaaDoor
open Go.RowKit

def GetOut (w : World) (g : Frm.G) (e : Ending) (w' : World) : Prop :=
  ∃ A c, e = .returned (.tuple #[.agg #[.int .i64 g.1.1, .slice A g.1.2.length c], .int .i64 g.2.1, .int .i64 g.2.2]) ∧ Own w' w.heap.size 5 (.slice A g.1.2.length c) g.1.2 ∧ Below w.heap.size w w'
theorem getOut_err {w w' : World} {er : Int} (h : Below w.heap.size w w') : GetOut w (Frm.err er) (.returned (.tuple #[.agg #[.int .i64 0, .slice none 0 0], .int .i64 0, .int .i64 er])) w' :=
  ⟨none, 0, rfl, Own.nil _ _ _, h⟩

/-- Get by what bodySize answers. -/
theorem get_size (l : List UInt8) : Frm.get l = if (bsz l).2 = 0 then Frm.getB (l.getD 1 0) (bsz l).1.toNat l else Frm.err (bsz l).2 := by
  match l with
  | [] => rfl
  | [c] =>
    by_cases h : c ≠ 83
    · rw [bsz_mark h, if_neg (by decide)]; exact if_pos h
    · rw [bsz_short h (by simp), if_neg (by decide)]; exact if_neg h
  | [c, _] =>
    by_cases h : c ≠ 83
    · rw [bsz_mark h, if_neg (by decide)]; exact if_pos h
    · rw [bsz_short h (by simp), if_neg (by decide)]; exact if_neg h
  | [c, _, _] =>
    by_cases h : c ≠ 83
    · rw [bsz_mark h, if_neg (by decide)]; exact if_pos h
    · rw [bsz_short h (by simp), if_neg (by decide)]; exact if_neg h
  | c :: k :: h :: y :: r =>
    have e : bsz (c :: k :: h :: y :: r) = if c ≠ 83 then (0, 2) else if 4096 < h.toNat * 256 + y.toNat then (0, 7) else (((h.toNat * 256 + y.toNat : Nat) : Int), 0) := rfl
    have e2 : Frm.get (c :: k :: h :: y :: r) = if c ≠ 83 then Frm.err 2 else Frm.getB k (h.toNat * 256 + y.toNat) (c :: k :: h :: y :: r) := rfl
    rw [e, e2]
    by_cases hc : c ≠ 83
    · rw [if_pos hc, if_pos hc]; rfl
    · rw [if_neg hc, if_neg hc]
      by_cases h4 : 4096 < h.toNat * 256 + y.toNat
      · rw [if_pos h4]
        unfold Frm.getB
        rw [if_pos h4]; rfl
      · rw [if_neg h4, if_pos rfl, Int.toNat_natCast]; rfl
theorem bsz_good {l : List UInt8} (h : (bsz l).2 = 0) : 4 ≤ l.length ∧ 0 ≤ (bsz l).1 ∧ (bsz l).1 ≤ 4096 := by
  match l, h with
  | [], h => cases h
  | [c], h =>
    change (if c ≠ 83 then _ else _ : Int × Int).2 = 0 at h
    split at h <;> cases h
  | [c, _], h =>
    change (if c ≠ 83 then _ else _ : Int × Int).2 = 0 at h
    split at h <;> cases h
  | [c, _, _], h =>
    change (if c ≠ 83 then _ else _ : Int × Int).2 = 0 at h
    split at h <;> cases h
  | c :: k :: h' :: y :: r, h =>
    have e : bsz (c :: k :: h' :: y :: r) = if c ≠ 83 then (0, 2) else if 4096 < h'.toNat * 256 + y.toNat then (0, 7) else (((h'.toNat * 256 + y.toNat : Nat) : Int), 0) := rfl
    rw [e] at h ⊢
    split
    · rename_i hc; rw [if_pos hc] at h; cases h
    · rename_i hc
      rw [if_neg hc] at h
      split
      · rename_i h4; rw [if_pos h4] at h; cases h
      · simp only [List.length_cons]
        omega
theorem bsz_bad (l : List UInt8) (h : (bsz l).2 ≠ 0) : (bsz l).2 = 2 ∨ (bsz l).2 = 3 ∨ (bsz l).2 = 7 := by
  match l, h with
  | [], h => exact .inr (.inl rfl)
  | [c], h =>
    show (if c ≠ 83 then _ else _ : Int × Int).2 = 2 ∨ (if c ≠ 83 then _ else _ : Int × Int).2 = 3 ∨ (if c ≠ 83 then _ else _ : Int × Int).2 = 7
    split <;> simp
  | [c, _], h =>
    show (if c ≠ 83 then _ else _ : Int × Int).2 = 2 ∨ (if c ≠ 83 then _ else _ : Int × Int).2 = 3 ∨ (if c ≠ 83 then _ else _ : Int × Int).2 = 7
    split <;> simp
  | [c, _, _], h =>
    show (if c ≠ 83 then _ else _ : Int × Int).2 = 2 ∨ (if c ≠ 83 then _ else _ : Int × Int).2 = 3 ∨ (if c ≠ 83 then _ else _ : Int × Int).2 = 7
    split <;> simp
  | c :: k :: h' :: y :: r, h =>
    have e : bsz (c :: k :: h' :: y :: r) = if c ≠ 83 then (0, 2) else if 4096 < h'.toNat * 256 + y.toNat then (0, 7) else (((h'.toNat * 256 + y.toNat : Nat) : Int), 0) := rfl
    rw [e] at h ⊢
    split
    · simp
    · rename_i hc
      rw [if_neg hc] at h
      split
      · simp
      · rename_i h4; rw [if_neg h4] at h; exact absurd rfl h

theorem cell_far {w : World} {p q : Addr} (h : q.block ≠ p.block) (u : Value) : (w.setCell p u).cell? q = w.cell? q := World.cell?_of_block (Below.heap_setCell w p u q.block h)
theorem unsl_body {l x : List UInt8} {n : Nat} (hl : n + 8 ≤ l.length) (h : unsl (l.take (n + 8)) = some x) : x.drop 4 = (l.drop 4).take n := by
  have hlen : (l.take (n + 8)).length = n + 8 := by rw [List.length_take]; omega
  have e : x = (l.take (n + 8)).take (n + 4) := by
    have h1 := unsl_some h
    have h2 := unsl_length h
    rw [h1]
    unfold seal_
    rw [List.take_append_of_le_length (by omega), List.take_of_length_le (by omega)]
  rw [e, List.take_take, Nat.min_eq_left (by omega), List.drop_take, Nat.add_sub_cancel]
theorem getOut_ok {w w' : World} {l : List UInt8} {k m n c : Nat} {X : Int} {A : Option Addr} (hX : (m : Int) = X) (hl : l.length = n) (h : Own w' w.heap.size 5 (.slice A n c) l) (hb : Below w.heap.size w w') : GetOut w (((k : Int), l), (m : Int), 0) (.returned (.tuple #[.agg #[.int .i64 (k : Int), .slice A n c], .int .i64 X, .int .i64 0])) w' := by
  subst hl
  subst hX
  exact ⟨A, c, rfl, h, hb⟩

set_option maxRecDepth 100000 in
theorem get_any (v : Value) (l : List UInt8) (hl : l.length ≤ 1000000) (w : World) (B : Nat) (hB : B ≤ w.heap.size) (hv : Sl w B v l) (hT : Tab w) :
    Calls Tryd.prog 13 #[v] w (GetOut w (Frm.get l)) := by
  obtain ⟨A, c, rfl, hc, hm⟩ := hv.form
  unfold maxLen at hm
  rw [get_size]
  have hb0 : Below w.heap.size w (w.alloc (.cells #[.int .i64 0, .slice none 0 0] 24)) := (Below.refl _ _).alloc (Nat.le_refl _) _
  have hS := Lib.hid (bodySize_any _ l _ B (hv.below (hb0.mono hB)))
  have hW := Lib.hid (fun w1 (h : Below (w.alloc (.cells #[.int .i64 0, .slice none 0 0] 24)).heap.size (w.alloc (.cells #[.int .i64 0, .slice none 0 0] 24)) w1) => (Whole.new w 24 #[.int .i64 0, .slice none 0 0]).below h (by simp))
  have hV := Lib.hid (fun W (h : Below w.heap.size w W) => hv.below (h.mono hB))
  have HT := Lib.hid (fun W (h : Below w.heap.size w W) => hT.below h hT.pos)
  have hgood := @bsz_good l
  have hbad := bsz_bad l
  have HB0 := Lib.hid hb0
  clear hT hb0
  generalize hbz : bsz l = p at *
  obtain ⟨s, er⟩ := p
  simp only at hgood hbad hS ⊢
  clear hbz
  by_cases her : er = 0
  · subst her
    obtain ⟨h4, hs0, hs1⟩ := hgood rfl
    clear hgood hbad
    obtain ⟨n, rfl⟩ := Int.eq_ofNat_of_zero_le hs0
    rw [if_pos rfl, Int.toNat_natCast]
    unfold Frm.getB
    rw [if_neg (show ¬ 4096 < n by omega)]
    have i0 : (0 : Int) ≤ 4 + (n : Int) + 4 := by omega
    have i3 : (4 + (n : Int) + 4).toNat = n + 8 := by omega
    have w1 : IntKind.i64.wrap (4 + (n : Int)) = 4 + (n : Int) := by rw [IntKind.wrap_i64]; omega
    by_cases h8 : l.length < n + 8
    · rw [if_pos h8]
      have hd : decide ((l.length : Int) < 4 + (n : Int) + 4) = true := by simp; omega
      clear hv
      generalize l.length = m at *
      go_enter Tryd.func13, Tryd.ntmps13
      go_wp2_with fail
      refine hS.out.mono ?_
      rintro e w1 ⟨rfl, hb1⟩
      have hW1 := hW.out w1 hb1
      have k0 : w1.cell? ⟨w.heap.size, 0, none⟩ = some (.int .i64 0) := hW1.cell 0
      have k1 : w1.cell? ⟨w.heap.size, 1, none⟩ = some (.slice none 0 0) := hW1.cell 1
      have f0 := hW1.free 0
      have f1 := hW1.free 1
      have hlt := hW1.lt
      have hb2 := HB0.out.trans (hb1.mono (by simp))
      clear hW1
      go_wp2_with fail
      exact bodyPost_ret (v := .tuple #[.agg #[.int .i64 0, .slice none 0 0], .int .i64 0, _]) (by simp [results, Tryd.results13, go_sem, k0, k1]) rfl (getOut_err ((hb2.setCell (by simp) _).setCell (by simp) _))
    · rw [if_neg h8]
      have hd : decide ((l.length : Int) < 4 + (n : Int) + 4) = false := by simp; omega
      obtain ⟨b, off, rfl, _, hk⟩ := hv.byte 1 (by omega)
      have htk : (l.take (n + 8)).length = n + 8 := by rw [List.length_take]; omega
      have hO := Lib.hid (fun W (h : Below w.heap.size w W) => open_sl (.slice (some ⟨b, off, none⟩) (n + 8) c) (l.take (n + 8)) (by rw [htk]; omega) W w.heap.size h.size ((hV.out W h).take (n + 8) c (by omega) (by omega) (by unfold maxLen; omega) |>.mono hB) (HT.out W h))
      have hbody := @unsl_body l
      have hkk : l.getD 1 0 = l[1]'(by omega) := by simp [List.getD, show 1 < l.length by omega]
      rw [hkk]
      have hkb := (l[1]'(by omega)).toNat_lt
      have j1 : 4 + (n : Int) + 4 ≤ (c : Int) := by omega
      cases hu : unsl (l.take (n + 8)) with
      | none =>
        rw [hu] at hO
        dsimp only
        clear hv hbody hkk hkb hk htk
        generalize l.length = m at *
        go_enter Tryd.func13, Tryd.ntmps13
        go_wp2_with fail
        refine hS.out.mono ?_
        rintro e w1 ⟨rfl, hb1⟩
        have hW1 := Lib.hid (hW.out w1 hb1)
        have hb2 := HB0.out.trans (hb1.mono (by simp))
        have hO1 := Lib.hid (hO.out w1 hb2)
        go_wp2_with fail
        refine hO1.out.mono ?_
        rintro e w2 ⟨A2, c2, rfl, _, hb3⟩
        have hW2 := hW1.out.below hb3 hW1.out.lt
        have k0 : w2.cell? ⟨w.heap.size, 0, none⟩ = some (.int .i64 0) := hW2.cell 0
        have k1 : w2.cell? ⟨w.heap.size, 1, none⟩ = some (.slice none 0 0) := hW2.cell 1
        have f0 := hW2.free 0
        have f1 := hW2.free 1
        have hlt := hW2.lt
        have hb4 := hb2.trans (hb3.mono hb2.size)
        clear hW2
        simp only [Option.isSome_none, Option.getD_none, List.length_nil]
        go_wp2_with fail
        exact bodyPost_ret (v := .tuple #[.agg #[.int .i64 0, .slice none 0 0], .int .i64 0, _]) (by simp [results, Tryd.results13, go_sem, k0, k1]) rfl (getOut_err ((hb4.setCell (by simp) _).setCell (by simp) _))
      | some x =>
        rw [hu] at hO
        have hxb := hbody (by omega) hu
        have hC := Lib.hid (fun W (h : Below w.heap.size w W) => (hV.out W h).drop 4 (by omega))
        rw [if_neg (show ¬ c = 4 by omega)] at hC
        rw [show Rep.sz UInt8 = 1 from rfl, Nat.mul_one, Option.map_some, add_at] at hC
        have hC2 := Lib.hid (fun W (h : Below w.heap.size w W) => clone_any ⟨b, off + 4, none⟩ n (c - 4) ((l.drop 4).take n) (by rw [List.length_take]; omega) W w.heap.size h.size (((hC.out W h).take n (c - 4) (by omega) (by omega) (by unfold maxLen; omega)).mono hB))
        have hbl : ((l.drop 4).take n).length = n := by rw [List.length_take, List.length_drop]; omega
        have hK := Lib.hid (fun W (h : Below w.heap.size w W) => (h.mono hB).cell (p := ⟨b, off + 1, none⟩) (by assumption))
        dsimp only
        rw [hxb]
        clear hv hbody hkk htk hxb hu hC
        generalize l[1].toNat = kk at *
        generalize (l.drop 4).take n = bd at *
        generalize l.length = m at *
        have HBL := Lib.hid hbl
        clear hbl
        go_enter Tryd.func13, Tryd.ntmps13
        go_wp2_with fail
        refine hS.out.mono ?_
        rintro e w1 ⟨rfl, hb1⟩
        have hW1 := Lib.hid (hW.out w1 hb1)
        have hb2 := HB0.out.trans (hb1.mono (by simp))
        have hO1 := Lib.hid (hO.out w1 hb2)
        go_wp2_with fail
        refine hO1.out.mono ?_
        rintro e w2 ⟨A2, c2, rfl, _, hb3⟩
        have hW2 := hW1.out.below hb3 hW1.out.lt
        have k0 : w2.cell? ⟨w.heap.size, 0, none⟩ = some (.int .i64 0) := hW2.cell 0
        have k1 : w2.cell? ⟨w.heap.size, 1, none⟩ = some (.slice none 0 0) := hW2.cell 1
        have f0 := hW2.free 0
        have f1 := hW2.free 1
        have hlt := hW2.lt
        have hb4 := hb2.trans (hb3.mono hb2.size)
        have kk1 : w2.cell? ⟨b, off + 1, none⟩ = some (.int .u8 (kk : Int)) := (hK.out w2 hb4).trans hk
        have HW2 := Lib.hid hW2
        have HB4 := Lib.hid hb4
        have HK2 := Lib.hid (fun W (h : Below w.heap.size w W) => (hK.out W h).trans hk)
        have hbn : b ≠ w.heap.size := by omega
        clear hW2 hK hk
        simp only [Option.isSome_some, Option.getD_some]
        generalize x.length = xl at *
        have p1 : (1 : Int) < (m : Int) := by omega
        have p2 : (4 : Int) ≤ 4 + (n : Int) := by omega
        have p3 : 4 + (n : Int) ≤ (c : Int) := by omega
        have p4 : (4 + (n : Int)).toNat = 4 + n := by omega
        have p5 : ¬ c = 4 := by omega
        have p6 : IntKind.i64.wrap (kk : Int) = (kk : Int) := by rw [IntKind.wrap_i64]; omega
        go_wp2_with fail
        go_region_held3 (fun w' => w'.cell? ⟨b, off + 1, none⟩ = some (.int .u8 (kk : Int))) (first | assumption | (rw [cell_far hbn, cell_far hbn]; assumption) | go_keep)
          (first | (go_at_call 22; refine (hC2.out _ HB4.out.drew).mono ?_; rintro e w3 ⟨A3, c3, rfl, ho3, hb5⟩; have hb6 := HB4.out.drew.trans (hb5.mono HB4.out.size); have hW3 := (HW2.out.below (B := w.heap.size + 1) ((Below.refl _ _).drew.trans (hb5.mono HW2.out.lt)) (Nat.lt_succ_self _)); have l0 : w3.cell? ⟨w.heap.size, 0, none⟩ = some (.int .i64 0) := hW3.cell 0; have l1 : w3.cell? ⟨w.heap.size, 1, none⟩ = some (.slice none 0 0) := hW3.cell 1; have g0 := hW3.free 0; have g1 := hW3.free 1; have hlt3 := hW3.lt; have kk3 := HK2.out w3 hb6; have HO3 := Lib.hid ho3; rw [HBL.out] at HO3 ⊢))
        go_wp2_with fail
        exact bodyPost_ret (v := .tuple #[.agg #[.int .i64 (kk : Int), .slice A3 n c3], .int .i64 ((n : Int) + 8), .int .i64 0]) (by simp [results, Tryd.results13, go_sem, l0, l1]) rfl
          (getOut_ok (by omega) HBL.out (((HO3.out.set (p := ⟨w.heap.size, 0, none⟩) HW2.out.lt _).set (p := ⟨w.heap.size, 1, none⟩) HW2.out.lt _).down HB4.out.size) ((hb6.setCell (by simp) _).setCell (by simp) _))
  · rw [if_neg her]
    have hb : (er != 0) = true := by simpa using her
    clear hgood hbad hv
    generalize l.length = m at *
    go_enter Tryd.func13, Tryd.ntmps13
    go_wp2_with fail
    refine hS.out.mono ?_
    rintro e w1 ⟨rfl, hb1⟩
    have hW1 := hW.out w1 hb1
    have k0 : w1.cell? ⟨w.heap.size, 0, none⟩ = some (.int .i64 0) := hW1.cell 0
    have k1 : w1.cell? ⟨w.heap.size, 1, none⟩ = some (.slice none 0 0) := hW1.cell 1
    have f0 := hW1.free 0
    have f1 := hW1.free 1
    have hlt := hW1.lt
    have hb2 := HB0.out.trans (hb1.mono (by simp))
    clear hW1
    go_wp2_with fail
    exact bodyPost_ret (v := .tuple #[.agg #[.int .i64 0, .slice none 0 0], .int .i64 0, _]) (by simp [results, Tryd.results13, go_sem, k0, k1]) rfl (getOut_err ((hb2.setCell (by simp) _).setCell (by simp) _))
end Go.Proofs.YtnodogcabpjahaaDoor
