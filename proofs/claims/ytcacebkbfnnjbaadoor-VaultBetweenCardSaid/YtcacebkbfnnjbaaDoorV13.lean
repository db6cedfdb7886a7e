/-
  Parts that the statement rests on, joined: Get, Part, Vl, Rget.
-/
import Derived.Test.YtcacebkbfnnjbaaDoorV1
import Derived.Test.YtcacebkbfnnjbaaDoorV12
import Derived.StillTailTactics
import Derived.Deep.RegionHeld3
/-
  What Get answers.
-/



namespace Go.Proofs.YtcacebkbfnnjbaaDoor
open Go.RowKit

def GetOut (w : World) (g : Frm.G) (e : Ending) (w' : World) : Prop :=
  ∃ A c, e = .returned (.tuple #[.agg #[.int .i64 g.1.1, .slice A g.1.2.length c], .int .i64 g.2.1, .int .i64 g.2.2]) ∧ Own w' w.heap.size 5 (.slice A g.1.2.length c) g.1.2 ∧ Below w.heap.size w w'
theorem getOut_err {w w' : World} {er : Int} (h : Below w.heap.size w w') : GetOut w (Frm.err er) (.returned (.tuple #[.agg #[.int .i64 0, .slice none 0 0], .int .i64 0, .int .i64 er])) w' :=
  ⟨none, 0, rfl, Own.nil _ _ _, h⟩

/-- Get by what bodySize answers. -/
theorem get_size (l : List UInt8) : Frm.get l = if (bsz l).2 = 0 then Frm.getB (l.getD 1 0) (bsz l).1.toNat l else Frm.err (bsz l).2 := by
  match l with
  | [] => rfl
  | [c] =>
    by_cases h : c ≠ 83
    · rw [bsz_mark h, if_neg (by decide)]; exact if_pos h
    · rw [bsz_short h (by simp), if_neg (by decide)]; exact if_neg h
  | [c, _] =>
    by_cases h : c ≠ 83
    · rw [bsz_mark h, if_neg (by decide)]; exact if_pos h
    · rw [bsz_short h (by simp), if_neg (by decide)]; exact if_neg h
  | [c, _, _] =>
    by_cases h : c ≠ 83
    · rw [bsz_mark h, if_neg (by decide)]; exact if_pos h
    · rw [bsz_short h (by simp), if_neg (by decide)]; exact if_neg h
  | c :: k :: h :: y :: r =>
    have e : bsz (c :: k :: h :: y :: r) = if c ≠ 83 then (0, 2) else if 4096 < h.toNat * 256 + y.toNat then (0, 7) else (((h.toNat * 256 + y.toNat : Nat) : Int), 0) := rfl
    have e2 : Frm.get (c :: k :: h :: y :: r) = if c ≠ 83 then Frm.err 2 else Frm.getB k (h.toNat * 256 + y.toNat) (c :: k :: h :: y :: r) := rfl
    rw [e, e2]
    by_cases hc : c ≠ 83
    · rw [if_pos hc, if_pos hc]; rfl
    · rw [if_neg hc, if_neg hc]
      by_cases h4 : 4096 < h.toNat * 256 + y.toNat
      · rw [if_pos h4]
        unfold Frm.getB
        rw [if_pos h4]; rfl
      · rw [if_neg h4, if_pos rfl, Int.toNat_natCast]; rfl
theorem bsz_good {l : List UInt8} (h : (bsz l).2 = 0) : 4 ≤ l.length ∧ 0 ≤ (bsz l).1 ∧ (bsz l).1 ≤ 4096 := by
  match l, h with
  | [], h => cases h
  | [c], h =>
    change (if c ≠ 83 then _ else _ : Int × Int).2 = 0 at h
    split at h <;> cases h
  | [c, _], h =>
    change (if c ≠ 83 then _ else _ : Int × Int).2 = 0 at h
    split at h <;> cases h
  | [c, _, _], h =>
    change (if c ≠ 83 then _ else _ : Int × Int).2 = 0 at h
    split at h <;> cases h
  | c :: k :: h' :: y :: r, h =>
    have e : bsz (c :: k :: h' :: y :: r) = if c ≠ 83 then (0, 2) else if 4096 < h'.toNat * 256 + y.toNat then (0, 7) else (((h'.toNat * 256 + y.toNat : Nat) : Int), 0) := rfl
    rw [e] at h ⊢
    split
    · rename_i hc; rw [if_pos hc] at h; cases h
    · rename_i hc
      rw [if_neg hc] at h
      split
      · rename_i h4; rw [if_pos h4] at h; cases h
      · simp only [List.length_cons]
        omega
theorem bsz_bad (l : List UInt8) (h : (bsz l).2 ≠ 0) : (bsz l).2 = 2 ∨ (bsz l).2 = 3 ∨ (bsz l).2 = 7 := by
  match l, h with
  | [], h => exact .inr (.inl rfl)
  | [c], h =>
    show (if c ≠ 83 then _ else _ : Int × Int).2 = 2 ∨ (if c ≠ 83 then _ else _ : Int × Int).2 = 3 ∨ (if c ≠ 83 then _ else _ : Int × Int).2 = 7
    split <;> simp
  | [c, _], h =>
    show (if c ≠ 83 then _ else _ : Int × Int).2 = 2 ∨ (if c ≠ 83 then _ else _ : Int × Int).2 = 3 ∨ (if c ≠ 83 then _ else _ : Int × Int).2 = 7
    split <;> simp
  | [c, _, _], h =>
    show (if c ≠ 83 then _ else _ : Int × Int).2 = 2 ∨ (if c ≠ 83 then _ else _ : Int × Int).2 = 3 ∨ (if c ≠ 83 then _ else _ : Int × Int).2 = 7
    split <;> simp
  | c :: k :: h' :: y :: r, h =>
    have e : bsz (c :: k :: h' :: y :: r) = if c ≠ 83 then (0, 2) else if 4096 < h'.toNat * 256 + y.toNat then (0, 7) else (((h'.toNat * 256 + y.toNat : Nat) : Int), 0) := rfl
    rw [e] at h ⊢
    split
    · simp
    · rename_i hc
      rw [if_neg hc] at h
      split
      · simp
      · rename_i h4; rw [if_neg h4] at h; exact absurd rfl h

theorem cell_far {w : World} {p q : Addr} (h : q.block ≠ p.block) (u : Value) : (w.setCell p u).cell? q = w.cell? q := World.cell?_of_block (Below.heap_setCell w p u q.block h)
theorem unsl_body {l x : List UInt8} {n : Nat} (hl : n + 8 ≤ l.length) (h : unsl (l.take (n + 8)) = some x) : x.drop 4 = (l.drop 4).take n := by
  have hlen : (l.take (n + 8)).length = n + 8 := by rw [List.length_take]; omega
  have e : x = (l.take (n + 8)).take (n + 4) := by
    have h1 := unsl_some h
    have h2 := unsl_length h
    rw [h1]
    unfold seal_
    rw [List.take_append_of_le_length (by omega), List.take_of_length_le (by omega)]
  rw [e, List.take_take, Nat.min_eq_left (by omega), List.drop_take, Nat.add_sub_cancel]
theorem getOut_ok {w w' : World} {l : List UInt8} {k m n c : Nat} {X : Int} {A : Option Addr} (hX : (m : Int) = X) (hl : l.length = n) (h : Own w' w.heap.size 5 (.slice A n c) l) (hb : Below w.heap.size w w') : GetOut w (((k : Int), l), (m : Int), 0) (.returned (.tuple #[.agg #[.int .i64 (k : Int), .slice A n c], .int .i64 X, .int .i64 0])) w' := by
  subst hl
  subst hX
  exact ⟨A, c, rfl, h, hb⟩

set_option maxRecDepth 100000 in
theorem get_any (v : Value) (l : List UInt8) (hl : l.length ≤ 1000000) (w : World) (B : Nat) (hB : B ≤ w.heap.size) (hv : Sl w B v l) (hT : Tab w) :
    Calls Tryd.prog 45 #[v] w (GetOut w (Frm.get l)) := by
  obtain ⟨A, c, rfl, hc, hm⟩ := hv.form
  unfold maxLen at hm
  rw [get_size]
  have hb0 : Below w.heap.size w (w.alloc (.cells #[.int .i64 0, .slice none 0 0] 75)) := (Below.refl _ _).alloc (Nat.le_refl _) _
  have hS := Lib.hid (bodySize_any _ l _ B (hv.below (hb0.mono hB)))
  have hW := Lib.hid (fun w1 (h : Below (w.alloc (.cells #[.int .i64 0, .slice none 0 0] 75)).heap.size (w.alloc (.cells #[.int .i64 0, .slice none 0 0] 75)) w1) => (Whole.new w 75 #[.int .i64 0, .slice none 0 0]).below h (by simp))
  have hV := Lib.hid (fun W (h : Below w.heap.size w W) => hv.below (h.mono hB))
  have HT := Lib.hid (fun W (h : Below w.heap.size w W) => hT.below h hT.pos)
  have hgood := @bsz_good l
  have hbad := bsz_bad l
  have HB0 := Lib.hid hb0
  clear hT hb0
  generalize hbz : bsz l = p at *
  obtain ⟨s, er⟩ := p
  simp only at hgood hbad hS ⊢
  clear hbz
  by_cases her : er = 0
  · subst her
    obtain ⟨h4, hs0, hs1⟩ := hgood rfl
    clear hgood hbad
    obtain ⟨n, rfl⟩ := Int.eq_ofNat_of_zero_le hs0
    rw [if_pos rfl, Int.toNat_natCast]
    unfold Frm.getB
    rw [if_neg (show ¬ 4096 < n by omega)]
    have i0 : (0 : Int) ≤ 4 + (n : Int) + 4 := by omega
    have i3 : (4 + (n : Int) + 4).toNat = n + 8 := by omega
    have w1 : IntKind.i64.wrap (4 + (n : Int)) = 4 + (n : Int) := by rw [IntKind.wrap_i64]; omega
    by_cases h8 : l.length < n + 8
    · rw [if_pos h8]
      have hd : decide ((l.length : Int) < 4 + (n : Int) + 4) = true := by simp; omega
      clear hv
      generalize l.length = m at *
      go_enter Tryd.func45, Tryd.ntmps45
      go_wp2_with fail
      refine hS.out.mono ?_
      rintro e w1 ⟨rfl, hb1⟩
      have hW1 := hW.out w1 hb1
      have k0 : w1.cell? ⟨w.heap.size, 0, none⟩ = some (.int .i64 0) := hW1.cell 0
      have k1 : w1.cell? ⟨w.heap.size, 1, none⟩ = some (.slice none 0 0) := hW1.cell 1
      have f0 := hW1.free 0
      have f1 := hW1.free 1
      have hlt := hW1.lt
      have hb2 := HB0.out.trans (hb1.mono (by simp))
      clear hW1
      go_wp2_with fail
      exact bodyPost_ret (v := .tuple #[.agg #[.int .i64 0, .slice none 0 0], .int .i64 0, _]) (by simp [results, Tryd.results45, go_sem, k0, k1]) rfl (getOut_err ((hb2.setCell (by simp) _).setCell (by simp) _))
    · rw [if_neg h8]
      have hd : decide ((l.length : Int) < 4 + (n : Int) + 4) = false := by simp; omega
      obtain ⟨b, off, rfl, _, hk⟩ := hv.byte 1 (by omega)
      have htk : (l.take (n + 8)).length = n + 8 := by rw [List.length_take]; omega
      have hO := Lib.hid (fun W (h : Below w.heap.size w W) => open_sl (.slice (some ⟨b, off, none⟩) (n + 8) c) (l.take (n + 8)) (by rw [htk]; omega) W w.heap.size h.size ((hV.out W h).take (n + 8) c (by omega) (by omega) (by unfold maxLen; omega) |>.mono hB) (HT.out W h))
      have hbody := @unsl_body l
      have hkk : l.getD 1 0 = l[1]'(by omega) := by simp [List.getD, show 1 < l.length by omega]
      rw [hkk]
      have hkb := (l[1]'(by omega)).toNat_lt
      have j1 : 4 + (n : Int) + 4 ≤ (c : Int) := by omega
      cases hu : unsl (l.take (n + 8)) with
      | none =>
        rw [hu] at hO
        dsimp only
        clear hv hbody hkk hkb hk htk
        generalize l.length = m at *
        go_enter Tryd.func45, Tryd.ntmps45
        go_wp2_with fail
        refine hS.out.mono ?_
        rintro e w1 ⟨rfl, hb1⟩
        have hW1 := Lib.hid (hW.out w1 hb1)
        have hb2 := HB0.out.trans (hb1.mono (by simp))
        have hO1 := Lib.hid (hO.out w1 hb2)
        go_wp2_with fail
        refine hO1.out.mono ?_
        rintro e w2 ⟨A2, c2, rfl, _, hb3⟩
        have hW2 := hW1.out.below hb3 hW1.out.lt
        have k0 : w2.cell? ⟨w.heap.size, 0, none⟩ = some (.int .i64 0) := hW2.cell 0
        have k1 : w2.cell? ⟨w.heap.size, 1, none⟩ = some (.slice none 0 0) := hW2.cell 1
        have f0 := hW2.free 0
        have f1 := hW2.free 1
        have hlt := hW2.lt
        have hb4 := hb2.trans (hb3.mono hb2.size)
        clear hW2
        simp only [Option.isSome_none, Option.getD_none, List.length_nil]
        go_wp2_with fail
        exact bodyPost_ret (v := .tuple #[.agg #[.int .i64 0, .slice none 0 0], .int .i64 0, _]) (by simp [results, Tryd.results45, go_sem, k0, k1]) rfl (getOut_err ((hb4.setCell (by simp) _).setCell (by simp) _))
      | some x =>
        rw [hu] at hO
        have hxb := hbody (by omega) hu
        have hC := Lib.hid (fun W (h : Below w.heap.size w W) => (hV.out W h).drop 4 (by omega))
        rw [if_neg (show ¬ c = 4 by omega)] at hC
        rw [show Rep.sz UInt8 = 1 from rfl, Nat.mul_one, Option.map_some, add_at] at hC
        have hC2 := Lib.hid (fun W (h : Below w.heap.size w W) => cloneb_any ⟨b, off + 4, none⟩ n (c - 4) ((l.drop 4).take n) (by rw [List.length_take]; omega) W w.heap.size h.size (((hC.out W h).take n (c - 4) (by omega) (by omega) (by unfold maxLen; omega)).mono hB))
        have hbl : ((l.drop 4).take n).length = n := by rw [List.length_take, List.length_drop]; omega
        have hK := Lib.hid (fun W (h : Below w.heap.size w W) => (h.mono hB).cell (p := ⟨b, off + 1, none⟩) (by assumption))
        dsimp only
        rw [hxb]
        clear hv hbody hkk htk hxb hu hC
        generalize l[1].toNat = kk at *
        generalize (l.drop 4).take n = bd at *
        generalize l.length = m at *
        have HBL := Lib.hid hbl
        clear hbl
        go_enter Tryd.func45, Tryd.ntmps45
        go_wp2_with fail
        refine hS.out.mono ?_
        rintro e w1 ⟨rfl, hb1⟩
        have hW1 := Lib.hid (hW.out w1 hb1)
        have hb2 := HB0.out.trans (hb1.mono (by simp))
        have hO1 := Lib.hid (hO.out w1 hb2)
        go_wp2_with fail
        refine hO1.out.mono ?_
        rintro e w2 ⟨A2, c2, rfl, _, hb3⟩
        have hW2 := hW1.out.below hb3 hW1.out.lt
        have k0 : w2.cell? ⟨w.heap.size, 0, none⟩ = some (.int .i64 0) := hW2.cell 0
        have k1 : w2.cell? ⟨w.heap.size, 1, none⟩ = some (.slice none 0 0) := hW2.cell 1
        have f0 := hW2.free 0
        have f1 := hW2.free 1
        have hlt := hW2.lt
        have hb4 := hb2.trans (hb3.mono hb2.size)
        have kk1 : w2.cell? ⟨b, off + 1, none⟩ = some (.int .u8 (kk : Int)) := (hK.out w2 hb4).trans hk
        have HW2 := Lib.hid hW2
        have HB4 := Lib.hid hb4
        have HK2 := Lib.hid (fun W (h : Below w.heap.size w W) => (hK.out W h).trans hk)
        have hbn : b ≠ w.heap.size := by omega
        clear hW2 hK hk
        simp only [Option.isSome_some, Option.getD_some]
        generalize x.length = xl at *
        have p1 : (1 : Int) < (m : Int) := by omega
        have p2 : (4 : Int) ≤ 4 + (n : Int) := by omega
        have p3 : 4 + (n : Int) ≤ (c : Int) := by omega
        have p4 : (4 + (n : Int)).toNat = 4 + n := by omega
        have p5 : ¬ c = 4 := by omega
        have p6 : IntKind.i64.wrap (kk : Int) = (kk : Int) := by rw [IntKind.wrap_i64]; omega
        go_wp2_with fail
        go_region_held3 (fun w' => w'.cell? ⟨b, off + 1, none⟩ = some (.int .u8 (kk : Int))) (first | assumption | (rw [cell_far hbn, cell_far hbn]; assumption) | go_keep)
          (first | (go_at_call 33; refine (hC2.out _ HB4.out.drew).mono ?_; rintro e w3 ⟨A3, c3, rfl, ho3, hb5⟩; have hb6 := HB4.out.drew.trans (hb5.mono HB4.out.size); have hW3 := (HW2.out.below (B := w.heap.size + 1) ((Below.refl _ _).drew.trans (hb5.mono HW2.out.lt)) (Nat.lt_succ_self _)); have l0 : w3.cell? ⟨w.heap.size, 0, none⟩ = some (.int .i64 0) := hW3.cell 0; have l1 : w3.cell? ⟨w.heap.size, 1, none⟩ = some (.slice none 0 0) := hW3.cell 1; have g0 := hW3.free 0; have g1 := hW3.free 1; have hlt3 := hW3.lt; have kk3 := HK2.out w3 hb6; have HO3 := Lib.hid ho3; rw [HBL.out] at HO3 ⊢))
        go_wp2_with fail
        exact bodyPost_ret (v := .tuple #[.agg #[.int .i64 (kk : Int), .slice A3 n c3], .int .i64 ((n : Int) + 8), .int .i64 0]) (by simp [results, Tryd.results45, go_sem, l0, l1]) rfl
          (getOut_ok (by omega) HBL.out (((HO3.out.set (p := ⟨w.heap.size, 0, none⟩) HW2.out.lt _).set (p := ⟨w.heap.size, 1, none⟩) HW2.out.lt _).down HB4.out.size) ((hb6.setCell (by simp) _).setCell (by simp) _))
  · rw [if_neg her]
    have hb : (er != 0) = true := by simpa using her
    clear hgood hbad hv
    generalize l.length = m at *
    go_enter Tryd.func45, Tryd.ntmps45
    go_wp2_with fail
    refine hS.out.mono ?_
    rintro e w1 ⟨rfl, hb1⟩
    have hW1 := hW.out w1 hb1
    have k0 : w1.cell? ⟨w.heap.size, 0, none⟩ = some (.int .i64 0) := hW1.cell 0
    have k1 : w1.cell? ⟨w.heap.size, 1, none⟩ = some (.slice none 0 0) := hW1.cell 1
    have f0 := hW1.free 0
    have f1 := hW1.free 1
    have hlt := hW1.lt
    have hb2 := HB0.out.trans (hb1.mono (by simp))
    clear hW1
    go_wp2_with fail
    exact bodyPost_ret (v := .tuple #[.agg #[.int .i64 0, .slice none 0 0], .int .i64 0, _]) (by simp [results, Tryd.results45, go_sem, k0, k1]) rfl (getOut_err ((hb2.setCell (by simp) _).setCell (by simp) _))
end Go.Proofs.YtcacebkbfnnjbaaDoor

/-
  A part of one frame's bytes lacks some.
-/

namespace Go.Proofs.YtcacebkbfnnjbaaDoor
open Go.RowKit

theorem get_part {f : Frm.F} (h : Frm.ok f) (j : Nat) (h0 : 0 < j) (hj : j < (Frm.enc f).length) : Frm.get ((Frm.enc f).take j) = Frm.err 3 := by
  obtain ⟨h1, h2, h3⟩ := h
  obtain ⟨t, ht⟩ := Frm.enc_cons f
  have hl := Frm.enc_length f
  have hz : bsz ((Frm.enc f).take j) = (0, 3) ∨ (bsz ((Frm.enc f).take j) = ((f.2.length : Int), 0)) := by
    rw [ht]
    match j, h0 with
    | 1, _ => exact .inl rfl
    | 2, _ => exact .inl rfl
    | 3, _ => exact .inl rfl
    | j + 4, _ =>
      refine .inr ?_
      show (if (83 : UInt8) ≠ 83 then ((0 : Int), (2 : Int)) else if 4096 < (UInt8.ofNat (f.2.length / 256)).toNat * 256 + (UInt8.ofNat (f.2.length % 256)).toNat then (0, 7) else ((((UInt8.ofNat (f.2.length / 256)).toNat * 256 + (UInt8.ofNat (f.2.length % 256)).toNat : Nat) : Int), 0)) = _
      rw [if_neg (by simp), Frm.u8_of (by omega), Frm.u8_of (by omega), show f.2.length / 256 * 256 + f.2.length % 256 = f.2.length by omega, if_neg (by omega)]
  rw [get_size]
  rcases hz with hz | hz
  · rw [hz, if_neg (by decide)]
  · rw [hz, if_pos rfl]
    unfold Frm.getB
    rw [Int.toNat_natCast, if_neg (by omega), if_pos (by rw [List.length_take]; omega)]
end Go.Proofs.YtcacebkbfnnjbaaDoor

/-
  Vaults, as plain mathematics: records, what bytes keep, what is saved, synced, left by a crash. No program.
-/



namespace Go.Proofs.YtcacebkbfnnjbaaDoor.Vl

abbrev E := Lg.E
/-- A ballot and a log's entries. -/
abbrev S := Vt.B × List E
def zero : S := ((0, 0), [])
/-- The numbers of a Body; none, where it is not numbers alone. -/
def nums (b : List UInt8) : List Int := match Fm.unpack b with
  | .err _ => []
  | .ok f _ => if f.2 = [] then f.1 else []
def en (N : List Int) : E := (N.getD 1 0, N.getD 2 0, N.getD 3 0, N.getD 4 0, N.getD 5 0, N.getD 6 0, N.getD 7 0)
def setB (s : S) (N : List Int) : Option S := if N.length = 2 ∧ Vt.may (N.getD 0 0, N.getD 1 0) = true then some ((N.getD 0 0, N.getD 1 0), s.2) else none
def addE (s : S) (N : List Int) : Option S := if N.length = 8 ∧ N.getD 0 0 = (s.2.length : Int) + 1 ∧ Lg.may (0, 0, s.2 ++ [en N]) = true then some (s.1, s.2 ++ [en N]) else none
def cutE (s : S) (N : List Int) : Option S := if N.length = 1 ∧ N.getD 0 0 ≤ (s.2.length : Int) then some (s.1, s.2.take (N.getD 0 0).toNat) else none
/-- A state behind a record; none: it stops there. -/
def step (s : S) (k : Int) (N : List Int) : Option S := if k = 1 then setB s N else if k = 2 then addE s N else if k = 3 then cutE s N else none
def next (s : S) (b : List UInt8) : Option S := if (Frm.get b).2.2 = 0 then step s (Frm.get b).1.1 (nums (Frm.get b).1.2) else none
def readF : Nat → S → List UInt8 → S × Nat
  | 0, s, _ => (s, 0)
  | n + 1, s, b => match next s b with
    | none => (s, 0)
    | some t => ((readF n t (b.drop (Frm.get b).2.1.toNat)).1, (Frm.get b).2.1.toNat + (readF n t (b.drop (Frm.get b).2.1.toNat)).2)
/-- What bytes make of a state, and how many. -/
def reads (s : S) (b : List UInt8) : S × Nat := readF (b.length + 1) s b

theorem next_get {s t : S} {b : List UInt8} (h : next s b = some t) : (Frm.get b).2.2 = 0 ∧ step s (Frm.get b).1.1 (nums (Frm.get b).1.2) = some t := by
  unfold next at h
  split at h
  · exact ⟨by assumption, h⟩
  · cases h
theorem next_len {s t : S} {b : List UInt8} (h : next s b = some t) : 8 ≤ (Frm.get b).2.1.toNat ∧ (Frm.get b).2.1.toNat ≤ b.length ∧ ((Frm.get b).2.1.toNat : Int) = (Frm.get b).2.1 := by
  obtain ⟨_, h2, h3, _⟩ := Frm.get_fn (next_get h).1
  rw [h2, Int.toNat_natCast]
  exact ⟨by omega, h3, rfl⟩
theorem readF_more : ∀ (n m : Nat) (s : S) (b : List UInt8), b.length < n → b.length < m → readF n s b = readF m s b
  | 0, _, _, b, h, _ => absurd h (by omega)
  | _, 0, _, b, _, h => absurd h (by omega)
  | n + 1, m + 1, s, b, hn, hm => by
    unfold readF
    cases h : next s b with
    | none => rfl
    | some t =>
      have hl := next_len h
      simp only
      rw [readF_more n m t _ (by rw [List.length_drop]; omega) (by rw [List.length_drop]; omega)]
theorem reads_stop {s : S} {b : List UInt8} (h : next s b = none) : reads s b = (s, 0) := by
  unfold reads readF
  rw [h]
theorem reads_more {s t : S} {b : List UInt8} (h : next s b = some t) : reads s b = ((reads t (b.drop (Frm.get b).2.1.toNat)).1, (Frm.get b).2.1.toNat + (reads t (b.drop (Frm.get b).2.1.toNat)).2) := by
  have hl := next_len h
  have h0 : reads s b = readF (b.length + 1) s b := rfl
  rw [h0, readF, h]
  simp only
  rw [readF_more b.length _ t _ (by rw [List.length_drop]; omega) (Nat.lt_succ_self _)]
  rfl
theorem reads_nil (s : S) : reads s [] = (s, 0) := reads_stop rfl
theorem reads_le : ∀ (n : Nat) (s : S) (b : List UInt8), b.length < n → (reads s b).2 ≤ b.length
  | 0, _, b, h => absurd h (by omega)
  | n + 1, s, b, h => by
    cases hn : next s b with
    | none => rw [reads_stop hn]; exact Nat.zero_le _
    | some t =>
      have hl := next_len hn
      have := reads_le n t (b.drop (Frm.get b).2.1.toNat) (by rw [List.length_drop]; omega)
      rw [reads_more hn]
      rw [List.length_drop] at this
      simp only
      omega
theorem reads_len (s : S) (b : List UInt8) : (reads s b).2 ≤ b.length := reads_le _ s b (Nat.lt_succ_self _)

/-! What is behind a frame doesn't turn it. -/
theorem get_app {b : List UInt8} (h : (Frm.get b).2.2 = 0) (r : List UInt8) : Frm.get (b ++ r) = Frm.get b := by
  obtain ⟨h1, h2, h3, h4⟩ := Frm.get_fn h
  have e : b = Frm.enc (Frm.get b).1 ++ b.drop ((Frm.get b).1.2.length + 8) := by rw [← h4, List.take_append_drop]
  have e2 : b ++ r = Frm.enc (Frm.get b).1 ++ (b.drop ((Frm.get b).1.2.length + 8) ++ r) := by rw [← List.append_assoc, ← e]
  rw [e2, Frm.get_enc h1, ← h2, ← h]
theorem next_app {s t : S} {b : List UInt8} (h : next s b = some t) (r : List UInt8) : next s (b ++ r) = some t := by
  have hg := next_get h
  unfold next
  rw [get_app hg.1, if_pos hg.1]
  exact hg.2
/-- Where all bytes were read, reading goes on behind them. -/
theorem reads_app : ∀ (n : Nat) (s t : S) (b r : List UInt8), b.length < n → reads s b = (t, b.length) → reads s (b ++ r) = ((reads t r).1, b.length + (reads t r).2)
  | 0, _, _, b, _, h, _ => absurd h (by omega)
  | n + 1, s, t, b, r, hb, h => by
    cases hn : next s b with
    | none =>
      rw [reads_stop hn] at h
      injection h with h1 h2
      have : b = [] := List.eq_nil_of_length_eq_zero h2.symm
      subst this h1
      simp
    | some u =>
      have hl := next_len hn
      have hg := next_get hn
      rw [reads_more hn] at h
      injection h with h1 h2
      have hd : (b.drop (Frm.get b).2.1.toNat).length = b.length - (Frm.get b).2.1.toNat := List.length_drop
      have ih := reads_app n u t (b.drop (Frm.get b).2.1.toNat) r (by rw [hd]; omega) (Prod.ext h1 (by rw [hd]; omega))
      rw [reads_more (next_app hn r), get_app hg.1, List.drop_append_of_le_length hl.2.1, ih, hd]
      refine Prod.ext rfl ?_
      show _ + (_ + _) = _
      omega

/-! Records. -/
abbrev Rc := Int × List Int
def recd (k : Int) (N : List Int) : List UInt8 := Frm.enc (k, Fm.bytes N [])
def good (r : Rc) : Prop := 0 ≤ r.1 ∧ r.1 ≤ 255 ∧ r.2.length ≤ 255 ∧ ∀ n ∈ r.2, Fm.may n
theorem bytes_le {N : List Int} (h1 : N.length ≤ 255) (h3 : ∀ n ∈ N, Fm.may n) : (Fm.bytes N []).length ≤ 4096 := by
  have h := Fm.sum_le h3
  rw [Fm.bytes_length]
  simp only [List.length_nil]
  omega
theorem recd_ok {r : Rc} (h : good r) : Frm.ok (r.1, Fm.bytes r.2 []) := ⟨h.1, h.2.1, bytes_le h.2.2.1 h.2.2.2⟩
theorem recd_pos (k : Int) (N : List Int) : 8 ≤ (recd k N).length := by unfold recd; rw [Frm.enc_length]; omega
theorem recd_len (k : Int) (N : List Int) : (recd k N).length = 11 + N.length + (N.map fun n => Fm.sz n.toNat).sum := by
  unfold recd
  rw [Frm.enc_length, Fm.bytes_length]
  simp only [List.length_nil]
  omega
theorem nums_bytes {N : List Int} (h1 : N.length ≤ 255) (h3 : ∀ n ∈ N, Fm.may n) : nums (Fm.bytes N []) = N := by
  unfold nums
  rw [Fm.unpack_bytes h1 (Nat.zero_le _) h3]
  rfl
theorem get_recd {k : Int} {N : List Int} (h : good (k, N)) (r : List UInt8) : Frm.get (recd k N ++ r) = ((k, Fm.bytes N []), ((recd k N).length : Int), 0) := by
  unfold recd
  rw [Frm.get_enc (recd_ok h), Frm.enc_length]
theorem next_recd {k : Int} {N : List Int} (h : good (k, N)) (s : S) (r : List UInt8) : next s (recd k N ++ r) = step s k N := by
  unfold next
  rw [get_recd h, if_pos rfl]
  simp only
  rw [nums_bytes h.2.2.1 h.2.2.2]
theorem reads_recd {k : Int} {N : List Int} {s t : S} (h : good (k, N)) (hs : step s k N = some t) (r : List UInt8) : reads s (recd k N ++ r) = ((reads t r).1, (recd k N).length + (reads t r).2) := by
  rw [reads_more ((next_recd h s r).trans hs), get_recd h]
  simp only [Int.toNat_natCast, List.drop_left]
/-- Part of a record is none. -/
theorem reads_part {k : Int} {N : List Int} (h : good (k, N)) (s : S) {j : Nat} (hj : j < (recd k N).length) : reads s ((recd k N).take j) = (s, 0) := by
  rcases Nat.eq_zero_or_pos j with rfl | h0
  · rw [List.take_zero]; exact reads_nil s
  · refine reads_stop ?_
    unfold next recd
    rw [get_part (recd_ok h) j h0 hj, if_neg (by decide)]

def bytesOf (l : List Rc) : List UInt8 := l.flatMap fun r => recd r.1 r.2
theorem bytesOf_cons (r : Rc) (l : List Rc) : bytesOf (r :: l) = recd r.1 r.2 ++ bytesOf l := rfl
theorem bytesOf_app (l m : List Rc) : bytesOf (l ++ m) = bytesOf l ++ bytesOf m := by simp [bytesOf]
def run (s : S) : List Rc → Option S
  | [] => some s
  | r :: l => match step s r.1 r.2 with
    | none => none
    | some t => run t l
theorem run_cons {s t : S} {r : Rc} {l : List Rc} (h : step s r.1 r.2 = some t) : run s (r :: l) = run t l := by rw [run, h]
theorem run_app {s t : S} {l : List Rc} (m : List Rc) (h : run s l = some t) : run s (l ++ m) = run t m := by
  induction l generalizing s with
  | nil => injection h with h; subst h; rfl
  | cons r l ih =>
    rw [run] at h
    rw [List.cons_append, run]
    cases hs : step s r.1 r.2 with
    | none => rw [hs] at h; cases h
    | some u => rw [hs] at h; exact ih h
/-- Records of which all can be done are read, all of them. -/
theorem reads_all : ∀ (l : List Rc) (s t : S), (∀ r ∈ l, good r) → run s l = some t → reads s (bytesOf l) = (t, (bytesOf l).length)
  | [], s, t, _, h => by injection h with h; subst h; exact reads_nil s
  | r :: l, s, t, hg, h => by
    rw [run] at h
    cases hs : step s r.1 r.2 with
    | none => rw [hs] at h; cases h
    | some u =>
      rw [hs] at h
      rw [bytesOf_cons, reads_recd (hg r (by simp)) hs, reads_all l u t (fun x hx => hg x (by simp [hx])) h, List.length_append]
/-- .. and, if they are cut, the first ones of them. -/
theorem reads_cut : ∀ (l : List Rc) (s t : S) (k : Nat), (∀ r ∈ l, good r) → run s l = some t → ∃ j u, j ≤ l.length ∧ run s (l.take j) = some u ∧ reads s ((bytesOf l).take k) = (u, (bytesOf (l.take j)).length) ∧ (bytesOf (l.take j)).length ≤ k
  | [], s, t, k, _, h => ⟨0, s, Nat.le_refl _, rfl, by rw [show bytesOf [] = [] from rfl, List.take_nil]; exact reads_nil s, Nat.zero_le _⟩
  | r :: l, s, t, k, hg, h => by
    rw [run] at h
    cases hs : step s r.1 r.2 with
    | none => rw [hs] at h; cases h
    | some u =>
      rw [hs] at h
      rcases Nat.lt_or_ge k (recd r.1 r.2).length with hk | hk
      · refine ⟨0, s, Nat.zero_le _, rfl, ?_, Nat.zero_le _⟩
        rw [bytesOf_cons, List.take_append_of_le_length (by omega), reads_part (hg r (by simp)) s hk]
        rfl
      · obtain ⟨j, v, h1, h2, h3, h4⟩ := reads_cut l u t (k - (recd r.1 r.2).length) (fun x hx => hg x (by simp [hx])) h
        refine ⟨j + 1, v, by simpa using h1, ?_, ?_, ?_⟩
        · rw [List.take_succ_cons, run_cons hs]; exact h2
        · rw [bytesOf_cons, List.take_append, List.take_of_length_le hk, reads_recd (hg r (by simp)) hs, h3, List.take_succ_cons, bytesOf_cons, List.length_append]
        · rw [List.take_succ_cons, bytesOf_cons, List.length_append]; omega

/-! What a state may be. -/
def Good (s : S) : Prop := Vt.may s.1 = true ∧ Lg.may (0, 0, s.2) = true
theorem good_zero : Good zero := ⟨rfl, rfl⟩
theorem Good.len {s : S} (h : Good s) : s.2.length ≤ 64 := ((Lg.may_iff _).1 h.2).2.2.2.2.2.1
theorem rise_take : ∀ (l : List E) (m : Int) (k : Nat), Lg.rise m l = true → Lg.rise m (l.take k) = true
  | [], _, k, _ => by rw [List.take_nil]; rfl
  | e :: l, m, 0, _ => rfl
  | e :: l, m, k + 1, h => by
    rw [Lg.rise_cons] at h
    rw [List.take_succ_cons, Lg.rise_cons]
    exact ⟨h.1, h.2.1, h.2.2.1, rise_take l e.1 k h.2.2.2⟩
theorem may_take {l : List E} (k : Nat) (h : Lg.may (0, 0, l) = true) : Lg.may (0, 0, l.take k) = true := by
  rw [Lg.may_iff] at h ⊢
  obtain ⟨h1, h2, h3, h4, h5, h6, h7⟩ := h
  exact ⟨h1, h2, h3, h4, h5, Nat.le_trans (List.length_take_le' ..) h6, rise_take l 0 k h7⟩
theorem step_good {s t : S} {k : Int} {N : List Int} (h : Good s) (hs : step s k N = some t) : Good t := by
  unfold step at hs
  split at hs
  · unfold setB at hs
    split at hs
    · rename_i hh
      injection hs with hs
      subst hs
      exact ⟨hh.2, h.2⟩
    · cases hs
  · split at hs
    · unfold addE at hs
      split at hs
      · rename_i hh
        injection hs with hs
        subst hs
        exact ⟨h.1, hh.2.2⟩
      · cases hs
    · split at hs
      · unfold cutE at hs
        split at hs
        · injection hs with hs
          subst hs
          exact ⟨h.1, may_take _ h.2⟩
        · cases hs
      · cases hs
theorem next_good {s t : S} {b : List UInt8} (h : Good s) (hs : next s b = some t) : Good t := step_good h (next_get hs).2
theorem reads_good : ∀ (n : Nat) (s : S) (b : List UInt8), b.length < n → Good s → Good (reads s b).1
  | 0, _, b, h, _ => absurd h (by omega)
  | n + 1, s, b, h, hg => by
    cases hn : next s b with
    | none => rw [reads_stop hn]; exact hg
    | some t =>
      have hl := next_len hn
      rw [reads_more hn]
      exact reads_good n t _ (by rw [List.length_drop]; omega) (next_good hg hn)
def read (b : List UInt8) : S × Nat := reads zero b
theorem read_good (b : List UInt8) : Good (read b).1 := reads_good _ _ b (Nat.lt_succ_self _) good_zero
theorem read_len (b : List UInt8) : (read b).2 ≤ b.length := reads_len _ b
/-- The bytes that were read are read alone to the same. -/
theorem reads_take : ∀ (n : Nat) (s : S) (b : List UInt8), b.length < n → reads s (b.take (reads s b).2) = ((reads s b).1, (reads s b).2)
  | 0, _, b, h => absurd h (by omega)
  | n + 1, s, b, h => by
    cases hn : next s b with
    | none => rw [reads_stop hn]; exact reads_nil s
    | some t =>
      have hl := next_len hn
      have hg := next_get hn
      have hf := Frm.get_fn hg.1
      have hs : (Frm.get b).2.1.toNat = (Frm.get b).1.2.length + 8 := by rw [hf.2.1, Int.toNat_natCast]
      have ih := reads_take n t (b.drop (Frm.get b).2.1.toNat) (by rw [List.length_drop]; omega)
      have hle := reads_len t (b.drop (Frm.get b).2.1.toNat)
      rw [List.length_drop] at hle
      rw [reads_more hn]
      simp only
      have hr : (b.take ((Frm.get b).2.1.toNat + (reads t (b.drop (Frm.get b).2.1.toNat)).2)) = b.take (Frm.get b).2.1.toNat ++ (b.drop (Frm.get b).2.1.toNat).take (reads t (b.drop (Frm.get b).2.1.toNat)).2 := List.take_add
      have e1 : b.take (Frm.get b).2.1.toNat = Frm.enc (Frm.get b).1 := by rw [hs]; exact hf.2.2.2
      have e2 : Frm.get (Frm.enc (Frm.get b).1 ++ (b.drop (Frm.get b).2.1.toNat).take (reads t (b.drop (Frm.get b).2.1.toNat)).2) = Frm.get b := by rw [Frm.get_enc hf.1, ← hf.2.1, ← hg.1]
      have hn2 : next s (b.take ((Frm.get b).2.1.toNat + (reads t (b.drop (Frm.get b).2.1.toNat)).2)) = some t := by
        unfold next
        rw [hr, e1, e2, if_pos hg.1]
        exact hg.2
      rw [reads_more hn2, hr, e1, e2]
      have e3 : (Frm.enc (Frm.get b).1 ++ (b.drop (Frm.get b).2.1.toNat).take (reads t (b.drop (Frm.get b).2.1.toNat)).2).drop (Frm.get b).2.1.toNat = (b.drop (Frm.get b).2.1.toNat).take (reads t (b.drop (Frm.get b).2.1.toNat)).2 := by
        have : (Frm.enc (Frm.get b).1).length = (Frm.get b).2.1.toNat := by rw [Frm.enc_length, hs]
        rw [← this, List.drop_left]
      rw [e3, ih]

/-! What is saved. -/
def agreed : List E → List E → Nat
  | a :: l, b :: m => if a = b then agreed l m + 1 else 0
  | _, _ => 0
theorem agreed_le : ∀ (l m : List E), agreed l m ≤ l.length ∧ agreed l m ≤ m.length
  | [], _ => by simp [agreed]
  | _ :: _, [] => by simp [agreed]
  | a :: l, b :: m => by
    have := agreed_le l m
    unfold agreed
    split <;> simp only [List.length_cons] <;> omega
theorem agreed_take : ∀ (l m : List E), l.take (agreed l m) = m.take (agreed l m)
  | [], _ => by simp [agreed]
  | _ :: _, [] => by simp [agreed]
  | a :: l, b :: m => by
    unfold agreed
    split
    · rename_i h
      rw [List.take_succ_cons, List.take_succ_cons, agreed_take l m, h]
    · rfl
theorem agreed_self : ∀ (l : List E), agreed l l = l.length
  | [] => rfl
  | a :: l => by unfold agreed; rw [if_pos rfl, agreed_self l]; rfl
/-- The first k are the same. -/
def agTo (l m : List E) (k : Nat) : Prop := k ≤ l.length ∧ k ≤ m.length ∧ agreed l m = k + agreed (l.drop k) (m.drop k)
theorem agTo_zero (l m : List E) : agTo l m 0 := ⟨Nat.zero_le _, Nat.zero_le _, by simp⟩
theorem agTo_step {l m : List E} {k : Nat} (h : agTo l m k) (h1 : k < l.length) (h2 : k < m.length) (h3 : l[k] = m[k]) : agTo l m (k + 1) := by
  obtain ⟨_, _, h⟩ := h
  refine ⟨h1, h2, ?_⟩
  rw [h, List.drop_eq_getElem_cons h1, List.drop_eq_getElem_cons h2, agreed, if_pos h3]
  omega
theorem agTo_stop {l m : List E} {k : Nat} (h : agTo l m k) (h3 : l.length ≤ k ∨ m.length ≤ k ∨ ∃ (h1 : k < l.length) (h2 : k < m.length), l[k] ≠ m[k]) : agreed l m = k := by
  obtain ⟨_, _, h⟩ := h
  rcases h3 with h3 | h3 | ⟨h1, h2, h3⟩
  · rw [h, List.drop_eq_nil_of_le h3]; simp [agreed]
  · rw [h, List.drop_eq_nil_of_le h3]
    rcases l.drop k with _ | ⟨_, _⟩ <;> simp [agreed]
  · rw [h, List.drop_eq_getElem_cons h1, List.drop_eq_getElem_cons h2, agreed, if_neg h3]; omega
def cmdOk (e : E) : Bool := decide (Fm.may e.2.1) && decide (Fm.may e.2.2.1) && decide (Fm.may e.2.2.2.1) && decide (Fm.may e.2.2.2.2.1) && decide (Fm.may e.2.2.2.2.2.1) && decide (Fm.may e.2.2.2.2.2.2)
theorem cmdOk_iff (e : E) : cmdOk e = true ↔ Fm.may e.2.1 ∧ Fm.may e.2.2.1 ∧ Fm.may e.2.2.2.1 ∧ Fm.may e.2.2.2.2.1 ∧ Fm.may e.2.2.2.2.2.1 ∧ Fm.may e.2.2.2.2.2.2 := by
  unfold cmdOk; simp only [Bool.and_eq_true, decide_eq_true_eq, and_assoc]
def mayS (b : Vt.B) (l : Lg.L) : Bool := Vt.may b && Lg.may l && decide (l.1 = 0) && l.2.2.all cmdOk
theorem mayS_iff (b : Vt.B) (l : Lg.L) : mayS b l = true ↔ Vt.may b = true ∧ Lg.may l = true ∧ l.1 = 0 ∧ ∀ e ∈ l.2.2, cmdOk e = true := by
  unfold mayS; simp only [Bool.and_eq_true, decide_eq_true_eq, List.all_eq_true, and_assoc]
/-- An entry's numbers. -/
def en8 (i : Int) (e : E) : List Int := [i, e.1, e.2.1, e.2.2.1, e.2.2.2.1, e.2.2.2.2.1, e.2.2.2.2.2.1, e.2.2.2.2.2.2]
theorem en_en8 (i : Int) (e : E) : en (en8 i e) = e := rfl
/-- The records of entries, the first of them at index i + 1. -/
def ents (i : Nat) : List E → List Rc
  | [] => []
  | e :: l => (2, en8 ((i : Int) + 1) e) :: ents (i + 1) l
def balR (s : S) (b : Vt.B) : List Rc := if b = s.1 then [] else [(1, [b.1, b.2])]
def cutR (s : S) (l : List E) : List Rc := if agreed s.2 l < s.2.length then [(3, [(agreed s.2 l : Int)])] else []
def steps (s : S) (b : Vt.B) (l : List E) : List Rc := balR s b ++ (cutR s l ++ ents (agreed s.2 l) (l.drop (agreed s.2 l)))
theorem may_small {n : Int} (h : 0 ≤ n) (h2 : n ≤ 1073741824) : Fm.may n := by unfold Fm.may; omega
theorem rise_in : ∀ (l : List E) (m : Int), Lg.rise m l = true → ∀ e ∈ l, 1 ≤ e.1 ∧ e.1 ≤ 1073741824
  | [], _, _, e, he => by simp at he
  | a :: l, m, h, e, he => by
    rw [Lg.rise_cons] at h
    rcases List.mem_cons.1 he with rfl | he
    · exact ⟨h.1, h.2.1⟩
    · exact rise_in l a.1 h.2.2.2 e he
theorem ents_good : ∀ (l : List E) (i : Nat), i + l.length ≤ 100 → (∀ e ∈ l, 1 ≤ e.1 ∧ e.1 ≤ 1073741824) → (∀ e ∈ l, cmdOk e = true) → ∀ r ∈ ents i l, good r
  | [], _, _, _, _, r, hr => by simp [ents] at hr
  | e :: l, i, hi, ht, hc, r, hr => by
    rw [List.length_cons] at hi
    rcases List.mem_cons.1 hr with rfl | hr
    · have h1 := ht e (by simp)
      obtain ⟨c1, c2, c3, c4, c5, c6⟩ := (cmdOk_iff e).1 (hc e (by simp))
      refine ⟨by show (0 : Int) ≤ 2; decide, by show (2 : Int) ≤ 255; decide, by show (8 : Nat) ≤ 255; decide, fun n hn => ?_⟩
      simp only [en8, List.mem_cons, List.not_mem_nil, or_false] at hn
      rcases hn with rfl | rfl | rfl | rfl | rfl | rfl | rfl | rfl
      · exact may_small (by omega) (by omega)
      · exact may_small (by omega) h1.2
      all_goals assumption
    · exact ents_good l (i + 1) (by omega) (fun e he => ht e (by simp [he])) (fun e he => hc e (by simp [he])) r hr
/-- Behind so many records of entries. -/
theorem ents_run (b : Vt.B) (l : List E) (hm : Lg.may (0, 0, l) = true) : ∀ (k i : Nat), i + k ≤ l.length → run (b, l.take i) ((ents i (l.drop i)).take k) = some (b, l.take (i + k))
  | 0, i, _ => rfl
  | k + 1, i, h => by
    have hi : i < l.length := by omega
    have e1 : l.take i ++ [en (en8 ((i : Int) + 1) l[i])] = l.take (i + 1) := by rw [en_en8, List.take_succ_eq_append_getElem hi]
    have hs : step (b, l.take i) 2 (en8 ((i : Int) + 1) l[i]) = some (b, l.take (i + 1)) := by
      unfold step
      rw [if_neg (by decide), if_pos rfl]
      unfold addE
      have hc : (en8 ((i : Int) + 1) l[i]).length = 8 ∧ (en8 ((i : Int) + 1) l[i]).getD 0 0 = ((l.take i).length : Int) + 1 ∧ Lg.may (0, 0, l.take i ++ [en (en8 ((i : Int) + 1) l[i])]) = true := by
        refine ⟨rfl, ?_, ?_⟩
        · show (i : Int) + 1 = ((l.take i).length : Int) + 1
          rw [List.length_take, Nat.min_eq_left (by omega)]
        · rw [e1]
          exact may_take _ hm
      rw [if_pos hc]
      simp only [e1]
    rw [List.drop_eq_getElem_cons hi, ents, List.take_succ_cons, run_cons hs, ents_run b l hm k (i + 1) (by omega)]
    rw [show i + 1 + k = i + (k + 1) by omega]
theorem ents_len : ∀ (l : List E) (i : Nat), (ents i l).length = l.length
  | [], _ => rfl
  | e :: l, i => by rw [ents, List.length_cons, List.length_cons, ents_len l (i + 1)]
theorem ents_whole {b : Vt.B} {l : List E} (hm : Lg.may (0, 0, l) = true) {i : Nat} (hi : i ≤ l.length) : run (b, l.take i) (ents i (l.drop i)) = some (b, l) := by
  have h := ents_run b l hm (l.length - i) i (by omega)
  have et : (ents i (l.drop i)).take (l.length - i) = ents i (l.drop i) := List.take_of_length_le (by rw [ents_len, List.length_drop]; exact Nat.le_refl _)
  have el : l.take (i + (l.length - i)) = l := List.take_of_length_le (by omega)
  rwa [et, el] at h
theorem may0 {l : Lg.L} (h : Lg.may l = true) (h0 : l.1 = 0) : l.2.1 = 0 ∧ Lg.may (0, 0, l.2.2) = true := by
  obtain ⟨b, t, m⟩ := l
  simp only at h0
  subst h0
  have h2 := (Lg.may_iff _).1 h
  simp only at h2
  obtain rfl : t = 0 := by omega
  exact ⟨rfl, h⟩
theorem steps_good {s : S} {b : Vt.B} {l : List E} (hb : Vt.may b = true) (hm : Lg.may (0, 0, l) = true) (hc : ∀ e ∈ l, cmdOk e = true) : ∀ r ∈ steps s b l, good r := by
  intro r hr
  have hl := (Lg.may_iff _).1 hm
  simp only at hl
  have ha := agreed_le s.2 l
  unfold steps at hr
  rcases List.mem_append.1 hr with hr | hr
  · unfold balR at hr
    split at hr
    · simp at hr
    · obtain rfl := List.mem_singleton.1 hr
      rw [Vt.may_iff] at hb
      refine ⟨by simp, by simp, by simp, fun n hn => ?_⟩
      simp only [List.mem_cons, List.not_mem_nil, or_false] at hn
      rcases hn with rfl | rfl
      · exact may_small hb.1 hb.2.1
      · exact may_small hb.2.2.1 (by omega)
  · rcases List.mem_append.1 hr with hr | hr
    · unfold cutR at hr
      split at hr
      · obtain rfl := List.mem_singleton.1 hr
        refine ⟨by simp, by simp, by simp, fun n hn => ?_⟩
        simp only [List.mem_cons, List.not_mem_nil, or_false] at hn
        subst hn
        exact may_small (by omega) (by omega)
      · simp at hr
    · exact ents_good _ _ (by rw [List.length_drop]; omega) (fun e he => rise_in l 0 hl.2.2.2.2.2.2 e (List.mem_of_mem_drop he)) (fun e he => hc e (List.mem_of_mem_drop he)) r hr
/-- What so many of the records of a save leave: the state, or the new ballot with the old log, or with its own first entries. -/
def Mid (s : S) (b : Vt.B) (l : List E) (u : S) : Prop := u = s ∨ u = (b, s.2) ∨ ∃ i, agreed s.2 l ≤ i ∧ i ≤ l.length ∧ u = (b, l.take i)
theorem bal_run {s : S} {b : Vt.B} (hb : Vt.may b = true) : run s (balR s b) = some (b, s.2) := by
  unfold balR
  split
  · rename_i h
    rw [h]
    rfl
  · have hs : step s 1 [b.1, b.2] = some (b, s.2) := by
      unfold step setB
      rw [if_pos rfl, if_pos ⟨rfl, hb⟩]
      rfl
    rw [run_cons hs]
    rfl
theorem cut_run (s : S) (b : Vt.B) (l : List E) : run (b, s.2) (cutR s l) = some (b, l.take (agreed s.2 l)) := by
  have ha := agreed_le s.2 l
  unfold cutR
  split
  · rename_i h
    have hs : step (b, s.2) 3 [(agreed s.2 l : Int)] = some (b, l.take (agreed s.2 l)) := by
      unfold step cutE
      rw [if_neg (by decide), if_neg (by decide), if_pos rfl, if_pos ⟨rfl, by simp; omega⟩]
      simp [agreed_take s.2 l]
    rw [run_cons hs]
    rfl
  · rw [← agreed_take s.2 l, List.take_of_length_le (by omega)]
    rfl
theorem bal_len (s : S) (b : Vt.B) : (balR s b).length ≤ 1 := by unfold balR; split <;> simp
theorem cut_len (s : S) (l : List E) : (cutR s l).length ≤ 1 := by unfold cutR; split <;> simp
theorem take_one {α : Type} {l : List α} (h : l.length ≤ 1) (k : Nat) : l.take k = [] ∨ l.take k = l := by
  rcases k with _ | k
  · exact .inl rfl
  · exact .inr (List.take_of_length_le (by omega))
theorem steps_run {s : S} {b : Vt.B} {l : List E} (hb : Vt.may b = true) (hm : Lg.may (0, 0, l) = true) : run s (steps s b l) = some (b, l) := by
  have ha := agreed_le s.2 l
  unfold steps
  rw [run_app _ (bal_run hb), run_app _ (cut_run s b l)]
  rw [ents_whole hm ha.2]
theorem steps_mid {s : S} {b : Vt.B} {l : List E} (hb : Vt.may b = true) (hm : Lg.may (0, 0, l) = true) (k : Nat) {u : S} (h : run s ((steps s b l).take k) = some u) : Mid s b l u := by
  have ha := agreed_le s.2 l
  unfold steps at h
  rw [List.take_append] at h
  rcases Nat.lt_or_ge k (balR s b).length with hk | hk
  · obtain rfl : k = 0 := by have := bal_len s b; omega
    rw [Nat.zero_sub, List.take_zero, List.take_zero] at h
    injection h with h
    exact .inl h.symm
  · rw [List.take_of_length_le hk, run_app _ (bal_run hb), List.take_append] at h
    rcases Nat.lt_or_ge (k - (balR s b).length) (cutR s l).length with hk2 | hk2
    · have h0 : k - (balR s b).length = 0 := by have := cut_len s l; omega
      rw [h0, Nat.zero_sub, List.take_zero, List.take_zero] at h
      injection h with h
      exact .inr (.inl h.symm)
    · rw [List.take_of_length_le hk2, run_app _ (cut_run s b l)] at h
      generalize k - (balR s b).length - (cutR s l).length = j at h
      rcases Nat.lt_or_ge (l.length - agreed s.2 l) j with hj | hj
      · have et : (ents (agreed s.2 l) (l.drop (agreed s.2 l))).take j = ents (agreed s.2 l) (l.drop (agreed s.2 l)) := List.take_of_length_le (by rw [ents_len, List.length_drop]; omega)
        rw [et, ents_whole hm ha.2] at h
        injection h with h
        exact .inr (.inr ⟨l.length, ha.2, Nat.le_refl _, by rw [List.take_length]; exact h.symm⟩)
      · rw [ents_run b l hm j (agreed s.2 l) (by omega)] at h
        injection h with h
        exact .inr (.inr ⟨_, by omega, by omega, h.symm⟩)

/-! A vault. -/
structure V where
  disk : List UInt8
  synced : Nat
  s : S
def new : V := ⟨[], 0, zero⟩
structure Ok (v : V) : Prop where
  syn : v.synced ≤ v.disk.length
  len : v.disk.length ≤ 65536
  all : read v.disk = (v.s, v.disk.length)
  good : Good v.s
theorem ok_new : Ok new := ⟨Nat.le_refl _, by simp [new], reads_nil zero, good_zero⟩
def more (v : V) (b : Vt.B) (l : List E) : List UInt8 := bytesOf (steps v.s b l)
def save (v : V) (b : Vt.B) (l : Lg.L) : V × Int :=
  if mayS b l = false then (v, 1) else if 65536 < v.disk.length + (more v b l.2.2).length then (v, 7) else (⟨v.disk ++ more v b l.2.2, v.synced, (b, l.2.2)⟩, 0)
def sync (v : V) : V := ⟨v.disk, v.disk.length, v.s⟩
def kept (v : V) (keep : Int) : Nat := v.synced + if 0 < keep then keep.toNat % (v.disk.length - v.synced + 1) else 0
def crash (v : V) (keep : Int) : V := ⟨v.disk.take (read (v.disk.take (kept v keep))).2, (read (v.disk.take (kept v keep))).2, (read (v.disk.take (kept v keep))).1⟩
theorem kept_le {v : V} (h : Ok v) (keep : Int) : v.synced ≤ kept v keep ∧ kept v keep ≤ v.disk.length := by
  have := h.syn
  unfold kept
  split
  · have := Nat.mod_lt keep.toNat (show 0 < v.disk.length - v.synced + 1 by omega)
    omega
  · omega
theorem save_ok {v : V} (h : Ok v) (b : Vt.B) (l : Lg.L) : Ok (save v b l).1 := by
  unfold save
  split
  · exact h
  · rename_i hm
    split
    · exact h
    · rename_i hl
      rw [Bool.not_eq_false, mayS_iff] at hm
      obtain ⟨h1, h2, h3, h4⟩ := hm
      have h5 := (may0 h2 h3).2
      have hg := steps_good (s := v.s) h1 h5 h4
      have hr := reads_all _ v.s (b, l.2.2) hg (steps_run h1 h5)
      refine ⟨?_, ?_, ?_, ⟨h1, h5⟩⟩
      · have := h.syn
        show v.synced ≤ (v.disk ++ more v b l.2.2).length
        rw [List.length_append]; omega
      · show (v.disk ++ more v b l.2.2).length ≤ _
        rw [List.length_append]; omega
      · show reads zero (v.disk ++ more v b l.2.2) = ((b, l.2.2), (v.disk ++ more v b l.2.2).length)
        rw [reads_app _ zero v.s v.disk _ (Nat.lt_succ_self _) h.all]
        unfold more
        rw [hr, List.length_append]
theorem sync_ok {v : V} (h : Ok v) : Ok (sync v) := ⟨Nat.le_refl _, h.len, h.all, h.good⟩
theorem crash_ok {v : V} (h : Ok v) (keep : Int) : Ok (crash v keep) := by
  have hk := kept_le h keep
  have hl := read_len (v.disk.take (kept v keep))
  rw [List.length_take] at hl
  have hlen : (v.disk.take (read (v.disk.take (kept v keep))).2).length = (read (v.disk.take (kept v keep))).2 := by rw [List.length_take]; omega
  have ht : v.disk.take (read (v.disk.take (kept v keep))).2 = (v.disk.take (kept v keep)).take (read (v.disk.take (kept v keep))).2 := by rw [List.take_take, Nat.min_eq_left (by omega)]
  refine ⟨?_, ?_, ?_, read_good _⟩
  · show (read (v.disk.take (kept v keep))).2 ≤ (v.disk.take (read (v.disk.take (kept v keep))).2).length
    rw [hlen]; exact Nat.le_refl _
  · show (v.disk.take (read (v.disk.take (kept v keep))).2).length ≤ _
    have := h.len
    rw [hlen]; omega
  · show read (v.disk.take (read (v.disk.take (kept v keep))).2) = (_, (v.disk.take (read (v.disk.take (kept v keep))).2).length)
    rw [hlen, ht]
    exact reads_take _ zero _ (Nat.lt_succ_self _)
/-- What is synced stays. -/
theorem crash_synced {v : V} (h : Ok v) (hs : v.synced = v.disk.length) (keep : Int) : crash v keep = v := by
  have hk := kept_le h keep
  have e : kept v keep = v.disk.length := by omega
  unfold crash
  rw [e, List.take_length, h.all]
  obtain ⟨d, n, s⟩ := v
  simp only at hs
  subst hs
  simp
theorem save_same {v : V} (h : Ok v) {l : Lg.L} (hm : mayS v.s.1 l = true) (hl : v.s.2 = l.2.2) : save v v.s.1 l = (v, 0) := by
  have e : more v v.s.1 l.2.2 = [] := by
    unfold more steps balR cutR
    rw [if_pos rfl, hl, agreed_self, if_neg (by omega), List.drop_length]
    rfl
  have := h.len
  unfold save
  rw [hm, if_neg (by simp), e, if_neg (by simp; omega), List.append_nil]
  obtain ⟨d, n, b, m⟩ := v
  simp only at hl
  rw [← hl]
theorem save_zero {v : V} {b : Vt.B} {l : Lg.L} (h : (save v b l).2 = 0) : mayS b l = true ∧ v.disk.length + (more v b l.2.2).length ≤ 65536 ∧ (save v b l).1 = ⟨v.disk ++ more v b l.2.2, v.synced, (b, l.2.2)⟩ := by
  unfold save at h ⊢
  split at h
  · exact absurd h (by simp)
  · rename_i hm
    split at h
    · exact absurd h (by simp)
    · rename_i hl
      rw [if_neg hm, if_neg hl]
      exact ⟨by simpa using hm, by omega, rfl⟩
theorem save_err {v : V} {b : Vt.B} {l : Lg.L} (h : (save v b l).2 ≠ 0) : (save v b l).1 = v := by
  unfold save at h ⊢
  split
  · rfl
  · split
    · rfl
    · rename_i h1 h2
      rw [if_neg h1, if_neg h2] at h
      exact absurd rfl h
/-- A crash of what was saved behind a sync. -/
theorem crash_mid {v : V} (h : Ok v) (hs : v.synced = v.disk.length) {b : Vt.B} {l : Lg.L} (h0 : (save v b l).2 = 0) (keep : Int) : Mid v.s b l.2.2 (crash (save v b l).1 keep).s := by
  obtain ⟨hm, hl, he⟩ := save_zero h0
  have ho := save_ok h b l
  have hk := kept_le ho keep
  rw [mayS_iff] at hm
  obtain ⟨h1, h2, h3, h4⟩ := hm
  have h5 := (may0 h2 h3).2
  have hg := steps_good (s := v.s) h1 h5 h4
  show Mid v.s b l.2.2 (read ((save v b l).1.disk.take (kept (save v b l).1 keep))).1
  generalize kept (save v b l).1 keep = k at *
  rw [he] at hk ⊢
  simp only at hk ⊢
  obtain ⟨j, rfl⟩ : ∃ j, k = v.disk.length + j := ⟨k - v.disk.length, by omega⟩
  rw [List.take_append, List.take_of_length_le (by omega), show v.disk.length + j - v.disk.length = j by omega]
  unfold read
  rw [reads_app _ zero v.s v.disk _ (Nat.lt_succ_self _) h.all]
  obtain ⟨i, u, _, hu, hr, _⟩ := reads_cut _ v.s _ j hg (steps_run h1 h5)
  unfold more
  rw [hr]
  exact steps_mid h1 h5 i hu
/-- Part of what a new one holds. -/
theorem read_part {b : Vt.B} {l : Lg.L} (h0 : (save new b l).2 = 0) (k : Nat) : (read ((save new b l).1.disk.take k)).1.2 = l.2.2.take (read ((save new b l).1.disk.take k)).1.2.length ∧ (read ((save new b l).1.disk.take k)).1.2.length ≤ l.2.2.length ∧ (read ((save new b l).1.disk.take k)).2 ≤ k := by
  obtain ⟨hm, hl, he⟩ := save_zero h0
  rw [mayS_iff] at hm
  obtain ⟨h1, h2, h3, h4⟩ := hm
  have h5 := (may0 h2 h3).2
  have hg := steps_good (s := zero) h1 h5 h4
  rw [he]
  simp only [new, List.nil_append]
  obtain ⟨i, u, _, hu, hr, hk⟩ := reads_cut _ zero _ k hg (steps_run h1 h5)
  have hmid := steps_mid h1 h5 i hu
  unfold read more
  simp only
  rw [hr]
  have hz : ∀ n, (l.2.2.take n).length ≤ l.2.2.length ∧ l.2.2.take n = l.2.2.take (l.2.2.take n).length := by
    intro n
    rw [List.length_take]
    refine ⟨by omega, ?_⟩
    rcases Nat.le_total n l.2.2.length with h | h
    · rw [Nat.min_eq_left h]
    · rw [Nat.min_eq_right h, List.take_length, List.take_of_length_le h]
  rcases hmid with rfl | rfl | ⟨n, _, _, rfl⟩
  · exact ⟨by simp [zero], Nat.zero_le _, hk⟩
  · exact ⟨by simp [zero], Nat.zero_le _, hk⟩
  · exact ⟨(hz n).2, (hz n).1, hk⟩
end Go.Proofs.YtcacebkbfnnjbaaDoor.Vl

/-
  What the reference's Get answers; what both have in common.
-/

namespace Go.Proofs.YtcacebkbfnnjbaaDoor
open Go.RowKit

/-- What Get answers: a frame that reads as g's, a number, an error. -/
def GetRes (w : World) (g : Frm.G) (e : Ending) (w' : World) : Prop :=
  ∃ A c, e = .returned (.tuple #[.agg #[.int .i64 g.1.1, .slice A g.1.2.length c], .int .i64 g.2.1, .int .i64 g.2.2]) ∧ SlS w' (w.heap.size ≤ ·) (.slice A g.1.2.length c) g.1.2 ∧ Below w.heap.size w w'
theorem getOut_res {w : World} {g : Frm.G} {e : Ending} {w' : World} (h : GetOut w g e w') : GetRes w g e w' := by
  obtain ⟨A, c, he, ho, hb⟩ := h
  exact ⟨A, c, he, ho.slS, hb⟩
theorem getRes_err {w w' : World} {er : Int} (h : Below w.heap.size w w') : GetRes w (Frm.err er) (.returned (.tuple #[.agg #[.int .i64 0, .slice none 0 0], .int .i64 0, .int .i64 er])) w' :=
  ⟨none, 0, rfl, SlS.nil _ _, h⟩
theorem getRes_ok {w w' : World} {l : List UInt8} {k m n c : Nat} {X : Int} {A : Option Addr} (hX : (m : Int) = X) (hl : l.length = n) (h : SlS w' (w.heap.size ≤ ·) (.slice A n c) l) (hb : Below w.heap.size w w') : GetRes w (((k : Int), l), (m : Int), 0) (.returned (.tuple #[.agg #[.int .i64 (k : Int), .slice A n c], .int .i64 X, .int .i64 0])) w' := by
  subst hl
  subst hX
  exact ⟨A, c, rfl, h, hb⟩

theorem cell_far2d {w : World} {p p' q : Addr} (h : q.block ≠ p.block) (h' : q.block ≠ p'.block) (u u' : Value) : ((w.setCell p u).setCell p' u').drew.cell? q = w.cell? q := (cell_far (w := w.setCell p u) h' u').trans (cell_far h u)

set_option maxRecDepth 100000 in
set_option maxHeartbeats 1600000 in
theorem refGet_any (v : Value) (l : List UInt8) (hl : l.length ≤ 1000000) (w : World) (B : Nat) (hB : B ≤ w.heap.size) (hv : Sl w B v l) :
    Calls Tryd.prog 34 #[v] w (GetRes w (Frm.get l)) := by
  obtain ⟨A, c, rfl, hc, hm⟩ := hv.form
  unfold maxLen at hm
  have hb0 : Below w.heap.size w ((w.alloc (.cells #[.int .i64 0, .slice none 0 0] 75)).alloc (.cells #[.int .i64 0, .slice none 0 0] 75)) := ((Below.refl _ _).alloc (Nat.le_refl _) _).alloc (by simp) _
  have hV := Lib.hid (fun W (h : Below w.heap.size w W) => hv.below (h.mono hB))
  have HB0 := Lib.hid hb0
  have HWR := Lib.hid ((Whole.new w 75 #[.int .i64 0, .slice none 0 0]).alloc (.cells #[.int .i64 0, .slice none 0 0] 75))
  have hwn := Whole.new (w.alloc (.cells #[.int .i64 0, .slice none 0 0] 75)) 75 #[.int .i64 0, .slice none 0 0]
  rw [World.size_alloc] at hwn
  have HWN := Lib.hid hwn
  clear hb0 hwn
  match l, hl, hv, hc, hV with
  | [], hl, hv, hc, hV =>
    clear hv hV
    go_enter Tryd.func34, Tryd.ntmps34
    go_wp2_with fail
    exact bodyPost_ret (v := .tuple #[.agg #[.int .i64 0, .slice none 0 0], .int .i64 0, _]) (by simp [results, Tryd.results34, go_sem]) rfl (getRes_err HB0.out)
  | x :: r, hl, hv, hc, hV =>
    have hv0 := hV.out _ HB0.out
    obtain ⟨b, off, rfl, hbB, c0⟩ := hv0.byte 0 (by simp)
    simp only [List.getElem_cons_zero, Nat.add_zero] at c0
    have hl1 : 0 < (x :: r).length := by simp
    have hne : ((((x :: r).length : Nat) : Int) == 0) = false := by simp; omega
    by_cases hx : x ≠ 83
    · have e : Frm.get (x :: r) = Frm.err 2 := by rw [get_size, bsz_mark hx, if_neg (by decide)]
      rw [e]
      have hb : ((x.toNat : Int) != 83) = true := by
        rw [bne_iff_ne]; exact fun h => hx (mark_int.2 h)
      clear hv hv0 hV e
      generalize (x :: r).length = n at *
      generalize x.toNat = xn at *
      go_enter Tryd.func34, Tryd.ntmps34
      go_wp2_with fail
      exact bodyPost_ret (v := .tuple #[.agg #[.int .i64 0, .slice none 0 0], .int .i64 0, _]) (by simp [results, Tryd.results34, go_sem]) rfl (getRes_err HB0.out)
    · have hb : ((x.toNat : Int) != 83) = false := by
        have := mark_int.1 (Decidable.not_not.1 hx)
        rw [this]; rfl
      by_cases h4 : (x :: r).length < 4
      · have e : Frm.get (x :: r) = Frm.err 3 := by rw [get_size, bsz_short hx h4, if_neg (by decide)]
        rw [e]
        clear hv hv0 hV e
        generalize (x :: r).length = n at *
        generalize x.toNat = xn at *
        go_enter Tryd.func34, Tryd.ntmps34
        go_wp2_with fail
        exact bodyPost_ret (v := .tuple #[.agg #[.int .i64 0, .slice none 0 0], .int .i64 0, _]) (by simp [results, Tryd.results34, go_sem]) rfl (getRes_err HB0.out)
      · match r, hl, hv, hc, hV, hv0, hl1, hne, h4 with
        | [], _, _, _, _, _, _, _, h4 => exact absurd h4 (by simp)
        | [_], _, _, _, _, _, _, _, h4 => exact absurd h4 (by simp)
        | [_, _], _, _, _, _, _, _, _, h4 => exact absurd h4 (by simp)
        | k :: h :: y :: r, hl, hv, hc, hV, hv0, hl1, hne, h4 =>
          have e : Frm.get (x :: k :: h :: y :: r) = Frm.getB k (h.toNat * 256 + y.toNat) (x :: k :: h :: y :: r) := if_neg hx
          rw [e]
          clear e
          unfold Frm.getB
          obtain ⟨b', off', e, _, c1⟩ := hv0.byte 1 (by simp)
          injection e with e
          injection e with e1 e2
          subst e1 e2
          obtain ⟨b', off', e, _, c2⟩ := hv0.byte 2 (by simp)
          injection e with e
          injection e with e1 e2
          subst e1 e2
          obtain ⟨b', off', e, _, c3⟩ := hv0.byte 3 (by simp)
          injection e with e
          injection e with e1 e2
          subst e1 e2
          simp only [List.getElem_cons_zero, List.getElem_cons_succ] at c1 c2 c3
          have hkb := k.toNat_lt
          have hhb := h.toNat_lt
          have hyb := y.toNat_lt
          have hge : 4 ≤ (x :: k :: h :: y :: r).length := by omega
          generalize x :: k :: h :: y :: r = l at *
          clear h4
          have HL : Hid (l.length ≤ 1000000) := hl
          generalize x.toNat = xn at *
          generalize k.toNat = kn at *
          generalize h.toNat = hn at *
          generalize y.toNat = yn at *
          have i1 : (2 : Int) < (l.length : Int) := by omega
          have i2 : (3 : Int) < (l.length : Int) := by omega
          have hsi : ((hn * 256 + yn : Nat) : Int) = (hn : Int) * 256 + (yn : Int) := by omega
          obtain ⟨s, hs⟩ : ∃ s, s = hn * 256 + yn := ⟨_, rfl⟩
          rw [← hs] at hsi ⊢
          have w1 : IntKind.i64.wrap ((hn : Int) * 256) = (hn : Int) * 256 := by rw [IntKind.wrap_i64]; omega
          have w2 : IntKind.i64.wrap ((hn : Int) * 256 + (yn : Int)) = (s : Int) := by rw [IntKind.wrap_i64]; omega
          have hsb : s < 65536 := by omega
          clear hsi hs
          by_cases h4 : 4096 < s
          · rw [if_pos h4]
            clear hv hv0 hV
            generalize l.length = m at *
            go_enter Tryd.func34, Tryd.ntmps34
            go_wp2_with fail
            go_quiet (fail)
            clear w1 w2
            go_wp2_with fail
            exact bodyPost_ret (v := .tuple #[.agg #[.int .i64 0, .slice none 0 0], .int .i64 0, _]) (by simp [results, Tryd.results34, go_sem]) rfl (getRes_err (((below_drewN HB0.out _).setCell (by simp) _).setCell (by simp) _))
          · rw [if_neg h4]
            by_cases h8 : l.length < s + 8
            · rw [if_pos h8]
              clear hv hv0 hV
              have hd : decide ((l.length : Int) < (s : Int) + 8) = true := by simp; omega
              generalize l.length = m at *
              go_enter Tryd.func34, Tryd.ntmps34
              go_wp2_with fail
              go_quiet (fail)
              clear w1 w2
              go_wp2_with fail
              exact bodyPost_ret (v := .tuple #[.agg #[.int .i64 0, .slice none 0 0], .int .i64 0, _]) (by simp [results, Tryd.results34, go_sem]) rfl (getRes_err (((below_drewN HB0.out _).setCell (by simp) _).setCell (by simp) _))
            · rw [if_neg h8]
              have hd : decide ((l.length : Int) < (s : Int) + 8) = false := by simp; omega
              have htk : (l.take (s + 8)).length = s + 8 := by rw [List.length_take]; omega
              have hO := Lib.hid (fun W (h : Below w.heap.size w W) => refOpen_sl (.slice (some ⟨b, off, none⟩) (s + 8) c) (l.take (s + 8)) (by rw [htk]; omega) W w.heap.size h.size ((hV.out W h).take (s + 8) c (by omega) (by omega) (by unfold maxLen; omega) |>.mono hB))
              have hbody := @unsl_body l
              have hxl := @unsl_length (l.take (s + 8))
              rw [htk] at hxl
              have j1 : (s : Int) + 8 ≤ (c : Int) := by omega
              have j2 : ((s : Int) + 8).toNat = s + 8 := by omega
              have j3 : (0 : Int) ≤ (s : Int) + 8 := by omega
              cases hu : unsl (l.take (s + 8)) with
              | none =>
                rw [hu] at hO
                dsimp only
                clear hv hv0 hV hbody hxl htk hu
                generalize l.length = m at *
                go_enter Tryd.func34, Tryd.ntmps34
                go_wp2_with fail
                go_quiet (fail)
                clear w1 w2
                go_wp2_with fail
                refine (hO.out _ (below_drewN HB0.out _)).mono ?_
                rintro e w2 ⟨A2, c2, rfl, ho2, hb3⟩
                have hb4 := (below_drewN HB0.out nq).trans (hb3.mono HB0.out.size)
                have hWR := HWR.out.below (B := w.heap.size + 2) ((below_drewN (Below.refl _ _) nq).trans (hb3.mono (by simp))) (by omega)
                have hWN := HWN.out.below (B := w.heap.size + 2) ((below_drewN (Below.refl _ _) nq).trans (hb3.mono (by simp))) (by omega)
                have k0 : w2.cell? ⟨w.heap.size, 0, none⟩ = some (.int .i64 0) := hWR.cell 0
                have k1 : w2.cell? ⟨w.heap.size, 1, none⟩ = some (.slice none 0 0) := hWR.cell 1
                have k2 : w2.cell? ⟨w.heap.size + 1, 0, none⟩ = some (.int .i64 0) := hWN.cell 0
                have k3 : w2.cell? ⟨w.heap.size + 1, 1, none⟩ = some (.slice none 0 0) := hWN.cell 1
                have f0 := hWR.free 0
                have f1 := hWR.free 1
                have hlt := hWR.lt
                clear hWR hWN ho2
                simp only [Option.isSome_none, Option.getD_none, List.length_nil]
                go_wp2_with fail
                exact bodyPost_ret (v := .tuple #[.agg #[.int .i64 0, .slice none 0 0], .int .i64 0, _]) (by simp [results, Tryd.results34, go_sem, k0, k1]) rfl (getRes_err ((hb4.setCell (by simp) _).setCell (by simp) _))
              | some z =>
                rw [hu] at hO
                have hxb := hbody (by omega) hu
                have HZL := Lib.hid (hxl hu)
                dsimp only
                rw [hxb]
                have hbl : ((l.drop 4).take s).length = s := by rw [List.length_take, List.length_drop]; omega
                have HX := Lib.hid (fun W S A n c (h : SlS W S (.slice A n c) z) (h4 : 4 ≤ n) => hxb ▸ h.drop 4 h4)
                have HK := Lib.hid (fun W (h : Below w.heap.size w W) => (h.mono hB).cell (p := ⟨b, off + 1, none⟩) (by assumption))
                have c1w : w.cell? ⟨b, off + 1, none⟩ = some (.int .u8 (kn : Int)) := (HK.out _ HB0.out).symm.trans c1
                clear hv hv0 hV hbody hxl htk hu hxb
                generalize (l.drop 4).take s = bd at *
                generalize l.length = m at *
                have HBL := Lib.hid hbl
                clear hbl
                go_enter Tryd.func34, Tryd.ntmps34
                go_wp2_with fail
                go_quiet (fail)
                clear w1 w2
                go_wp2_with fail
                refine (hO.out _ (below_drewN HB0.out _)).mono ?_
                rintro e w2 ⟨A2, c2, rfl, ho2, hb3⟩
                have hb4 := (below_drewN HB0.out nq).trans (hb3.mono HB0.out.size)
                have hWR := HWR.out.below (B := w.heap.size + 2) ((below_drewN (Below.refl _ _) nq).trans (hb3.mono (by simp))) (by omega)
                have hWN := HWN.out.below (B := w.heap.size + 2) ((below_drewN (Below.refl _ _) nq).trans (hb3.mono (by simp))) (by omega)
                have k0 : w2.cell? ⟨w.heap.size, 0, none⟩ = some (.int .i64 0) := hWR.cell 0
                have k1 : w2.cell? ⟨w.heap.size, 1, none⟩ = some (.slice none 0 0) := hWR.cell 1
                have k2 : w2.cell? ⟨w.heap.size + 1, 0, none⟩ = some (.int .i64 0) := hWN.cell 0
                have k3 : w2.cell? ⟨w.heap.size + 1, 1, none⟩ = some (.slice none 0 0) := hWN.cell 1
                have f0 := hWR.free 0
                have f1 := hWR.free 1
                have hlt := hWR.lt
                simp only [Option.isSome_some, Option.getD_some] at ho2 ⊢
                have hs2 := ho2.slS
                rw [show ∀ k, (((w.alloc (.cells #[.int .i64 0, .slice none 0 0] 75)).alloc (.cells #[.int .i64 0, .slice none 0 0] 75)).drewN k).heap.size = w.heap.size + 2 from fun _ => by simp [World.drewN]] at hs2
                obtain ⟨g, rfl, _, hg, _⟩ := ho2.at_ (by have := HZL.out; omega)
                have hd2 := HX.out _ _ _ _ _ hs2 (by have := HZL.out; omega)
                have hc2 := hs2.room.2.1
                have hbn : b ≠ w.heap.size := by omega
                have kk1 : w2.cell? ⟨b, off + 1, none⟩ = some (.int .u8 (kn : Int)) := (HK.out w2 hb4).trans c1w
                have HB4 := Lib.hid hb4
                have HLT := Lib.hid hlt
                clear ho2 hs2 HX hWN hWR HK
                generalize z.length = zl at *
                obtain rfl : zl = s + 4 := by have := HZL.out; omega
                rw [show Rep.sz UInt8 = 1 from rfl, Nat.mul_one, Option.map_some, add_at, Nat.zero_add, Nat.add_sub_cancel] at hd2
                have q1 : (1 : Int) < (m : Int) := by omega
                have q2 : (4 : Int) ≤ (s : Int) + 4 := by omega
                have q3 : (4 : Int) ≤ ((s + 4 : Nat) : Int) := by omega
                have q4 : IntKind.i64.wrap (kn : Int) = (kn : Int) := by rw [IntKind.wrap_i64]; omega
                have q5 : IntKind.i64.wrap ((s : Int) + 8) = (s : Int) + 8 := by rw [IntKind.wrap_i64]; omega
                by_cases hc4 : c2 = 4
                · subst hc4
                  rw [if_pos rfl] at hd2
                  obtain rfl : s = 0 := by omega
                  have HD := Lib.hid hd2
                  clear hd2
                  have q6 : IntKind.i64.wrap 8 = 8 := by rw [IntKind.wrap_i64]; omega
                  go_wp2_with fail
                  go_region_held3 (fun w' => w'.cell? ⟨b, off + 1, none⟩ = some (.int .u8 (kn : Int))) (first | assumption | (rw [cell_far2d hbn hbn]; assumption) | go_keep) (fail)
                  go_wp2_with fail
                  exact bodyPost_ret (v := .tuple #[.agg #[.int .i64 (kn : Int), .slice (some ⟨g, 0, none⟩) 0 0], .int .i64 8, .int .i64 0]) (by simp [results, Tryd.results34, go_sem, k0, k1]) rfl
                    (getRes_ok (by omega) HBL.out ((((HD.out.set (p := ⟨w.heap.size, 0, none⟩) (by simp) _).set (p := ⟨w.heap.size, 1, none⟩) (by simp) _).drew).wide (fun x (hx : w.heap.size + 2 ≤ x) _ => by show w.heap.size ≤ x; omega)) (((HB4.out.setCell (by simp) _).setCell (by simp) _).drew))
                · rw [if_neg hc4] at hd2
                  have HD := Lib.hid hd2
                  clear hd2
                  go_wp2_with fail
                  go_region_held3 (fun w' => w'.cell? ⟨b, off + 1, none⟩ = some (.int .u8 (kn : Int))) (first | assumption | (rw [cell_far2d hbn hbn]; assumption) | go_keep) (fail)
                  go_wp2_with fail
                  exact bodyPost_ret (v := .tuple #[.agg #[.int .i64 (kn : Int), .slice (some ⟨g, 4, none⟩) s (c2 - 4)], .int .i64 ((s : Int) + 8), .int .i64 0]) (by simp [results, Tryd.results34, go_sem, k0, k1]) rfl
                    (getRes_ok (by omega) HBL.out ((((HD.out.set (p := ⟨w.heap.size, 0, none⟩) (by simp) _).set (p := ⟨w.heap.size, 1, none⟩) (by simp) _).drew).wide (fun x (hx : w.heap.size + 2 ≤ x) _ => by show w.heap.size ≤ x; omega)) (((HB4.out.setCell (by simp) _).setCell (by simp) _).drew))
end Go.Proofs.YtcacebkbfnnjbaaDoor
