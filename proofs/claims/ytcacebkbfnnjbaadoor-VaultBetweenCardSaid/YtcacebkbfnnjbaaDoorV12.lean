/-
  Parts that the statement rests on, joined: Size.
-/
import Derived.Test.YtcacebkbfnnjbaaDoorV11
import Derived.Deep.QuietTactic
import Derived.BigQuiet
import Derived.Laws.BitsAllLaws
import Derived.Laws.BitsLemmas
import Derived.WalkSpells
/-
  What bodySize and bytes.Clone answer.
-/






namespace Go.Proofs.YtcacebkbfnnjbaaDoor
open Go.RowKit

theorem or_byteb (x c : Nat) (hx : x < 281474976710656) (hc : c < 256) : bits .or .i64 ((x : Int) * 256) (c : Int) = ((x * 256 + c : Nat) : Int) := by
  have h1 : (BitVec.ofInt 64 ((x : Int) * 256)).toNat = x * 256 := by
    rw [show (x : Int) * 256 = ((x * 256 : Nat) : Int) by omega, BitVec.ofInt_natCast, BitVec.toNat_ofNat]
    exact Nat.mod_eq_of_lt (by omega)
  have h2 : (BitVec.ofInt 64 (c : Int)).toNat = c := by
    rw [BitVec.ofInt_natCast, BitVec.toNat_ofNat]
    exact Nat.mod_eq_of_lt (by omega)
  show IntKind.i64.wrap ((BitVec.ofInt 64 ((x : Int) * 256) ||| BitVec.ofInt 64 (c : Int)).toNat : Int) = _
  have h3 : x * 256 ||| c = x * 256 + c := by
    have := Nat.shiftLeft_add_eq_or_of_lt (i := 8) (b := c) (by omega) x
    rw [Nat.shiftLeft_eq] at this
    exact this.symm
  rw [BitVec.toNat_or, h1, h2, h3, IntKind.wrap_i64]
  omega

/-- What bodySize answers. -/
def bsz : List UInt8 → Int × Int
  | [] => (0, 3)
  | [c] => if c ≠ 83 then (0, 2) else (0, 3)
  | [c, _] => if c ≠ 83 then (0, 2) else (0, 3)
  | [c, _, _] => if c ≠ 83 then (0, 2) else (0, 3)
  | c :: _ :: h :: l :: _ => if c ≠ 83 then (0, 2) else if 4096 < h.toNat * 256 + l.toNat then (0, 7) else (((h.toNat * 256 + l.toNat : Nat) : Int), 0)
theorem bsz_mark {c : UInt8} {r : List UInt8} (h : c ≠ 83) : bsz (c :: r) = (0, 2) := by
  match r with
  | [] => exact if_pos h
  | [_] => exact if_pos h
  | [_, _] => exact if_pos h
  | _ :: _ :: _ :: _ => exact if_pos h
theorem bsz_short {c : UInt8} {r : List UInt8} (h : ¬ c ≠ 83) (hl : (c :: r).length < 4) : bsz (c :: r) = (0, 3) := by
  match r, hl with
  | [], _ => exact if_neg h
  | [_], _ => exact if_neg h
  | [_, _], _ => exact if_neg h
  | _ :: _ :: _ :: _, hl => exact absurd hl (by simp)
theorem mark_int {c : UInt8} : c = 83 ↔ (c.toNat : Int) = 83 := by
  constructor
  · rintro rfl; rfl
  · intro h
    exact UInt8.toNat_inj.1 (show c.toNat = 83 by omega)

def SizeOut (w : World) (p : Int × Int) (e : Ending) (w' : World) : Prop := e = .returned (.tuple #[.int .i64 p.1, .int .i64 p.2]) ∧ Below w.heap.size w w'

set_option maxRecDepth 100000 in
theorem bodySize_any (v : Value) (l : List UInt8) (w : World) (B : Nat) (hv : Sl w B v l) :
    Calls Tryd.prog 59 #[v] w (SizeOut w (bsz l)) := by
  obtain ⟨A, c, rfl, hc, hm⟩ := hv.form
  unfold maxLen at hm
  match l, hv, hc with
  | [], hv, hc =>
    clear hv
    go_enter Tryd.func59, Tryd.ntmps59
    go_wp2_with fail
    go_ret2
    exact ⟨rfl, Below.refl _ _⟩
  | x :: r, hv, hc =>
    obtain ⟨b, off, rfl, _, c0⟩ := hv.byte 0 (by simp)
    have hl1 : 0 < (x :: r).length := by simp
    simp only [List.getElem_cons_zero, Nat.add_zero] at c0
    have hne : ((((x :: r).length : Nat) : Int) == 0) = false := by simp; omega
    by_cases hx : x ≠ 83
    · rw [bsz_mark hx]
      have hb : ((x.toNat : Int) != 83) = true := by
        rw [bne_iff_ne]; exact fun h => hx (mark_int.2 h)
      clear hv
      generalize (x :: r).length = n at *
      generalize x.toNat = xn at *
      go_enter Tryd.func59, Tryd.ntmps59
      go_wp2_with fail
      go_ret2
      exact ⟨rfl, Below.refl _ _⟩
    · have hb : ((x.toNat : Int) != 83) = false := by
        have := mark_int.1 (Decidable.not_not.1 hx)
        rw [this]; rfl
      by_cases h4 : (x :: r).length < 4
      · rw [bsz_short hx h4]
        clear hv
        generalize (x :: r).length = n at *
        generalize x.toNat = xn at *
        go_enter Tryd.func59, Tryd.ntmps59
        go_wp2_with fail
        go_ret2
        exact ⟨rfl, Below.refl _ _⟩
      · match r, hv, hc, h4 with
        | [], _, _, h4 => exact absurd h4 (by simp)
        | [_], _, _, h4 => exact absurd h4 (by simp)
        | [_, _], _, _, h4 => exact absurd h4 (by simp)
        | k :: h :: y :: r, hv, hc, h4 =>
          have hbz : bsz (x :: k :: h :: y :: r) = if 4096 < h.toNat * 256 + y.toNat then (0, 7) else (((h.toNat * 256 + y.toNat : Nat) : Int), 0) := if_neg hx
          rw [hbz]
          obtain ⟨b', off', e, _, c2⟩ := hv.byte 2 (by simp)
          injection e with e
          injection e with e1 e2
          subst e1 e2
          obtain ⟨b', off', e, _, c3⟩ := hv.byte 3 (by simp)
          injection e with e
          injection e with e1 e2
          subst e1 e2
          simp only [List.getElem_cons_zero, List.getElem_cons_succ] at c2 c3
          have hhb := h.toNat_lt
          have hyb := y.toNat_lt
          have hge : 4 ≤ (x :: k :: h :: y :: r).length := by omega
          clear hv hbz h4
          generalize (x :: k :: h :: y :: r).length = n at *
          generalize x.toNat = xn at *
          generalize h.toNat = hn at *
          generalize y.toNat = yn at *
          have hor := or_byteb hn yn (by omega) hyb
          have i1 : (2 : Int) < (n : Int) := by omega
          have i2 : (3 : Int) < (n : Int) := by omega
          have w1 : IntKind.i64.wrap ((hn : Int) * 256) = (hn : Int) * 256 := by rw [IntKind.wrap_i64]; omega
          rw [show ((hn * 256 + yn : Nat) : Int) = (hn : Int) * 256 + (yn : Int) by omega]
          by_cases h4 : 4096 < hn * 256 + yn
          · rw [if_pos h4]
            go_enter Tryd.func59, Tryd.ntmps59
            go_wp2_with fail
            go_quiet (fail)
            clear hor w1
            have hd : decide (4096 < (hn : Int) * 256 + (yn : Int)) = true := by simp; omega
            go_wp2_with fail
            go_ret2
            exact ⟨rfl, below_drewN (Below.refl _ _) _⟩
          · rw [if_neg h4]
            go_enter Tryd.func59, Tryd.ntmps59
            go_wp2_with fail
            go_quiet (fail)
            clear hor w1
            have hd : decide (4096 < (hn : Int) * 256 + (yn : Int)) = false := by simp; omega
            go_wp2_with fail
            go_ret2
            exact ⟨rfl, below_drewN (Below.refl _ _) _⟩

def CloneOut (w : World) (l : List UInt8) (e : Ending) (w' : World) : Prop :=
  ∃ A c, e = .returned (.slice A l.length c) ∧ Own w' w.heap.size 5 (.slice A l.length c) l ∧ Below w.heap.size w w'
set_option maxRecDepth 100000 in
theorem cloneb_any (ad : Addr) (n c : Nat) (l : List UInt8) (hl : l.length ≤ 1000000) (w : World) (B : Nat) (hB : B ≤ w.heap.size) (hv : Sl w B (.slice (some ad) n c) l) :
    Calls Tryd.prog 33 #[.slice (some ad) n c] w (CloneOut w l) := by
  have hr := hv.room
  obtain ⟨hn, _, hm⟩ := hr
  unfold maxLen at hm
  subst hn
  have HV := Lib.hid (fun W (hW : Below w.heap.size w W) => hv.below (hW.mono hB))
  have hk := fun (W : World) => Lib.run_eql_slice_nil (P := Tryd.prog) W 28 5 (some ad) l.length c 0 0 Tryd.underlying28
  have ho0 := Own.newL w w.heap.size 5 ([] : List UInt8) #[] (bwf _) rfl (by unfold maxLen; simp) (Nat.le_refl _)
  have HO := Lib.hid ho0
  have HB := Lib.hid ((Below.refl w.heap.size w).alloc (Nat.le_refl _) (.cells #[] 5))
  clear hv ho0
  go_enter Tryd.func33, Tryd.ntmps33
  go_wp2_with (at_builtin; refine wpList_append_sl rfl (.tmp 5) (.tmp 6) rfl rowB w.heap.size _ [] rfl HO.out B _ l rfl (HV.out _ HB.out) (by unfold maxLen; simp; omega) (by simp; omega) (by simp) ?_; intro v3 w3 hown3 hg3 hat3; have hb3 := below_of_own HB.out HO.out hg3 (by simp); rw [List.nil_append] at hown3; obtain ⟨A3, c3, rfl, _⟩ := hown3.sl.form; clear hg3 hat3)
  go_ret
  exact ⟨_, _, rfl, hown3, hb3⟩
end Go.Proofs.YtcacebkbfnnjbaaDoor
