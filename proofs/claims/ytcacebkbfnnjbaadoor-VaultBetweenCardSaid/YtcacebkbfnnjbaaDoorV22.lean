/-
  Parts that the statement rests on, joined: From, Data, Rnum.
-/
import Derived.Test.YtcacebkbfnnjbaaDoorV21
import Derived.Deep.QuietTactic
import Derived.BigQuiet
import Derived.Laws.BitsAllLaws
import Derived.Laws.BitsLemmas
/-
  What fromDigits and cutBytes answer.
-/





namespace Go.Proofs.YtcacebkbfnnjbaaDoor
open Go.RowKit

theorem val_take_succ (l : List UInt8) (k : Nat) (h : k < l.length) : Fm.val (l.take (k + 1)) = Fm.val (l.take k) * 256 + (l[k]).toNat := by
  rw [List.take_succ_eq_append_getElem h, Fm.val_snoc]
theorem or_byte (x c : Nat) (hx : x < 281474976710656) (hc : c < 256) : bits .or .i64 ((x : Int) * 256) (c : Int) = ((x * 256 + c : Nat) : Int) := by
  have h1 : (BitVec.ofInt 64 ((x : Int) * 256)).toNat = x * 256 := by
    rw [show (x : Int) * 256 = ((x * 256 : Nat) : Int) by omega, BitVec.ofInt_natCast, BitVec.toNat_ofNat]
    exact Nat.mod_eq_of_lt (by omega)
  have h2 : (BitVec.ofInt 64 (c : Int)).toNat = c := by
    rw [BitVec.ofInt_natCast, BitVec.toNat_ofNat]
    exact Nat.mod_eq_of_lt (by omega)
  show IntKind.i64.wrap ((BitVec.ofInt 64 ((x : Int) * 256) ||| BitVec.ofInt 64 (c : Int)).toNat : Int) = _
  have h3 : x * 256 ||| c = x * 256 + c := by
    have := Nat.shiftLeft_add_eq_or_of_lt (i := 8) (b := c) (by omega) x
    rw [Nat.shiftLeft_eq] at this
    exact this.symm
  rw [BitVec.toNat_or, h1, h2, h3, IntKind.wrap_i64]
  omega
theorem fromDigits_any (v : Value) (l : List UInt8) (hl : l.length ≤ 7) (w : World) (B : Nat) (hv : Sl w B v l) :
    Calls Tryd.prog 78 #[v] w fun e w' => e = .returned (.int .i64 (Fm.val l : Int)) ∧ w = w' := by
  obtain ⟨A, c, rfl, hc, hm⟩ := hv.form
  have HV := Lib.hid hv
  clear hv
  unfold maxLen at hm
  go_enter Tryd.func78, Tryd.ntmps78
  go_wp2
  go_loop [3, 8] (fun x i => ∃ k : Nat, k ≤ l.length ∧ i = .int .i64 k ∧ x = .int .i64 (Fm.val (l.take k) : Int)) (fun _ i => l.length - (intOf i).toNat)
  case atStart => exact ⟨0, Nat.zero_le _, rfl, rfl⟩
  case round =>
    obtain ⟨k, hk, rfl, rfl⟩ := hrel
    by_cases hlt : k < l.length
    · have hs := Lib.hid (val_take_succ l k hlt)
      obtain ⟨b, off, rfl, hb, hcc⟩ := HV.out.byte k hlt
      have hcb : (l[k]).toNat < 256 := (l[k]).toNat_lt
      have hvb : Fm.val (l.take k) < 281474976710656 := by
        have := Fm.val_lt (l.take k)
        have hp : 256 ^ (l.take k).length ≤ 256 ^ 6 := Nat.pow_le_pow_right (by omega) (by rw [List.length_take]; omega)
        omega
      generalize (l[k]).toNat = cc at *
      generalize Fm.val (l.take k) = x at *
      have hor := or_byte x cc hvb hcb
      go_wp2
      go_round
      case rel => exact ⟨k + 1, by omega, by go_num, by rw [hs.out]; go_num⟩
      case measure => simp [intOf]; omega
    · have hkl : l.take k = l := List.take_of_length_le (by omega)
      have HK := Lib.hid hkl
      clear hkl
      go_wp2
      go_ret
      exact ⟨ret_int (by rw [HK.out]), rfl⟩

theorem cutBytes_short (v : Value) (l : List UInt8) (k : Nat) (hk : l.length < k) (w : World) (B : Nat) (hv : Sl w B v l) :
    Calls Tryd.prog 77 #[v, .int .i64 k] w fun e w' => e = .returned (.tuple #[.slice none 0 0, .slice none 0 0, .bool false]) ∧ w = w' := by
  obtain ⟨A, c, rfl, hc, hm⟩ := hv.form
  clear hv
  go_enter Tryd.func77, Tryd.ntmps77
  go_wp2
  go_ret3
  exact ⟨rfl, rfl⟩

def CutTo (w : World) (B : Nat) (l : List UInt8) (k : Nat) (e : Ending) (w' : World) : Prop :=
  ∃ A1 c1 A2 m c2, m + k = l.length ∧ e = .returned (.tuple #[.slice A1 k c1, .slice A2 m c2, .bool true]) ∧ Sl w B (.slice A1 k c1) (l.take k) ∧ Sl w B (.slice A2 m c2) (l.drop k) ∧ ∃ n, w' = w.drewN n
theorem cutBytes_any (v : Value) (l : List UInt8) (k : Nat) (hk : k ≤ l.length) (w : World) (B : Nat) (hv : Sl w B v l) :
    Calls Tryd.prog 77 #[v, .int .i64 k] w (CutTo w B l k) := by
  obtain ⟨A, c, rfl, hc, hm⟩ := hv.form
  have H1 := Lib.hid (hv.take k k hk (Nat.le_refl _) (by omega))
  have h2 := hv.drop k hk
  rw [show Rep.sz UInt8 = 1 from rfl, Nat.mul_one] at h2
  have H2 := Lib.hid h2
  clear h2
  clear hv
  unfold maxLen at hm
  have i1 : (k : Int) ≤ (l.length : Int) := by omega
  have i2 : (k : Int) ≤ (c : Int) := by omega
  have i3 : (0 : Int) ≤ (k : Int) := by omega
  have i4 : (l.length : Int) ≤ (c : Int) := by omega
  generalize hn : l.length = n at *
  have HN := Lib.hid hn
  clear hn
  by_cases hck : c = k
  · have hnk : n = k := by omega
    subst hck hnk
    have h2 := H2.out
    rw [if_pos rfl, Nat.sub_self] at h2
    have H3 := Lib.hid h2
    clear h2 H2
    go_enter Tryd.func77, Tryd.ntmps77
    go_wp2
    go_quiet (fail)
    go_wp2
    go_ret3
    have h := HN.out
    subst h
    exact ⟨_, _, _, 0, _, by omega, rfl, H1.out, H3.out, _, rfl⟩
  · have h2 := H2.out
    rw [if_neg hck] at h2
    have H3 := Lib.hid h2
    clear h2 H2
    go_enter Tryd.func77, Tryd.ntmps77
    go_wp2
    go_quiet (fail)
    go_wp2
    go_ret3
    have h := HN.out
    subst h
    exact ⟨_, _, _, _, _, by omega, rfl, H1.out, H3.out, _, rfl⟩

/-- The number that bytes begin with, and what follows; or an error. -/
def NumOut (w : World) (B : Nat) : Fm.Got Int → Ending → World → Prop
  | .err er, e, w' => e = .returned (.tuple #[.int .i64 0, .slice none 0 0, .int .i64 er]) ∧ ∃ n, w' = w.drewN n
  | .ok m r, e, w' => ∃ A c, e = .returned (.tuple #[.int .i64 m, .slice A r.length c, .int .i64 0]) ∧ Sl w B (.slice A r.length c) r ∧ ∃ n, w' = w.drewN n

theorem drewN_zero (w : World) : w = w.drewN 0 := rfl
theorem sl_drewN {α : Type} [Rep α] {w : World} {B : Nat} {v : Value} {l : List α} (h : Sl w B v l) (n : Nat) : Sl (w.drewN n) B v l := h.below (below_drewN (Below.refl _ _) n)
set_option maxRecDepth 100000 in
theorem cutNumber_any (v : Value) (l : List UInt8) (hl : l.length ≤ 1000000) (w : World) (B : Nat) (hv : Sl w B v l) :
    Calls Tryd.prog 79 #[v] w (NumOut w B (Fm.cutN l)) := by
  match l with
  | [] =>
    have h := cutBytes_short v [] 1 (by simp) w B hv
    have H := Lib.hid h
    clear h hv
    go_enter Tryd.func79, Tryd.ntmps79
    go_wp2_with (refine H.out.mono ?_; rintro e w' ⟨rfl, rfl⟩)
    go_ret3
    exact ⟨rfl, 0, rfl⟩
  | k :: r =>
    have h := cutBytes_any v (k :: r) 1 (by simp) w B hv
    have H := Lib.hid h
    clear h hv
    have hd := Lib.hid (fun W A c (h : Sl W B (.slice A 1 c) [k]) => fromDigits_any _ [k] (by simp) W B h)
    have hk : k.toNat < 256 := k.toNat_lt
    have hkv : Fm.val [k] = k.toNat := by simp [Fm.val]
    have HK := Lib.hid hkv
    clear hkv
    by_cases h7 : 7 < k.toNat
    · have hc : Fm.cutN (k :: r) = .err 2 := by simp [Fm.cutN, h7]
      rw [hc]
      clear hc
      generalize k.toNat = kk at *
      go_enter Tryd.func79, Tryd.ntmps79
      go_wp2_with fail
      refine H.out.mono ?_
      rintro e w' ⟨A1, c1, A2, m, c2, hmk, rfl, h1, h2, n, rfl⟩
      clear hmk
      have H1 := Lib.hid (sl_drewN h1 n)
      clear h1 h2 H
      go_wp2_with fail
      refine (hd.out _ _ _ H1.out).mono ?_
      rintro e w' ⟨rfl, rfl⟩
      rw [HK.out]
      go_wp2_with fail
      go_ret3
      exact ⟨rfl, n, rfl⟩
    · have hd2 := Lib.hid (fun W D A c (h : Sl W B (.slice A D.length c) D) (hD : D.length ≤ 7) => fromDigits_any _ D hD W B h)
      have hcs := Lib.hid (fun W A c (h : Sl W B (.slice A r.length c) r) (hlt : r.length < k.toNat) => cutBytes_short _ r k.toNat hlt W B h)
      have hca := Lib.hid (fun W A c (h : Sl W B (.slice A r.length c) r) (hle : k.toNat ≤ r.length) => cutBytes_any _ r k.toNat hle W B h)
      have hlr : r.length ≤ 1000000 := by simp at hl; omega
      -- the first byte of the number is none, or not zero, or zero
      have hway : (k.toNat = 0 ∨ r = [] ∨ ∃ x t, r = x :: t ∧ x ≠ 0) ∨ (0 < k.toNat ∧ ∃ t, r = 0 :: t) := by
        by_cases h0 : k.toNat = 0
        · exact .inl (.inl h0)
        · match r with
          | [] => exact .inl (.inr (.inl rfl))
          | x :: t =>
            by_cases hx : x = 0
            · subst hx; exact .inr ⟨by omega, t, rfl⟩
            · exact .inl (.inr (.inr ⟨x, t, rfl, hx⟩))
      rcases hway with hgood | ⟨h0, t, rfl⟩
      · have hc : Fm.cutN (k :: r) = if r.length < k.toNat then .err 3 else .ok (Fm.val (r.take k.toNat) : Int) (r.drop k.toNat) := by
          simp only [Fm.cutN]
          rw [if_neg h7, if_neg]
          rintro ⟨g1, g2⟩
          rcases hgood with h | h | ⟨x, t, rfl, hx⟩
          · omega
          · subst h; simp at g2
          · simp at g2; exact hx g2
        rw [hc]
        clear hc
        have hcell : ∀ W A c, Sl W B (.slice A r.length c) r → decide (0 < k.toNat) = false ∨ decide (0 < r.length) = false ∨ ∃ b off, ∃ x : Nat, A = some ⟨b, off, none⟩ ∧ 0 < r.length ∧ ((x : Int) == 0) = false ∧ W.cell? ⟨b, off, none⟩ = some (.int .u8 (x : Int)) := by
          intro W A c h
          rcases hgood with h0 | h0 | ⟨x, t, rfl, hx⟩
          · exact .inl (by simp; omega)
          · subst h0; exact .inr (.inl rfl)
          · obtain ⟨b, off, rfl, _, hcc⟩ := h.byte 0 (by simp)
            refine .inr (.inr ⟨b, off, x.toNat, rfl, by simp, by rw [beq_eq_false_iff_ne]; exact fun e => hx (UInt8.toNat_inj.1 (by simpa using e)), by simpa using hcc⟩)
        have HC := Lib.hid hcell
        clear hcell hgood
        by_cases hlt : r.length < k.toNat
        · rw [if_pos hlt]
          have hcs2 := Lib.hid (fun W A c h => hcs.out W A c h hlt)
          clear hcs hca
          generalize k.toNat = kk at *
          go_enter Tryd.func79, Tryd.ntmps79
          go_wp2_with fail
          refine H.out.mono ?_
          rintro e w' ⟨A1, c1, A2, m, c2, hmk, rfl, h1, h2, n, rfl⟩
          obtain rfl : m = r.length := by simp at hmk; omega
          have H1 := Lib.hid (sl_drewN h1 n)
          have h2' : Sl (w.drewN n) B (.slice A2 r.length c2) r := sl_drewN h2 n
          have hC := HC.out _ _ _ h2'
          have HS := Lib.hid (hcs2.out _ _ _ h2')
          clear h1 h2 H hmk HC h2' hcs2
          generalize r.length = m at *
          rcases hC with h0 | h0 | ⟨b, off, x, rfl, hm0, hx, hcc⟩
          · simp at h0; omega
          · go_wp2_with fail
            refine (hd.out _ _ _ H1.out).mono ?_
            rintro e w' ⟨rfl, rfl⟩
            rw [HK.out]
            go_wp2_with fail
            refine HS.out.mono ?_
            rintro e w' ⟨rfl, rfl⟩
            go_wp2_with fail
            go_ret3
            exact ⟨rfl, n, rfl⟩
          · go_wp2_with fail
            refine (hd.out _ _ _ H1.out).mono ?_
            rintro e w' ⟨rfl, rfl⟩
            rw [HK.out]
            go_wp2_with fail
            refine HS.out.mono ?_
            rintro e w' ⟨rfl, rfl⟩
            go_wp2_with fail
            go_ret3
            exact ⟨rfl, n, rfl⟩
        · rw [if_neg hlt]
          have hca2 := Lib.hid (fun W A c h => hca.out W A c h (by omega))
          clear hcs hca
          have hkl : (r.take k.toNat).length = k.toNat := by rw [List.length_take]; omega
          have hrl : (r.drop k.toNat).length + k.toNat = r.length := by rw [List.length_drop]; omega
          generalize k.toNat = kk at *
          go_enter Tryd.func79, Tryd.ntmps79
          go_wp2_with fail
          refine H.out.mono ?_
          rintro e w' ⟨A1, c1, A2, m, c2, hmk, rfl, h1, h2, n, rfl⟩
          obtain rfl : m = r.length := by simp at hmk; omega
          have H1 := Lib.hid (sl_drewN h1 n)
          have h2' : Sl (w.drewN n) B (.slice A2 r.length c2) r := sl_drewN h2 n
          have hC := HC.out _ _ _ h2'
          have HS := Lib.hid (hca2.out _ _ _ h2')
          have HKL := Lib.hid hkl
          generalize hd0 : (r.drop kk).length = d at hrl
          generalize hm0 : r.length = m at *
          have HD := Lib.hid hd0
          have HM := Lib.hid hm0
          have HRL := Lib.hid hrl
          have hC2 : decide (0 < kk) = false ∨ ∃ b off, ∃ x : Nat, A2 = some ⟨b, off, none⟩ ∧ 0 < m ∧ 0 < kk ∧ ((x : Int) == 0) = false ∧ (w.drewN n).cell? ⟨b, off, none⟩ = some (.int .u8 (x : Int)) := by
            rcases hC with h | h | h
            · exact .inl h
            · exact .inl (by simp at h ⊢; omega)
            · by_cases hk0 : 0 < kk
              · obtain ⟨b, off, x, g1, g2, g3⟩ := h
                exact .inr ⟨b, off, x, g1, g2, hk0, g3⟩
              · exact .inl (by simp; omega)
          clear h1 h2 H hmk HC h2' hca2 hkl hrl hm0 hd0 hC
          rcases hC2 with h0 | ⟨b, off, x, rfl, hm0, hk0, hx, hcc⟩
          all_goals
            go_wp2_with fail
            refine (hd.out _ _ _ H1.out).mono ?_
            rintro e w' ⟨rfl, rfl⟩
            rw [HK.out]
            go_wp2_with fail
            refine HS.out.mono ?_
            rintro e w' ⟨A3, c3, A4, m4, c4, hm4, rfl, h3, h4, n2, rfl⟩
            rw [World.drewN_drewN]
            have h3' := sl_drewN h3 n2
            have h4' := sl_drewN h4 n2
            rw [World.drewN_drewN] at h3' h4'
            have H4 := Lib.hid h4'
            obtain rfl : m4 = d := by have := HRL.out; have := HM.out; omega
            have H3 := Lib.hid (hd2.out _ (r.take kk) _ _ (by rw [HKL.out]; exact h3') (by rw [HKL.out]; omega))
            clear h3 h4 h3' h4' hm4
            go_wp2_with fail
            have h3 := H3.out
            rw [HKL.out] at h3
            refine h3.mono ?_
            clear h3 H3
            rintro e w' ⟨rfl, hw⟩
            subst hw
            go_wp2_with fail
            go_ret3
            have h := HD.out
            subst h
            exact ⟨_, _, rfl, H4.out, _, rfl⟩
      · have hc : Fm.cutN (k :: 0 :: t) = .err 2 := by
          simp only [Fm.cutN]
          rw [if_neg h7, if_pos ⟨h0, rfl⟩]
        rw [hc]
        clear hc
        generalize k.toNat = kk at *
        go_enter Tryd.func79, Tryd.ntmps79
        go_wp2_with fail
        refine H.out.mono ?_
        rintro e w' ⟨A1, c1, A2, m, c2, hmk, rfl, h1, h2, n, rfl⟩
        have H1 := Lib.hid (sl_drewN h1 n)
        obtain ⟨b, off, rfl, _, hcc⟩ := (sl_drewN h2 n).byte 0 (by simp)
        have hz : (((0 : UInt8).toNat : Nat) : Int) = 0 := rfl
        have hcc2 : (w.drewN n).cell? ⟨b, off, none⟩ = some (.int .u8 0) := hcc
        have hm : 0 < m := by simp at hmk; omega
        clear h1 h2 H hcc hz hmk
        go_wp2_with fail
        refine (hd.out _ _ _ H1.out).mono ?_
        rintro e w' ⟨rfl, rfl⟩
        rw [HK.out]
        go_wp2_with fail
        go_ret3
        exact ⟨rfl, n, rfl⟩
end Go.Proofs.YtcacebkbfnnjbaaDoor

/-
  What cutData answers.
-/

namespace Go.Proofs.YtcacebkbfnnjbaaDoor
open Go.RowKit

def DataOut (w : World) (B : Nat) : Fm.Got (List UInt8) → Ending → World → Prop
  | .err er, e, w' => e = .returned (.tuple #[.slice none 0 0, .slice none 0 0, .int .i64 er]) ∧ Below w.heap.size w w'
  | .ok D r, e, w' => ∃ sD A c, e = .returned (.tuple #[sD, .slice A r.length c, .int .i64 0]) ∧ Own w' w.heap.size 5 sD D ∧ Sl w' B (.slice A r.length c) r ∧ Below w.heap.size w w'

set_option maxRecDepth 100000 in
theorem cutData_any (v : Value) (l : List UInt8) (hl : l.length ≤ 1000000) (w : World) (B : Nat) (hB : B ≤ w.heap.size) (hv : Sl w B v l) :
    Calls Tryd.prog 74 #[v] w (DataOut w B (Fm.cutD l)) := by
  by_cases h2 : l.length < 2
  · have hc : Fm.cutD l = .err 3 := by unfold Fm.cutD; rw [if_pos h2]
    rw [hc]
    have H := Lib.hid (cutBytes_short v l 2 h2 w B hv)
    clear hc hv
    go_enter Tryd.func74, Tryd.ntmps74
    go_wp2_with fail
    refine H.out.mono ?_
    rintro e w' ⟨rfl, rfl⟩
    go_wp2_with fail
    go_ret3
    exact ⟨rfl, Below.refl _ _⟩
  · have H := Lib.hid (cutBytes_any v l 2 (by omega) w B hv)
    have hd := Lib.hid (fun W A c (h : Sl W B (.slice A 2 c) (l.take 2)) => fromDigits_any _ (l.take 2) (by rw [List.length_take]; omega) W B h)
    have hvl : Fm.val (l.take 2) < 65536 := by
      have := Fm.val_lt (l.take 2)
      rw [List.length_take, Nat.min_eq_left (by omega)] at this
      exact this
    have hcc : Fm.cutD l = if 4096 < Fm.val (l.take 2) then .err 7 else if (l.drop 2).length < Fm.val (l.take 2) then .err 3 else .ok ((l.drop 2).take (Fm.val (l.take 2))) ((l.drop 2).drop (Fm.val (l.take 2))) := by
      unfold Fm.cutD; rw [if_neg h2]
    rw [hcc]
    clear hcc
    have hlr : (l.drop 2).length + 2 = l.length := by rw [List.length_drop]; omega
    have hrr : (l.drop 2).length ≤ 1000000 := by omega
    have HLR := Lib.hid hlr
    clear hlr hv
    generalize Fm.val (l.take 2) = s at *
    generalize hr : l.drop 2 = r at *
    have HR := Lib.hid hr
    clear hr
    by_cases h4 : 4096 < s
    · rw [if_pos h4]
      go_enter Tryd.func74, Tryd.ntmps74
      go_wp2_with fail
      refine H.out.mono ?_
      rintro e w' ⟨A1, c1, A2, m, c2, hmk, rfl, h1, h2, n, rfl⟩
      have H1 := Lib.hid (sl_drewN h1 n)
      clear h1 h2 H hmk
      go_wp2_with fail
      refine (hd.out _ _ _ H1.out).mono ?_
      rintro e w' ⟨rfl, rfl⟩
      go_wp2_with fail
      go_ret3
      exact ⟨rfl, below_drewN (Below.refl _ _) _⟩
    · rw [if_neg h4]
      have hcs := Lib.hid (fun W A c (h : Sl W B (.slice A r.length c) r) (hlt : r.length < s) => cutBytes_short _ r s hlt W B h)
      have hca := Lib.hid (fun W A c (h : Sl W B (.slice A r.length c) r) (hle : s ≤ r.length) => cutBytes_any _ r s hle W B h)
      by_cases hlt : r.length < s
      · rw [if_pos hlt]
        go_enter Tryd.func74, Tryd.ntmps74
        go_wp2_with fail
        refine H.out.mono ?_
        rintro e w' ⟨A1, c1, A2, m, c2, hmk, rfl, h1, h2, n, rfl⟩
        have H1 := Lib.hid (sl_drewN h1 n)
        obtain rfl : m = r.length := by have := HLR.out; omega
        rw [HR.out] at h2
        have HS := Lib.hid (hcs.out _ _ _ (sl_drewN h2 n) hlt)
        clear h1 h2 H hmk hcs hca
        generalize r.length = m at *
        go_wp2_with fail
        refine (hd.out _ _ _ H1.out).mono ?_
        rintro e w' ⟨rfl, rfl⟩
        go_wp2_with fail
        refine HS.out.mono ?_
        rintro e w' ⟨rfl, rfl⟩
        go_wp2_with fail
        go_ret3
        exact ⟨rfl, below_drewN (Below.refl _ _) _⟩
      · rw [if_neg hlt]
        have hkl : (r.take s).length = s := by rw [List.length_take]; omega
        have hdl : (r.drop s).length + s = r.length := by rw [List.length_drop]; omega
        have HKL := Lib.hid hkl
        clear hkl
        go_enter Tryd.func74, Tryd.ntmps74
        go_wp2_with fail
        refine H.out.mono ?_
        rintro e w' ⟨A1, c1, A2, m, c2, hmk, rfl, h1, h2, n, rfl⟩
        have H1 := Lib.hid (sl_drewN h1 n)
        obtain rfl : m = r.length := by have := HLR.out; omega
        rw [HR.out] at h2
        have HS := Lib.hid (hca.out _ _ _ (sl_drewN h2 n) (by omega))
        clear h1 h2 H hmk hcs hca
        generalize hd0 : (r.drop s).length = d at hdl
        generalize hm0 : r.length = m at *
        have HD := Lib.hid hd0
        have HM := Lib.hid hm0
        have HDL := Lib.hid hdl
        clear hd0 hm0 hdl
        go_wp2_with fail
        refine (hd.out _ _ _ H1.out).mono ?_
        rintro e w' ⟨rfl, rfl⟩
        go_wp2_with fail
        refine HS.out.mono ?_
        rintro e w' ⟨A3, c3, A4, m4, c4, hm4, rfl, h3, h4, n2, rfl⟩
        rw [World.drewN_drewN]
        have h3' := sl_drewN h3 n2
        have h4' := sl_drewN h4 n2
        rw [World.drewN_drewN] at h3' h4'
        obtain rfl : m4 = d := by have := HDL.out; have := HM.out; omega
        have hb := below_drewN (Below.refl w.heap.size w) (n + n2)
        have hz : w.heap.size ≤ (w.drewN (n + n2)).heap.size := Nat.le_refl _
        have H3 := Lib.hid h3'
        have H4 := Lib.hid h4'
        clear h3 h4 h3' h4' hm4 H1 HS hd
        generalize w.drewN (n + n2) = w1 at *
        go_wp2_with (at_builtin; refine wpList_append_sl rfl _ (.tmp 31) rfl rowB w.heap.size _ [] rfl (Own.nil _ _ _) B _ (r.take s) rfl H3.out (by rw [HKL.out]; unfold maxLen; simp; omega) (by rw [HKL.out]; simp; omega) hz ?_; intro v3 w3 hown3 hg3 hat3; rw [List.nil_append] at hown3; have hb3 := hb.grown hg3 hz (by intro k h; cases h); have hs3 := H4.out.below ((Below.refl _ _).grown hg3 (Nat.le_trans hB hz) (by intro k h; cases h)); clear hg3 hat3)
        go_ret3
        have h := HD.out
        subst h
        exact ⟨_, _, _, rfl, hown3, hs3, hb3⟩
end Go.Proofs.YtcacebkbfnnjbaaDoor

/-
  What the reference's number answers.
-/

namespace Go.Proofs.YtcacebkbfnnjbaaDoor
open Go.RowKit

/-- The number that bytes begin with, and how many bytes it has; or an error. -/
def RNumOut (w : World) (l : List UInt8) : Fm.Got Int → Ending → World → Prop
  | .err er, e, w' => e = .returned (.tuple #[.int .i64 0, .int .i64 0, .int .i64 er]) ∧ w = w'
  | .ok m r, e, w' => ∃ k : Nat, e = .returned (.tuple #[.int .i64 m, .int .i64 k, .int .i64 0]) ∧ k ≤ 8 ∧ r = l.drop k ∧ k ≤ l.length ∧ w = w'

/-- The bytes r lie behind a first one. -/
def Tail1 (w : World) (b off : Nat) (r : List UInt8) : Prop := ∀ j (hj : j < r.length), w.cell? ⟨b, off + (j + 1), none⟩ = some (.int .u8 ((r[j]).toNat : Int))
set_option maxRecDepth 100000 in
theorem refNumber_any (v : Value) (l : List UInt8) (hl : l.length ≤ 1000000) (w : World) (B : Nat) (hv : Sl w B v l) :
    Calls Tryd.prog 70 #[v] w (RNumOut w l (Fm.cutN l)) := by
  obtain ⟨A, c, rfl, hc, _⟩ := hv.form
  match l with
  | [] =>
    clear hv
    go_enter Tryd.func70, Tryd.ntmps70
    go_wp2_with fail
    go_ret3
    exact ⟨rfl, rfl⟩
  | k :: r =>
    obtain ⟨b, off, rfl, _, h0⟩ := hv.byte 0 (by simp)
    have hcell : Tail1 w b off r := by
      intro j hj
      obtain ⟨b', off', e, _, h1⟩ := hv.byte (j + 1) (by simpa using hj)
      injection e with e
      injection e with e1 e2
      subst e1 e2
      exact h1
    have hk : k.toNat < 256 := k.toNat_lt
    simp only [List.getElem_cons_zero, Nat.add_zero] at h0
    have hln : (k :: r).length = r.length + 1 := rfl
    have hrl : r.length ≤ 1000000 := by omega
    have hkk : Fm.cutN (k :: r) = if 7 < k.toNat then .err 2 else if 0 < k.toNat ∧ r.head? = some 0 then .err 2 else if r.length < k.toNat then .err 3 else .ok (Fm.val (r.take k.toNat) : Int) (r.drop k.toNat) := rfl
    rw [hkk]
    rw [hln] at hc ⊢
    clear hkk hln hl hv
    generalize k.toNat = kk at *
    have HC := Lib.hid hcell
    clear hcell
    by_cases h7 : 7 < kk
    · rw [if_pos h7]
      generalize r.length = m at *
      go_enter Tryd.func70, Tryd.ntmps70
      go_wp2_with fail
      go_ret3
      exact ⟨rfl, rfl⟩
    · rw [if_neg h7]
      generalize hm : r.length = m at *
      have HM := Lib.hid hm
      clear hm
      have hL0 : 0 < m + 1 := by omega
      have hLe : ((((m + 1 : Nat) : Int)) == 0) = false := by rw [beq_eq_false_iff_ne]; omega
      have hLm : m + 1 ≤ 1000001 := by omega
      generalize hL : m + 1 = L at *
      have HL := Lib.hid hL
      clear hL
      generalize hres : (if 0 < kk ∧ r.head? = some 0 then Fm.Got.err 2 else if m < kk then Fm.Got.err 3 else Fm.Got.ok (Fm.val (r.take kk) : Int) (r.drop kk)) = res
      have HRES := Lib.hid hres.symm
      clear hres
      go_enter Tryd.func70, Tryd.ntmps70
      go_wp2_with fail
      go_loop [6, 7] (fun x i => ∃ j : Nat, j ≤ kk ∧ j ≤ m ∧ i = .int .i64 ((j + 1 : Nat) : Int) ∧ x = .int .i64 (Fm.val (r.take j) : Int) ∧ (0 < j → r.head? ≠ some 0)) (fun _ i => kk + 1 - (intOf i).toNat)
      case atStart => exact ⟨0, Nat.zero_le _, Nat.zero_le _, rfl, rfl, fun h => absurd h (by omega)⟩
      case round =>
        obtain ⟨j, hj, hjm, rfl, rfl, hh⟩ := hrel
        have hLL := HL.out
        have HH := Lib.hid hh
        clear hh
        by_cases hlt : j < kk
        · by_cases hm : j < m
          · have hjr : j < r.length := by have := HM.out; omega
            have hc1 := HC.out j hjr
            have hs := Lib.hid (val_take_succ r j hjr)
            have hcb : (r[j]).toNat < 256 := (r[j]).toNat_lt
            have hvb : Fm.val (r.take j) < 281474976710656 := by
              have := Fm.val_lt (r.take j)
              have hp : 256 ^ (r.take j).length ≤ 256 ^ 6 := Nat.pow_le_pow_right (by omega) (by rw [List.length_take]; omega)
              omega
            by_cases hj0 : j = 0
            · subst hj0
              have hhd : r.head? = some r[0] := by cases r with
                | nil => simp at hjr
                | cons a t => rfl
              have HD := Lib.hid hhd
              clear hhd
              by_cases hz : r[0] = 0
              · have hc2 : w.cell? ⟨b, off + 1, none⟩ = some (.int .u8 0) := by rw [hz] at hc1; exact hc1
                have hfin : Hid (0 < kk ∧ r.head? = some 0) := ⟨by omega, by rw [HD.out, hz]⟩
                clear hc1 hs hcb hvb HD hz
                go_wp2_with fail
                go_ret3
                rw [HRES.out, if_pos hfin.out]
                exact ⟨rfl, rfl⟩
              · have hne : ((r[0].toNat : Int) == 0) = false := by
                  rw [beq_eq_false_iff_ne]
                  exact fun e => hz (UInt8.toNat_inj.1 (by simpa using e))
                have hok : Hid (r.head? ≠ some 0) := fun h => hz (by rw [HD.out] at h; exact Option.some.inj h)
                have hc2 : w.cell? ⟨b, off + 1, none⟩ = some (.int .u8 (r[0].toNat : Int)) := hc1
                clear HD hz hc1
                generalize (r[0]).toNat = cc at *
                generalize Fm.val (r.take 0) = x at *
                go_wp2_with fail
                go_round
                case rel => exact ⟨1, by omega, by omega, by go_num, by rw [hs.out]; go_num, fun _ => hok.out⟩
                case measure => simp [intOf]; omega
            · have hne : (((j + 1 : Nat) : Int) == 1) = false := by rw [beq_eq_false_iff_ne]; omega
              have hok : Hid (r.head? ≠ some 0) := HH.out (by omega)
              generalize (r[j]).toNat = cc at *
              generalize Fm.val (r.take j) = x at *
              go_wp2_with fail
              go_round
              case rel => exact ⟨j + 1, by omega, by omega, by go_num, by rw [hs.out]; go_num, fun _ => hok.out⟩
              case measure => simp [intOf]; omega
          · have hno : Hid (¬ (0 < kk ∧ r.head? = some 0)) := by
              rintro ⟨_, h⟩
              by_cases hj0 : j = 0
              · have : r = [] := List.eq_nil_of_length_eq_zero (by have := HM.out; omega)
                rw [this] at h; simp at h
              · exact HH.out (by omega) h
            have hsh : Hid (m < kk) := by show m < kk; omega
            generalize Fm.val (r.take j) = x at *
            go_wp2_with fail
            go_ret3
            rw [HRES.out, if_neg hno.out, if_pos hsh.out]
            exact ⟨rfl, rfl⟩
        · obtain rfl : j = kk := by omega
          have hno : Hid (¬ (0 < j ∧ r.head? = some 0)) := fun ⟨h0, h⟩ => HH.out h0 h
          have hsh : Hid (¬ m < j) := by show ¬ m < j; omega
          generalize Fm.val (r.take j) = x at *
          go_wp2_with fail
          go_ret3
          rw [HRES.out, if_neg hno.out, if_neg hsh.out]
          have := HM.out
          exact ⟨j + 1, by rw [show (((j + 1 : Nat) : Int)) = 1 + (j : Int) by omega]; rfl, by omega, rfl, by simp; omega, rfl⟩
end Go.Proofs.YtcacebkbfnnjbaaDoor
