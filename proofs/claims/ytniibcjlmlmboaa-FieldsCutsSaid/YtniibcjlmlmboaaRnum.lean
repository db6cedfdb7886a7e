/-
  What the reference's number answers.
-/
import Derived.Test.YtniibcjlmlmboaaFrom
namespace Go.Proofs.Ytniibcjlmlmboaa
open Go.RowKit

/-- The number that bytes begin with, and how many bytes it has; or an error. -/
def RNumOut (w : World) (l : List UInt8) : Fm.Got Int → Ending → World → Prop
  | .err er, e, w' => e = .returned (.tuple #[.int .i64 0, .int .i64 0, .int .i64 er]) ∧ w = w'
  | .ok m r, e, w' => ∃ k : Nat, e = .returned (.tuple #[.int .i64 m, .int .i64 k, .int .i64 0]) ∧ k ≤ 8 ∧ r = l.drop k ∧ k ≤ l.length ∧ w = w'

/-- The bytes r lie behind a first one. -/
def Tail1 (w : World) (b off : Nat) (r : List UInt8) : Prop := ∀ j (hj : j < r.length), w.cell? ⟨b, off + (j + 1), none⟩ = some (.int .u8 ((r[j]).toNat : Int))
set_option maxRecDepth 100000 in
theorem refNumber_any (v : Value) (l : List UInt8) (hl : l.length ≤ 1000000) (w : World) (B : Nat) (hv : Sl w B v l) :
    Calls Try.prog 26 #[v] w (RNumOut w l (Fm.cutN l)) := by
  obtain ⟨A, c, rfl, hc, _⟩ := hv.form
  match l with
  | [] =>
    clear hv
    go_enter Try.func26, Try.ntmps26
    go_wp2_with fail
    go_ret3
    exact ⟨rfl, rfl⟩
  | k :: r =>
    obtain ⟨b, off, rfl, _, h0⟩ := hv.byte 0 (by simp)
    have hcell : Tail1 w b off r := by
      intro j hj
      obtain ⟨b', off', e, _, h1⟩ := hv.byte (j + 1) (by simpa using hj)
      injection e with e
      injection e with e1 e2
      subst e1 e2
      exact h1
    have hk : k.toNat < 256 := k.toNat_lt
    simp only [List.getElem_cons_zero, Nat.add_zero] at h0
    have hln : (k :: r).length = r.length + 1 := rfl
    have hrl : r.length ≤ 1000000 := by omega
    have hkk : Fm.cutN (k :: r) = if 7 < k.toNat then .err 2 else if 0 < k.toNat ∧ r.head? = some 0 then .err 2 else if r.length < k.toNat then .err 3 else .ok (Fm.val (r.take k.toNat) : Int) (r.drop k.toNat) := rfl
    rw [hkk]
    rw [hln] at hc ⊢
    clear hkk hln hl hv
    generalize k.toNat = kk at *
    have HC := Lib.hid hcell
    clear hcell
    by_cases h7 : 7 < kk
    · rw [if_pos h7]
      generalize r.length = m at *
      go_enter Try.func26, Try.ntmps26
      go_wp2_with fail
      go_ret3
      exact ⟨rfl, rfl⟩
    · rw [if_neg h7]
      generalize hm : r.length = m at *
      have HM := Lib.hid hm
      clear hm
      have hL0 : 0 < m + 1 := by omega
      have hLe : ((((m + 1 : Nat) : Int)) == 0) = false := by rw [beq_eq_false_iff_ne]; omega
      have hLm : m + 1 ≤ 1000001 := by omega
      generalize hL : m + 1 = L at *
      have HL := Lib.hid hL
      clear hL
      generalize hres : (if 0 < kk ∧ r.head? = some 0 then Fm.Got.err 2 else if m < kk then Fm.Got.err 3 else Fm.Got.ok (Fm.val (r.take kk) : Int) (r.drop kk)) = res
      have HRES := Lib.hid hres.symm
      clear hres
      go_enter Try.func26, Try.ntmps26
      go_wp2_with fail
      go_loop [6, 7] (fun x i => ∃ j : Nat, j ≤ kk ∧ j ≤ m ∧ i = .int .i64 ((j + 1 : Nat) : Int) ∧ x = .int .i64 (Fm.val (r.take j) : Int) ∧ (0 < j → r.head? ≠ some 0)) (fun _ i => kk + 1 - (intOf i).toNat)
      case atStart => exact ⟨0, Nat.zero_le _, Nat.zero_le _, rfl, rfl, fun h => absurd h (by omega)⟩
      case round =>
        obtain ⟨j, hj, hjm, rfl, rfl, hh⟩ := hrel
        have hLL := HL.out
        have HH := Lib.hid hh
        clear hh
        by_cases hlt : j < kk
        · by_cases hm : j < m
          · have hjr : j < r.length := by have := HM.out; omega
            have hc1 := HC.out j hjr
            have hs := Lib.hid (val_take_succ r j hjr)
            have hcb : (r[j]).toNat < 256 := (r[j]).toNat_lt
            have hvb : Fm.val (r.take j) < 281474976710656 := by
              have := Fm.val_lt (r.take j)
              have hp : 256 ^ (r.take j).length ≤ 256 ^ 6 := Nat.pow_le_pow_right (by omega) (by rw [List.length_take]; omega)
              omega
            by_cases hj0 : j = 0
            · subst hj0
              have hhd : r.head? = some r[0] := by cases r with
                | nil => simp at hjr
                | cons a t => rfl
              have HD := Lib.hid hhd
              clear hhd
              by_cases hz : r[0] = 0
              · have hc2 : w.cell? ⟨b, off + 1, none⟩ = some (.int .u8 0) := by rw [hz] at hc1; exact hc1
                have hfin : Hid (0 < kk ∧ r.head? = some 0) := ⟨by omega, by rw [HD.out, hz]⟩
                clear hc1 hs hcb hvb HD hz
                go_wp2_with fail
                go_ret3
                rw [HRES.out, if_pos hfin.out]
                exact ⟨rfl, rfl⟩
              · have hne : ((r[0].toNat : Int) == 0) = false := by
                  rw [beq_eq_false_iff_ne]
                  exact fun e => hz (UInt8.toNat_inj.1 (by simpa using e))
                have hok : Hid (r.head? ≠ some 0) := fun h => hz (by rw [HD.out] at h; exact Option.some.inj h)
                have hc2 : w.cell? ⟨b, off + 1, none⟩ = some (.int .u8 (r[0].toNat : Int)) := hc1
                clear HD hz hc1
                generalize (r[0]).toNat = cc at *
                generalize Fm.val (r.take 0) = x at *
                go_wp2_with fail
                go_round
                case rel => exact ⟨1, by omega, by omega, by go_num, by rw [hs.out]; go_num, fun _ => hok.out⟩
                case measure => simp [intOf]; omega
            · have hne : (((j + 1 : Nat) : Int) == 1) = false := by rw [beq_eq_false_iff_ne]; omega
              have hok : Hid (r.head? ≠ some 0) := HH.out (by omega)
              generalize (r[j]).toNat = cc at *
              generalize Fm.val (r.take j) = x at *
              go_wp2_with fail
              go_round
              case rel => exact ⟨j + 1, by omega, by omega, by go_num, by rw [hs.out]; go_num, fun _ => hok.out⟩
              case measure => simp [intOf]; omega
          · have hno : Hid (¬ (0 < kk ∧ r.head? = some 0)) := by
              rintro ⟨_, h⟩
              by_cases hj0 : j = 0
              · have : r = [] := List.eq_nil_of_length_eq_zero (by have := HM.out; omega)
                rw [this] at h; simp at h
              · exact HH.out (by omega) h
            have hsh : Hid (m < kk) := by show m < kk; omega
            generalize Fm.val (r.take j) = x at *
            go_wp2_with fail
            go_ret3
            rw [HRES.out, if_neg hno.out, if_pos hsh.out]
            exact ⟨rfl, rfl⟩
        · obtain rfl : j = kk := by omega
          have hno : Hid (¬ (0 < j ∧ r.head? = some 0)) := fun ⟨h0, h⟩ => HH.out h0 h
          have hsh : Hid (¬ m < j) := by show ¬ m < j; omega
          generalize Fm.val (r.take j) = x at *
          go_wp2_with fail
          go_ret3
          rw [HRES.out, if_neg hno.out, if_neg hsh.out]
          have := HM.out
          exact ⟨j + 1, by rw [show (((j + 1 : Nat) : Int)) = 1 + (j : Int) by omega]; rfl, by omega, rfl, by simp; omega, rfl⟩
end Go.Proofs.Ytniibcjlmlmboaa
