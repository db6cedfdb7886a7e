/-
  Parts that the statement rests on, joined: Digs, Rdigs.
-/
import Derived.Test.YtcacebkbfnnjbaaDoorV1
import Derived.Test.YtcacebkbfnnjbaaDoorV8
import Derived.LoopTactic
import Derived.Outline
/-
  What appendDigits puts behind a slice of the caller's own, and what fromDigits and cutBytes answer.
-/




namespace Go.Proofs.YtcacebkbfnnjbaaDoor
open Go.RowKit


theorem appendDigits_any (n : Nat) (_hn : n < 72057594037927936) (k : Nat) (hk : k ≤ 7) (w : World) (base : Nat) (v : Value) (l : List UInt8) (hown : Own w base 5 v l) (hl : l.length ≤ 100000) (hbase : base ≤ w.heap.size) :
    Calls Tryd.prog 64 #[v, .int .i64 n, .int .i64 k] w fun e w' => ∃ v', e = .returned v' ∧ Own w' base 5 v' (l ++ Fm.digs n k) ∧ Below base w w' := by
  have HO := Lib.hid hown
  clear hown
  go_enter Tryd.func64, Tryd.ntmps64
  go_wp2
  go_loopw [0, 7] (fun x i wr => ∃ j : Nat, ∃ l', j ≤ k ∧ i = .int .i64 ((j : Int) - 1) ∧ l' ++ Fm.digs n j = l ++ Fm.digs n k ∧ Own wr base 5 x l' ∧ Below base w wr) (fun _ i _ => (intOf i + 1).toNat)
  case atStart => exact ⟨k, l, Nat.le_refl _, rfl, rfl, HO.out, Below.refl _ _⟩
  case round =>
    obtain ⟨j, l', hj, rfl, hll, hown, hb⟩ := hrel
    have hlen : l'.length ≤ 100007 := by have := congrArg List.length hll; simp only [List.length_append, Fm.digs_length] at this; omega
    have HL := Lib.hid hll
    clear hll
    have hbs : base ≤ wr.heap.size := by have := hb.size; omega
    by_cases h0 : 0 < j
    · obtain ⟨i, rfl⟩ : ∃ i, j = i + 1 := ⟨j - 1, by omega⟩
      have he : ((i + 1 : Nat) : Int) - 1 = (i : Int) := by omega
      rw [he]
      clear he
      have hX : (n : Int) / 2 ^ (8 * i) % 256 = ((n / 256 ^ i % 256 : Nat) : Int) := by
        rw [show (256 : Nat) ^ i = 2 ^ (8 * i) by rw [Nat.pow_mul]]
        simp
      have HX := Lib.hid (u8_cell hX (by omega))
      clear hX
      go_wp2_with (at_builtin; refine wpList_append_sl rfl _ (.tmp 20) rfl rowB base _ l' rfl (hown.alloc _) (wr.heap.size + 1) _ [UInt8.ofNat (n / 256 ^ i % 256)] rfl (Sl.new1 wr _ _ _ trivial HX.out) (by unfold maxLen; simp; omega) (by simp; omega) (by simp; omega) ?_; intro v2 w2 hown2 hg2 hat2; have hb2 := below_of_own (hb.alloc hbs _) (hown.alloc _) hg2 (by simp; omega); clear hg2 hat2 hown)
      go_roundw
      case rel =>
        have := HL.out
        exact ⟨i, _, by omega, by go_num, by rw [List.append_assoc]; exact this, hown2, hb2⟩
      case measure => simp [intOf]
    · have hj0 : j = 0 := by omega
      subst hj0
      have hL := HL.out
      rw [Fm.digs, List.append_nil] at hL
      have HL2 := Lib.hid hL
      clear hL
      go_wp2
      go_ret
      exact ⟨_, rfl, by rw [← HL2.out]; exact hown, hb⟩
end Go.Proofs.YtcacebkbfnnjbaaDoor

/-
  What the reference's digits answers.
-/

namespace Go.Proofs.YtcacebkbfnnjbaaDoor
open Go.RowKit

theorem rowZB : RowZ Tryd.prog 28 5 1 (0 : UInt8) := by
  obtain ⟨i, hi, hz, hsz, hby⟩ := info_parts (show (Tryd.prog.info? 5).map (fun i => (i.zero, i.size, i.bytes)) = some (some (.int .u8 0), 1, 1) by kernel_rfl)
  exact ⟨Tryd.underlying28, i, _, hi, hz, hsz, hby, rfl⟩

theorem drop_set {α : Type} (m : List α) (j : Nat) (a : α) (h : j < m.length) : (m.set j a).drop j = a :: m.drop (j + 1) := by
  rw [List.drop_eq_getElem_cons (by simpa using h), List.getElem_set_self]
  congr 1
  apply List.ext_getElem?
  intro i
  rw [List.getElem?_drop, List.getElem?_drop, List.getElem?_set_ne (by omega)]
theorem refDigits_any (n : Nat) (hn : n < 72057594037927936) (k : Nat) (hk : k ≤ 7) (w : World) :
    Calls Tryd.prog 57 #[.int .i64 n, .int .i64 k] w fun e w' => ∃ A c, e = .returned (.slice A k c) ∧ Own w' w.heap.size 5 (.slice A k c) (Fm.digs n k) ∧ Below w.heap.size w w' := by
  go_enter Tryd.func57, Tryd.ntmps57
  go_wp2_with (refine wpList_make_sl rowZB trivial rfl (.tmp 7) (.tmp 7) rfl w.heap.size .i64 .i64 _ _ k rfl rfl rfl rfl (by omega) (by unfold maxLen; omega) (Nat.le_refl _) ?_; intro w1 hown1 hg1; have hb1 := (Below.refl w.heap.size w).grown hg1 (Nat.le_refl _) (by intro k h; cases h); clear hg1)
  generalize hg : w.heap.size = g at *
  have HG := Lib.hid hg
  clear hg
  have HO := Lib.hid hown1
  have HB := Lib.hid hb1
  clear hown1 hb1
  go_loopw [0, 6] (fun x i wr => ∃ j : Nat, ∃ m : List UInt8, j ≤ k ∧ i = .int .i64 ((j : Int) - 1) ∧ x = .int .i64 ((n / 256 ^ (k - j) : Nat) : Int) ∧ m.length = k ∧ m.drop j = Fm.digs n (k - j) ∧ Own wr g 5 (.slice (some ⟨g, 0, none⟩) k k) m ∧ Below g w wr) (fun _ i _ => (intOf i + 1).toNat)
  case atStart => exact ⟨k, List.replicate k 0, Nat.le_refl _, rfl, by rw [Nat.sub_self, Nat.pow_zero, Nat.div_one], by simp, by rw [Nat.sub_self]; simp [Fm.digs], HO.out, HB.out⟩
  case round =>
    obtain ⟨j, m, hj, rfl, rfl, hml, hdr, hown, hb⟩ := hrel
    by_cases h0 : 0 < j
    · obtain ⟨i, rfl⟩ : ∃ i, j = i + 1 := ⟨j - 1, by omega⟩
      have he : ((i + 1 : Nat) : Int) - 1 = (i : Int) := by omega
      rw [he]
      clear he
      obtain ⟨b, off, ha, _, hcell⟩ := hown.sl.byte i (by omega)
      injection ha with ha
      injection ha with ha1 ha2
      subst ha1 ha2
      rw [Nat.zero_add] at hcell
      obtain ⟨g', ha, _, _, hfr⟩ := hown.at_ (by omega)
      injection ha with ha
      injection ha with ha1
      subst ha1
      have hfi := hfr i
      have hq : n / 256 ^ (k - (i + 1)) < 72057594037927936 := Nat.lt_of_le_of_lt (Nat.div_le_self _ _) hn
      have hq2 : n / 256 ^ (k - i) = n / 256 ^ (k - (i + 1)) / 256 := by
        rw [show k - i = (k - (i + 1)) + 1 by omega, Nat.pow_succ, Nat.div_div_eq_div_mul]
      have hst := hown.store1 rfl i (a := UInt8.ofNat (n / 256 ^ (k - (i + 1)) % 256)) (u := .int .u8 ((n / 256 ^ (k - (i + 1)) : Nat) % 256 : Int)) (u8_cell (by omega) (by omega)) trivial
      have hds : (m.set i (UInt8.ofNat (n / 256 ^ (k - (i + 1)) % 256))).drop i = Fm.digs n (k - i) := by
        rw [drop_set _ _ _ (by omega), hdr, show k - i = (k - (i + 1)) + 1 by omega]; rfl
      have HQ2 := Lib.hid hq2
      have HST := Lib.hid hst
      have HDS := Lib.hid hds
      have HML := Lib.hid hml
      generalize (m[i]).toNat = u at hcell
      clear hq2 hst hds hml hdr hfr hown
      generalize hy : n / 256 ^ (k - (i + 1)) = y at *
      clear hy
      go_wp2_with fail
      go_roundw
      case rel =>
        refine ⟨i, _, by omega, rfl, by rw [HQ2.out]; go_num, by rw [List.length_set]; exact HML.out, HDS.out, HST.out, hb.setCell (Nat.le_refl _) _⟩
      case measure => simp [intOf]
    · have hj0 : j = 0 := by omega
      subst hj0
      rw [List.drop_zero, Nat.sub_zero] at hdr
      have HD := Lib.hid hdr
      clear hdr hml
      go_wp2_with fail
      go_ret
      have h := HG.out
      subst h
      exact ⟨_, _, rfl, by rw [← HD.out]; exact hown, hb⟩
end Go.Proofs.YtcacebkbfnnjbaaDoor
