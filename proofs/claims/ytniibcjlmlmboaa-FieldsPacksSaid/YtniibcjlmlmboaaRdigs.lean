/-
  What the reference's digits answers.
-/
import Derived.Test.YtniibcjlmlmboaaDigs
namespace Go.Proofs.Ytniibcjlmlmboaa
open Go.RowKit

theorem rowZB : RowZ Try.prog 23 5 1 (0 : UInt8) := by
  obtain ⟨i, hi, hz, hsz, hby⟩ := info_parts (show (Try.prog.info? 5).map (fun i => (i.zero, i.size, i.bytes)) = some (some (.int .u8 0), 1, 1) by kernel_rfl)
  exact ⟨Try.underlying23, i, _, hi, hz, hsz, hby, rfl⟩

theorem drop_set {α : Type} (m : List α) (j : Nat) (a : α) (h : j < m.length) : (m.set j a).drop j = a :: m.drop (j + 1) := by
  rw [List.drop_eq_getElem_cons (by simpa using h), List.getElem_set_self]
  congr 1
  apply List.ext_getElem?
  intro i
  rw [List.getElem?_drop, List.getElem?_drop, List.getElem?_set_ne (by omega)]
theorem refDigits_any (n : Nat) (hn : n < 72057594037927936) (k : Nat) (hk : k ≤ 7) (w : World) :
    Calls Try.prog 22 #[.int .i64 n, .int .i64 k] w fun e w' => ∃ A c, e = .returned (.slice A k c) ∧ Own w' w.heap.size 5 (.slice A k c) (Fm.digs n k) ∧ Below w.heap.size w w' := by
  go_enter Try.func22, Try.ntmps22
  go_wp2_with (refine wpList_make_sl rowZB trivial rfl (.tmp 7) (.tmp 7) rfl w.heap.size .i64 .i64 _ _ k rfl rfl rfl rfl (by omega) (by unfold maxLen; omega) (Nat.le_refl _) ?_; intro w1 hown1 hg1; have hb1 := (Below.refl w.heap.size w).grown hg1 (Nat.le_refl _) (by intro k h; cases h); clear hg1)
  generalize hg : w.heap.size = g at *
  have HG := Lib.hid hg
  clear hg
  have HO := Lib.hid hown1
  have HB := Lib.hid hb1
  clear hown1 hb1
  go_loopw [0, 6] (fun x i wr => ∃ j : Nat, ∃ m : List UInt8, j ≤ k ∧ i = .int .i64 ((j : Int) - 1) ∧ x = .int .i64 ((n / 256 ^ (k - j) : Nat) : Int) ∧ m.length = k ∧ m.drop j = Fm.digs n (k - j) ∧ Own wr g 5 (.slice (some ⟨g, 0, none⟩) k k) m ∧ Below g w wr) (fun _ i _ => (intOf i + 1).toNat)
  case atStart => exact ⟨k, List.replicate k 0, Nat.le_refl _, rfl, by rw [Nat.sub_self, Nat.pow_zero, Nat.div_one], by simp, by rw [Nat.sub_self]; simp [Fm.digs], HO.out, HB.out⟩
  case round =>
    obtain ⟨j, m, hj, rfl, rfl, hml, hdr, hown, hb⟩ := hrel
    by_cases h0 : 0 < j
    · obtain ⟨i, rfl⟩ : ∃ i, j = i + 1 := ⟨j - 1, by omega⟩
      have he : ((i + 1 : Nat) : Int) - 1 = (i : Int) := by omega
      rw [he]
      clear he
      obtain ⟨b, off, ha, _, hcell⟩ := hown.sl.byte i (by omega)
      injection ha with ha
      injection ha with ha1 ha2
      subst ha1 ha2
      rw [Nat.zero_add] at hcell
      obtain ⟨g', ha, _, _, hfr⟩ := hown.at_ (by omega)
      injection ha with ha
      injection ha with ha1
      subst ha1
      have hfi := hfr i
      have hq : n / 256 ^ (k - (i + 1)) < 72057594037927936 := Nat.lt_of_le_of_lt (Nat.div_le_self _ _) hn
      have hq2 : n / 256 ^ (k - i) = n / 256 ^ (k - (i + 1)) / 256 := by
        rw [show k - i = (k - (i + 1)) + 1 by omega, Nat.pow_succ, Nat.div_div_eq_div_mul]
      have hst := hown.store1 rfl i (a := UInt8.ofNat (n / 256 ^ (k - (i + 1)) % 256)) (u := .int .u8 ((n / 256 ^ (k - (i + 1)) : Nat) % 256 : Int)) (u8_cell (by omega) (by omega)) trivial
      have hds : (m.set i (UInt8.ofNat (n / 256 ^ (k - (i + 1)) % 256))).drop i = Fm.digs n (k - i) := by
        rw [drop_set _ _ _ (by omega), hdr, show k - i = (k - (i + 1)) + 1 by omega]; rfl
      have HQ2 := Lib.hid hq2
      have HST := Lib.hid hst
      have HDS := Lib.hid hds
      have HML := Lib.hid hml
      generalize (m[i]).toNat = u at hcell
      clear hq2 hst hds hml hdr hfr hown
      generalize hy : n / 256 ^ (k - (i + 1)) = y at *
      clear hy
      go_wp2_with fail
      go_roundw
      case rel =>
        refine ⟨i, _, by omega, rfl, by rw [HQ2.out]; go_num, by rw [List.length_set]; exact HML.out, HDS.out, HST.out, hb.setCell (Nat.le_refl _) _⟩
      case measure => simp [intOf]
    · have hj0 : j = 0 := by omega
      subst hj0
      rw [List.drop_zero, Nat.sub_zero] at hdr
      have HD := Lib.hid hdr
      clear hdr hml
      go_wp2_with fail
      go_ret
      have h := HG.out
      subst h
      exact ⟨_, _, rfl, by rw [← HD.out]; exact hown, hb⟩
end Go.Proofs.Ytniibcjlmlmboaa
