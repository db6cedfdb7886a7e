/-
  What the reference's Same answers of two that are the same; bytes turned into a string.
-/
import Derived.Test.YtniibcjlmlmboaaTy
import Derived.Deep.QuietTactic
import Derived.BigQuiet
import Derived.LoopTactic
import Derived.Outline
namespace Go.Proofs.Ytniibcjlmlmboaa
open Go.RowKit

/-- The string of bytes. -/
def strOf (l : List UInt8) : ByteArray := ⟨l.toArray⟩
theorem strOf_toList (l : List UInt8) : (strOf l).toList = l := ByteArray.toList_mk l
theorem cells_bytes (l : List UInt8) : cells l = (l.map fun b => (b.toNat : Int)).map (Value.int .u8) := by
  induction l with
  | nil => rfl
  | cons a l ih =>
    have e : cells (a :: l) = Flat.enc a ++ cells l := rfl
    rw [e, ih]; rfl
theorem conv_sl {w : World} {B n c : Nat} {A : Option Addr} {l : List UInt8} (h : Sl w B (.slice A n c) l) : (convert 23 9 (.slice A n c)).run Try.prog w = .ok (.string (strOf l)) w := by
  have hr := h.room
  obtain ⟨_, hx⟩ := sl_cells h
  have hc1 := cells_len l (bwf l)
  rw [show Rep.sz UInt8 = 1 from rfl, Nat.mul_one] at hc1
  rcases A with _ | ad
  · have hn : n = 0 := by
      rcases hx with h | ⟨b, off, h, _⟩
      · exact h
      · cases h
    have hl : l = [] := List.eq_nil_of_length_eq_zero (by omega)
    subst hl hn
    rw [run_convert_bytes_nil w 23 5 Try.underlying23 Try.underlying5 _ _ 9 Try.underlying9]
    rfl
  · have hcells : ∀ j x, (cells l)[j]? = some x → w.cell? (ad.add j) = some x := by
      intro j x hj
      rcases hx with h0 | ⟨b, off, h, _, h2⟩
      · have : l = [] := List.eq_nil_of_length_eq_zero (by omega)
        subst this
        simp [cells] at hj
      · injection h with h
        subst h
        rw [add_at]
        exact h2 j x hj
    have hload := run_loadCells_list (P := Try.prog) w ad (cells l) hcells
    rw [hc1, hr.1, cells_bytes] at hload
    rw [run_convert_bytes_string w 23 9 5 _ _ _ Try.underlying23 Try.underlying5 Try.underlying9, run_bytesToString w ad n c _ hload, foldl_push_bytes]
    have e : (l.map fun b => (b.toNat : Int)).map (fun n => UInt8.ofNat n.toNat) = l := by
      rw [List.map_map]
      conv => rhs; rw [← List.map_id l]
      apply List.map_congr_left
      intro a _
      simp
    rw [e]
    simp [strOf, ByteArray.empty, ByteArray.emptyWithCapacity]
    rfl

set_option maxRecDepth 100000 in
theorem same_any (sN sD sM sE : Value) (N : List Int) (D : List UInt8) (w : World) (B : Nat) (hB : B ≤ w.heap.size) (hN : Sl w B sN N) (hD : Sl w B sD D) (hM : Sl w B sM N) (hE : Sl w B sE D) :
    Calls Try.prog 20 #[.agg #[sN, sD], .agg #[sM, sE]] w fun e w' => e = .returned (.bool true) ∧ Below w.heap.size w w' := by
  obtain ⟨A1, c1, rfl, _, hm1⟩ := hN.form
  obtain ⟨A2, c2, rfl, _, hm2⟩ := hD.form
  obtain ⟨A3, c3, rfl, _, hm3⟩ := hM.form
  obtain ⟨A4, c4, rfl, _, hm4⟩ := hE.form
  have hb0 : Below w.heap.size w ((w.alloc (.cells #[.slice A1 N.length c1, .slice A2 D.length c2] 25)).alloc (.cells #[.slice A3 N.length c3, .slice A4 D.length c4] 25)) := ((Below.refl _ _).alloc (Nat.le_refl _) _).alloc (by simp) _
  have hw0 := (Whole.new w 25 #[.slice A1 N.length c1, .slice A2 D.length c2]).alloc (.cells #[.slice A3 N.length c3, .slice A4 D.length c4] 25)
  have hw1 := Whole.new (w.alloc (.cells #[.slice A1 N.length c1, .slice A2 D.length c2] 25)) 25 #[.slice A3 N.length c3, .slice A4 D.length c4]
  rw [World.size_alloc] at hw1
  have q1 := conv_sl (hD.below (hb0.mono hB))
  have q2 := conv_sl (hE.below (hb0.mono hB))
  have hn0 := Lib.hid (fun W (hW : Below w.heap.size w W) => hN.below (hW.mono hB))
  have hm0 := Lib.hid (fun W (hW : Below w.heap.size w W) => hM.below (hW.mono hB))
  have HB0 := Lib.hid hb0
  have HW0 := Lib.hid hw0
  have HW1 := Lib.hid hw1
  have hnm := hN.room.2
  unfold maxLen at hnm
  clear hb0 hw0 hw1 hN hD hM hE
  generalize strOf D = S at *
  generalize D.length = d at *
  generalize hn : N.length = n at *
  have HNL := Lib.hid hn
  clear hn
  go_enter Try.func20, Try.ntmps20
  go_wp2_with fail
  clear q1 q2
  go_loopw [5] (fun i wr => ∃ k : Nat, k ≤ n ∧ i = .int .i64 (k : Int) ∧ Whole wr w.heap.size 25 #[.slice A1 n c1, .slice A2 d c2] ∧ Whole wr (w.heap.size + 1) 25 #[.slice A3 n c3, .slice A4 d c4] ∧ Below w.heap.size w wr) (fun i _ => n - (intOf i).toNat)
  case atStart => exact ⟨0, Nat.zero_le _, rfl, HW0.out, HW1.out, HB0.out⟩
  case round =>
    obtain ⟨k, hk, rfl, hw0, hw1, hb⟩ := hrel
    have k0 : wr.cell? ⟨w.heap.size, 0, none⟩ = some (.slice A1 n c1) := hw0.cell 0
    have k1 : wr.cell? ⟨w.heap.size + 1, 0, none⟩ = some (.slice A3 n c3) := hw1.cell 0
    by_cases hlt : k < n
    · have hkl : k < N.length := by have := HNL.out; omega
      obtain ⟨b1, o1, rfl, _, g1, _⟩ := (hn0.out wr hb).int k hkl
      obtain ⟨b2, o2, rfl, _, g2, _⟩ := (hm0.out wr hb).int k hkl
      generalize N[k] = x at *
      have i1 : (0 : Int) ≤ (k : Int) := by omega
      have i2 : (k : Int) < (n : Int) := by omega
      have hx : (x != x) = false := by simp
      have HWA := Lib.hid hw0
      have HWB := Lib.hid hw1
      have HB := Lib.hid hb
      clear hw0 hw1 hb
      go_wp2_with fail
      go_quiet (fail)
      go_wp2_with fail
      go_roundw
      case rel => exact ⟨k + 1, by omega, by go_num, HWA.out, HWB.out, below_drewN HB.out _⟩
      case measure => simp [intOf]; omega
    · have HB := Lib.hid hb
      clear hw0 hw1 hb
      go_wp2_with fail
      go_ret
      exact ⟨rfl, HB.out⟩
end Go.Proofs.Ytniibcjlmlmboaa
