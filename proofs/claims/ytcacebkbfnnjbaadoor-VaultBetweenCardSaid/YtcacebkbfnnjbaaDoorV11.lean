/-
  Parts that the statement rests on, joined: Put, Rput.
-/
import Derived.Test.YtcacebkbfnnjbaaDoorV3
import Derived.Test.YtcacebkbfnnjbaaDoorV10
import Derived.Outline
/-
  What Put answers.
-/



namespace Go.Proofs.YtcacebkbfnnjbaaDoor
open Go.RowKit

def PutOut (w : World) (p : List UInt8 × Int) (e : Ending) (w' : World) : Prop :=
  ∃ A c, e = .returned (.tuple #[.slice A p.1.length c, .int .i64 p.2]) ∧ Own w' w.heap.size 5 (.slice A p.1.length c) p.1 ∧ Below w.heap.size w w'
theorem putOut_err (w w' : World) (er : Int) (h : Below w.heap.size w w') : PutOut w ([], er) (.returned (.tuple #[.slice none 0 0, .int .i64 er])) w' :=
  ⟨none, 0, rfl, Own.nil _ _ _, h⟩

theorem putOut_of {w w' : World} {l : List UInt8} {n c : Nat} {A : Option Addr} {er : Int} (hl : l.length = n) (h : Own w' w.heap.size 5 (.slice A n c) l) (hb : Below w.heap.size w w') : PutOut w (l, er) (.returned (.tuple #[.slice A n c, .int .i64 er])) w' := by
  subst hl
  exact ⟨A, c, rfl, h, hb⟩
theorem put_bad {f : Frm.F} (h : f.1 < 0 ∨ 255 < f.1) : Frm.put f = ([], 1) := by unfold Frm.put; rw [if_pos h]
theorem put_full {f : Frm.F} (h : ¬ (f.1 < 0 ∨ 255 < f.1)) (h2 : 4096 < f.2.length) : Frm.put f = ([], 7) := by unfold Frm.put; rw [if_neg h, if_pos h2]

theorem raw_cells {j n : Nat} (hj : j < 256) (hn : n < 65536) : (cells [83, UInt8.ofNat j, UInt8.ofNat (n / 256), UInt8.ofNat (n % 256)] : List Value) = (#[.int .u8 83, .int .u8 (j : Int), .int .u8 ((n : Int) / 256), .int .u8 ((n : Int) % 256)] : Array Value).toList := by
  have e : (cells [83, UInt8.ofNat j, UInt8.ofNat (n / 256), UInt8.ofNat (n % 256)] : List Value) = Flat.enc (83 : UInt8) ++ (Flat.enc (UInt8.ofNat j) ++ (Flat.enc (UInt8.ofNat (n / 256)) ++ (Flat.enc (UInt8.ofNat (n % 256)) ++ []))) := rfl
  rw [e, u8_cell (X := (j : Int)) rfl hj, u8_cell (X := (n : Int) / 256) (by omega) (by omega), u8_cell (X := (n : Int) % 256) (by omega) (by omega)]
  rfl

set_option maxRecDepth 100000 in
theorem put_any (k : Int) (sB : Value) (b : List UInt8) (w : World) (B : Nat) (hB : B ≤ w.heap.size) (hb : Sl w B sB b) (hT : Tab w) :
    Calls Tryd.prog 55 #[.agg #[.int .i64 k, sB]] w (PutOut w (Frm.put (k, b))) := by
  obtain ⟨A, c, rfl, _, hm⟩ := hb.form
  unfold maxLen at hm
  have hb0 : Below w.heap.size w (w.alloc (.cells #[.int .i64 k, .slice A b.length c] 75)) := (Below.refl _ _).alloc (Nat.le_refl _) _
  by_cases h1 : k < 0 ∨ 255 < k
  · rw [put_bad h1]
    clear hb hT
    generalize b.length = n at *
    rcases (show k < 0 ∨ (0 ≤ k ∧ 255 < k) by omega) with h | ⟨h, h2⟩
    · clear h1
      go_enter Tryd.func55, Tryd.ntmps55
      go_wp2_with fail
      go_ret2
      exact putOut_err _ _ _ hb0
    · clear h1
      have hd : decide (k < 0) = false := by simp; omega
      go_enter Tryd.func55, Tryd.ntmps55
      go_wp2_with fail
      go_ret2
      exact putOut_err _ _ _ hb0
  · have hk1 : 0 ≤ k := by omega
    have hk2 : k ≤ 255 := by omega
    have hd : decide (k < 0) = false := by simp; omega
    by_cases h2 : 4096 < b.length
    · rw [put_full h1 h2]
      clear hb hT h1
      generalize b.length = n at *
      go_enter Tryd.func55, Tryd.ntmps55
      go_wp2_with fail
      go_ret2
      exact putOut_err _ _ _ hb0
    · have hn : b.length ≤ 4096 := by omega
      rw [Frm.put_ok (f := (k, b)) ⟨hk1, hk2, hn⟩]
      clear h1 h2
      obtain ⟨j, rfl⟩ := Int.eq_ofNat_of_zero_le hk1
      have HB := Lib.hid (fun W (hW : Below w.heap.size w W) => hb.below (hW.mono hB))
      have HT := Lib.hid (fun W (hW : Below w.heap.size w W) => hT.below hW hT.pos)
      have HE : Hid (Frm.enc ((j : Int), b) = seal_ (Frm.raw j b.length b)) := rfl
      clear hb hT
      generalize hnl : b.length = n at *
      have HN := Lib.hid hnl
      clear hnl
      go_enter Tryd.func55, Tryd.ntmps55
      have ho0 := Own.newL (w.alloc (.cells #[.int .i64 (j : Int), .slice A n c] 75)) (w.heap.size + 1) 5 [83, UInt8.ofNat j, UInt8.ofNat (n / 256), UInt8.ofNat (n % 256)] #[.int .u8 83, .int .u8 (j : Int), .int .u8 ((n : Int) / 256), .int .u8 ((n : Int) % 256)] (bwf _) (raw_cells (by omega) (by omega)) (by unfold maxLen; simp) (by simp)
      rw [World.size_alloc] at ho0
      have HO := Lib.hid ho0
      have hb2 := hb0.alloc (by simp) (.cells #[.int .u8 83, .int .u8 (j : Int), .int .u8 ((n : Int) / 256), .int .u8 ((n : Int) % 256)] 5)
      have HB2 := Lib.hid hb2
      clear ho0 hb2 hb0
      go_wp2_with (at_builtin; refine wpList_append_sl rfl (.tmp 28) (.tmp 30) rfl rowB (w.heap.size + 1) _ [83, UInt8.ofNat j, UInt8.ofNat (n / 256), UInt8.ofNat (n % 256)] rfl HO.out B _ b rfl (HB.out _ HB2.out) (by rw [HN.out]; unfold maxLen; simp; omega) (by rw [HN.out]; simp; omega) (by simp) ?_; intro v3 w3 hown3 hg3 hat3; have hb3 := below_of_own (HB2.out.mono (Nat.le_refl _)) (HO.out.down (Nat.le_succ _)) hg3 (by simp; omega); obtain ⟨A3, c3, hv3, _⟩ := hown3.sl.form; have hl3 : ([83, UInt8.ofNat j, UInt8.ofNat (n / 256), UInt8.ofNat (n % 256)] ++ b).length = n + 4 := (by rw [List.length_append, HN.out]; simp; omega); rw [hl3] at hv3; subst hv3; have HO3 := Lib.hid hown3; have HB3 := Lib.hid hb3; clear hown3 hg3 hat3 hb3 hl3)
      have hc := seal_sl _ (Frm.raw j n b) (by rw [Frm.raw_length, HN.out]; omega) w3 w3.heap.size (Nat.le_refl _) HO3.out.sl (HT.out w3 HB3.out)
      have hz3 := HB3.out.size
      refine (hc).mono ?_
      rintro e w4 ⟨A4, c4, rfl, ho4, hb4⟩
      rw [Frm.raw_length, HN.out] at ho4 ⊢
      have ho5 := ho4.down hz3
      have hb5 := HB3.out.trans (hb4.mono hz3)
      have HE2 := Lib.hid (show (Frm.enc ((j : Int), b)).length = n + 4 + 4 by rw [Frm.enc_length, HN.out])
      clear ho4 hc
      go_wp2_with fail
      go_ret2
      exact putOut_of HE2.out (by rw [HE.out]; exact ho5) hb5
end Go.Proofs.YtcacebkbfnnjbaaDoor

/-
  What the reference's Put answers.
-/


namespace Go.Proofs.YtcacebkbfnnjbaaDoor
open Go.RowKit

set_option maxRecDepth 100000 in
theorem refPut_any (k : Int) (sB : Value) (b : List UInt8) (w : World) (B : Nat) (hB : B ≤ w.heap.size) (hb : Sl w B sB b) :
    Calls Tryd.prog 44 #[.agg #[.int .i64 k, sB]] w (PutOut w (Frm.put (k, b))) := by
  obtain ⟨A, c, rfl, _, hm⟩ := hb.form
  unfold maxLen at hm
  have hb0 : Below w.heap.size w (w.alloc (.cells #[.int .i64 k, .slice A b.length c] 75)) := (Below.refl _ _).alloc (Nat.le_refl _) _
  by_cases h1 : k < 0 ∨ 255 < k
  · rw [put_bad h1]
    clear hb
    generalize b.length = n at *
    rcases (show k < 0 ∨ (0 ≤ k ∧ 255 < k) by omega) with h | ⟨h, h2⟩
    · clear h1
      go_enter Tryd.func44, Tryd.ntmps44
      go_wp2_with fail
      go_ret2
      exact putOut_err _ _ _ hb0
    · clear h1
      have hd : decide (k < 0) = false := by simp; omega
      go_enter Tryd.func44, Tryd.ntmps44
      go_wp2_with fail
      go_ret2
      exact putOut_err _ _ _ hb0
  · have hk1 : 0 ≤ k := by omega
    have hk2 : k ≤ 255 := by omega
    have hd : decide (k < 0) = false := by simp; omega
    by_cases h2 : 4096 < b.length
    · rw [put_full h1 h2]
      clear hb h1
      generalize b.length = n at *
      go_enter Tryd.func44, Tryd.ntmps44
      go_wp2_with fail
      go_ret2
      exact putOut_err _ _ _ hb0
    · have hn : b.length ≤ 4096 := by omega
      rw [Frm.put_ok (f := (k, b)) ⟨hk1, hk2, hn⟩]
      clear h1 h2
      obtain ⟨j, rfl⟩ := Int.eq_ofNat_of_zero_le hk1
      have HB := Lib.hid (fun W (hW : Below w.heap.size w W) => hb.below (hW.mono hB))
      have HE : Hid (Frm.enc ((j : Int), b) = seal_ (Frm.raw j b.length b)) := rfl
      clear hb
      generalize hnl : b.length = n at *
      have HN := Lib.hid hnl
      clear hnl
      go_enter Tryd.func44, Tryd.ntmps44
      have ho0 := Own.newL (w.alloc (.cells #[.int .i64 (j : Int), .slice A n c] 75)) (w.heap.size + 1) 5 [83, UInt8.ofNat j, UInt8.ofNat (n / 256), UInt8.ofNat (n % 256)] #[.int .u8 83, .int .u8 (j : Int), .int .u8 ((n : Int) / 256), .int .u8 ((n : Int) % 256)] (bwf _) (raw_cells (by omega) (by omega)) (by unfold maxLen; simp) (by simp)
      rw [World.size_alloc] at ho0
      have HO := Lib.hid ho0
      have hb2 := hb0.alloc (by simp) (.cells #[.int .u8 83, .int .u8 (j : Int), .int .u8 ((n : Int) / 256), .int .u8 ((n : Int) % 256)] 5)
      have HB2 := Lib.hid hb2
      clear ho0 hb2 hb0
      go_wp2_with (at_builtin; refine wpList_append_sl rfl (.tmp 29) (.tmp 31) rfl rowB (w.heap.size + 1) _ [83, UInt8.ofNat j, UInt8.ofNat (n / 256), UInt8.ofNat (n % 256)] rfl HO.out B _ b rfl (HB.out _ HB2.out) (by rw [HN.out]; unfold maxLen; simp; omega) (by rw [HN.out]; simp; omega) (by simp) ?_; intro v3 w3 hown3 hg3 hat3; have hb3 := below_of_own (HB2.out.mono (Nat.le_refl _)) (HO.out.down (Nat.le_succ _)) hg3 (by simp; omega); obtain ⟨A3, c3, hv3, _⟩ := hown3.sl.form; have hl3 : ([83, UInt8.ofNat j, UInt8.ofNat (n / 256), UInt8.ofNat (n % 256)] ++ b).length = n + 4 := (by rw [List.length_append, HN.out]; simp; omega); rw [hl3] at hv3; subst hv3; have HO3 := Lib.hid hown3; have HB3 := Lib.hid hb3; clear hown3 hg3 hat3 hb3 hl3)
      have hc := refSeal_sl _ (Frm.raw j n b) (by rw [Frm.raw_length, HN.out]; omega) w3 w3.heap.size HO3.out.sl
      have hz3 := HB3.out.size
      refine (hc).mono ?_
      rintro e w4 ⟨A4, c4, rfl, ho4, hb4⟩
      rw [Frm.raw_length, HN.out] at ho4 ⊢
      have ho5 := ho4.down hz3
      have hb5 := HB3.out.trans (hb4.mono hz3)
      have HE2 := Lib.hid (show (Frm.enc ((j : Int), b)).length = n + 4 + 4 by rw [Frm.enc_length, HN.out])
      clear ho4 hc
      go_wp2_with fail
      go_ret2
      exact putOut_of HE2.out (by rw [HE.out]; exact ho5) hb5
end Go.Proofs.YtcacebkbfnnjbaaDoor
