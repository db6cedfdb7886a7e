/-
  The sum of any bytes, behind any sum, is the reference's; so are the sums of half bytes: what the law's text comes to.
-/
import Derived.Test.YthjkokapehmliaaDoorAwake
import Derived.Test.YthjkokapehmliaaDoorNib
import Derived.Test.YthjkokapehmliaaDoorRef
import Derived.Test.YthjkokapehmliaaDoorFrame
import Derived.Deep.DeepCutAuto
import Derived.Deep.QuietTactic
import Derived.BigQuiet
namespace Go.Proofs.YthjkokapehmliaaDoor
open Go.RowKit

theorem quiet_same {P : Program} {f : FuncId} {args : Array Value} {w : World} {n : Nat} {v : Value}
    (h : Calls P f args (w.drewN n) fun e w' => e = .returned v ∧ w.drewN n = w') : Calls P f args (w.drewN n) fun e w'' => e = .returned v ∧ ∃ m, w'' = w.drewN m :=
  h.mono fun _ _ ⟨he, hm⟩ => ⟨he, n, hm.symm⟩
theorem nibbles_lit (W : World) (hW : Tab W) : Calls Tryd.prog 12 #[] W fun e w' => e = .returned (.agg #[.int .u32 0, .int .u32 498536548, .int .u32 997073096, .int .u32 651767980, .int .u32 1994146192, .int .u32 1802195444, .int .u32 1303535960, .int .u32 1342533948, .int .u32 3988292384, .int .u32 4027552580, .int .u32 3604390888, .int .u32 3412177804, .int .u32 2607071920, .int .u32 2262029012, .int .u32 2685067896, .int .u32 3183342108]) ∧ Below W.heap.size W w' := nibbles_any W hW
theorem tab_cells {wc : World} {g : Nat} {t : TypeId} {fr : Nat × Nat} (hg : wc.heap[g]? = some (.cells tabCells t fr)) (i : Nat) (hi : i < 16) : wc.cell? ⟨g, i, none⟩ = some (.int .u32 ((Crc.stps 4 i : Nat) : Int)) := by
  rw [cell_of_row wc g i _ t fr hg, ← tab_num i hi]
  have hl : i < tabNums.length := hi
  simp [tabCells, hl]

set_option maxRecDepth 100000 in
theorem sums_walk (s : Nat) (hs : s < 4294967296) (A : Option Addr) (c : Nat) (l : List UInt8) (n : Int) (w : World) (B : Nat) (hB : B ≤ w.heap.size) (hv : Rd w B (.slice A l.length c) l) (hT : Tab w) :
    Calls Tryd.prog 3 #[.int .u32 (s : Int), .slice A l.length c, .int .i64 n] w fun e w' => e = .returned (.bool true) ∧ Below w.heap.size w w' := by
  have K1 := Lib.hid (awake_any w hT)
  have hpos := hT.pos
  have HT := Lib.hid hT
  have HV := Lib.hid hv
  clear hT hv
  by_cases hlen : l.length ≤ 4000
  · go_enter Tryd.func3, Tryd.ntmps3
    go_upto_region 4 with (go_at_call 11; refine K1.out.mono ?_; rintro e w1 ⟨rfl, hb1⟩)
    go_cut [8] (fun s wx => ∃ g, s = .pointer (some ⟨g, 0, none⟩) ∧ (∃ t fr, wx.heap[g]? = some (.cells tabCells t fr)) ∧ Below w.heap.size w wx)
    case first =>
      have HT1 := Lib.hid (HT.out.below hb1 hpos)
      go_wp2_with (go_at_call 12; refine (nibbles_lit _ HT1.out).mono ?_; rintro e w2 ⟨rfl, hb2⟩)
      go_meet
      case rel => exact ⟨_, rfl, ⟨_, _, heap_alloc_new _ _⟩, (hb1.trans (hb2.mono hb1.size)).alloc (by have := hb1.size; have := hb2.size; omega) _⟩
    case rest =>
      obtain ⟨g, rfl, ⟨t, fr, hg⟩, hbx⟩ := hcut
      have HG := Lib.hid hg
      have HX := Lib.hid hbx
      clear hg hbx
      have hcw : Hid (∀ m, Calls Tryd.prog 14 #[.slice A l.length c] (wc.drewN m) fun e w' => e = .returned (.int .u32 ((Crc.csum (nums l) : Nat) : Int)) ∧ wc.drewN m = w') :=
        Lib.hid fun m => sum_any _ l (by omega) _ B ((HV.out.below (HX.out.mono hB)).below (below_drewN (Below.refl _ _) m)) (HT.out.below (below_drewN HX.out m) hpos)
      have hcm : Hid (∀ m, Calls Tryd.prog 16 #[.int .u32 (s : Int), .slice A l.length c] (wc.drewN m) fun e w' => e = .returned (.int .u32 ((Crc.more s (nums l) : Nat) : Int)) ∧ wc.drewN m = w') :=
        Lib.hid fun m => more_any s hs _ l (by omega) _ B ((HV.out.below (HX.out.mono hB)).below (below_drewN (Below.refl _ _) m)) (HT.out.below (below_drewN HX.out m) hpos)
      have hrw : Hid (∀ m, Calls Tryd.prog 15 #[.slice A l.length c] (wc.drewN m) fun e w' => e = .returned (.int .u32 ((Crc.csum (nums l) : Nat) : Int)) ∧ wc.drewN m = w') :=
        Lib.hid fun m => refSum_any _ l (by omega) _ B ((HV.out.below (HX.out.mono hB)).below (below_drewN (Below.refl _ _) m))
      have hrm : Hid (∀ m, Calls Tryd.prog 17 #[.int .u32 (s : Int), .slice A l.length c] (wc.drewN m) fun e w' => e = .returned (.int .u32 ((Crc.more s (nums l) : Nat) : Int)) ∧ wc.drewN m = w') :=
        Lib.hid fun m => refMore_any s hs _ l (by omega) _ B ((HV.out.below (HX.out.mono hB)).below (below_drewN (Below.refl _ _) m))
      by_cases h0 : 0 ≤ n ∧ n < 16
      · obtain ⟨h0, h1⟩ := h0
        obtain ⟨k, rfl⟩ := Int.eq_ofNat_of_zero_le h0
        have ck := tab_cells HG.out k (by omega)
        have hstep : ∀ W : World, Calls Tryd.prog 13 #[.int .u32 (k : Int), .int .i64 4] W fun e w' => e = .returned (.int .u32 ((Crc.stps 4 k : Nat) : Int)) ∧ W = w' :=
          fun W => step_any k 4 (by omega) (by omega) W
        have HS := Lib.hid hstep
        clear hstep
        generalize Crc.stps 4 k = tk at *
        go_wp2_with fail
        go_quiet ((go_at_call 13; exact quiet_same (HS.out _)))
        go_wp2_with (first
          | (go_at_call 14; refine (hcw.out _).mono ?_; rintro e w' ⟨rfl, rfl⟩)
          | (go_at_call 16; refine (hcm.out _).mono ?_; rintro e w' ⟨rfl, rfl⟩)
          | (go_at_call 15; refine (hrw.out _).mono ?_; rintro e w' ⟨rfl, rfl⟩)
          | (go_at_call 17; refine (hrm.out _).mono ?_; rintro e w' ⟨rfl, rfl⟩))
        go_ret
        exact ⟨rfl, below_drewN HX.out _⟩
      · rcases (show n < 0 ∨ (0 ≤ n ∧ 16 ≤ n) by omega) with h | ⟨h, h'⟩
        · have hd : decide (0 ≤ n) = false := by simp; omega
          go_wp2_with fail
          go_quiet (fail)
          go_wp2_with (first
            | (go_at_call 14; refine (hcw.out _).mono ?_; rintro e w' ⟨rfl, rfl⟩)
            | (go_at_call 16; refine (hcm.out _).mono ?_; rintro e w' ⟨rfl, rfl⟩)
            | (go_at_call 15; refine (hrw.out _).mono ?_; rintro e w' ⟨rfl, rfl⟩)
            | (go_at_call 17; refine (hrm.out _).mono ?_; rintro e w' ⟨rfl, rfl⟩))
          go_ret
          exact ⟨rfl, below_drewN HX.out _⟩
        · have hd : decide (n < 16) = false := by simp; omega
          go_wp2_with fail
          go_quiet (fail)
          go_wp2_with (first
            | (go_at_call 14; refine (hcw.out _).mono ?_; rintro e w' ⟨rfl, rfl⟩)
            | (go_at_call 16; refine (hcm.out _).mono ?_; rintro e w' ⟨rfl, rfl⟩)
            | (go_at_call 15; refine (hrw.out _).mono ?_; rintro e w' ⟨rfl, rfl⟩)
            | (go_at_call 17; refine (hrm.out _).mono ?_; rintro e w' ⟨rfl, rfl⟩))
          go_ret
          exact ⟨rfl, below_drewN HX.out _⟩
  · go_enter Tryd.func3, Tryd.ntmps3
    go_wp2_with (go_at_call 11; refine K1.out.mono ?_; rintro e w1 ⟨rfl, hb1⟩)
    go_ret
    exact ⟨rfl, hb1⟩
theorem sums_law (w : World) (hT : Tab w) (s : Int) (hs : (Lit.int .u32 s).wf = true) (A : Option Addr) (c : Nat) (l : List UInt8) (hv : Rd w w.heap.size (.slice A l.length c) l) (n : Int) (_ : (Lit.int .i64 n).wf = true) :
    Calls Tryd.prog 3 #[.int .u32 s, .slice A l.length c, .int .i64 n] w fun e w' => e = .returned (.bool true) ∧ Below w.heap.size w w' := by
  obtain ⟨h0, h1⟩ := wf_u32 hs
  obtain ⟨k, rfl⟩ := Int.eq_ofNat_of_zero_le h0
  exact sums_walk k (by omega) A c l n w w.heap.size (Nat.le_refl _) hv hT
end Go.Proofs.YthjkokapehmliaaDoor
