/-
  Any bytes are sealed, and opened or not, as by the reference: what the law's text comes to.
-/
import Derived.Test.YthjkokapehmliaaDoorAwake
import Derived.Test.YthjkokapehmliaaDoorOpen
import Derived.Test.YthjkokapehmliaaDoorRefOpen
import Derived.Test.YthjkokapehmliaaDoorFrame
import Derived.Deep.DeepCutAuto
import Derived.Test.YthjkokapehmliaaDoorGrow
namespace Go.Proofs.YthjkokapehmliaaDoor
open Go.RowKit

set_option maxRecDepth 100000 in
theorem seals_out (A : Option Addr) (c n : Nat) (w : World) (hT : Tab w) (hout : 4000 < n) :
    Calls Tryd.prog 4 #[.slice A n c] w fun e w' => e = .returned (.bool true) ∧ Below w.heap.size w w' := by
  have K1 := Lib.hid (awake_any w hT)
  clear hT
  go_enter Tryd.func4, Tryd.ntmps4
  go_wp2_with (go_at_call 11; refine K1.out.mono ?_; rintro e w1 ⟨rfl, hb1⟩)
  go_ret
  exact ⟨rfl, hb1⟩

set_option maxRecDepth 100000 in
set_option maxHeartbeats 400000 in
theorem seals_walk (A : Option Addr) (c : Nat) (l l0 : List UInt8) (d : Bool) (w : World) (hT : Tab w) (hv : Rd w w.heap.size (.slice A l.length c) l) (hl : l.length ≤ 4000)
    (ho : ∀ W, Below w.heap.size w W → Calls Tryd.prog 18 #[.slice A l.length c] W fun e w' => ∃ A c, e = .returned (.tuple #[.slice A l0.length c, .bool d]) ∧ Rd w' w'.heap.size (.slice A l0.length c) l0 ∧ Below W.heap.size W w')
    (hro : ∀ W, Below w.heap.size w W → Calls Tryd.prog 19 #[.slice A l.length c] W fun e w' => ∃ A c, e = .returned (.tuple #[.slice A l0.length c, .bool d]) ∧ Rd w' w'.heap.size (.slice A l0.length c) l0 ∧ Below W.heap.size W w') :
    Calls Tryd.prog 4 #[.slice A l.length c] w fun e w' => e = .returned (.bool true) ∧ Below w.heap.size w w' := by
  have K1 := Lib.hid (awake_any w hT)
  have hpos := hT.pos
  have HT := Lib.hid hT
  have HV := Lib.hid hv
  have hopen := Lib.hid ho
  have hropen := Lib.hid hro
  clear hT hv ho hro
  have hseal := Lib.hid (fun W (h : Below w.heap.size w W) => seal_rd _ l (by omega) W w.heap.size h.size (HV.out.below h) (HT.out.below h hpos))
  have hrseal := Lib.hid (fun W (h : Below w.heap.size w W) => refSeal_rd _ l (by omega) W w.heap.size (HV.out.below h))
  have hconv := Lib.hid (fun (W : World) (B : Nat) (A : Option Addr) (n c : Nat) (h : Rd W B (.slice A n c) (seal_ l)) => conv_rd h)
  have hconv0 := Lib.hid (fun (W : World) (B : Nat) (A : Option Addr) (n c : Nat) (h : Rd W B (.slice A n c) l0) => conv_rd h)
  generalize strOf (seal_ l) = S1 at *
  generalize strOf l0 = S0 at *
  generalize hn : l.length = n at *
  have HN := Lib.hid hn
  clear hn
  go_enter Tryd.func4, Tryd.ntmps4
  go_wp2_with fail
  refine K1.out.mono ?_
  rintro e w1 ⟨rfl, hb1⟩
  go_wp2_with fail
  refine (hopen.out w1 hb1).mono ?_
  rintro e w2 ⟨A2, c2, rfl, hr2, hb2⟩
  have hb12 := hb1.trans (hb2.mono hb1.size)
  go_wp2_with fail
  refine (hropen.out w2 hb12).mono ?_
  rintro e w3 ⟨A3, c3, rfl, hr3, hb3⟩
  have hb13 := hb12.trans (hb3.mono hb12.size)
  have hr2' := Lib.hid (hr2.below hb3)
  have hr3' := Lib.hid (hr3)
  have hs23 := hb3.size
  clear hr2 hr3
  clear hopen hropen HT HV K1 HN hpos
  go_upto_region 6 with (fail)
  clear hb1 hb2 hb12 hb3
  go_cut [2] (fun x wx => x = .bool true ∧ Below w.heap.size w wx)
  case rest =>
    obtain ⟨rfl, hbc⟩ := hcut
    go_wp2_with fail
    go_ret
    exact ⟨rfl, hbc⟩
  case first =>
    refine g_start (by kernel_rfl) ?_
    refine g_take (i := 0) (v := ?_) rfl (by kernel_rfl) (by kernel_rfl) (by kernel_rfl) (fun _ _ _ h => h) (by rfl) ?_ ?_
    rotate_left
    · intro W hW
      go_simp
      first | done | rfl
    simp only [Act.put, List.setIfInBounds_toArray, List.set_cons_zero, List.set_cons_succ, List.getElem_toArray, List.getElem_cons_zero]
    refine g_take (i := 3) (v := ?_) rfl (by kernel_rfl) (by kernel_rfl) (by kernel_rfl) (fun _ _ _ h => h) (by rfl) ?_ ?_
    rotate_left
    · intro W hW
      go_simp
      first | done | rfl
    simp only [Act.put, List.setIfInBounds_toArray, List.set_cons_zero, List.set_cons_succ, List.getElem_toArray, List.getElem_cons_zero, List.getElem_cons_succ]
    refine g_call (i := 1) (f := 20) (args := #[.slice A n c]) rfl (by kernel_rfl) (by rfl) (by go_simp) ?_
    refine (hseal.out w3.drew hb13.drew).mono ?_
    rintro e w4 ⟨A4, c4, he, hr4, hb4⟩
    refine ⟨_, he, hb4, ?_⟩
    have hb4' := ((Below.refl w3.heap.size w3).drew).trans hb4
    have hb14 := hb13.trans (hb4'.mono hb13.size)
    simp only [Act.put, List.setIfInBounds_toArray, List.set_cons_zero, List.set_cons_succ, List.getElem_toArray, List.getElem_cons_zero, List.getElem_cons_succ]
    refine g_take (i := 2) (v := ?_) rfl (by kernel_rfl) (by kernel_rfl) (by kernel_rfl) (fun _ _ _ h => h) (by rfl) ?_ ?_
    rotate_left
    · intro W hW
      have q := hconv.out _ _ _ _ _ (hr4.below hW)
      go_simp
      first | done | rfl
    simp only [Act.put, List.setIfInBounds_toArray, List.set_cons_zero, List.set_cons_succ, List.getElem_toArray, List.getElem_cons_zero, List.getElem_cons_succ]
    refine g_call (i := 4) (f := 21) (args := #[.slice A n c]) rfl (by kernel_rfl) (by rfl) (by go_simp) ?_
    refine (hrseal.out w4 hb14).mono ?_
    rintro e w5 ⟨A5, c5, he5, hr5, hb5⟩
    refine ⟨_, he5, hb5, ?_⟩
    have hb5' := hb4'.trans (hb5.mono hb4'.size)
    have hb15 := hb13.trans (hb5'.mono hb13.size)
    have hrx := (hr2'.out.below (hb5'.mono hs23)).mono (Nat.le_trans hs23 hb5'.size)
    have hry := (hr3'.out.below hb5').mono hb5'.size
    simp only [Act.put, List.setIfInBounds_toArray, List.set_cons_zero, List.set_cons_succ, List.getElem_toArray, List.getElem_cons_zero, List.getElem_cons_succ]
    refine g_take (i := 5) (v := ?_) rfl (by kernel_rfl) (by kernel_rfl) (by kernel_rfl) (fun _ _ _ h => h) (by rfl) ?_ ?_
    rotate_left
    · intro W hW
      have q := hconv.out _ _ _ _ _ (hr5.below hW)
      go_simp
      first | done | rfl
    simp only [Act.put, List.setIfInBounds_toArray, List.set_cons_zero, List.set_cons_succ, List.getElem_toArray, List.getElem_cons_zero, List.getElem_cons_succ]
    refine g_take (i := 6) (v := ?_) rfl (by kernel_rfl) (by kernel_rfl) (by kernel_rfl) (fun _ _ _ h => h) (by rfl) ?_ ?_
    rotate_left
    · intro W hW
      go_simp
      first | done | rfl
    simp only [Act.put, List.setIfInBounds_toArray, List.set_cons_zero, List.set_cons_succ, List.getElem_toArray, List.getElem_cons_zero, List.getElem_cons_succ]
    refine g_take (i := 7) (v := ?_) rfl (by kernel_rfl) (by kernel_rfl) (by kernel_rfl) (fun _ _ _ h => h) (by rfl) ?_ ?_
    rotate_left
    · intro W hW
      go_simp
      first | done | rfl
    simp only [Act.put, List.setIfInBounds_toArray, List.set_cons_zero, List.set_cons_succ, List.getElem_toArray, List.getElem_cons_zero, List.getElem_cons_succ]
    refine g_take (i := 8) (v := ?_) rfl (by kernel_rfl) (by kernel_rfl) (by kernel_rfl) (fun _ _ _ h => h) (by rfl) ?_ ?_
    rotate_left
    · intro W hW
      go_simp
      first | done | rfl
    simp only [Act.put, List.setIfInBounds_toArray, List.set_cons_zero, List.set_cons_succ, List.getElem_toArray, List.getElem_cons_zero, List.getElem_cons_succ]
    refine g_take (i := 10) (v := ?_) rfl (by kernel_rfl) (by kernel_rfl) (by kernel_rfl) (fun _ _ _ h => h) (by rfl) ?_ ?_
    rotate_left
    · intro W hW
      go_simp
      first | done | rfl
    simp only [Act.put, List.setIfInBounds_toArray, List.set_cons_zero, List.set_cons_succ, List.getElem_toArray, List.getElem_cons_zero, List.getElem_cons_succ]
    refine g_take (i := 9) (v := ?_) rfl (by kernel_rfl) (by kernel_rfl) (by kernel_rfl) (fun _ _ _ h => h) (by rfl) ?_ ?_
    rotate_left
    · intro W hW
      have q := hconv0.out _ _ _ _ _ (hrx.below hW)
      go_simp
      first | done | rfl
    simp only [Act.put, List.setIfInBounds_toArray, List.set_cons_zero, List.set_cons_succ, List.getElem_toArray, List.getElem_cons_zero, List.getElem_cons_succ]
    refine g_take (i := 11) (v := ?_) rfl (by kernel_rfl) (by kernel_rfl) (by kernel_rfl) (fun _ _ _ h => h) (by rfl) ?_ ?_
    rotate_left
    · intro W hW
      have q := hconv0.out _ _ _ _ _ (hry.below hW)
      go_simp
      first | done | rfl
    simp only [Act.put, List.setIfInBounds_toArray, List.set_cons_zero, List.set_cons_succ, List.getElem_toArray, List.getElem_cons_zero, List.getElem_cons_succ]
    refine g_take (i := 12) (v := ?_) rfl (by kernel_rfl) (by kernel_rfl) (by kernel_rfl) (fun _ _ _ h => h) (by rfl) ?_ ?_
    rotate_left
    · intro W hW
      go_simp
      first | done | rfl
    simp only [Act.put, List.setIfInBounds_toArray, List.set_cons_zero, List.set_cons_succ, List.getElem_toArray, List.getElem_cons_zero, List.getElem_cons_succ]
    refine g_take (i := 13) (v := ?_) rfl (by kernel_rfl) (by kernel_rfl) (by kernel_rfl) (fun _ _ _ h => h) (by rfl) ?_ ?_
    rotate_left
    · intro W hW
      go_simp
      first | done | rfl
    simp only [Act.put, List.setIfInBounds_toArray, List.set_cons_zero, List.set_cons_succ, List.getElem_toArray, List.getElem_cons_zero, List.getElem_cons_succ]
    refine g_take (i := 14) (v := ?_) rfl (by kernel_rfl) (by kernel_rfl) (by kernel_rfl) (fun _ _ _ h => h) (by rfl) ?_ ?_
    rotate_left
    · intro W hW
      go_simp
      first | done | rfl
    simp only [Act.put, List.setIfInBounds_toArray, List.set_cons_zero, List.set_cons_succ, List.getElem_toArray, List.getElem_cons_zero, List.getElem_cons_succ]
    refine g_take (i := 15) (v := ?_) rfl (by kernel_rfl) (by kernel_rfl) (by kernel_rfl) (fun _ _ _ h => h) (by rfl) ?_ ?_
    rotate_left
    · intro W hW
      go_simp
      first | done | rfl
    simp only [Act.put, List.setIfInBounds_toArray, List.set_cons_zero, List.set_cons_succ, List.getElem_toArray, List.getElem_cons_zero, List.getElem_cons_succ]
    refine g_take (i := 16) (v := ?_) rfl (by kernel_rfl) (by kernel_rfl) (by kernel_rfl) (fun _ _ _ h => h) (by rfl) ?_ ?_
    rotate_left
    · intro W hW
      go_simp
      first | done | rfl
    simp only [Act.put, List.setIfInBounds_toArray, List.set_cons_zero, List.set_cons_succ, List.getElem_toArray, List.getElem_cons_zero, List.getElem_cons_succ]
    refine g_take (i := 17) (v := ?_) rfl (by kernel_rfl) (by kernel_rfl) (by kernel_rfl) (fun _ _ _ h => h) (by rfl) ?_ ?_
    rotate_left
    · intro W hW
      go_simp
      first | done | rfl
    simp only [Act.put, List.setIfInBounds_toArray, List.set_cons_zero, List.set_cons_succ, List.getElem_toArray, List.getElem_cons_zero, List.getElem_cons_succ]
    refine g_take (i := 18) (v := ?_) rfl (by kernel_rfl) (by kernel_rfl) (by kernel_rfl) (fun _ _ _ h => h) (by rfl) ?_ ?_
    rotate_left
    · intro W hW
      go_simp
      first | done | rfl
    simp only [Act.put, List.setIfInBounds_toArray, List.set_cons_zero, List.set_cons_succ, List.getElem_toArray, List.getElem_cons_zero, List.getElem_cons_succ]
    refine g_take (i := 19) (v := ?_) rfl (by kernel_rfl) (by kernel_rfl) (by kernel_rfl) (fun _ _ _ h => h) (by rfl) ?_ ?_
    rotate_left
    · intro W hW
      go_simp
      first | done | rfl
    simp only [Act.put, List.setIfInBounds_toArray, List.set_cons_zero, List.set_cons_succ, List.getElem_toArray, List.getElem_cons_zero, List.getElem_cons_succ]
    refine g_done (by kernel_rfl) ?_
    go_wp2_with fail
    go_meet
    exact ⟨rfl, hb15⟩

theorem seals_law (w : World) (hT : Tab w) (A : Option Addr) (c : Nat) (l : List UInt8) (hv : Rd w w.heap.size (.slice A l.length c) l) :
    Calls Tryd.prog 4 #[.slice A l.length c] w fun e w' => e = .returned (.bool true) ∧ Below w.heap.size w w' := by
  have hpos := hT.pos
  by_cases hl : l.length ≤ 4000
  · by_cases hs : ∃ l0, l = seal_ l0
    · obtain ⟨l0, e⟩ := hs
      have hlen : l0.length ≤ 4000 := by
        have h := hl
        rw [e, seal_length] at h
        omega
      refine seals_walk A c l l0 true w hT hv hl (fun W h => ?_) (fun W h => ?_)
      · exact open_sealed _ l0 (by omega) W w.heap.size h.size (by rw [← e]; exact hv.below h) (hT.below h hpos)
      · exact refOpen_sealed _ l0 (by omega) W w.heap.size h.size (by rw [← e]; exact hv.below h)
    · have hno : ∀ l0, l ≠ seal_ l0 := fun l0 e => hs ⟨l0, e⟩
      refine seals_walk A c l [] false w hT hv hl (fun W h => ?_) (fun W h => ?_)
      · exact (open_other _ l (by omega) hno W w.heap.size h.size (hv.below h) (hT.below h hpos)).mono fun e w' ⟨h1, h2⟩ => ⟨none, 0, h1, Rd.nil _ _, h2⟩
      · exact (refOpen_other _ l (by omega) hno W w.heap.size h.size (hv.below h)).mono fun e w' ⟨h1, h2⟩ => ⟨none, 0, h1, Rd.nil _ _, h2⟩
  · exact seals_out A c l.length w hT (by omega)
end Go.Proofs.YthjkokapehmliaaDoor
