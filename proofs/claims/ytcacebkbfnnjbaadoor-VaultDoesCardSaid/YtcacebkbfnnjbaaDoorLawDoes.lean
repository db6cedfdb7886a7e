/-
  The law of what a vault does: what the document says.
-/
import Derived.Test.YtcacebkbfnnjbaaDoorV8
import Derived.Test.YtcacebkbfnnjbaaDoorV14
import Derived.Test.YtcacebkbfnnjbaaDoorV32
import Derived.Test.YtcacebkbfnnjbaaDoorV34
import Derived.Test.YtcacebkbfnnjbaaDoorV41
import Derived.LoopTactic
namespace Go.Proofs.YtcacebkbfnnjbaaDoor
open Go.RowKit

theorem Sl.here2 {α : Type} [Rep α] {w : World} {B C : Nat} {v : Value} {l : List α} (h : Sl w B v l) (hC : B ≤ C) : Sl w C v l := h.mono hC
set_option maxRecDepth 100000 in
set_option maxHeartbeats 8000000 in
theorem does_law (w : World) (hT : Tab w) (v : Value) (l : List Ev8) (hv : Sl w w.heap.size v l) :
    Calls Tryd.prog 3 #[v] w fun e w' => e = .returned (.bool true) ∧ Below w.heap.size w w' := by
  obtain ⟨A, c, rfl, _, hm⟩ := hv.form
  unfold maxLen at hm
  have hpos := hT.pos
  have HT := Lib.hid (fun W (h : Below w.heap.size w W) => hT.below h hpos)
  have HV0 := Lib.hid hv
  have HK := Lib.hid (awake_any w hT)
  have HF := Lib.hid (fun W (h : Below w.heap.size w W) => few8_any _ l W w.heap.size h.size (hv.below h))
  have HFI := Lib.hid (fun h : Ev8.few l = true => Ev8.few_iff.1 h)
  clear hv hT
  generalize Ev8.few l = fw at *
  generalize hn : l.length = n at *
  have HN := Lib.hid hn
  clear hn
  go_enter Tryd.func3, Tryd.ntmps3
  go_wp2_with fail
  refine HK.out.mono ?_
  rintro e w1 ⟨rfl, hb⟩
  have HB := Lib.hid hb
  clear hb HK
  go_wp2_with fail
  refine (HF.out _ HB.out).mono ?_
  rintro e w2 ⟨rfl, hb⟩
  replace HB := Lib.hid (HB.out.trans (hb.mono HB.out.size))
  clear hb HF
  go_wp2_with fail
  refine (new_any _).mono ?_
  rintro e w3 ⟨rfl, hn3, hb⟩
  have HVR := Lib.hid (vr_new (B0 := w.heap.size) hn3 hb HB.out.size)
  replace HB := Lib.hid (HB.out.trans (hb.mono HB.out.size))
  have HB2 := Lib.hid (HB.out.alloc HB.out.size (.cells #[.slice none 0 0, .int .i64 0, .int .i64 0, .int .i64 0, .slice none 0 0] 35))
  clear hb hn3
  generalize w2.heap.size = g at *
  rcases fw with _ | _
  · go_wp2_with fail
    go_ret
    exact ⟨rfl, HB.out⟩
  obtain ⟨h30, h70⟩ := HFI.out rfl
  have HF70 := Lib.hid h70
  clear h70 HFI
  go_wp2_with fail
  generalize w3.alloc (.cells #[.slice none 0 0, .int .i64 0, .int .i64 0, .int .i64 0, .slice none 0 0] 35) = w4 at *
  generalize w3.heap.size = g2 at *
  replace HB := HB2
  clear HB2
  go_loopw [7] (fun i wr => ∃ (j : Nat) (u : Vl.V), j ≤ n ∧ i = .int .i64 (j : Int) ∧ Vl.Ok u ∧ VR w.heap.size g g2 wr u u ∧ Below w.heap.size w wr) (fun i _ => n - (intOf i).toNat)
  case atStart => exact ⟨0, Vl.new, Nat.zero_le _, rfl, Vl.ok_new, HVR.out, HB.out⟩
  case round =>
    clear HVR HB
    obtain ⟨j, u, hj, rfl, hok, hvr, hb⟩ := hrel
    have HOK := Lib.hid hok
    have HVR := Lib.hid hvr
    have HB := Lib.hid hb
    clear hok hvr hb
    by_cases hlt : j < n
    rotate_left
    · have i2 : ¬ ((j : Int) < (n : Int)) := by omega
      go_wp2_with fail
      go_ret
      exact ⟨rfl, HB.out⟩
    have i1 : (0 : Int) ≤ (j : Int) := by omega
    have i2 : (j : Int) < (n : Int) := by omega
    have hjl : j < l.length := by rw [HN.out]; exact hlt
    obtain ⟨b1, o1, X1, d1, rfl, hb1, g0, g1, g2_, g3, g4, g5, g6, hsl, hkr⟩ := HV0.out.ev8 j hjl
    have h70j := HF70.out l[j] (List.getElem_mem hjl)
    generalize l[j] = ev at *
    obtain ⟨kd, ⟨x, y⟩, ⟨l1, l2, m⟩, nn⟩ := ev
    dsimp only at *
    have HM1 := Lib.hid h70j
    generalize hmn : m.length = mn at *
    have HMN := Lib.hid hmn
    clear hmn
    have HG := Lib.hid (fun W (h : Below w.heap.size w W) => (⟨h.cell (p := ⟨b1, o1 + j * 7, none⟩) hb1 |>.trans g0, h.cell (p := ⟨b1, o1 + j * 7 + 1, none⟩) hb1 |>.trans g1, h.cell (p := ⟨b1, o1 + j * 7 + 2, none⟩) hb1 |>.trans g2_, h.cell (p := ⟨b1, o1 + j * 7 + 3, none⟩) hb1 |>.trans g3, h.cell (p := ⟨b1, o1 + j * 7 + 4, none⟩) hb1 |>.trans g4, h.cell (p := ⟨b1, o1 + j * 7 + 5, none⟩) hb1 |>.trans g5, h.cell (p := ⟨b1, o1 + j * 7 + 6, none⟩) hb1 |>.trans g6⟩ : _ ∧ _ ∧ _ ∧ _ ∧ _ ∧ _ ∧ _))
    have HSL := Lib.hid (fun W (h : Below w.heap.size w W) => hsl.below h)
    clear g0 g1 g2_ g3 g4 g5 g6 hsl hjl
    obtain ⟨g0, g1, g2_, g3, g4, g5, g6⟩ := HG.out _ HB.out
    by_cases hk0 : kd = 0
    · subst hk0
      go_wp2_with fail
      clear g0 g1 g2_ g3 g4 g5 g6
      refine s_start (fun W => Kept (fun b => w.heap.size ≤ b) (wr).drew W) [] (by kernel_rfl) ?_
      have HC := Lib.hid (Kept.refl (fun b => w.heap.size ≤ b) (wr).drew)
      have HD := Lib.hid HB.out.drew
      have hz1 : w.heap.size ≤ wr.drew.heap.size := HD.out.size
      have HXX := Lib.hid (fun W (hW : Kept (fun b => w.heap.size ≤ b) wr.drew W) => HG.out W (HD.out.trans (hW.below (B := w.heap.size) (fun _ h => h) hz1)))
      have hsv := save_vr1 HVR.out.drew HOK.out hpos x y l1 l2 _ m (HSL.out _ HD.out) (HT.out _ HD.out)
      have HSV := Lib.hid hsv
      clear hsv
      generalize (wr).drew = z1 at *
      refine s_take (i := 0) (v := ?_) rfl (by kernel_rfl) (by kernel_rfl) (by kernel_rfl) (k0 := 0) (by kernel_rfl) (by kernel_rfl) (.inl rfl) (fun _ _ _ h => h) (by rfl) HC.out ?_ ?_
      rotate_left
      · intro W hW
        go_simp
        first | done | rfl
      simp only [Act.put, List.setIfInBounds_toArray, List.set_cons_zero, List.set_cons_succ, List.getElem_toArray, List.getElem_cons_zero]
      refine s_take (i := 1) (v := ?_) rfl (by kernel_rfl) (by kernel_rfl) (by kernel_rfl) (k0 := 1) (by kernel_rfl) (by kernel_rfl) (.inl rfl) (fun _ _ _ h => h) (by rfl) HC.out ?_ ?_
      rotate_left
      · intro W hW
        go_simp
        first | done | rfl
      simp only [Act.put, List.setIfInBounds_toArray, List.set_cons_zero, List.set_cons_succ, List.getElem_toArray, List.getElem_cons_zero, List.getElem_cons_succ]
      refine s_take (i := 2) (v := ?_) rfl (by kernel_rfl) (by kernel_rfl) (by kernel_rfl) (k0 := 2) (by kernel_rfl) (by kernel_rfl) (.inl rfl) (fun _ _ _ h => h) (by rfl) HC.out ?_ ?_
      rotate_left
      · intro W hW
        go_simp
        first | done | rfl
      simp only [Act.put, List.setIfInBounds_toArray, List.set_cons_zero, List.set_cons_succ, List.getElem_toArray, List.getElem_cons_zero, List.getElem_cons_succ]
      refine s_take (i := 3) (v := ?_) rfl (by kernel_rfl) (by kernel_rfl) (by kernel_rfl) (k0 := 3) (by kernel_rfl) (by kernel_rfl) (.inl rfl) (fun _ _ _ h => h) (by rfl) HC.out ?_ ?_
      rotate_left
      · intro W hW
        go_simp
        first | done | rfl
      simp only [Act.put, List.setIfInBounds_toArray, List.set_cons_zero, List.set_cons_succ, List.getElem_toArray, List.getElem_cons_zero, List.getElem_cons_succ]
      refine s_take (i := 4) (v := ?_) rfl (by kernel_rfl) (by kernel_rfl) (by kernel_rfl) (k0 := 4) (by kernel_rfl) (by kernel_rfl) (.inl rfl) (fun _ _ _ h => h) (by rfl) HC.out ?_ ?_
      rotate_left
      · intro W hW
        go_simp
        first | done | rfl
      simp only [Act.put, List.setIfInBounds_toArray, List.set_cons_zero, List.set_cons_succ, List.getElem_toArray, List.getElem_cons_zero, List.getElem_cons_succ]
      refine s_take (i := 5) (v := ?_) rfl (by kernel_rfl) (by kernel_rfl) (by kernel_rfl) (k0 := 5) (by kernel_rfl) (by kernel_rfl) (.inl rfl) (fun _ _ _ h => h) (by rfl) HC.out ?_ ?_
      rotate_left
      · intro W hW
        obtain ⟨g0, g1, g2_, g3, g4, g5, g6⟩ := HXX.out _ hW
        go_simp
        first | done | rfl
      simp only [Act.put, List.setIfInBounds_toArray, List.set_cons_zero, List.set_cons_succ, List.getElem_toArray, List.getElem_cons_zero, List.getElem_cons_succ]
      refine s_take (i := 6) (v := ?_) rfl (by kernel_rfl) (by kernel_rfl) (by kernel_rfl) (k0 := 6) (by kernel_rfl) (by kernel_rfl) (.inl rfl) (fun _ _ _ h => h) (by rfl) HC.out ?_ ?_
      rotate_left
      · intro W hW
        go_simp
        first | done | rfl
      simp only [Act.put, List.setIfInBounds_toArray, List.set_cons_zero, List.set_cons_succ, List.getElem_toArray, List.getElem_cons_zero, List.getElem_cons_succ]
      refine s_take (i := 7) (v := ?_) rfl (by kernel_rfl) (by kernel_rfl) (by kernel_rfl) (k0 := 7) (by kernel_rfl) (by kernel_rfl) (.inl rfl) (fun _ _ _ h => h) (by rfl) HC.out ?_ ?_
      rotate_left
      · intro W hW
        go_simp
        first | done | rfl
      simp only [Act.put, List.setIfInBounds_toArray, List.set_cons_zero, List.set_cons_succ, List.getElem_toArray, List.getElem_cons_zero, List.getElem_cons_succ]
      refine s_take (i := 8) (v := ?_) rfl (by kernel_rfl) (by kernel_rfl) (by kernel_rfl) (k0 := 8) (by kernel_rfl) (by kernel_rfl) (.inl rfl) (fun _ _ _ h => h) (by rfl) HC.out ?_ ?_
      rotate_left
      · intro W hW
        go_simp
        first | done | rfl
      simp only [Act.put, List.setIfInBounds_toArray, List.set_cons_zero, List.set_cons_succ, List.getElem_toArray, List.getElem_cons_zero, List.getElem_cons_succ]
      refine s_take (i := 9) (v := ?_) rfl (by kernel_rfl) (by kernel_rfl) (by kernel_rfl) (k0 := 9) (by kernel_rfl) (by kernel_rfl) (.inl rfl) (fun _ _ _ h => h) (by rfl) HC.out ?_ ?_
      rotate_left
      · intro W hW
        go_simp
        first | done | rfl
      simp only [Act.put, List.setIfInBounds_toArray, List.set_cons_zero, List.set_cons_succ, List.getElem_toArray, List.getElem_cons_zero, List.getElem_cons_succ]
      refine s_take (i := 10) (v := ?_) rfl (by kernel_rfl) (by kernel_rfl) (by kernel_rfl) (k0 := 10) (by kernel_rfl) (by kernel_rfl) (.inl rfl) (fun _ _ _ h => h) (by rfl) HC.out ?_ ?_
      rotate_left
      · intro W hW
        obtain ⟨g0, g1, g2_, g3, g4, g5, g6⟩ := HXX.out _ hW
        go_simp
        first | done | rfl
      simp only [Act.put, List.setIfInBounds_toArray, List.set_cons_zero, List.set_cons_succ, List.getElem_toArray, List.getElem_cons_zero, List.getElem_cons_succ]
      refine s_one (i := 11) (by kernel_rfl) ?_
      refine ones_call (i := 11) (f := 12) (args := ?_) rfl (by rfl) ?_ ?_
      rotate_left
      · go_simp
        first | done | rfl
      with_reducible refine (HSV.out).mono ?_
      rintro e z2 ⟨rfl, hv, hb⟩
      refine ⟨_, rfl, fun _ => HC.out.trans (belowD hb), ?_⟩
      replace HC := Lib.hid (HC.out.trans (belowD hb))
      have HVR2 := Lib.hid hv
      have HB2 := Lib.hid (HD.out.trans hb)
      clear hv hb
      simp only [Act.put, List.setIfInBounds_toArray, List.set_cons_zero, List.set_cons_succ, List.getElem_toArray, List.getElem_cons_zero, List.getElem_cons_succ]
      refine s_take (i := 12) (v := ?_) rfl (by kernel_rfl) (by kernel_rfl) (by kernel_rfl) (k0 := 12) (by kernel_rfl) (by kernel_rfl) (.inl rfl) (fun _ _ _ h => h) (by rfl) HC.out ?_ ?_
      rotate_left
      · intro W hW
        go_simp
        first | done | rfl
      simp only [Act.put, List.setIfInBounds_toArray, List.set_cons_zero, List.set_cons_succ, List.getElem_toArray, List.getElem_cons_zero, List.getElem_cons_succ]
      refine s_done (by kernel_rfl) ?_
      clear HC HXX HSV hz1 HD HVR HB
      have HVR := HVR2
      have HB := HB2
      clear HVR2 HB2
      go_simp
      generalize hw7 : z2 = w7 at *
      clear hw7
      go_wp2_with fail
      refine s_start (fun W => Kept (fun b => w.heap.size ≤ b) (w7).drew W) [] (by kernel_rfl) ?_
      have HC := Lib.hid (Kept.refl (fun b => w.heap.size ≤ b) (w7).drew)
      have HD := Lib.hid HB.out.drew
      have hz1 : w.heap.size ≤ w7.drew.heap.size := HD.out.size
      have HXX := Lib.hid (fun W (hW : Kept (fun b => w.heap.size ≤ b) w7.drew W) => HG.out W (HD.out.trans (hW.below (B := w.heap.size) (fun _ h => h) hz1)))
      have hsv := save_vr2 HVR.out.drew HOK.out x y l1 l2 _ m (by rw [HMN.out]; omega) (HSL.out _ HD.out)
      have HSV := Lib.hid hsv
      clear hsv
      generalize (w7).drew = y1 at *
      refine s_take (i := 0) (v := ?_) rfl (by kernel_rfl) (by kernel_rfl) (by kernel_rfl) (k0 := 0) (by kernel_rfl) (by kernel_rfl) (.inl rfl) (fun _ _ _ h => h) (by rfl) HC.out ?_ ?_
      rotate_left
      · intro W hW
        go_simp
        first | done | rfl
      simp only [Act.put, List.setIfInBounds_toArray, List.set_cons_zero, List.set_cons_succ, List.getElem_toArray, List.getElem_cons_zero]
      refine s_take (i := 1) (v := ?_) rfl (by kernel_rfl) (by kernel_rfl) (by kernel_rfl) (k0 := 1) (by kernel_rfl) (by kernel_rfl) (.inl rfl) (fun _ _ _ h => h) (by rfl) HC.out ?_ ?_
      rotate_left
      · intro W hW
        go_simp
        first | done | rfl
      simp only [Act.put, List.setIfInBounds_toArray, List.set_cons_zero, List.set_cons_succ, List.getElem_toArray, List.getElem_cons_zero, List.getElem_cons_succ]
      refine s_take (i := 2) (v := ?_) rfl (by kernel_rfl) (by kernel_rfl) (by kernel_rfl) (k0 := 2) (by kernel_rfl) (by kernel_rfl) (.inl rfl) (fun _ _ _ h => h) (by rfl) HC.out ?_ ?_
      rotate_left
      · intro W hW
        go_simp
        first | done | rfl
      simp only [Act.put, List.setIfInBounds_toArray, List.set_cons_zero, List.set_cons_succ, List.getElem_toArray, List.getElem_cons_zero, List.getElem_cons_succ]
      refine s_take (i := 3) (v := ?_) rfl (by kernel_rfl) (by kernel_rfl) (by kernel_rfl) (k0 := 3) (by kernel_rfl) (by kernel_rfl) (.inl rfl) (fun _ _ _ h => h) (by rfl) HC.out ?_ ?_
      rotate_left
      · intro W hW
        go_simp
        first | done | rfl
      simp only [Act.put, List.setIfInBounds_toArray, List.set_cons_zero, List.set_cons_succ, List.getElem_toArray, List.getElem_cons_zero, List.getElem_cons_succ]
      refine s_take (i := 4) (v := ?_) rfl (by kernel_rfl) (by kernel_rfl) (by kernel_rfl) (k0 := 4) (by kernel_rfl) (by kernel_rfl) (.inl rfl) (fun _ _ _ h => h) (by rfl) HC.out ?_ ?_
      rotate_left
      · intro W hW
        go_simp
        first | done | rfl
      simp only [Act.put, List.setIfInBounds_toArray, List.set_cons_zero, List.set_cons_succ, List.getElem_toArray, List.getElem_cons_zero, List.getElem_cons_succ]
      refine s_take (i := 5) (v := ?_) rfl (by kernel_rfl) (by kernel_rfl) (by kernel_rfl) (k0 := 5) (by kernel_rfl) (by kernel_rfl) (.inl rfl) (fun _ _ _ h => h) (by rfl) HC.out ?_ ?_
      rotate_left
      · intro W hW
        obtain ⟨g0, g1, g2_, g3, g4, g5, g6⟩ := HXX.out _ hW
        go_simp
        first | done | rfl
      simp only [Act.put, List.setIfInBounds_toArray, List.set_cons_zero, List.set_cons_succ, List.getElem_toArray, List.getElem_cons_zero, List.getElem_cons_succ]
      refine s_take (i := 6) (v := ?_) rfl (by kernel_rfl) (by kernel_rfl) (by kernel_rfl) (k0 := 6) (by kernel_rfl) (by kernel_rfl) (.inl rfl) (fun _ _ _ h => h) (by rfl) HC.out ?_ ?_
      rotate_left
      · intro W hW
        go_simp
        first | done | rfl
      simp only [Act.put, List.setIfInBounds_toArray, List.set_cons_zero, List.set_cons_succ, List.getElem_toArray, List.getElem_cons_zero, List.getElem_cons_succ]
      refine s_take (i := 7) (v := ?_) rfl (by kernel_rfl) (by kernel_rfl) (by kernel_rfl) (k0 := 7) (by kernel_rfl) (by kernel_rfl) (.inl rfl) (fun _ _ _ h => h) (by rfl) HC.out ?_ ?_
      rotate_left
      · intro W hW
        go_simp
        first | done | rfl
      simp only [Act.put, List.setIfInBounds_toArray, List.set_cons_zero, List.set_cons_succ, List.getElem_toArray, List.getElem_cons_zero, List.getElem_cons_succ]
      refine s_take (i := 8) (v := ?_) rfl (by kernel_rfl) (by kernel_rfl) (by kernel_rfl) (k0 := 8) (by kernel_rfl) (by kernel_rfl) (.inl rfl) (fun _ _ _ h => h) (by rfl) HC.out ?_ ?_
      rotate_left
      · intro W hW
        go_simp
        first | done | rfl
      simp only [Act.put, List.setIfInBounds_toArray, List.set_cons_zero, List.set_cons_succ, List.getElem_toArray, List.getElem_cons_zero, List.getElem_cons_succ]
      refine s_take (i := 9) (v := ?_) rfl (by kernel_rfl) (by kernel_rfl) (by kernel_rfl) (k0 := 9) (by kernel_rfl) (by kernel_rfl) (.inl rfl) (fun _ _ _ h => h) (by rfl) HC.out ?_ ?_
      rotate_left
      · intro W hW
        go_simp
        first | done | rfl
      simp only [Act.put, List.setIfInBounds_toArray, List.set_cons_zero, List.set_cons_succ, List.getElem_toArray, List.getElem_cons_zero, List.getElem_cons_succ]
      refine s_take (i := 10) (v := ?_) rfl (by kernel_rfl) (by kernel_rfl) (by kernel_rfl) (k0 := 10) (by kernel_rfl) (by kernel_rfl) (.inl rfl) (fun _ _ _ h => h) (by rfl) HC.out ?_ ?_
      rotate_left
      · intro W hW
        obtain ⟨g0, g1, g2_, g3, g4, g5, g6⟩ := HXX.out _ hW
        go_simp
        first | done | rfl
      simp only [Act.put, List.setIfInBounds_toArray, List.set_cons_zero, List.set_cons_succ, List.getElem_toArray, List.getElem_cons_zero, List.getElem_cons_succ]
      refine s_one (i := 11) (by kernel_rfl) ?_
      refine ones_call (i := 11) (f := 13) (args := ?_) rfl (by rfl) ?_ ?_
      rotate_left
      · go_simp
        first | done | rfl
      with_reducible refine (HSV.out).mono ?_
      rintro e y2 ⟨rfl, hv, hb⟩
      refine ⟨_, rfl, fun _ => HC.out.trans (belowD hb), ?_⟩
      replace HC := Lib.hid (HC.out.trans (belowD hb))
      have HVR2 := Lib.hid hv
      have HB2 := Lib.hid (HD.out.trans hb)
      clear hv hb
      simp only [Act.put, List.setIfInBounds_toArray, List.set_cons_zero, List.set_cons_succ, List.getElem_toArray, List.getElem_cons_zero, List.getElem_cons_succ]
      refine s_take (i := 12) (v := ?_) rfl (by kernel_rfl) (by kernel_rfl) (by kernel_rfl) (k0 := 12) (by kernel_rfl) (by kernel_rfl) (.inl rfl) (fun _ _ _ h => h) (by rfl) HC.out ?_ ?_
      rotate_left
      · intro W hW
        go_simp
        first | done | rfl
      simp only [Act.put, List.setIfInBounds_toArray, List.set_cons_zero, List.set_cons_succ, List.getElem_toArray, List.getElem_cons_zero, List.getElem_cons_succ]
      refine s_done (by kernel_rfl) ?_
      clear HC HXX HSV hz1 HD HVR HB
      have HVR := HVR2
      have HB := HB2
      clear HVR2 HB2
      go_simp
      generalize hw8 : y2 = w8 at *
      clear hw8
      have HOK2 := Lib.hid (Vl.save_ok HOK.out (x, y) (l1, l2, m))
      replace HOK := HOK2
      clear HOK2
      generalize (Vl.save u (x, y) (l1, l2, m)).2 = er at *
      generalize (Vl.save u (x, y) (l1, l2, m)).1 = u2 at *
      have hee : (er != er) = false := by simp
      go_wp2_with fail
      obtain ⟨D, sy, ⟨t, vo⟩, s⟩ := u2
      obtain ⟨A, c, A2, c2, B, d, B2, d2, h1, h2, -⟩ := HVR.out
      have hD := HOK.out.len
      have hlo := load_any g _ HOK.out.good.len A c A2 c2 _ h1
      have HMV := Lib.hid h1
      have hst := h2.st
      have hrd := h2.d.here
      have hrl := h2.l.here
      dsimp only at hst hrd hrl hlo hD
      generalize hsn : s.length = sn at *
      have HSN := Lib.hid hsn
      generalize hdn : D.length = dn at *
      have HDN := Lib.hid hdn
      have HST := Lib.hid hst
      have HRD := Lib.hid hrd
      have HRL := Lib.hid hrl
      clear hsn hdn hst hrd hrl h1 h2
      refine hlo.mono ?_
      rintro e w9 ⟨A5, c5, rfl, ho, hb⟩
      dsimp only at ho ⊢
      simp only [HSN.out] at ho ⊢
      clear hlo
      have hb5 := hb.alloc hb.size (.cells #[.int .i64 t, .int .i64 vo] 30)
      replace hb5 := hb5.alloc hb5.size (.cells #[.int .i64 0, .int .i64 0, .slice A5 sn c5] 38)
      have hal := ((Below.refl w9.heap.size w9).alloc (Nat.le_refl _) (.cells #[.int .i64 t, .int .i64 vo] 30)).alloc (by simp) (.cells #[.int .i64 0, .int .i64 0, .slice A5 sn c5] 38)
      have HX3 := Lib.hid ((Whole.new w9 30 #[.int .i64 t, .int .i64 vo]).alloc (.cells #[.int .i64 0, .int .i64 0, .slice A5 sn c5] 38))
      have HX4 := Lib.hid (Whole.new1 w9 (.cells #[.int .i64 t, .int .i64 vo] 30) 38 #[.int .i64 0, .int .i64 0, .slice A5 sn c5])
      have HO5 := Lib.hid ((ho.alloc (.cells #[.int .i64 t, .int .i64 vo] 30)).alloc (.cells #[.int .i64 0, .int .i64 0, .slice A5 sn c5] 38))
      replace HST := Lib.hid (HST.out.below hb5 HST.out.lt)
      replace HRD := Lib.hid (Sl.here2 (HRD.out.below hb5) hb5.size)
      replace HRL := Lib.hid (Sl.here2 (HRL.out.below hb5) hb5.size)
      replace HVR := Lib.hid (HVR.out.stay hb5)
      replace HMV := Lib.hid (HMV.out.stay hb5)
      replace HB := Lib.hid (HB.out.trans (hb5.mono HB.out.size))
      clear ho hb hb5 hal
      obtain ⟨u0, u1, u2_⟩ := HX4.out.c3
      obtain ⟨q0, q1⟩ := HX3.out.c2
      obtain ⟨k0, k1, k2, k3, k4⟩ := HST.out.c5
      go_wp2_with fail
      clear u0 u1 u2_ q0 q1 k0 k1 k2 k3 k4
      generalize ((w9.alloc (.cells #[.int .i64 t, .int .i64 vo] 30)).alloc (.cells #[.int .i64 0, .int .i64 0, .slice A5 sn c5] 38)) = wa at *
      refine s_start (fun W => Kept (fun _ => False) (wa).drew W) [] (by kernel_rfl) ?_
      have HC := Lib.hid (Kept.refl (fun _ => False) (wa).drew)
      have HXX := Lib.hid (fun W (hW : Kept (fun _ => False) wa.drew W) => (⟨(hW.whole (show Whole wa.drew _ _ _ from HX4.out) (fun h => h)).c3, (hW.whole (show Whole wa.drew _ _ _ from HX3.out) (fun h => h)).c2, (hW.whole (show Whole wa.drew _ _ _ from HST.out) (fun h => h)).c5⟩ : _ ∧ _ ∧ _))
      have hsy : Sl wa.drew wa.heap.size (.slice B2 sn d2) s := HRL.out
      have HSY := Lib.hid hsy
      clear hsy
      have HSM := Lib.hid (fun W (hW : Kept (fun _ => False) wa.drew W) => same_any _ _ s W W.heap.size (Nat.le_refl _) (((HO5.out.drew).keep hW (fun _ _ h => h)).sl) (SlS.here (Kept.sl hW HSY.out (fun _ _ h => h))))
      have HD := Lib.hid ((Below.refl wa.heap.size wa).drew)
      have hz1 : wa.heap.size ≤ wa.drew.heap.size := Nat.le_refl _
      generalize (wa).drew = x1 at *
      refine s_take (i := 0) (v := ?_) rfl (by kernel_rfl) (by kernel_rfl) (by kernel_rfl) (k0 := 0) (by kernel_rfl) (by kernel_rfl) (.inl rfl) (fun _ _ _ h => h) (by rfl) HC.out ?_ ?_
      rotate_left
      · intro W hW
        go_simp
        first | done | rfl
      simp only [Act.put, List.setIfInBounds_toArray, List.set_cons_zero, List.set_cons_succ, List.getElem_toArray, List.getElem_cons_zero]
      refine s_take (i := 1) (v := ?_) rfl (by kernel_rfl) (by kernel_rfl) (by kernel_rfl) (k0 := 1) (by kernel_rfl) (by kernel_rfl) (.inl rfl) (fun _ _ _ h => h) (by rfl) HC.out ?_ ?_
      rotate_left
      · intro W hW
        obtain ⟨⟨u0, u1, u2_⟩, ⟨q0, q1⟩, k0, k1, k2, k3, k4⟩ := HXX.out _ hW
        go_simp
        first | done | rfl
      simp only [Act.put, List.setIfInBounds_toArray, List.set_cons_zero, List.set_cons_succ, List.getElem_toArray, List.getElem_cons_zero, List.getElem_cons_succ]
      refine s_take (i := 2) (v := ?_) rfl (by kernel_rfl) (by kernel_rfl) (by kernel_rfl) (k0 := 2) (by kernel_rfl) (by kernel_rfl) (.inl rfl) (fun _ _ _ h => h) (by rfl) HC.out ?_ ?_
      rotate_left
      · intro W hW
        go_simp
        first | done | rfl
      simp only [Act.put, List.setIfInBounds_toArray, List.set_cons_zero, List.set_cons_succ, List.getElem_toArray, List.getElem_cons_zero, List.getElem_cons_succ]
      refine s_take (i := 3) (v := ?_) rfl (by kernel_rfl) (by kernel_rfl) (by kernel_rfl) (k0 := 3) (by kernel_rfl) (by kernel_rfl) (.inl rfl) (fun _ _ _ h => h) (by rfl) HC.out ?_ ?_
      rotate_left
      · intro W hW
        go_simp
        first | done | rfl
      simp only [Act.put, List.setIfInBounds_toArray, List.set_cons_zero, List.set_cons_succ, List.getElem_toArray, List.getElem_cons_zero, List.getElem_cons_succ]
      refine s_take (i := 4) (v := ?_) rfl (by kernel_rfl) (by kernel_rfl) (by kernel_rfl) (k0 := 4) (by kernel_rfl) (by kernel_rfl) (.inl rfl) (fun _ _ _ h => h) (by rfl) HC.out ?_ ?_
      rotate_left
      · intro W hW
        go_simp
        first | done | rfl
      simp only [Act.put, List.setIfInBounds_toArray, List.set_cons_zero, List.set_cons_succ, List.getElem_toArray, List.getElem_cons_zero, List.getElem_cons_succ]
      refine s_take (i := 5) (v := ?_) rfl (by kernel_rfl) (by kernel_rfl) (by kernel_rfl) (k0 := 5) (by kernel_rfl) (by kernel_rfl) (.inl rfl) (fun _ _ _ h => h) (by rfl) HC.out ?_ ?_
      rotate_left
      · intro W hW
        go_simp
        first | done | rfl
      simp only [Act.put, List.setIfInBounds_toArray, List.set_cons_zero, List.set_cons_succ, List.getElem_toArray, List.getElem_cons_zero, List.getElem_cons_succ]
      refine s_take (i := 6) (v := ?_) rfl (by kernel_rfl) (by kernel_rfl) (by kernel_rfl) (k0 := 6) (by kernel_rfl) (by kernel_rfl) (.inl rfl) (fun _ _ _ h => h) (by rfl) HC.out ?_ ?_
      rotate_left
      · intro W hW
        obtain ⟨⟨u0, u1, u2_⟩, ⟨q0, q1⟩, k0, k1, k2, k3, k4⟩ := HXX.out _ hW
        go_simp
        first | done | rfl
      simp only [Act.put, List.setIfInBounds_toArray, List.set_cons_zero, List.set_cons_succ, List.getElem_toArray, List.getElem_cons_zero, List.getElem_cons_succ]
      refine s_one (i := 7) (by kernel_rfl) ?_
      refine ones_call (i := 7) (f := 19) (args := ?_) rfl (by rfl) ?_ ?_
      rotate_left
      · go_simp
        first | done | rfl
      with_reducible refine (HSM.out _ HC.out).mono ?_
      rintro e x2 ⟨rfl, hb⟩
      refine ⟨_, rfl, fun _ => HC.out.trans (Below.kept hb), ?_⟩
      replace HC := Lib.hid (HC.out.trans (Below.kept hb))
      clear hb
      simp only [Act.put, List.setIfInBounds_toArray, List.set_cons_zero, List.set_cons_succ, List.getElem_toArray, List.getElem_cons_zero, List.getElem_cons_succ]
      refine s_take (i := 8) (v := ?_) rfl (by kernel_rfl) (by kernel_rfl) (by kernel_rfl) (k0 := 8) (by kernel_rfl) (by kernel_rfl) (.inl rfl) (fun _ _ _ h => h) (by rfl) HC.out ?_ ?_
      rotate_left
      · intro W hW
        go_simp
        first | done | rfl
      simp only [Act.put, List.setIfInBounds_toArray, List.set_cons_zero, List.set_cons_succ, List.getElem_toArray, List.getElem_cons_zero, List.getElem_cons_succ]
      refine s_done (by kernel_rfl) ?_
      have hbn := HD.out.trans (HC.out.below (B := wa.heap.size) (fun _ h => h.elim) hz1)
      replace HX3 := Lib.hid (HX3.out.below hbn HX3.out.lt)
      replace HX4 := Lib.hid (HX4.out.below hbn HX4.out.lt)
      replace HST := Lib.hid (HST.out.below hbn HST.out.lt)
      replace HRD := Lib.hid (Sl.here2 (HRD.out.below hbn) hbn.size)
      replace HRL := Lib.hid (Sl.here2 (HRL.out.below hbn) hbn.size)
      replace HVR := Lib.hid (HVR.out.stay hbn)
      replace HMV := Lib.hid (HMV.out.stay hbn)
      replace HB := Lib.hid (HB.out.trans (hbn.mono HB.out.size))
      clear HC HD HXX hbn hz1 HSM HO5
      go_simp
      generalize hwb : x2 = wb at *
      clear hwb
      go_wp2_with fail
      refine s_start (fun W => Kept (fun _ => False) (wb).drew W) [] (by kernel_rfl) ?_
      have HC := Lib.hid (Kept.refl (fun _ => False) (wb).drew)
      have HXX := Lib.hid (fun W (hW : Kept (fun _ => False) wb.drew W) => (⟨(hW.whole (show Whole wb.drew _ _ _ from HX4.out) (fun h => h)).c3, (hW.whole (show Whole wb.drew _ _ _ from HX3.out) (fun h => h)).c2, (hW.whole (show Whole wb.drew _ _ _ from HST.out) (fun h => h)).c5⟩ : _ ∧ _ ∧ _))
      have hbyd := fun W (hW : Kept (fun _ => False) wb.drew W) => bytes_any g _ HOK.out.len A c A2 c2 W (HMV.out.drew.stay (hW.below (B := wb.drew.heap.size) (fun _ h => h.elim) (Nat.le_refl _)))
      dsimp only at hbyd
      have HBY := Lib.hid hbyd
      clear hbyd
      have hsx : Sl wb.drew wb.heap.size (.slice B dn d) D := HRD.out
      have HSX := Lib.hid hsx
      clear hsx
      have HCV := Lib.hid (fun W (hW : Kept (fun _ => False) wb.drew W) => conv_sl (Kept.sl hW HSX.out (fun _ _ h => h)))
      have HD := Lib.hid ((Below.refl wb.heap.size wb).drew)
      have hz1 : wb.heap.size ≤ wb.drew.heap.size := Nat.le_refl _
      generalize (wb).drew = y1 at *
      refine s_take (i := 0) (v := ?_) rfl (by kernel_rfl) (by kernel_rfl) (by kernel_rfl) (k0 := 0) (by kernel_rfl) (by kernel_rfl) (.inl rfl) (fun _ _ _ h => h) (by rfl) HC.out ?_ ?_
      rotate_left
      · intro W hW
        go_simp
        first | done | rfl
      simp only [Act.put, List.setIfInBounds_toArray, List.set_cons_zero, List.set_cons_succ, List.getElem_toArray, List.getElem_cons_zero]
      refine s_take (i := 1) (v := ?_) rfl (by kernel_rfl) (by kernel_rfl) (by kernel_rfl) (k0 := 1) (by kernel_rfl) (by kernel_rfl) (.inl rfl) (fun _ _ _ h => h) (by rfl) HC.out ?_ ?_
      rotate_left
      · intro W hW
        go_simp
        first | done | rfl
      simp only [Act.put, List.setIfInBounds_toArray, List.set_cons_zero, List.set_cons_succ, List.getElem_toArray, List.getElem_cons_zero, List.getElem_cons_succ]
      refine s_take (i := 2) (v := ?_) rfl (by kernel_rfl) (by kernel_rfl) (by kernel_rfl) (k0 := 2) (by kernel_rfl) (by kernel_rfl) (.inl rfl) (fun _ _ _ h => h) (by rfl) HC.out ?_ ?_
      rotate_left
      · intro W hW
        go_simp
        first | done | rfl
      simp only [Act.put, List.setIfInBounds_toArray, List.set_cons_zero, List.set_cons_succ, List.getElem_toArray, List.getElem_cons_zero, List.getElem_cons_succ]
      refine s_take (i := 3) (v := ?_) rfl (by kernel_rfl) (by kernel_rfl) (by kernel_rfl) (k0 := 3) (by kernel_rfl) (by kernel_rfl) (.inl rfl) (fun _ _ _ h => h) (by rfl) HC.out ?_ ?_
      rotate_left
      · intro W hW
        go_simp
        first | done | rfl
      simp only [Act.put, List.setIfInBounds_toArray, List.set_cons_zero, List.set_cons_succ, List.getElem_toArray, List.getElem_cons_zero, List.getElem_cons_succ]
      refine s_take (i := 4) (v := ?_) rfl (by kernel_rfl) (by kernel_rfl) (by kernel_rfl) (k0 := 4) (by kernel_rfl) (by kernel_rfl) (.inl rfl) (fun _ _ _ h => h) (by rfl) HC.out ?_ ?_
      rotate_left
      · intro W hW
        obtain ⟨⟨u0, u1, u2_⟩, ⟨q0, q1⟩, k0, k1, k2, k3, k4⟩ := HXX.out _ hW
        go_simp
        first | done | rfl
      simp only [Act.put, List.setIfInBounds_toArray, List.set_cons_zero, List.set_cons_succ, List.getElem_toArray, List.getElem_cons_zero, List.getElem_cons_succ]
      refine s_take (i := 5) (v := ?_) rfl (by kernel_rfl) (by kernel_rfl) (by kernel_rfl) (k0 := 5) (by kernel_rfl) (by kernel_rfl) (.inl rfl) (fun _ _ _ h => h) (by rfl) HC.out ?_ ?_
      rotate_left
      · intro W hW
        go_simp
        first | done | rfl
      simp only [Act.put, List.setIfInBounds_toArray, List.set_cons_zero, List.set_cons_succ, List.getElem_toArray, List.getElem_cons_zero, List.getElem_cons_succ]
      refine s_take (i := 6) (v := ?_) rfl (by kernel_rfl) (by kernel_rfl) (by kernel_rfl) (k0 := 6) (by kernel_rfl) (by kernel_rfl) (.inl rfl) (fun _ _ _ h => h) (by rfl) HC.out ?_ ?_
      rotate_left
      · intro W hW
        go_simp
        first | done | rfl
      simp only [Act.put, List.setIfInBounds_toArray, List.set_cons_zero, List.set_cons_succ, List.getElem_toArray, List.getElem_cons_zero, List.getElem_cons_succ]
      refine s_take (i := 7) (v := ?_) rfl (by kernel_rfl) (by kernel_rfl) (by kernel_rfl) (k0 := 7) (by kernel_rfl) (by kernel_rfl) (.inl rfl) (fun _ _ _ h => h) (by rfl) HC.out ?_ ?_
      rotate_left
      · intro W hW
        go_simp
        first | done | rfl
      simp only [Act.put, List.setIfInBounds_toArray, List.set_cons_zero, List.set_cons_succ, List.getElem_toArray, List.getElem_cons_zero, List.getElem_cons_succ]
      refine s_take (i := 8) (v := ?_) rfl (by kernel_rfl) (by kernel_rfl) (by kernel_rfl) (k0 := 8) (by kernel_rfl) (by kernel_rfl) (.inl rfl) (fun _ _ _ h => h) (by rfl) HC.out ?_ ?_
      rotate_left
      · intro W hW
        go_simp
        first | done | rfl
      simp only [Act.put, List.setIfInBounds_toArray, List.set_cons_zero, List.set_cons_succ, List.getElem_toArray, List.getElem_cons_zero, List.getElem_cons_succ]
      refine s_take (i := 9) (v := ?_) rfl (by kernel_rfl) (by kernel_rfl) (by kernel_rfl) (k0 := 9) (by kernel_rfl) (by kernel_rfl) (.inl rfl) (fun _ _ _ h => h) (by rfl) HC.out ?_ ?_
      rotate_left
      · intro W hW
        obtain ⟨⟨u0, u1, u2_⟩, ⟨q0, q1⟩, k0, k1, k2, k3, k4⟩ := HXX.out _ hW
        go_simp
        first | done | rfl
      simp only [Act.put, List.setIfInBounds_toArray, List.set_cons_zero, List.set_cons_succ, List.getElem_toArray, List.getElem_cons_zero, List.getElem_cons_succ]
      refine s_take (i := 10) (v := ?_) rfl (by kernel_rfl) (by kernel_rfl) (by kernel_rfl) (k0 := 10) (by kernel_rfl) (by kernel_rfl) (.inl rfl) (fun _ _ _ h => h) (by rfl) HC.out ?_ ?_
      rotate_left
      · intro W hW
        go_simp
        first | done | rfl
      simp only [Act.put, List.setIfInBounds_toArray, List.set_cons_zero, List.set_cons_succ, List.getElem_toArray, List.getElem_cons_zero, List.getElem_cons_succ]
      refine s_take (i := 11) (v := ?_) rfl (by kernel_rfl) (by kernel_rfl) (by kernel_rfl) (k0 := 11) (by kernel_rfl) (by kernel_rfl) (.inl rfl) (fun _ _ _ h => h) (by rfl) HC.out ?_ ?_
      rotate_left
      · intro W hW
        go_simp
        first | done | rfl
      simp only [Act.put, List.setIfInBounds_toArray, List.set_cons_zero, List.set_cons_succ, List.getElem_toArray, List.getElem_cons_zero, List.getElem_cons_succ]
      refine s_take (i := 12) (v := ?_) rfl (by kernel_rfl) (by kernel_rfl) (by kernel_rfl) (k0 := 12) (by kernel_rfl) (by kernel_rfl) (.inl rfl) (fun _ _ _ h => h) (by rfl) HC.out ?_ ?_
      rotate_left
      · intro W hW
        go_simp
        first | done | rfl
      simp only [Act.put, List.setIfInBounds_toArray, List.set_cons_zero, List.set_cons_succ, List.getElem_toArray, List.getElem_cons_zero, List.getElem_cons_succ]
      refine s_take (i := 13) (v := ?_) rfl (by kernel_rfl) (by kernel_rfl) (by kernel_rfl) (k0 := 13) (by kernel_rfl) (by kernel_rfl) (.inl rfl) (fun _ _ _ h => h) (by rfl) HC.out ?_ ?_
      rotate_left
      · intro W hW
        go_simp
        first | done | rfl
      simp only [Act.put, List.setIfInBounds_toArray, List.set_cons_zero, List.set_cons_succ, List.getElem_toArray, List.getElem_cons_zero, List.getElem_cons_succ]
      refine s_take (i := 14) (v := ?_) rfl (by kernel_rfl) (by kernel_rfl) (by kernel_rfl) (k0 := 14) (by kernel_rfl) (by kernel_rfl) (.inl rfl) (fun _ _ _ h => h) (by rfl) HC.out ?_ ?_
      rotate_left
      · intro W hW
        go_simp
        first | done | rfl
      simp only [Act.put, List.setIfInBounds_toArray, List.set_cons_zero, List.set_cons_succ, List.getElem_toArray, List.getElem_cons_zero, List.getElem_cons_succ]
      refine s_take (i := 15) (v := ?_) rfl (by kernel_rfl) (by kernel_rfl) (by kernel_rfl) (k0 := 15) (by kernel_rfl) (by kernel_rfl) (.inl rfl) (fun _ _ _ h => h) (by rfl) HC.out ?_ ?_
      rotate_left
      · intro W hW
        go_simp
        first | done | rfl
      simp only [Act.put, List.setIfInBounds_toArray, List.set_cons_zero, List.set_cons_succ, List.getElem_toArray, List.getElem_cons_zero, List.getElem_cons_succ]
      refine s_take (i := 16) (v := ?_) rfl (by kernel_rfl) (by kernel_rfl) (by kernel_rfl) (k0 := 16) (by kernel_rfl) (by kernel_rfl) (.inl rfl) (fun _ _ _ h => h) (by rfl) HC.out ?_ ?_
      rotate_left
      · intro W hW
        go_simp
        first | done | rfl
      simp only [Act.put, List.setIfInBounds_toArray, List.set_cons_zero, List.set_cons_succ, List.getElem_toArray, List.getElem_cons_zero, List.getElem_cons_succ]
      refine s_take (i := 17) (v := ?_) rfl (by kernel_rfl) (by kernel_rfl) (by kernel_rfl) (k0 := 17) (by kernel_rfl) (by kernel_rfl) (.inl rfl) (fun _ _ _ h => h) (by rfl) HC.out ?_ ?_
      rotate_left
      · intro W hW
        go_simp
        first | done | rfl
      simp only [Act.put, List.setIfInBounds_toArray, List.set_cons_zero, List.set_cons_succ, List.getElem_toArray, List.getElem_cons_zero, List.getElem_cons_succ]
      refine s_take (i := 18) (v := ?_) rfl (by kernel_rfl) (by kernel_rfl) (by kernel_rfl) (k0 := 18) (by kernel_rfl) (by kernel_rfl) (.inl rfl) (fun _ _ _ h => h) (by rfl) HC.out ?_ ?_
      rotate_left
      · intro W hW
        obtain ⟨⟨u0, u1, u2_⟩, ⟨q0, q1⟩, k0, k1, k2, k3, k4⟩ := HXX.out _ hW
        go_simp
        first | done | rfl
      simp only [Act.put, List.setIfInBounds_toArray, List.set_cons_zero, List.set_cons_succ, List.getElem_toArray, List.getElem_cons_zero, List.getElem_cons_succ]
      refine s_take (i := 19) (v := ?_) rfl (by kernel_rfl) (by kernel_rfl) (by kernel_rfl) (k0 := 19) (by kernel_rfl) (by kernel_rfl) (.inl rfl) (fun _ _ _ h => h) (by rfl) HC.out ?_ ?_
      rotate_left
      · intro W hW
        go_simp
        first | done | rfl
      simp only [Act.put, List.setIfInBounds_toArray, List.set_cons_zero, List.set_cons_succ, List.getElem_toArray, List.getElem_cons_zero, List.getElem_cons_succ]
      refine s_take (i := 20) (v := ?_) rfl (by kernel_rfl) (by kernel_rfl) (by kernel_rfl) (k0 := 20) (by kernel_rfl) (by kernel_rfl) (.inl rfl) (fun _ _ _ h => h) (by rfl) HC.out ?_ ?_
      rotate_left
      · intro W hW
        go_simp
        first | done | rfl
      simp only [Act.put, List.setIfInBounds_toArray, List.set_cons_zero, List.set_cons_succ, List.getElem_toArray, List.getElem_cons_zero, List.getElem_cons_succ]
      refine s_take (i := 21) (v := ?_) rfl (by kernel_rfl) (by kernel_rfl) (by kernel_rfl) (k0 := 21) (by kernel_rfl) (by kernel_rfl) (.inl rfl) (fun _ _ _ h => h) (by rfl) HC.out ?_ ?_
      rotate_left
      · intro W hW
        go_simp
        first | done | rfl
      simp only [Act.put, List.setIfInBounds_toArray, List.set_cons_zero, List.set_cons_succ, List.getElem_toArray, List.getElem_cons_zero, List.getElem_cons_succ]
      refine s_take (i := 22) (v := ?_) rfl (by kernel_rfl) (by kernel_rfl) (by kernel_rfl) (k0 := 22) (by kernel_rfl) (by kernel_rfl) (.inl rfl) (fun _ _ _ h => h) (by rfl) HC.out ?_ ?_
      rotate_left
      · intro W hW
        go_simp
        first | done | rfl
      simp only [Act.put, List.setIfInBounds_toArray, List.set_cons_zero, List.set_cons_succ, List.getElem_toArray, List.getElem_cons_zero, List.getElem_cons_succ]
      refine s_take (i := 25) (v := ?_) rfl (by kernel_rfl) (by kernel_rfl) (by kernel_rfl) (k0 := 25) (by kernel_rfl) (by kernel_rfl) (.inl rfl) (fun _ _ _ h => h) (by rfl) HC.out ?_ ?_
      rotate_left
      · intro W hW
        go_simp
        first | done | rfl
      simp only [Act.put, List.setIfInBounds_toArray, List.set_cons_zero, List.set_cons_succ, List.getElem_toArray, List.getElem_cons_zero, List.getElem_cons_succ]
      refine s_take (i := 26) (v := ?_) rfl (by kernel_rfl) (by kernel_rfl) (by kernel_rfl) (k0 := 26) (by kernel_rfl) (by kernel_rfl) (.inl rfl) (fun _ _ _ h => h) (by rfl) HC.out ?_ ?_
      rotate_left
      · intro W hW
        go_simp
        first | done | rfl
      simp only [Act.put, List.setIfInBounds_toArray, List.set_cons_zero, List.set_cons_succ, List.getElem_toArray, List.getElem_cons_zero, List.getElem_cons_succ]
      refine s_take (i := 27) (v := ?_) rfl (by kernel_rfl) (by kernel_rfl) (by kernel_rfl) (k0 := 27) (by kernel_rfl) (by kernel_rfl) (.inl rfl) (fun _ _ _ h => h) (by rfl) HC.out ?_ ?_
      rotate_left
      · intro W hW
        go_simp
        first | done | rfl
      simp only [Act.put, List.setIfInBounds_toArray, List.set_cons_zero, List.set_cons_succ, List.getElem_toArray, List.getElem_cons_zero, List.getElem_cons_succ]
      refine s_take (i := 28) (v := ?_) rfl (by kernel_rfl) (by kernel_rfl) (by kernel_rfl) (k0 := 28) (by kernel_rfl) (by kernel_rfl) (.inl rfl) (fun _ _ _ h => h) (by rfl) HC.out ?_ ?_
      rotate_left
      · intro W hW
        obtain ⟨⟨u0, u1, u2_⟩, ⟨q0, q1⟩, k0, k1, k2, k3, k4⟩ := HXX.out _ hW
        go_simp
        first | done | rfl
      simp only [Act.put, List.setIfInBounds_toArray, List.set_cons_zero, List.set_cons_succ, List.getElem_toArray, List.getElem_cons_zero, List.getElem_cons_succ]
      refine s_take (i := 29) (v := ?_) rfl (by kernel_rfl) (by kernel_rfl) (by kernel_rfl) (k0 := 29) (by kernel_rfl) (by kernel_rfl) (.inl rfl) (fun _ _ _ h => h) (by rfl) HC.out ?_ ?_
      rotate_left
      · intro W hW
        have hcv7 := HCV.out _ hW
        go_simp
        first | done | rfl
      simp only [Act.put, List.setIfInBounds_toArray, List.set_cons_zero, List.set_cons_succ, List.getElem_toArray, List.getElem_cons_zero, List.getElem_cons_succ]
      refine s_one (i := 23) (by kernel_rfl) ?_
      refine ones_call (i := 23) (f := 20) (args := ?_) rfl (by rfl) ?_ ?_
      rotate_left
      · go_simp
        first | done | rfl
      with_reducible refine (HBY.out _ HC.out).mono ?_
      rintro e y2 ⟨A9, c9, rfl, ho, hb⟩
      refine ⟨_, rfl, fun _ => HC.out.trans (Below.kept hb), ?_⟩
      replace HC := Lib.hid (HC.out.trans (Below.kept hb))
      simp only [HDN.out] at ho ⊢
      have hcv9 := conv_sl ho.sl.here
      clear ho
      clear hb
      simp only [Act.put, List.setIfInBounds_toArray, List.set_cons_zero, List.set_cons_succ, List.getElem_toArray, List.getElem_cons_zero, List.getElem_cons_succ]
      refine s_one (i := 24) (by kernel_rfl) ?_
      refine ones_same (i := 24) (v := ?_) rfl (by rfl) ?_ ?_
      rotate_left 1
      · go_simp
        first | done | rfl
      simp only [Act.put, List.setIfInBounds_toArray, List.set_cons_zero, List.set_cons_succ, List.getElem_toArray, List.getElem_cons_zero, List.getElem_cons_succ]
      refine s_take (i := 30) (v := ?_) rfl (by kernel_rfl) (by kernel_rfl) (by kernel_rfl) (k0 := 30) (by kernel_rfl) (by kernel_rfl) (.inl rfl) (fun _ _ _ h => h) (by rfl) HC.out ?_ ?_
      rotate_left
      · intro W hW
        go_simp
        first | done | rfl
      simp only [Act.put, List.setIfInBounds_toArray, List.set_cons_zero, List.set_cons_succ, List.getElem_toArray, List.getElem_cons_zero, List.getElem_cons_succ]
      refine s_take (i := 31) (v := ?_) rfl (by kernel_rfl) (by kernel_rfl) (by kernel_rfl) (k0 := 31) (by kernel_rfl) (by kernel_rfl) (.inl rfl) (fun _ _ _ h => h) (by rfl) HC.out ?_ ?_
      rotate_left
      · intro W hW
        go_simp
        first | done | rfl
      simp only [Act.put, List.setIfInBounds_toArray, List.set_cons_zero, List.set_cons_succ, List.getElem_toArray, List.getElem_cons_zero, List.getElem_cons_succ]
      refine s_done (by kernel_rfl) ?_
      have hbn := HD.out.trans (HC.out.below (B := wb.heap.size) (fun _ h => h.elim) hz1)
      replace HVR := Lib.hid (HVR.out.stay hbn)
      replace HB := Lib.hid (HB.out.trans (hbn.mono HB.out.size))
      clear HC HD HXX hbn hz1
      go_simp
      go_wp2_with fail
      exact ⟨⟨j + 1, ⟨D, sy, ((t, vo), s)⟩, by omega, by go_num, HOK.out, HVR.out, HB.out⟩, by simp [intOf]; omega⟩
    have e0 : (kd == 0) = false := by simpa using hk0
    by_cases hk1 : kd = 1
    · subst hk1
      go_wp2_with fail
      clear g0 g1 g2_ g3 g4 g5 g6
      refine (sync_vr1 HVR.out).mono ?_
      rintro e w7 ⟨rfl, hv, hb⟩
      have HVR2 := Lib.hid hv
      replace HB := Lib.hid (HB.out.trans hb)
      replace HVR := HVR2
      clear hv hb HVR2
      go_wp2_with fail
      refine (sync_vr2 HVR.out).mono ?_
      rintro e w8 ⟨rfl, hv, hb⟩
      have HVR2 := Lib.hid hv
      replace HB := Lib.hid (HB.out.trans hb)
      replace HVR := HVR2
      clear hv hb HVR2
      have HOK2 := Lib.hid (Vl.sync_ok HOK.out)
      replace HOK := HOK2
      clear HOK2
      generalize Vl.sync u = u2 at *
      go_wp2_with fail
      obtain ⟨D, sy, ⟨t, vo⟩, s⟩ := u2
      obtain ⟨A, c, A2, c2, B, d, B2, d2, h1, h2, -⟩ := HVR.out
      have hD := HOK.out.len
      have hlo := load_any g _ HOK.out.good.len A c A2 c2 _ h1
      have HMV := Lib.hid h1
      have hst := h2.st
      have hrd := h2.d.here
      have hrl := h2.l.here
      dsimp only at hst hrd hrl hlo hD
      generalize hsn : s.length = sn at *
      have HSN := Lib.hid hsn
      generalize hdn : D.length = dn at *
      have HDN := Lib.hid hdn
      have HST := Lib.hid hst
      have HRD := Lib.hid hrd
      have HRL := Lib.hid hrl
      clear hsn hdn hst hrd hrl h1 h2
      refine hlo.mono ?_
      rintro e w9 ⟨A5, c5, rfl, ho, hb⟩
      dsimp only at ho ⊢
      simp only [HSN.out] at ho ⊢
      clear hlo
      have hb5 := hb.alloc hb.size (.cells #[.int .i64 t, .int .i64 vo] 30)
      replace hb5 := hb5.alloc hb5.size (.cells #[.int .i64 0, .int .i64 0, .slice A5 sn c5] 38)
      have hal := ((Below.refl w9.heap.size w9).alloc (Nat.le_refl _) (.cells #[.int .i64 t, .int .i64 vo] 30)).alloc (by simp) (.cells #[.int .i64 0, .int .i64 0, .slice A5 sn c5] 38)
      have HX3 := Lib.hid ((Whole.new w9 30 #[.int .i64 t, .int .i64 vo]).alloc (.cells #[.int .i64 0, .int .i64 0, .slice A5 sn c5] 38))
      have HX4 := Lib.hid (Whole.new1 w9 (.cells #[.int .i64 t, .int .i64 vo] 30) 38 #[.int .i64 0, .int .i64 0, .slice A5 sn c5])
      have HO5 := Lib.hid ((ho.alloc (.cells #[.int .i64 t, .int .i64 vo] 30)).alloc (.cells #[.int .i64 0, .int .i64 0, .slice A5 sn c5] 38))
      replace HST := Lib.hid (HST.out.below hb5 HST.out.lt)
      replace HRD := Lib.hid (Sl.here2 (HRD.out.below hb5) hb5.size)
      replace HRL := Lib.hid (Sl.here2 (HRL.out.below hb5) hb5.size)
      replace HVR := Lib.hid (HVR.out.stay hb5)
      replace HMV := Lib.hid (HMV.out.stay hb5)
      replace HB := Lib.hid (HB.out.trans (hb5.mono HB.out.size))
      clear ho hb hb5 hal
      obtain ⟨u0, u1, u2_⟩ := HX4.out.c3
      obtain ⟨q0, q1⟩ := HX3.out.c2
      obtain ⟨k0, k1, k2, k3, k4⟩ := HST.out.c5
      go_wp2_with fail
      clear u0 u1 u2_ q0 q1 k0 k1 k2 k3 k4
      generalize ((w9.alloc (.cells #[.int .i64 t, .int .i64 vo] 30)).alloc (.cells #[.int .i64 0, .int .i64 0, .slice A5 sn c5] 38)) = wa at *
      refine s_start (fun W => Kept (fun _ => False) (wa).drew W) [] (by kernel_rfl) ?_
      have HC := Lib.hid (Kept.refl (fun _ => False) (wa).drew)
      have HXX := Lib.hid (fun W (hW : Kept (fun _ => False) wa.drew W) => (⟨(hW.whole (show Whole wa.drew _ _ _ from HX4.out) (fun h => h)).c3, (hW.whole (show Whole wa.drew _ _ _ from HX3.out) (fun h => h)).c2, (hW.whole (show Whole wa.drew _ _ _ from HST.out) (fun h => h)).c5⟩ : _ ∧ _ ∧ _))
      have hsy : Sl wa.drew wa.heap.size (.slice B2 sn d2) s := HRL.out
      have HSY := Lib.hid hsy
      clear hsy
      have HSM := Lib.hid (fun W (hW : Kept (fun _ => False) wa.drew W) => same_any _ _ s W W.heap.size (Nat.le_refl _) (((HO5.out.drew).keep hW (fun _ _ h => h)).sl) (SlS.here (Kept.sl hW HSY.out (fun _ _ h => h))))
      have HD := Lib.hid ((Below.refl wa.heap.size wa).drew)
      have hz1 : wa.heap.size ≤ wa.drew.heap.size := Nat.le_refl _
      generalize (wa).drew = x1 at *
      refine s_take (i := 0) (v := ?_) rfl (by kernel_rfl) (by kernel_rfl) (by kernel_rfl) (k0 := 0) (by kernel_rfl) (by kernel_rfl) (.inl rfl) (fun _ _ _ h => h) (by rfl) HC.out ?_ ?_
      rotate_left
      · intro W hW
        go_simp
        first | done | rfl
      simp only [Act.put, List.setIfInBounds_toArray, List.set_cons_zero, List.set_cons_succ, List.getElem_toArray, List.getElem_cons_zero]
      refine s_take (i := 1) (v := ?_) rfl (by kernel_rfl) (by kernel_rfl) (by kernel_rfl) (k0 := 1) (by kernel_rfl) (by kernel_rfl) (.inl rfl) (fun _ _ _ h => h) (by rfl) HC.out ?_ ?_
      rotate_left
      · intro W hW
        obtain ⟨⟨u0, u1, u2_⟩, ⟨q0, q1⟩, k0, k1, k2, k3, k4⟩ := HXX.out _ hW
        go_simp
        first | done | rfl
      simp only [Act.put, List.setIfInBounds_toArray, List.set_cons_zero, List.set_cons_succ, List.getElem_toArray, List.getElem_cons_zero, List.getElem_cons_succ]
      refine s_take (i := 2) (v := ?_) rfl (by kernel_rfl) (by kernel_rfl) (by kernel_rfl) (k0 := 2) (by kernel_rfl) (by kernel_rfl) (.inl rfl) (fun _ _ _ h => h) (by rfl) HC.out ?_ ?_
      rotate_left
      · intro W hW
        go_simp
        first | done | rfl
      simp only [Act.put, List.setIfInBounds_toArray, List.set_cons_zero, List.set_cons_succ, List.getElem_toArray, List.getElem_cons_zero, List.getElem_cons_succ]
      refine s_take (i := 3) (v := ?_) rfl (by kernel_rfl) (by kernel_rfl) (by kernel_rfl) (k0 := 3) (by kernel_rfl) (by kernel_rfl) (.inl rfl) (fun _ _ _ h => h) (by rfl) HC.out ?_ ?_
      rotate_left
      · intro W hW
        go_simp
        first | done | rfl
      simp only [Act.put, List.setIfInBounds_toArray, List.set_cons_zero, List.set_cons_succ, List.getElem_toArray, List.getElem_cons_zero, List.getElem_cons_succ]
      refine s_take (i := 4) (v := ?_) rfl (by kernel_rfl) (by kernel_rfl) (by kernel_rfl) (k0 := 4) (by kernel_rfl) (by kernel_rfl) (.inl rfl) (fun _ _ _ h => h) (by rfl) HC.out ?_ ?_
      rotate_left
      · intro W hW
        go_simp
        first | done | rfl
      simp only [Act.put, List.setIfInBounds_toArray, List.set_cons_zero, List.set_cons_succ, List.getElem_toArray, List.getElem_cons_zero, List.getElem_cons_succ]
      refine s_take (i := 5) (v := ?_) rfl (by kernel_rfl) (by kernel_rfl) (by kernel_rfl) (k0 := 5) (by kernel_rfl) (by kernel_rfl) (.inl rfl) (fun _ _ _ h => h) (by rfl) HC.out ?_ ?_
      rotate_left
      · intro W hW
        go_simp
        first | done | rfl
      simp only [Act.put, List.setIfInBounds_toArray, List.set_cons_zero, List.set_cons_succ, List.getElem_toArray, List.getElem_cons_zero, List.getElem_cons_succ]
      refine s_take (i := 6) (v := ?_) rfl (by kernel_rfl) (by kernel_rfl) (by kernel_rfl) (k0 := 6) (by kernel_rfl) (by kernel_rfl) (.inl rfl) (fun _ _ _ h => h) (by rfl) HC.out ?_ ?_
      rotate_left
      · intro W hW
        obtain ⟨⟨u0, u1, u2_⟩, ⟨q0, q1⟩, k0, k1, k2, k3, k4⟩ := HXX.out _ hW
        go_simp
        first | done | rfl
      simp only [Act.put, List.setIfInBounds_toArray, List.set_cons_zero, List.set_cons_succ, List.getElem_toArray, List.getElem_cons_zero, List.getElem_cons_succ]
      refine s_one (i := 7) (by kernel_rfl) ?_
      refine ones_call (i := 7) (f := 19) (args := ?_) rfl (by rfl) ?_ ?_
      rotate_left
      · go_simp
        first | done | rfl
      with_reducible refine (HSM.out _ HC.out).mono ?_
      rintro e x2 ⟨rfl, hb⟩
      refine ⟨_, rfl, fun _ => HC.out.trans (Below.kept hb), ?_⟩
      replace HC := Lib.hid (HC.out.trans (Below.kept hb))
      clear hb
      simp only [Act.put, List.setIfInBounds_toArray, List.set_cons_zero, List.set_cons_succ, List.getElem_toArray, List.getElem_cons_zero, List.getElem_cons_succ]
      refine s_take (i := 8) (v := ?_) rfl (by kernel_rfl) (by kernel_rfl) (by kernel_rfl) (k0 := 8) (by kernel_rfl) (by kernel_rfl) (.inl rfl) (fun _ _ _ h => h) (by rfl) HC.out ?_ ?_
      rotate_left
      · intro W hW
        go_simp
        first | done | rfl
      simp only [Act.put, List.setIfInBounds_toArray, List.set_cons_zero, List.set_cons_succ, List.getElem_toArray, List.getElem_cons_zero, List.getElem_cons_succ]
      refine s_done (by kernel_rfl) ?_
      have hbn := HD.out.trans (HC.out.below (B := wa.heap.size) (fun _ h => h.elim) hz1)
      replace HX3 := Lib.hid (HX3.out.below hbn HX3.out.lt)
      replace HX4 := Lib.hid (HX4.out.below hbn HX4.out.lt)
      replace HST := Lib.hid (HST.out.below hbn HST.out.lt)
      replace HRD := Lib.hid (Sl.here2 (HRD.out.below hbn) hbn.size)
      replace HRL := Lib.hid (Sl.here2 (HRL.out.below hbn) hbn.size)
      replace HVR := Lib.hid (HVR.out.stay hbn)
      replace HMV := Lib.hid (HMV.out.stay hbn)
      replace HB := Lib.hid (HB.out.trans (hbn.mono HB.out.size))
      clear HC HD HXX hbn hz1 HSM HO5
      go_simp
      generalize hwb : x2 = wb at *
      clear hwb
      go_wp2_with fail
      refine s_start (fun W => Kept (fun _ => False) (wb).drew W) [] (by kernel_rfl) ?_
      have HC := Lib.hid (Kept.refl (fun _ => False) (wb).drew)
      have HXX := Lib.hid (fun W (hW : Kept (fun _ => False) wb.drew W) => (⟨(hW.whole (show Whole wb.drew _ _ _ from HX4.out) (fun h => h)).c3, (hW.whole (show Whole wb.drew _ _ _ from HX3.out) (fun h => h)).c2, (hW.whole (show Whole wb.drew _ _ _ from HST.out) (fun h => h)).c5⟩ : _ ∧ _ ∧ _))
      have hbyd := fun W (hW : Kept (fun _ => False) wb.drew W) => bytes_any g _ HOK.out.len A c A2 c2 W (HMV.out.drew.stay (hW.below (B := wb.drew.heap.size) (fun _ h => h.elim) (Nat.le_refl _)))
      dsimp only at hbyd
      have HBY := Lib.hid hbyd
      clear hbyd
      have hsx : Sl wb.drew wb.heap.size (.slice B dn d) D := HRD.out
      have HSX := Lib.hid hsx
      clear hsx
      have HCV := Lib.hid (fun W (hW : Kept (fun _ => False) wb.drew W) => conv_sl (Kept.sl hW HSX.out (fun _ _ h => h)))
      have HD := Lib.hid ((Below.refl wb.heap.size wb).drew)
      have hz1 : wb.heap.size ≤ wb.drew.heap.size := Nat.le_refl _
      generalize (wb).drew = y1 at *
      refine s_take (i := 0) (v := ?_) rfl (by kernel_rfl) (by kernel_rfl) (by kernel_rfl) (k0 := 0) (by kernel_rfl) (by kernel_rfl) (.inl rfl) (fun _ _ _ h => h) (by rfl) HC.out ?_ ?_
      rotate_left
      · intro W hW
        go_simp
        first | done | rfl
      simp only [Act.put, List.setIfInBounds_toArray, List.set_cons_zero, List.set_cons_succ, List.getElem_toArray, List.getElem_cons_zero]
      refine s_take (i := 1) (v := ?_) rfl (by kernel_rfl) (by kernel_rfl) (by kernel_rfl) (k0 := 1) (by kernel_rfl) (by kernel_rfl) (.inl rfl) (fun _ _ _ h => h) (by rfl) HC.out ?_ ?_
      rotate_left
      · intro W hW
        go_simp
        first | done | rfl
      simp only [Act.put, List.setIfInBounds_toArray, List.set_cons_zero, List.set_cons_succ, List.getElem_toArray, List.getElem_cons_zero, List.getElem_cons_succ]
      refine s_take (i := 2) (v := ?_) rfl (by kernel_rfl) (by kernel_rfl) (by kernel_rfl) (k0 := 2) (by kernel_rfl) (by kernel_rfl) (.inl rfl) (fun _ _ _ h => h) (by rfl) HC.out ?_ ?_
      rotate_left
      · intro W hW
        go_simp
        first | done | rfl
      simp only [Act.put, List.setIfInBounds_toArray, List.set_cons_zero, List.set_cons_succ, List.getElem_toArray, List.getElem_cons_zero, List.getElem_cons_succ]
      refine s_take (i := 3) (v := ?_) rfl (by kernel_rfl) (by kernel_rfl) (by kernel_rfl) (k0 := 3) (by kernel_rfl) (by kernel_rfl) (.inl rfl) (fun _ _ _ h => h) (by rfl) HC.out ?_ ?_
      rotate_left
      · intro W hW
        go_simp
        first | done | rfl
      simp only [Act.put, List.setIfInBounds_toArray, List.set_cons_zero, List.set_cons_succ, List.getElem_toArray, List.getElem_cons_zero, List.getElem_cons_succ]
      refine s_take (i := 4) (v := ?_) rfl (by kernel_rfl) (by kernel_rfl) (by kernel_rfl) (k0 := 4) (by kernel_rfl) (by kernel_rfl) (.inl rfl) (fun _ _ _ h => h) (by rfl) HC.out ?_ ?_
      rotate_left
      · intro W hW
        obtain ⟨⟨u0, u1, u2_⟩, ⟨q0, q1⟩, k0, k1, k2, k3, k4⟩ := HXX.out _ hW
        go_simp
        first | done | rfl
      simp only [Act.put, List.setIfInBounds_toArray, List.set_cons_zero, List.set_cons_succ, List.getElem_toArray, List.getElem_cons_zero, List.getElem_cons_succ]
      refine s_take (i := 5) (v := ?_) rfl (by kernel_rfl) (by kernel_rfl) (by kernel_rfl) (k0 := 5) (by kernel_rfl) (by kernel_rfl) (.inl rfl) (fun _ _ _ h => h) (by rfl) HC.out ?_ ?_
      rotate_left
      · intro W hW
        go_simp
        first | done | rfl
      simp only [Act.put, List.setIfInBounds_toArray, List.set_cons_zero, List.set_cons_succ, List.getElem_toArray, List.getElem_cons_zero, List.getElem_cons_succ]
      refine s_take (i := 6) (v := ?_) rfl (by kernel_rfl) (by kernel_rfl) (by kernel_rfl) (k0 := 6) (by kernel_rfl) (by kernel_rfl) (.inl rfl) (fun _ _ _ h => h) (by rfl) HC.out ?_ ?_
      rotate_left
      · intro W hW
        go_simp
        first | done | rfl
      simp only [Act.put, List.setIfInBounds_toArray, List.set_cons_zero, List.set_cons_succ, List.getElem_toArray, List.getElem_cons_zero, List.getElem_cons_succ]
      refine s_take (i := 7) (v := ?_) rfl (by kernel_rfl) (by kernel_rfl) (by kernel_rfl) (k0 := 7) (by kernel_rfl) (by kernel_rfl) (.inl rfl) (fun _ _ _ h => h) (by rfl) HC.out ?_ ?_
      rotate_left
      · intro W hW
        go_simp
        first | done | rfl
      simp only [Act.put, List.setIfInBounds_toArray, List.set_cons_zero, List.set_cons_succ, List.getElem_toArray, List.getElem_cons_zero, List.getElem_cons_succ]
      refine s_take (i := 8) (v := ?_) rfl (by kernel_rfl) (by kernel_rfl) (by kernel_rfl) (k0 := 8) (by kernel_rfl) (by kernel_rfl) (.inl rfl) (fun _ _ _ h => h) (by rfl) HC.out ?_ ?_
      rotate_left
      · intro W hW
        go_simp
        first | done | rfl
      simp only [Act.put, List.setIfInBounds_toArray, List.set_cons_zero, List.set_cons_succ, List.getElem_toArray, List.getElem_cons_zero, List.getElem_cons_succ]
      refine s_take (i := 9) (v := ?_) rfl (by kernel_rfl) (by kernel_rfl) (by kernel_rfl) (k0 := 9) (by kernel_rfl) (by kernel_rfl) (.inl rfl) (fun _ _ _ h => h) (by rfl) HC.out ?_ ?_
      rotate_left
      · intro W hW
        obtain ⟨⟨u0, u1, u2_⟩, ⟨q0, q1⟩, k0, k1, k2, k3, k4⟩ := HXX.out _ hW
        go_simp
        first | done | rfl
      simp only [Act.put, List.setIfInBounds_toArray, List.set_cons_zero, List.set_cons_succ, List.getElem_toArray, List.getElem_cons_zero, List.getElem_cons_succ]
      refine s_take (i := 10) (v := ?_) rfl (by kernel_rfl) (by kernel_rfl) (by kernel_rfl) (k0 := 10) (by kernel_rfl) (by kernel_rfl) (.inl rfl) (fun _ _ _ h => h) (by rfl) HC.out ?_ ?_
      rotate_left
      · intro W hW
        go_simp
        first | done | rfl
      simp only [Act.put, List.setIfInBounds_toArray, List.set_cons_zero, List.set_cons_succ, List.getElem_toArray, List.getElem_cons_zero, List.getElem_cons_succ]
      refine s_take (i := 11) (v := ?_) rfl (by kernel_rfl) (by kernel_rfl) (by kernel_rfl) (k0 := 11) (by kernel_rfl) (by kernel_rfl) (.inl rfl) (fun _ _ _ h => h) (by rfl) HC.out ?_ ?_
      rotate_left
      · intro W hW
        go_simp
        first | done | rfl
      simp only [Act.put, List.setIfInBounds_toArray, List.set_cons_zero, List.set_cons_succ, List.getElem_toArray, List.getElem_cons_zero, List.getElem_cons_succ]
      refine s_take (i := 12) (v := ?_) rfl (by kernel_rfl) (by kernel_rfl) (by kernel_rfl) (k0 := 12) (by kernel_rfl) (by kernel_rfl) (.inl rfl) (fun _ _ _ h => h) (by rfl) HC.out ?_ ?_
      rotate_left
      · intro W hW
        go_simp
        first | done | rfl
      simp only [Act.put, List.setIfInBounds_toArray, List.set_cons_zero, List.set_cons_succ, List.getElem_toArray, List.getElem_cons_zero, List.getElem_cons_succ]
      refine s_take (i := 13) (v := ?_) rfl (by kernel_rfl) (by kernel_rfl) (by kernel_rfl) (k0 := 13) (by kernel_rfl) (by kernel_rfl) (.inl rfl) (fun _ _ _ h => h) (by rfl) HC.out ?_ ?_
      rotate_left
      · intro W hW
        go_simp
        first | done | rfl
      simp only [Act.put, List.setIfInBounds_toArray, List.set_cons_zero, List.set_cons_succ, List.getElem_toArray, List.getElem_cons_zero, List.getElem_cons_succ]
      refine s_take (i := 14) (v := ?_) rfl (by kernel_rfl) (by kernel_rfl) (by kernel_rfl) (k0 := 14) (by kernel_rfl) (by kernel_rfl) (.inl rfl) (fun _ _ _ h => h) (by rfl) HC.out ?_ ?_
      rotate_left
      · intro W hW
        go_simp
        first | done | rfl
      simp only [Act.put, List.setIfInBounds_toArray, List.set_cons_zero, List.set_cons_succ, List.getElem_toArray, List.getElem_cons_zero, List.getElem_cons_succ]
      refine s_take (i := 15) (v := ?_) rfl (by kernel_rfl) (by kernel_rfl) (by kernel_rfl) (k0 := 15) (by kernel_rfl) (by kernel_rfl) (.inl rfl) (fun _ _ _ h => h) (by rfl) HC.out ?_ ?_
      rotate_left
      · intro W hW
        go_simp
        first | done | rfl
      simp only [Act.put, List.setIfInBounds_toArray, List.set_cons_zero, List.set_cons_succ, List.getElem_toArray, List.getElem_cons_zero, List.getElem_cons_succ]
      refine s_take (i := 16) (v := ?_) rfl (by kernel_rfl) (by kernel_rfl) (by kernel_rfl) (k0 := 16) (by kernel_rfl) (by kernel_rfl) (.inl rfl) (fun _ _ _ h => h) (by rfl) HC.out ?_ ?_
      rotate_left
      · intro W hW
        go_simp
        first | done | rfl
      simp only [Act.put, List.setIfInBounds_toArray, List.set_cons_zero, List.set_cons_succ, List.getElem_toArray, List.getElem_cons_zero, List.getElem_cons_succ]
      refine s_take (i := 17) (v := ?_) rfl (by kernel_rfl) (by kernel_rfl) (by kernel_rfl) (k0 := 17) (by kernel_rfl) (by kernel_rfl) (.inl rfl) (fun _ _ _ h => h) (by rfl) HC.out ?_ ?_
      rotate_left
      · intro W hW
        go_simp
        first | done | rfl
      simp only [Act.put, List.setIfInBounds_toArray, List.set_cons_zero, List.set_cons_succ, List.getElem_toArray, List.getElem_cons_zero, List.getElem_cons_succ]
      refine s_take (i := 18) (v := ?_) rfl (by kernel_rfl) (by kernel_rfl) (by kernel_rfl) (k0 := 18) (by kernel_rfl) (by kernel_rfl) (.inl rfl) (fun _ _ _ h => h) (by rfl) HC.out ?_ ?_
      rotate_left
      · intro W hW
        obtain ⟨⟨u0, u1, u2_⟩, ⟨q0, q1⟩, k0, k1, k2, k3, k4⟩ := HXX.out _ hW
        go_simp
        first | done | rfl
      simp only [Act.put, List.setIfInBounds_toArray, List.set_cons_zero, List.set_cons_succ, List.getElem_toArray, List.getElem_cons_zero, List.getElem_cons_succ]
      refine s_take (i := 19) (v := ?_) rfl (by kernel_rfl) (by kernel_rfl) (by kernel_rfl) (k0 := 19) (by kernel_rfl) (by kernel_rfl) (.inl rfl) (fun _ _ _ h => h) (by rfl) HC.out ?_ ?_
      rotate_left
      · intro W hW
        go_simp
        first | done | rfl
      simp only [Act.put, List.setIfInBounds_toArray, List.set_cons_zero, List.set_cons_succ, List.getElem_toArray, List.getElem_cons_zero, List.getElem_cons_succ]
      refine s_take (i := 20) (v := ?_) rfl (by kernel_rfl) (by kernel_rfl) (by kernel_rfl) (k0 := 20) (by kernel_rfl) (by kernel_rfl) (.inl rfl) (fun _ _ _ h => h) (by rfl) HC.out ?_ ?_
      rotate_left
      · intro W hW
        go_simp
        first | done | rfl
      simp only [Act.put, List.setIfInBounds_toArray, List.set_cons_zero, List.set_cons_succ, List.getElem_toArray, List.getElem_cons_zero, List.getElem_cons_succ]
      refine s_take (i := 21) (v := ?_) rfl (by kernel_rfl) (by kernel_rfl) (by kernel_rfl) (k0 := 21) (by kernel_rfl) (by kernel_rfl) (.inl rfl) (fun _ _ _ h => h) (by rfl) HC.out ?_ ?_
      rotate_left
      · intro W hW
        go_simp
        first | done | rfl
      simp only [Act.put, List.setIfInBounds_toArray, List.set_cons_zero, List.set_cons_succ, List.getElem_toArray, List.getElem_cons_zero, List.getElem_cons_succ]
      refine s_take (i := 22) (v := ?_) rfl (by kernel_rfl) (by kernel_rfl) (by kernel_rfl) (k0 := 22) (by kernel_rfl) (by kernel_rfl) (.inl rfl) (fun _ _ _ h => h) (by rfl) HC.out ?_ ?_
      rotate_left
      · intro W hW
        go_simp
        first | done | rfl
      simp only [Act.put, List.setIfInBounds_toArray, List.set_cons_zero, List.set_cons_succ, List.getElem_toArray, List.getElem_cons_zero, List.getElem_cons_succ]
      refine s_take (i := 25) (v := ?_) rfl (by kernel_rfl) (by kernel_rfl) (by kernel_rfl) (k0 := 25) (by kernel_rfl) (by kernel_rfl) (.inl rfl) (fun _ _ _ h => h) (by rfl) HC.out ?_ ?_
      rotate_left
      · intro W hW
        go_simp
        first | done | rfl
      simp only [Act.put, List.setIfInBounds_toArray, List.set_cons_zero, List.set_cons_succ, List.getElem_toArray, List.getElem_cons_zero, List.getElem_cons_succ]
      refine s_take (i := 26) (v := ?_) rfl (by kernel_rfl) (by kernel_rfl) (by kernel_rfl) (k0 := 26) (by kernel_rfl) (by kernel_rfl) (.inl rfl) (fun _ _ _ h => h) (by rfl) HC.out ?_ ?_
      rotate_left
      · intro W hW
        go_simp
        first | done | rfl
      simp only [Act.put, List.setIfInBounds_toArray, List.set_cons_zero, List.set_cons_succ, List.getElem_toArray, List.getElem_cons_zero, List.getElem_cons_succ]
      refine s_take (i := 27) (v := ?_) rfl (by kernel_rfl) (by kernel_rfl) (by kernel_rfl) (k0 := 27) (by kernel_rfl) (by kernel_rfl) (.inl rfl) (fun _ _ _ h => h) (by rfl) HC.out ?_ ?_
      rotate_left
      · intro W hW
        go_simp
        first | done | rfl
      simp only [Act.put, List.setIfInBounds_toArray, List.set_cons_zero, List.set_cons_succ, List.getElem_toArray, List.getElem_cons_zero, List.getElem_cons_succ]
      refine s_take (i := 28) (v := ?_) rfl (by kernel_rfl) (by kernel_rfl) (by kernel_rfl) (k0 := 28) (by kernel_rfl) (by kernel_rfl) (.inl rfl) (fun _ _ _ h => h) (by rfl) HC.out ?_ ?_
      rotate_left
      · intro W hW
        obtain ⟨⟨u0, u1, u2_⟩, ⟨q0, q1⟩, k0, k1, k2, k3, k4⟩ := HXX.out _ hW
        go_simp
        first | done | rfl
      simp only [Act.put, List.setIfInBounds_toArray, List.set_cons_zero, List.set_cons_succ, List.getElem_toArray, List.getElem_cons_zero, List.getElem_cons_succ]
      refine s_take (i := 29) (v := ?_) rfl (by kernel_rfl) (by kernel_rfl) (by kernel_rfl) (k0 := 29) (by kernel_rfl) (by kernel_rfl) (.inl rfl) (fun _ _ _ h => h) (by rfl) HC.out ?_ ?_
      rotate_left
      · intro W hW
        have hcv7 := HCV.out _ hW
        go_simp
        first | done | rfl
      simp only [Act.put, List.setIfInBounds_toArray, List.set_cons_zero, List.set_cons_succ, List.getElem_toArray, List.getElem_cons_zero, List.getElem_cons_succ]
      refine s_one (i := 23) (by kernel_rfl) ?_
      refine ones_call (i := 23) (f := 20) (args := ?_) rfl (by rfl) ?_ ?_
      rotate_left
      · go_simp
        first | done | rfl
      with_reducible refine (HBY.out _ HC.out).mono ?_
      rintro e y2 ⟨A9, c9, rfl, ho, hb⟩
      refine ⟨_, rfl, fun _ => HC.out.trans (Below.kept hb), ?_⟩
      replace HC := Lib.hid (HC.out.trans (Below.kept hb))
      simp only [HDN.out] at ho ⊢
      have hcv9 := conv_sl ho.sl.here
      clear ho
      clear hb
      simp only [Act.put, List.setIfInBounds_toArray, List.set_cons_zero, List.set_cons_succ, List.getElem_toArray, List.getElem_cons_zero, List.getElem_cons_succ]
      refine s_one (i := 24) (by kernel_rfl) ?_
      refine ones_same (i := 24) (v := ?_) rfl (by rfl) ?_ ?_
      rotate_left 1
      · go_simp
        first | done | rfl
      simp only [Act.put, List.setIfInBounds_toArray, List.set_cons_zero, List.set_cons_succ, List.getElem_toArray, List.getElem_cons_zero, List.getElem_cons_succ]
      refine s_take (i := 30) (v := ?_) rfl (by kernel_rfl) (by kernel_rfl) (by kernel_rfl) (k0 := 30) (by kernel_rfl) (by kernel_rfl) (.inl rfl) (fun _ _ _ h => h) (by rfl) HC.out ?_ ?_
      rotate_left
      · intro W hW
        go_simp
        first | done | rfl
      simp only [Act.put, List.setIfInBounds_toArray, List.set_cons_zero, List.set_cons_succ, List.getElem_toArray, List.getElem_cons_zero, List.getElem_cons_succ]
      refine s_take (i := 31) (v := ?_) rfl (by kernel_rfl) (by kernel_rfl) (by kernel_rfl) (k0 := 31) (by kernel_rfl) (by kernel_rfl) (.inl rfl) (fun _ _ _ h => h) (by rfl) HC.out ?_ ?_
      rotate_left
      · intro W hW
        go_simp
        first | done | rfl
      simp only [Act.put, List.setIfInBounds_toArray, List.set_cons_zero, List.set_cons_succ, List.getElem_toArray, List.getElem_cons_zero, List.getElem_cons_succ]
      refine s_done (by kernel_rfl) ?_
      have hbn := HD.out.trans (HC.out.below (B := wb.heap.size) (fun _ h => h.elim) hz1)
      replace HVR := Lib.hid (HVR.out.stay hbn)
      replace HB := Lib.hid (HB.out.trans (hbn.mono HB.out.size))
      clear HC HD HXX hbn hz1
      go_simp
      go_wp2_with fail
      exact ⟨⟨j + 1, ⟨D, sy, ((t, vo), s)⟩, by omega, by go_num, HOK.out, HVR.out, HB.out⟩, by simp [intOf]; omega⟩
    have e1 : (kd == 1) = false := by simpa using hk1
    go_wp2_with fail
    clear g0 g1 g2_ g3 g4 g5 g6
    refine (crash_vr1 HVR.out HOK.out hpos nn hkr (HT.out _ HB.out)).mono ?_
    rintro e w7 ⟨rfl, hv, hb⟩
    have HVR2 := Lib.hid hv
    replace HB := Lib.hid (HB.out.trans hb)
    replace HVR := HVR2
    clear hv hb HVR2
    obtain ⟨g0, g1, g2_, g3, g4, g5, g6⟩ := HG.out _ HB.out
    go_wp2_with fail
    clear g0 g1 g2_ g3 g4 g5 g6
    refine (crash_vr2 HVR.out HOK.out nn hkr).mono ?_
    rintro e w8 ⟨rfl, hv, hb⟩
    have HVR2 := Lib.hid hv
    replace HB := Lib.hid (HB.out.trans hb)
    replace HVR := HVR2
    clear hv hb HVR2
    have HOK2 := Lib.hid (Vl.crash_ok HOK.out nn)
    replace HOK := HOK2
    clear HOK2
    generalize Vl.crash u nn = u2 at *
    go_wp2_with fail
    obtain ⟨D, sy, ⟨t, vo⟩, s⟩ := u2
    obtain ⟨A, c, A2, c2, B, d, B2, d2, h1, h2, -⟩ := HVR.out
    have hD := HOK.out.len
    have hlo := load_any g _ HOK.out.good.len A c A2 c2 _ h1
    have HMV := Lib.hid h1
    have hst := h2.st
    have hrd := h2.d.here
    have hrl := h2.l.here
    dsimp only at hst hrd hrl hlo hD
    generalize hsn : s.length = sn at *
    have HSN := Lib.hid hsn
    generalize hdn : D.length = dn at *
    have HDN := Lib.hid hdn
    have HST := Lib.hid hst
    have HRD := Lib.hid hrd
    have HRL := Lib.hid hrl
    clear hsn hdn hst hrd hrl h1 h2
    refine hlo.mono ?_
    rintro e w9 ⟨A5, c5, rfl, ho, hb⟩
    dsimp only at ho ⊢
    simp only [HSN.out] at ho ⊢
    clear hlo
    have hb5 := hb.alloc hb.size (.cells #[.int .i64 t, .int .i64 vo] 30)
    replace hb5 := hb5.alloc hb5.size (.cells #[.int .i64 0, .int .i64 0, .slice A5 sn c5] 38)
    have hal := ((Below.refl w9.heap.size w9).alloc (Nat.le_refl _) (.cells #[.int .i64 t, .int .i64 vo] 30)).alloc (by simp) (.cells #[.int .i64 0, .int .i64 0, .slice A5 sn c5] 38)
    have HX3 := Lib.hid ((Whole.new w9 30 #[.int .i64 t, .int .i64 vo]).alloc (.cells #[.int .i64 0, .int .i64 0, .slice A5 sn c5] 38))
    have HX4 := Lib.hid (Whole.new1 w9 (.cells #[.int .i64 t, .int .i64 vo] 30) 38 #[.int .i64 0, .int .i64 0, .slice A5 sn c5])
    have HO5 := Lib.hid ((ho.alloc (.cells #[.int .i64 t, .int .i64 vo] 30)).alloc (.cells #[.int .i64 0, .int .i64 0, .slice A5 sn c5] 38))
    replace HST := Lib.hid (HST.out.below hb5 HST.out.lt)
    replace HRD := Lib.hid (Sl.here2 (HRD.out.below hb5) hb5.size)
    replace HRL := Lib.hid (Sl.here2 (HRL.out.below hb5) hb5.size)
    replace HVR := Lib.hid (HVR.out.stay hb5)
    replace HMV := Lib.hid (HMV.out.stay hb5)
    replace HB := Lib.hid (HB.out.trans (hb5.mono HB.out.size))
    clear ho hb hb5 hal
    obtain ⟨u0, u1, u2_⟩ := HX4.out.c3
    obtain ⟨q0, q1⟩ := HX3.out.c2
    obtain ⟨k0, k1, k2, k3, k4⟩ := HST.out.c5
    go_wp2_with fail
    clear u0 u1 u2_ q0 q1 k0 k1 k2 k3 k4
    generalize ((w9.alloc (.cells #[.int .i64 t, .int .i64 vo] 30)).alloc (.cells #[.int .i64 0, .int .i64 0, .slice A5 sn c5] 38)) = wa at *
    refine s_start (fun W => Kept (fun _ => False) (wa).drew W) [] (by kernel_rfl) ?_
    have HC := Lib.hid (Kept.refl (fun _ => False) (wa).drew)
    have HXX := Lib.hid (fun W (hW : Kept (fun _ => False) wa.drew W) => (⟨(hW.whole (show Whole wa.drew _ _ _ from HX4.out) (fun h => h)).c3, (hW.whole (show Whole wa.drew _ _ _ from HX3.out) (fun h => h)).c2, (hW.whole (show Whole wa.drew _ _ _ from HST.out) (fun h => h)).c5⟩ : _ ∧ _ ∧ _))
    have hsy : Sl wa.drew wa.heap.size (.slice B2 sn d2) s := HRL.out
    have HSY := Lib.hid hsy
    clear hsy
    have HSM := Lib.hid (fun W (hW : Kept (fun _ => False) wa.drew W) => same_any _ _ s W W.heap.size (Nat.le_refl _) (((HO5.out.drew).keep hW (fun _ _ h => h)).sl) (SlS.here (Kept.sl hW HSY.out (fun _ _ h => h))))
    have HD := Lib.hid ((Below.refl wa.heap.size wa).drew)
    have hz1 : wa.heap.size ≤ wa.drew.heap.size := Nat.le_refl _
    generalize (wa).drew = x1 at *
    refine s_take (i := 0) (v := ?_) rfl (by kernel_rfl) (by kernel_rfl) (by kernel_rfl) (k0 := 0) (by kernel_rfl) (by kernel_rfl) (.inl rfl) (fun _ _ _ h => h) (by rfl) HC.out ?_ ?_
    rotate_left
    · intro W hW
      go_simp
      first | done | rfl
    simp only [Act.put, List.setIfInBounds_toArray, List.set_cons_zero, List.set_cons_succ, List.getElem_toArray, List.getElem_cons_zero]
    refine s_take (i := 1) (v := ?_) rfl (by kernel_rfl) (by kernel_rfl) (by kernel_rfl) (k0 := 1) (by kernel_rfl) (by kernel_rfl) (.inl rfl) (fun _ _ _ h => h) (by rfl) HC.out ?_ ?_
    rotate_left
    · intro W hW
      obtain ⟨⟨u0, u1, u2_⟩, ⟨q0, q1⟩, k0, k1, k2, k3, k4⟩ := HXX.out _ hW
      go_simp
      first | done | rfl
    simp only [Act.put, List.setIfInBounds_toArray, List.set_cons_zero, List.set_cons_succ, List.getElem_toArray, List.getElem_cons_zero, List.getElem_cons_succ]
    refine s_take (i := 2) (v := ?_) rfl (by kernel_rfl) (by kernel_rfl) (by kernel_rfl) (k0 := 2) (by kernel_rfl) (by kernel_rfl) (.inl rfl) (fun _ _ _ h => h) (by rfl) HC.out ?_ ?_
    rotate_left
    · intro W hW
      go_simp
      first | done | rfl
    simp only [Act.put, List.setIfInBounds_toArray, List.set_cons_zero, List.set_cons_succ, List.getElem_toArray, List.getElem_cons_zero, List.getElem_cons_succ]
    refine s_take (i := 3) (v := ?_) rfl (by kernel_rfl) (by kernel_rfl) (by kernel_rfl) (k0 := 3) (by kernel_rfl) (by kernel_rfl) (.inl rfl) (fun _ _ _ h => h) (by rfl) HC.out ?_ ?_
    rotate_left
    · intro W hW
      go_simp
      first | done | rfl
    simp only [Act.put, List.setIfInBounds_toArray, List.set_cons_zero, List.set_cons_succ, List.getElem_toArray, List.getElem_cons_zero, List.getElem_cons_succ]
    refine s_take (i := 4) (v := ?_) rfl (by kernel_rfl) (by kernel_rfl) (by kernel_rfl) (k0 := 4) (by kernel_rfl) (by kernel_rfl) (.inl rfl) (fun _ _ _ h => h) (by rfl) HC.out ?_ ?_
    rotate_left
    · intro W hW
      go_simp
      first | done | rfl
    simp only [Act.put, List.setIfInBounds_toArray, List.set_cons_zero, List.set_cons_succ, List.getElem_toArray, List.getElem_cons_zero, List.getElem_cons_succ]
    refine s_take (i := 5) (v := ?_) rfl (by kernel_rfl) (by kernel_rfl) (by kernel_rfl) (k0 := 5) (by kernel_rfl) (by kernel_rfl) (.inl rfl) (fun _ _ _ h => h) (by rfl) HC.out ?_ ?_
    rotate_left
    · intro W hW
      go_simp
      first | done | rfl
    simp only [Act.put, List.setIfInBounds_toArray, List.set_cons_zero, List.set_cons_succ, List.getElem_toArray, List.getElem_cons_zero, List.getElem_cons_succ]
    refine s_take (i := 6) (v := ?_) rfl (by kernel_rfl) (by kernel_rfl) (by kernel_rfl) (k0 := 6) (by kernel_rfl) (by kernel_rfl) (.inl rfl) (fun _ _ _ h => h) (by rfl) HC.out ?_ ?_
    rotate_left
    · intro W hW
      obtain ⟨⟨u0, u1, u2_⟩, ⟨q0, q1⟩, k0, k1, k2, k3, k4⟩ := HXX.out _ hW
      go_simp
      first | done | rfl
    simp only [Act.put, List.setIfInBounds_toArray, List.set_cons_zero, List.set_cons_succ, List.getElem_toArray, List.getElem_cons_zero, List.getElem_cons_succ]
    refine s_one (i := 7) (by kernel_rfl) ?_
    refine ones_call (i := 7) (f := 19) (args := ?_) rfl (by rfl) ?_ ?_
    rotate_left
    · go_simp
      first | done | rfl
    with_reducible refine (HSM.out _ HC.out).mono ?_
    rintro e x2 ⟨rfl, hb⟩
    refine ⟨_, rfl, fun _ => HC.out.trans (Below.kept hb), ?_⟩
    replace HC := Lib.hid (HC.out.trans (Below.kept hb))
    clear hb
    simp only [Act.put, List.setIfInBounds_toArray, List.set_cons_zero, List.set_cons_succ, List.getElem_toArray, List.getElem_cons_zero, List.getElem_cons_succ]
    refine s_take (i := 8) (v := ?_) rfl (by kernel_rfl) (by kernel_rfl) (by kernel_rfl) (k0 := 8) (by kernel_rfl) (by kernel_rfl) (.inl rfl) (fun _ _ _ h => h) (by rfl) HC.out ?_ ?_
    rotate_left
    · intro W hW
      go_simp
      first | done | rfl
    simp only [Act.put, List.setIfInBounds_toArray, List.set_cons_zero, List.set_cons_succ, List.getElem_toArray, List.getElem_cons_zero, List.getElem_cons_succ]
    refine s_done (by kernel_rfl) ?_
    have hbn := HD.out.trans (HC.out.below (B := wa.heap.size) (fun _ h => h.elim) hz1)
    replace HX3 := Lib.hid (HX3.out.below hbn HX3.out.lt)
    replace HX4 := Lib.hid (HX4.out.below hbn HX4.out.lt)
    replace HST := Lib.hid (HST.out.below hbn HST.out.lt)
    replace HRD := Lib.hid (Sl.here2 (HRD.out.below hbn) hbn.size)
    replace HRL := Lib.hid (Sl.here2 (HRL.out.below hbn) hbn.size)
    replace HVR := Lib.hid (HVR.out.stay hbn)
    replace HMV := Lib.hid (HMV.out.stay hbn)
    replace HB := Lib.hid (HB.out.trans (hbn.mono HB.out.size))
    clear HC HD HXX hbn hz1 HSM HO5
    go_simp
    generalize hwb : x2 = wb at *
    clear hwb
    go_wp2_with fail
    refine s_start (fun W => Kept (fun _ => False) (wb).drew W) [] (by kernel_rfl) ?_
    have HC := Lib.hid (Kept.refl (fun _ => False) (wb).drew)
    have HXX := Lib.hid (fun W (hW : Kept (fun _ => False) wb.drew W) => (⟨(hW.whole (show Whole wb.drew _ _ _ from HX4.out) (fun h => h)).c3, (hW.whole (show Whole wb.drew _ _ _ from HX3.out) (fun h => h)).c2, (hW.whole (show Whole wb.drew _ _ _ from HST.out) (fun h => h)).c5⟩ : _ ∧ _ ∧ _))
    have hbyd := fun W (hW : Kept (fun _ => False) wb.drew W) => bytes_any g _ HOK.out.len A c A2 c2 W (HMV.out.drew.stay (hW.below (B := wb.drew.heap.size) (fun _ h => h.elim) (Nat.le_refl _)))
    dsimp only at hbyd
    have HBY := Lib.hid hbyd
    clear hbyd
    have hsx : Sl wb.drew wb.heap.size (.slice B dn d) D := HRD.out
    have HSX := Lib.hid hsx
    clear hsx
    have HCV := Lib.hid (fun W (hW : Kept (fun _ => False) wb.drew W) => conv_sl (Kept.sl hW HSX.out (fun _ _ h => h)))
    have HD := Lib.hid ((Below.refl wb.heap.size wb).drew)
    have hz1 : wb.heap.size ≤ wb.drew.heap.size := Nat.le_refl _
    generalize (wb).drew = y1 at *
    refine s_take (i := 0) (v := ?_) rfl (by kernel_rfl) (by kernel_rfl) (by kernel_rfl) (k0 := 0) (by kernel_rfl) (by kernel_rfl) (.inl rfl) (fun _ _ _ h => h) (by rfl) HC.out ?_ ?_
    rotate_left
    · intro W hW
      go_simp
      first | done | rfl
    simp only [Act.put, List.setIfInBounds_toArray, List.set_cons_zero, List.set_cons_succ, List.getElem_toArray, List.getElem_cons_zero]
    refine s_take (i := 1) (v := ?_) rfl (by kernel_rfl) (by kernel_rfl) (by kernel_rfl) (k0 := 1) (by kernel_rfl) (by kernel_rfl) (.inl rfl) (fun _ _ _ h => h) (by rfl) HC.out ?_ ?_
    rotate_left
    · intro W hW
      go_simp
      first | done | rfl
    simp only [Act.put, List.setIfInBounds_toArray, List.set_cons_zero, List.set_cons_succ, List.getElem_toArray, List.getElem_cons_zero, List.getElem_cons_succ]
    refine s_take (i := 2) (v := ?_) rfl (by kernel_rfl) (by kernel_rfl) (by kernel_rfl) (k0 := 2) (by kernel_rfl) (by kernel_rfl) (.inl rfl) (fun _ _ _ h => h) (by rfl) HC.out ?_ ?_
    rotate_left
    · intro W hW
      go_simp
      first | done | rfl
    simp only [Act.put, List.setIfInBounds_toArray, List.set_cons_zero, List.set_cons_succ, List.getElem_toArray, List.getElem_cons_zero, List.getElem_cons_succ]
    refine s_take (i := 3) (v := ?_) rfl (by kernel_rfl) (by kernel_rfl) (by kernel_rfl) (k0 := 3) (by kernel_rfl) (by kernel_rfl) (.inl rfl) (fun _ _ _ h => h) (by rfl) HC.out ?_ ?_
    rotate_left
    · intro W hW
      go_simp
      first | done | rfl
    simp only [Act.put, List.setIfInBounds_toArray, List.set_cons_zero, List.set_cons_succ, List.getElem_toArray, List.getElem_cons_zero, List.getElem_cons_succ]
    refine s_take (i := 4) (v := ?_) rfl (by kernel_rfl) (by kernel_rfl) (by kernel_rfl) (k0 := 4) (by kernel_rfl) (by kernel_rfl) (.inl rfl) (fun _ _ _ h => h) (by rfl) HC.out ?_ ?_
    rotate_left
    · intro W hW
      obtain ⟨⟨u0, u1, u2_⟩, ⟨q0, q1⟩, k0, k1, k2, k3, k4⟩ := HXX.out _ hW
      go_simp
      first | done | rfl
    simp only [Act.put, List.setIfInBounds_toArray, List.set_cons_zero, List.set_cons_succ, List.getElem_toArray, List.getElem_cons_zero, List.getElem_cons_succ]
    refine s_take (i := 5) (v := ?_) rfl (by kernel_rfl) (by kernel_rfl) (by kernel_rfl) (k0 := 5) (by kernel_rfl) (by kernel_rfl) (.inl rfl) (fun _ _ _ h => h) (by rfl) HC.out ?_ ?_
    rotate_left
    · intro W hW
      go_simp
      first | done | rfl
    simp only [Act.put, List.setIfInBounds_toArray, List.set_cons_zero, List.set_cons_succ, List.getElem_toArray, List.getElem_cons_zero, List.getElem_cons_succ]
    refine s_take (i := 6) (v := ?_) rfl (by kernel_rfl) (by kernel_rfl) (by kernel_rfl) (k0 := 6) (by kernel_rfl) (by kernel_rfl) (.inl rfl) (fun _ _ _ h => h) (by rfl) HC.out ?_ ?_
    rotate_left
    · intro W hW
      go_simp
      first | done | rfl
    simp only [Act.put, List.setIfInBounds_toArray, List.set_cons_zero, List.set_cons_succ, List.getElem_toArray, List.getElem_cons_zero, List.getElem_cons_succ]
    refine s_take (i := 7) (v := ?_) rfl (by kernel_rfl) (by kernel_rfl) (by kernel_rfl) (k0 := 7) (by kernel_rfl) (by kernel_rfl) (.inl rfl) (fun _ _ _ h => h) (by rfl) HC.out ?_ ?_
    rotate_left
    · intro W hW
      go_simp
      first | done | rfl
    simp only [Act.put, List.setIfInBounds_toArray, List.set_cons_zero, List.set_cons_succ, List.getElem_toArray, List.getElem_cons_zero, List.getElem_cons_succ]
    refine s_take (i := 8) (v := ?_) rfl (by kernel_rfl) (by kernel_rfl) (by kernel_rfl) (k0 := 8) (by kernel_rfl) (by kernel_rfl) (.inl rfl) (fun _ _ _ h => h) (by rfl) HC.out ?_ ?_
    rotate_left
    · intro W hW
      go_simp
      first | done | rfl
    simp only [Act.put, List.setIfInBounds_toArray, List.set_cons_zero, List.set_cons_succ, List.getElem_toArray, List.getElem_cons_zero, List.getElem_cons_succ]
    refine s_take (i := 9) (v := ?_) rfl (by kernel_rfl) (by kernel_rfl) (by kernel_rfl) (k0 := 9) (by kernel_rfl) (by kernel_rfl) (.inl rfl) (fun _ _ _ h => h) (by rfl) HC.out ?_ ?_
    rotate_left
    · intro W hW
      obtain ⟨⟨u0, u1, u2_⟩, ⟨q0, q1⟩, k0, k1, k2, k3, k4⟩ := HXX.out _ hW
      go_simp
      first | done | rfl
    simp only [Act.put, List.setIfInBounds_toArray, List.set_cons_zero, List.set_cons_succ, List.getElem_toArray, List.getElem_cons_zero, List.getElem_cons_succ]
    refine s_take (i := 10) (v := ?_) rfl (by kernel_rfl) (by kernel_rfl) (by kernel_rfl) (k0 := 10) (by kernel_rfl) (by kernel_rfl) (.inl rfl) (fun _ _ _ h => h) (by rfl) HC.out ?_ ?_
    rotate_left
    · intro W hW
      go_simp
      first | done | rfl
    simp only [Act.put, List.setIfInBounds_toArray, List.set_cons_zero, List.set_cons_succ, List.getElem_toArray, List.getElem_cons_zero, List.getElem_cons_succ]
    refine s_take (i := 11) (v := ?_) rfl (by kernel_rfl) (by kernel_rfl) (by kernel_rfl) (k0 := 11) (by kernel_rfl) (by kernel_rfl) (.inl rfl) (fun _ _ _ h => h) (by rfl) HC.out ?_ ?_
    rotate_left
    · intro W hW
      go_simp
      first | done | rfl
    simp only [Act.put, List.setIfInBounds_toArray, List.set_cons_zero, List.set_cons_succ, List.getElem_toArray, List.getElem_cons_zero, List.getElem_cons_succ]
    refine s_take (i := 12) (v := ?_) rfl (by kernel_rfl) (by kernel_rfl) (by kernel_rfl) (k0 := 12) (by kernel_rfl) (by kernel_rfl) (.inl rfl) (fun _ _ _ h => h) (by rfl) HC.out ?_ ?_
    rotate_left
    · intro W hW
      go_simp
      first | done | rfl
    simp only [Act.put, List.setIfInBounds_toArray, List.set_cons_zero, List.set_cons_succ, List.getElem_toArray, List.getElem_cons_zero, List.getElem_cons_succ]
    refine s_take (i := 13) (v := ?_) rfl (by kernel_rfl) (by kernel_rfl) (by kernel_rfl) (k0 := 13) (by kernel_rfl) (by kernel_rfl) (.inl rfl) (fun _ _ _ h => h) (by rfl) HC.out ?_ ?_
    rotate_left
    · intro W hW
      go_simp
      first | done | rfl
    simp only [Act.put, List.setIfInBounds_toArray, List.set_cons_zero, List.set_cons_succ, List.getElem_toArray, List.getElem_cons_zero, List.getElem_cons_succ]
    refine s_take (i := 14) (v := ?_) rfl (by kernel_rfl) (by kernel_rfl) (by kernel_rfl) (k0 := 14) (by kernel_rfl) (by kernel_rfl) (.inl rfl) (fun _ _ _ h => h) (by rfl) HC.out ?_ ?_
    rotate_left
    · intro W hW
      go_simp
      first | done | rfl
    simp only [Act.put, List.setIfInBounds_toArray, List.set_cons_zero, List.set_cons_succ, List.getElem_toArray, List.getElem_cons_zero, List.getElem_cons_succ]
    refine s_take (i := 15) (v := ?_) rfl (by kernel_rfl) (by kernel_rfl) (by kernel_rfl) (k0 := 15) (by kernel_rfl) (by kernel_rfl) (.inl rfl) (fun _ _ _ h => h) (by rfl) HC.out ?_ ?_
    rotate_left
    · intro W hW
      go_simp
      first | done | rfl
    simp only [Act.put, List.setIfInBounds_toArray, List.set_cons_zero, List.set_cons_succ, List.getElem_toArray, List.getElem_cons_zero, List.getElem_cons_succ]
    refine s_take (i := 16) (v := ?_) rfl (by kernel_rfl) (by kernel_rfl) (by kernel_rfl) (k0 := 16) (by kernel_rfl) (by kernel_rfl) (.inl rfl) (fun _ _ _ h => h) (by rfl) HC.out ?_ ?_
    rotate_left
    · intro W hW
      go_simp
      first | done | rfl
    simp only [Act.put, List.setIfInBounds_toArray, List.set_cons_zero, List.set_cons_succ, List.getElem_toArray, List.getElem_cons_zero, List.getElem_cons_succ]
    refine s_take (i := 17) (v := ?_) rfl (by kernel_rfl) (by kernel_rfl) (by kernel_rfl) (k0 := 17) (by kernel_rfl) (by kernel_rfl) (.inl rfl) (fun _ _ _ h => h) (by rfl) HC.out ?_ ?_
    rotate_left
    · intro W hW
      go_simp
      first | done | rfl
    simp only [Act.put, List.setIfInBounds_toArray, List.set_cons_zero, List.set_cons_succ, List.getElem_toArray, List.getElem_cons_zero, List.getElem_cons_succ]
    refine s_take (i := 18) (v := ?_) rfl (by kernel_rfl) (by kernel_rfl) (by kernel_rfl) (k0 := 18) (by kernel_rfl) (by kernel_rfl) (.inl rfl) (fun _ _ _ h => h) (by rfl) HC.out ?_ ?_
    rotate_left
    · intro W hW
      obtain ⟨⟨u0, u1, u2_⟩, ⟨q0, q1⟩, k0, k1, k2, k3, k4⟩ := HXX.out _ hW
      go_simp
      first | done | rfl
    simp only [Act.put, List.setIfInBounds_toArray, List.set_cons_zero, List.set_cons_succ, List.getElem_toArray, List.getElem_cons_zero, List.getElem_cons_succ]
    refine s_take (i := 19) (v := ?_) rfl (by kernel_rfl) (by kernel_rfl) (by kernel_rfl) (k0 := 19) (by kernel_rfl) (by kernel_rfl) (.inl rfl) (fun _ _ _ h => h) (by rfl) HC.out ?_ ?_
    rotate_left
    · intro W hW
      go_simp
      first | done | rfl
    simp only [Act.put, List.setIfInBounds_toArray, List.set_cons_zero, List.set_cons_succ, List.getElem_toArray, List.getElem_cons_zero, List.getElem_cons_succ]
    refine s_take (i := 20) (v := ?_) rfl (by kernel_rfl) (by kernel_rfl) (by kernel_rfl) (k0 := 20) (by kernel_rfl) (by kernel_rfl) (.inl rfl) (fun _ _ _ h => h) (by rfl) HC.out ?_ ?_
    rotate_left
    · intro W hW
      go_simp
      first | done | rfl
    simp only [Act.put, List.setIfInBounds_toArray, List.set_cons_zero, List.set_cons_succ, List.getElem_toArray, List.getElem_cons_zero, List.getElem_cons_succ]
    refine s_take (i := 21) (v := ?_) rfl (by kernel_rfl) (by kernel_rfl) (by kernel_rfl) (k0 := 21) (by kernel_rfl) (by kernel_rfl) (.inl rfl) (fun _ _ _ h => h) (by rfl) HC.out ?_ ?_
    rotate_left
    · intro W hW
      go_simp
      first | done | rfl
    simp only [Act.put, List.setIfInBounds_toArray, List.set_cons_zero, List.set_cons_succ, List.getElem_toArray, List.getElem_cons_zero, List.getElem_cons_succ]
    refine s_take (i := 22) (v := ?_) rfl (by kernel_rfl) (by kernel_rfl) (by kernel_rfl) (k0 := 22) (by kernel_rfl) (by kernel_rfl) (.inl rfl) (fun _ _ _ h => h) (by rfl) HC.out ?_ ?_
    rotate_left
    · intro W hW
      go_simp
      first | done | rfl
    simp only [Act.put, List.setIfInBounds_toArray, List.set_cons_zero, List.set_cons_succ, List.getElem_toArray, List.getElem_cons_zero, List.getElem_cons_succ]
    refine s_take (i := 25) (v := ?_) rfl (by kernel_rfl) (by kernel_rfl) (by kernel_rfl) (k0 := 25) (by kernel_rfl) (by kernel_rfl) (.inl rfl) (fun _ _ _ h => h) (by rfl) HC.out ?_ ?_
    rotate_left
    · intro W hW
      go_simp
      first | done | rfl
    simp only [Act.put, List.setIfInBounds_toArray, List.set_cons_zero, List.set_cons_succ, List.getElem_toArray, List.getElem_cons_zero, List.getElem_cons_succ]
    refine s_take (i := 26) (v := ?_) rfl (by kernel_rfl) (by kernel_rfl) (by kernel_rfl) (k0 := 26) (by kernel_rfl) (by kernel_rfl) (.inl rfl) (fun _ _ _ h => h) (by rfl) HC.out ?_ ?_
    rotate_left
    · intro W hW
      go_simp
      first | done | rfl
    simp only [Act.put, List.setIfInBounds_toArray, List.set_cons_zero, List.set_cons_succ, List.getElem_toArray, List.getElem_cons_zero, List.getElem_cons_succ]
    refine s_take (i := 27) (v := ?_) rfl (by kernel_rfl) (by kernel_rfl) (by kernel_rfl) (k0 := 27) (by kernel_rfl) (by kernel_rfl) (.inl rfl) (fun _ _ _ h => h) (by rfl) HC.out ?_ ?_
    rotate_left
    · intro W hW
      go_simp
      first | done | rfl
    simp only [Act.put, List.setIfInBounds_toArray, List.set_cons_zero, List.set_cons_succ, List.getElem_toArray, List.getElem_cons_zero, List.getElem_cons_succ]
    refine s_take (i := 28) (v := ?_) rfl (by kernel_rfl) (by kernel_rfl) (by kernel_rfl) (k0 := 28) (by kernel_rfl) (by kernel_rfl) (.inl rfl) (fun _ _ _ h => h) (by rfl) HC.out ?_ ?_
    rotate_left
    · intro W hW
      obtain ⟨⟨u0, u1, u2_⟩, ⟨q0, q1⟩, k0, k1, k2, k3, k4⟩ := HXX.out _ hW
      go_simp
      first | done | rfl
    simp only [Act.put, List.setIfInBounds_toArray, List.set_cons_zero, List.set_cons_succ, List.getElem_toArray, List.getElem_cons_zero, List.getElem_cons_succ]
    refine s_take (i := 29) (v := ?_) rfl (by kernel_rfl) (by kernel_rfl) (by kernel_rfl) (k0 := 29) (by kernel_rfl) (by kernel_rfl) (.inl rfl) (fun _ _ _ h => h) (by rfl) HC.out ?_ ?_
    rotate_left
    · intro W hW
      have hcv7 := HCV.out _ hW
      go_simp
      first | done | rfl
    simp only [Act.put, List.setIfInBounds_toArray, List.set_cons_zero, List.set_cons_succ, List.getElem_toArray, List.getElem_cons_zero, List.getElem_cons_succ]
    refine s_one (i := 23) (by kernel_rfl) ?_
    refine ones_call (i := 23) (f := 20) (args := ?_) rfl (by rfl) ?_ ?_
    rotate_left
    · go_simp
      first | done | rfl
    with_reducible refine (HBY.out _ HC.out).mono ?_
    rintro e y2 ⟨A9, c9, rfl, ho, hb⟩
    refine ⟨_, rfl, fun _ => HC.out.trans (Below.kept hb), ?_⟩
    replace HC := Lib.hid (HC.out.trans (Below.kept hb))
    simp only [HDN.out] at ho ⊢
    have hcv9 := conv_sl ho.sl.here
    clear ho
    clear hb
    simp only [Act.put, List.setIfInBounds_toArray, List.set_cons_zero, List.set_cons_succ, List.getElem_toArray, List.getElem_cons_zero, List.getElem_cons_succ]
    refine s_one (i := 24) (by kernel_rfl) ?_
    refine ones_same (i := 24) (v := ?_) rfl (by rfl) ?_ ?_
    rotate_left 1
    · go_simp
      first | done | rfl
    simp only [Act.put, List.setIfInBounds_toArray, List.set_cons_zero, List.set_cons_succ, List.getElem_toArray, List.getElem_cons_zero, List.getElem_cons_succ]
    refine s_take (i := 30) (v := ?_) rfl (by kernel_rfl) (by kernel_rfl) (by kernel_rfl) (k0 := 30) (by kernel_rfl) (by kernel_rfl) (.inl rfl) (fun _ _ _ h => h) (by rfl) HC.out ?_ ?_
    rotate_left
    · intro W hW
      go_simp
      first | done | rfl
    simp only [Act.put, List.setIfInBounds_toArray, List.set_cons_zero, List.set_cons_succ, List.getElem_toArray, List.getElem_cons_zero, List.getElem_cons_succ]
    refine s_take (i := 31) (v := ?_) rfl (by kernel_rfl) (by kernel_rfl) (by kernel_rfl) (k0 := 31) (by kernel_rfl) (by kernel_rfl) (.inl rfl) (fun _ _ _ h => h) (by rfl) HC.out ?_ ?_
    rotate_left
    · intro W hW
      go_simp
      first | done | rfl
    simp only [Act.put, List.setIfInBounds_toArray, List.set_cons_zero, List.set_cons_succ, List.getElem_toArray, List.getElem_cons_zero, List.getElem_cons_succ]
    refine s_done (by kernel_rfl) ?_
    have hbn := HD.out.trans (HC.out.below (B := wb.heap.size) (fun _ h => h.elim) hz1)
    replace HVR := Lib.hid (HVR.out.stay hbn)
    replace HB := Lib.hid (HB.out.trans (hbn.mono HB.out.size))
    clear HC HD HXX hbn hz1
    go_simp
    go_wp2_with fail
    exact ⟨⟨j + 1, ⟨D, sy, ((t, vo), s)⟩, by omega, by go_num, HOK.out, HVR.out, HB.out⟩, by simp [intOf]; omega⟩
end Go.Proofs.YtcacebkbfnnjbaaDoor
