/-
  What Seal and the reference's Seal give.
-/
import Derived.Test.YtnodogcabpjahaaDoorBase
import Derived.Test.YtnodogcabpjahaaDoorRef
namespace Go.Proofs.YtnodogcabpjahaaDoor
open Go.RowKit

/-- Sealed bytes. -/
def seal_ (l : List UInt8) : List UInt8 := l ++ tail (Crc.csum (nums l))

theorem tail_rd {w : World} {s : Nat} {t0 t1 t2 t3 : Int} (h : bv (tail s) = [.int .u8 t0, .int .u8 t1, .int .u8 t2, .int .u8 t3]) (T : TypeId) :
    Rd (w.alloc (.cells #[.int .u8 t0, .int .u8 t1, .int .u8 t2, .int .u8 t3] T)) (w.heap.size + 1) (.slice (some ⟨w.heap.size, 0, none⟩) 4 4) (tail s) :=
  Rd.block (l := tail s) (heap_alloc_new w _) h (Nat.lt_succ_self _) (Nat.le_refl _)

set_option maxRecDepth 100000 in
theorem seal_any (v : Value) (l : List UInt8) (hl : l.length ≤ 10000) (w : World) (B : Nat) (hB : B ≤ w.heap.size) (hv : Rd w B v l) (hT : Tab w) :
    Calls Tryd.prog 18 #[v] w fun e w' => ∃ u, e = .returned u ∧ OwnB w' w.heap.size u (seal_ l) ∧ Below w.heap.size w w' := by
  have hs : Crc.csum (nums l) < 4294967296 := Crc.more_lt _ (by omega) (nums_lt _)
  have hsum := Lib.hid (sum_any v l (by omega) w B hv hT)
  obtain ⟨t0, t1, t2, t3, htl, hsb0⟩ := sumBytes_any (Crc.csum (nums l)) hs
  have hsb := Lib.hid (hsb0 w)
  have HTL := Lib.hid htl
  clear htl hsb0
  have hseal : Hid (seal_ l = l ++ tail (Crc.csum (nums l))) := rfl
  have htl : (tail (Crc.csum (nums l))).length = 4 := rfl
  obtain ⟨A, c, rfl, hc, _⟩ := hv.form
  generalize Crc.csum (nums l) = s at *
  have HV := Lib.hid hv
  have HL := Lib.hid htl
  clear hv hT htl
  obtain ⟨i, hi, hz, hsz, hby⟩ := info_parts info5
  go_enter Tryd.func18, Tryd.ntmps18
  go_wp2_with (first
    | (go_at_call 25; refine hsum.out.mono ?_; rintro e w' ⟨rfl, rfl⟩)
    | (go_at_call 24; refine hsb.out.mono ?_; rintro e w1 ⟨rfl, hb⟩)
    | (at_make; refine wpList_make_own _ rfl _ _ 22 rfl (w1.heap.size + 1) 5 i (.int .u8 0) 1 Tryd.underlying22 hi hz hsz .i64 .i64 _ (l.length + 4) rfl rfl (by omega) (by rw [hby]; omega) (by unfold maxLen; omega) (by simp) ?_; intro w2 hown hg; have hown2 : OwnB w2 (w1.heap.size + 1) (.slice (some ⟨w1.heap.size + 1, 0, none⟩) 0 (l.length + 4)) [] := (by have h := hown; simp only [World.size_alloc] at h; exact h); have hb2 : Below w.heap.size w w2 := ((hb.alloc (by have := hb.size; omega) _).grown hg (by have := hb.size; simp; omega) (by intro k h; cases h)); have htl2 : Rd w2 (w1.heap.size + 1) (.slice (some ⟨w1.heap.size, 0, none⟩) 4 4) (tail s) := (tail_rd HTL.out _).grown hg (by simp) (by intro k h; cases h); have hz2 : w1.heap.size + 1 ≤ w2.heap.size := (by have := hg.size; simpa using this); have hv2 := HV.out.below (hb2.mono hB); clear hown hg)
    | (at_builtin; refine wpList_append_rd rfl (.tmp 12) (.tmp 13) rfl (w1.heap.size + 1) _ [] rfl hown2 B _ l rfl hv2 (by simp; omega) hz2 ?_; intro v3 w3 hown3 hg3 hob3; rw [List.nil_append] at hown3; have hb3 := hb2.grown hg3 (by have := hb.size; omega) (by intro k h; have := hown2.lt k h; have := hb.size; omega); have htl3 := htl2.grown hg3 hz2 (by intro k h; have := hown2.lt k h; omega); have hz3 : w1.heap.size + 1 ≤ w3.heap.size := (by have := hg3.size; omega); clear hg3 hob3)
    | (at_builtin; refine wpList_append_rd rfl (.tmp 15) (.tmp 16) rfl (w1.heap.size + 1) _ l rfl hown3 (w1.heap.size + 1) _ (tail s) rfl htl3 (by rw [HL.out]; omega) hz3 ?_; intro v4 w4 hown4 hg4 hob4; have hb4 := hb3.grown hg4 (by have := hb.size; omega) (by intro k h; have := hown3.lt k h; have := hb.size; omega); clear hg4 hob4))
  go_ret
  exact ⟨_, rfl, by rw [hseal.out]; exact hown4.down (by have := hb.size; omega), hb4⟩
theorem seal_length (l : List UInt8) : (seal_ l).length = l.length + 4 := by simp [seal_, tail_length]
/-- The same, the value's shape laid open. -/
theorem seal_rd (v : Value) (l : List UInt8) (hl : l.length ≤ 10000) (w : World) (B : Nat) (hB : B ≤ w.heap.size) (hv : Rd w B v l) (hT : Tab w) :
    Calls Tryd.prog 18 #[v] w fun e w' => ∃ A c, e = .returned (.slice A (l.length + 4) c) ∧ Rd w' w'.heap.size (.slice A (l.length + 4) c) (seal_ l) ∧ Below w.heap.size w w' :=
  (seal_any v l hl w B hB hv hT).mono fun e w' ⟨u, he, ho, hb⟩ => by
    have hr := ho.rd
    obtain ⟨A, c, hu, _⟩ := hr.form
    rw [seal_length] at hu
    subst hu
    exact ⟨A, c, he, hr, hb⟩
end Go.Proofs.YtnodogcabpjahaaDoor
