/-
  Parts that the statement rests on, joined: More, Base, Ref, Seal, RefSeal.
-/
import Derived.Test.YtcacebkbfnnjbaaDoorV2
import Derived.Test.YtcacebkbfnnjbaaDoorV4
import Derived.LoopTactic
/-
  What More gives over a slice that reads as a list of bytes.
-/



namespace Go.Proofs.YtcacebkbfnnjbaaDoor
open Go.RowKit

theorem nums_take_succ (l : List UInt8) (k : Nat) (h : k < l.length) : nums (l.take (k + 1)) = nums (l.take k) ++ [(l[k]).toNat] := by
  unfold nums
  rw [List.take_succ_eq_append_getElem h, List.map_append]; rfl
theorem run_snoc (x : Nat) (l : List UInt8) (k : Nat) (h : k < l.length) : Crc.run x (nums (l.take (k + 1))) = Crc.stps 8 (Crc.run x (nums (l.take k)) ^^^ (l[k]).toNat) := by
  rw [nums_take_succ l k h, Crc.run_append]; rfl
theorem nums_lt (l : List UInt8) : ∀ c ∈ nums l, c < 256 := by
  intro c hc
  simp only [nums, List.mem_map] at hc
  obtain ⟨a, _, rfl⟩ := hc
  exact a.toNat_lt
theorem not32 (s : Nat) (hs : s < 4294967296) : bits .xor .u32 IntKind.u32.max (s : Int) = ((s ^^^ Crc.ones : Nat) : Int) := by
  have h := u32_xor_nat 4294967295 s (by omega) hs
  rw [Nat.xor_comm] at h
  exact h
theorem xor_lt32 {a b : Nat} (ha : a < 4294967296) (hb : b < 4294967296) : a ^^^ b < 4294967296 := Nat.xor_lt_two_pow (n := 32) ha hb

theorem ret_nat {k : IntKind} {a b : Nat} (h : a = b) : Ending.returned (.int k (a : Int)) = .returned (.int k (b : Int)) := by rw [h]

set_option maxRecDepth 100000 in
theorem more_any (s : Nat) (hs : s < 4294967296) (v : Value) (l : List UInt8) (hl : l.length ≤ 1000000) (w : World) (B : Nat) (hv : Rd w B v l) (hT : Tab w) :
    Calls Tryd.prog 72 #[.int .u32 (s : Int), v] w fun e w' => e = .returned (.int .u32 ((Crc.more s (nums l) : Nat) : Int)) ∧ w = w' := by
  obtain ⟨A, c, rfl, hc, hcell⟩ := hv.form
  have n1 := not32 s hs
  have sg : IntKind.u32.signed = false := rfl
  have hx0 : s ^^^ Crc.ones < 4294967296 := xor_lt32 hs (by simp [Crc.ones])
  obtain ⟨x0, hx⟩ : ∃ x0, x0 = s ^^^ Crc.ones := ⟨_, rfl⟩
  rw [← hx] at hx0 n1
  have HX := Lib.hid hx
  clear hx
  have HT := Lib.hid hT
  clear hT
  have HC := Lib.hid hcell
  clear hcell
  go_enter Tryd.func72, Tryd.ntmps72
  go_wp2
  go_loop [5, 12] (fun x i => ∃ k : Nat, k ≤ l.length ∧ i = .int .i64 k ∧ x = .int .u32 ((Crc.run x0 (nums (l.take k)) : Nat) : Int)) (fun _ i => l.length - (intOf i).toNat)
  case atStart => exact ⟨0, Nat.zero_le _, rfl, rfl⟩
  case round =>
    obtain ⟨k, hk, rfl, rfl⟩ := hrel
    have hr : Crc.run x0 (nums (l.take k)) < 4294967296 := Crc.run_lt _ hx0 (nums_lt _)
    by_cases hlt : k < l.length
    · have hsn := Lib.hid (run_snoc x0 l k hlt)
      obtain ⟨b, off, rfl, hb, hcc⟩ := HC.out (by omega)
      have hc1 := hcc k hlt
      clear hcc
      have hcb : (l[k]).toNat < 256 := (l[k]).toNat_lt
      generalize (l[k]).toNat = cc at *
      generalize Crc.run x0 (nums (l.take k)) = r at *
      have hx1 : bits .xor .u32 (r : Int) (cc : Int) = ((r ^^^ cc : Nat) : Int) := u32_xor_nat r cc hr (by omega)
      have hx2 : r ^^^ cc < 4294967296 := xor_lt32 hr (by omega)
      have hx3 : Crc.stps 8 (r ^^^ cc) < 4294967296 := Crc.stps_lt 8 hx2
      go_wp2_with (go_at_call 76; refine (eight (r ^^^ cc) hx2 w HT.out).mono ?_; rintro e w' ⟨rfl, rfl⟩)
      go_round
      case rel => exact ⟨k + 1, by omega, by go_num, by rw [hsn.out]⟩
      case measure => simp [intOf]; omega
    · have hkl : l.take k = l := List.take_of_length_le (by omega)
      have hy := not32 (Crc.run x0 (nums (l.take k))) hr
      have hfin : Crc.run x0 (nums (l.take k)) ^^^ Crc.ones = Crc.more s (nums l) := by
        rw [hkl, HX.out]; rfl
      have HF := Lib.hid hfin
      clear hfin hkl
      go_wp2
      go_ret
      exact ⟨ret_nat HF.out, rfl⟩
end Go.Proofs.YtcacebkbfnnjbaaDoor

/-
  What Sum, Nibbles and sumBytes give.
-/

namespace Go.Proofs.YtcacebkbfnnjbaaDoor
open Go.RowKit

set_option maxRecDepth 100000 in
theorem sum_any (v : Value) (l : List UInt8) (hl : l.length ≤ 1000000) (w : World) (B : Nat) (hv : Rd w B v l) (hT : Tab w) :
    Calls Tryd.prog 68 #[v] w fun e w' => e = .returned (.int .u32 ((Crc.csum (nums l) : Nat) : Int)) ∧ w = w' := by
  have hm := Lib.hid (more_any 0 (by omega) v l hl w B hv hT)
  clear hv hT
  go_enter Tryd.func68, Tryd.ntmps68
  go_wp2_with (go_at_call 72; refine hm.out.mono ?_; rintro e w' ⟨rfl, rfl⟩)
  go_ret
  exact ⟨rfl, rfl⟩

/-- The bytes of a sum, the lowest one first. -/
def tail (s : Nat) : List UInt8 := [UInt8.ofNat (s % 256), UInt8.ofNat (s / 256 % 256), UInt8.ofNat (s / 65536 % 256), UInt8.ofNat (s / 16777216)]
theorem tail_length (s : Nat) : (tail s).length = 4 := rfl
theorem bv_tail (s : Nat) (hs : s < 4294967296) : bvb (tail s) = [.int .u8 ((s : Int) % 256), .int .u8 ((s : Int) / 256 % 256), .int .u8 ((s : Int) / 65536 % 256), .int .u8 ((s : Int) / 16777216)] := by
  have h1 : (UInt8.ofNat (s % 256)).toNat = s % 256 := UInt8.toNat_ofNat_of_lt' (by show _ < 256; omega)
  have h2 : (UInt8.ofNat (s / 256 % 256)).toNat = s / 256 % 256 := UInt8.toNat_ofNat_of_lt' (by show _ < 256; omega)
  have h3 : (UInt8.ofNat (s / 65536 % 256)).toNat = s / 65536 % 256 := UInt8.toNat_ofNat_of_lt' (by show _ < 256; omega)
  have h4 : (UInt8.ofNat (s / 16777216)).toNat = s / 16777216 := UInt8.toNat_ofNat_of_lt' (by show _ < 256; omega)
  simp only [bvb, tail, List.map_cons, List.map_nil, h1, h2, h3, h4]
  rfl

set_option maxRecDepth 100000 in
theorem sumBytes_walk (s : Nat) (hs : s < 4294967296) (w : World) :
    Calls Tryd.prog 67 #[.int .u32 (s : Int)] w fun e w' => e = .returned (.agg #[.int .u8 ((s : Int) % 256), .int .u8 ((s : Int) / 256 % 256), .int .u8 ((s : Int) / 65536 % 256), .int .u8 ((s : Int) / 16777216)]) ∧ Below w.heap.size w w' := by
  go_enter Tryd.func67, Tryd.ntmps67
  go_wp2
  go_rounds 5
  go_returns
  exact ⟨rfl, by go_grown⟩
theorem sumBytes_any (s : Nat) (hs : s < 4294967296) : ∃ t0 t1 t2 t3 : Int, bvb (tail s) = [.int .u8 t0, .int .u8 t1, .int .u8 t2, .int .u8 t3] ∧
    ∀ w : World, Calls Tryd.prog 67 #[.int .u32 (s : Int)] w fun e w' => e = .returned (.agg #[.int .u8 t0, .int .u8 t1, .int .u8 t2, .int .u8 t3]) ∧ Below w.heap.size w w' :=
  ⟨_, _, _, _, bv_tail s hs, fun w => sumBytes_walk s hs w⟩
end Go.Proofs.YtcacebkbfnnjbaaDoor

/-
  What the reference's Step, More and Sum give.
-/

namespace Go.Proofs.YtcacebkbfnnjbaaDoor
open Go.RowKit

theorem stps_snoc (k x : Nat) : Crc.stps (k + 1) x = Crc.stp (Crc.stps k x) := Crc.stps_succ' k x
theorem stp_odd (x : Nat) (hx : x < 4294967296) (h : x % 2 = 1) : bits .xor .u32 ((x : Int) / 2) 3988292384 = ((Crc.stp x : Nat) : Int) := by
  have := u32_xor_nat (x / 2) 3988292384 (by omega) (by omega)
  have e : Crc.stp x = x / 2 ^^^ 3988292384 := by unfold Crc.stp; rw [if_pos h]; rfl
  rw [e]
  exact this
theorem stp_even (x : Nat) (h : ¬ x % 2 = 1) : (x : Int) / 2 = ((Crc.stp x : Nat) : Int) := by
  have e : Crc.stp x = x / 2 := by unfold Crc.stp; rw [if_neg h, Nat.xor_zero]
  rw [e]; omega

set_option maxRecDepth 100000 in
theorem step_any (x n : Nat) (hx : x < 4294967296) (hn : n ≤ 1000000) (w : World) :
    Calls Tryd.prog 75 #[.int .u32 (x : Int), .int .i64 (n : Int)] w fun e w' => e = .returned (.int .u32 ((Crc.stps n x : Nat) : Int)) ∧ w = w' := by
  go_enter Tryd.func75, Tryd.ntmps75
  go_wp2
  go_loop [0, 5] (fun y i => ∃ k : Nat, k ≤ n ∧ i = .int .i64 k ∧ y = .int .u32 ((Crc.stps k x : Nat) : Int)) (fun _ i => n - (intOf i).toNat)
  case atStart => exact ⟨0, Nat.zero_le _, rfl, rfl⟩
  case round =>
    obtain ⟨k, hk, rfl, rfl⟩ := hrel
    have hr : Crc.stps k x < 4294967296 := Crc.stps_lt _ hx
    have hs := Lib.hid (stps_snoc k x)
    generalize hg : Crc.stps k x = r at *
    have HG := Lib.hid hg
    clear hg
    by_cases hlt : k < n
    · by_cases ho : r % 2 = 1
      · have h1 := stp_odd r hr ho
        have hb : ((r : Int) % 2 == 1) = true := by simp; omega
        go_wp2
        go_round
        case rel => exact ⟨k + 1, by omega, by go_num, by rw [hs.out]⟩
        case measure => simp [intOf]; omega
      · have h1 := Lib.hid (stp_even r ho)
        have hb : ((r : Int) % 2 == 1) = false := by simp; omega
        go_wp2
        go_round
        case rel => exact ⟨k + 1, by omega, by go_num, by rw [hs.out, h1.out]⟩
        case measure => simp [intOf]; omega
    · have hkn : n = k := by omega
      have HK := Lib.hid hkn
      clear hkn
      go_wp2
      go_ret
      exact ⟨ret_nat (by rw [← HG.out, HK.out]), rfl⟩

set_option maxRecDepth 100000 in
theorem refMore_any (s : Nat) (hs : s < 4294967296) (v : Value) (l : List UInt8) (hl : l.length ≤ 1000000) (w : World) (B : Nat) (hv : Rd w B v l) :
    Calls Tryd.prog 71 #[.int .u32 (s : Int), v] w fun e w' => e = .returned (.int .u32 ((Crc.more s (nums l) : Nat) : Int)) ∧ w = w' := by
  obtain ⟨A, c, rfl, hc, hcell⟩ := hv.form
  have n1 := not32 s hs
  have sg : IntKind.u32.signed = false := rfl
  have hx0 : s ^^^ Crc.ones < 4294967296 := xor_lt32 hs (by simp [Crc.ones])
  obtain ⟨x0, hx⟩ : ∃ x0, x0 = s ^^^ Crc.ones := ⟨_, rfl⟩
  rw [← hx] at hx0 n1
  have HX := Lib.hid hx
  clear hx
  have HC := Lib.hid hcell
  clear hcell hv
  go_enter Tryd.func71, Tryd.ntmps71
  go_wp2
  go_loop [5, 6] (fun x i => ∃ k : Nat, k ≤ l.length ∧ i = .int .i64 k ∧ x = .int .u32 ((Crc.run x0 (nums (l.take k)) : Nat) : Int)) (fun _ i => l.length - (intOf i).toNat)
  case atStart => exact ⟨0, Nat.zero_le _, rfl, rfl⟩
  case round =>
    obtain ⟨k, hk, rfl, rfl⟩ := hrel
    have hr : Crc.run x0 (nums (l.take k)) < 4294967296 := Crc.run_lt _ hx0 (nums_lt _)
    by_cases hlt : k < l.length
    · have hsn := Lib.hid (run_snoc x0 l k hlt)
      obtain ⟨b, off, rfl, hb, hcc⟩ := HC.out (by omega)
      have hc1 := hcc k hlt
      clear hcc
      have hcb : (l[k]).toNat < 256 := (l[k]).toNat_lt
      generalize (l[k]).toNat = cc at *
      generalize Crc.run x0 (nums (l.take k)) = r at *
      have hx1 : bits .xor .u32 (r : Int) (cc : Int) = ((r ^^^ cc : Nat) : Int) := u32_xor_nat r cc hr (by omega)
      have hx2 : r ^^^ cc < 4294967296 := xor_lt32 hr (by omega)
      have hx3 : Crc.stps 8 (r ^^^ cc) < 4294967296 := Crc.stps_lt 8 hx2
      go_wp2_with (go_at_call 75; refine (step_any (r ^^^ cc) 8 hx2 (by omega) w).mono ?_; rintro e w' ⟨rfl, rfl⟩)
      go_round
      case rel => exact ⟨k + 1, by omega, by go_num, by rw [hsn.out]⟩
      case measure => simp [intOf]; omega
    · have hkl : l.take k = l := List.take_of_length_le (by omega)
      have hy := not32 (Crc.run x0 (nums (l.take k))) hr
      have hfin : Crc.run x0 (nums (l.take k)) ^^^ Crc.ones = Crc.more s (nums l) := by
        rw [hkl, HX.out]; rfl
      have HF := Lib.hid hfin
      clear hfin hkl
      go_wp2
      go_ret
      exact ⟨ret_nat HF.out, rfl⟩

set_option maxRecDepth 100000 in
theorem refSum_any (v : Value) (l : List UInt8) (hl : l.length ≤ 1000000) (w : World) (B : Nat) (hv : Rd w B v l) :
    Calls Tryd.prog 66 #[v] w fun e w' => e = .returned (.int .u32 ((Crc.csum (nums l) : Nat) : Int)) ∧ w = w' := by
  have hm := Lib.hid (refMore_any 0 (by omega) v l hl w B hv)
  clear hv
  go_enter Tryd.func66, Tryd.ntmps66
  go_wp2_with (go_at_call 71; refine hm.out.mono ?_; rintro e w' ⟨rfl, rfl⟩)
  go_ret
  exact ⟨rfl, rfl⟩
end Go.Proofs.YtcacebkbfnnjbaaDoor

/-
  What Seal and the reference's Seal give.
-/


namespace Go.Proofs.YtcacebkbfnnjbaaDoor
open Go.RowKit

/-- Sealed bytes. -/
def seal_ (l : List UInt8) : List UInt8 := l ++ tail (Crc.csum (nums l))

theorem tail_rd {w : World} {s : Nat} {t0 t1 t2 t3 : Int} (h : bvb (tail s) = [.int .u8 t0, .int .u8 t1, .int .u8 t2, .int .u8 t3]) (T : TypeId) :
    Rd (w.alloc (.cells #[.int .u8 t0, .int .u8 t1, .int .u8 t2, .int .u8 t3] T)) (w.heap.size + 1) (.slice (some ⟨w.heap.size, 0, none⟩) 4 4) (tail s) :=
  Rd.block (l := tail s) (heap_alloc_new w _) h (Nat.lt_succ_self _) (Nat.le_refl _)

set_option maxRecDepth 100000 in
theorem seal_any (v : Value) (l : List UInt8) (hl : l.length ≤ 10000) (w : World) (B : Nat) (hB : B ≤ w.heap.size) (hv : Rd w B v l) (hT : Tab w) :
    Calls Tryd.prog 65 #[v] w fun e w' => ∃ u, e = .returned u ∧ OwnB w' w.heap.size u (seal_ l) ∧ Below w.heap.size w w' := by
  have hs : Crc.csum (nums l) < 4294967296 := Crc.more_lt _ (by omega) (nums_lt _)
  have hsum := Lib.hid (sum_any v l (by omega) w B hv hT)
  obtain ⟨t0, t1, t2, t3, htl, hsb0⟩ := sumBytes_any (Crc.csum (nums l)) hs
  have hsb := Lib.hid (hsb0 w)
  have HTL := Lib.hid htl
  clear htl hsb0
  have hseal : Hid (seal_ l = l ++ tail (Crc.csum (nums l))) := rfl
  have htl : (tail (Crc.csum (nums l))).length = 4 := rfl
  obtain ⟨A, c, rfl, hc, _⟩ := hv.form
  generalize Crc.csum (nums l) = s at *
  have HV := Lib.hid hv
  have HL := Lib.hid htl
  clear hv hT htl
  obtain ⟨i, hi, hz, hsz, hby⟩ := info_parts info5
  go_enter Tryd.func65, Tryd.ntmps65
  go_wp2_with (first
    | (go_at_call 68; refine hsum.out.mono ?_; rintro e w' ⟨rfl, rfl⟩)
    | (go_at_call 67; refine hsb.out.mono ?_; rintro e w1 ⟨rfl, hb⟩)
    | (at_make; refine wpList_make_own _ rfl _ _ 28 rfl (w1.heap.size + 1) 5 i (.int .u8 0) 1 Tryd.underlying28 hi hz hsz .i64 .i64 _ (l.length + 4) rfl rfl (by omega) (by rw [hby]; omega) (by unfold maxLen; omega) (by simp) ?_; intro w2 hown hg; have hown2 : OwnB w2 (w1.heap.size + 1) (.slice (some ⟨w1.heap.size + 1, 0, none⟩) 0 (l.length + 4)) [] := (by have h := hown; simp only [World.size_alloc] at h; exact h); have hb2 : Below w.heap.size w w2 := ((hb.alloc (by have := hb.size; omega) _).grown hg (by have := hb.size; simp; omega) (by intro k h; cases h)); have htl2 : Rd w2 (w1.heap.size + 1) (.slice (some ⟨w1.heap.size, 0, none⟩) 4 4) (tail s) := (tail_rd HTL.out _).grown hg (by simp) (by intro k h; cases h); have hz2 : w1.heap.size + 1 ≤ w2.heap.size := (by have := hg.size; simpa using this); have hv2 := HV.out.below (hb2.mono hB); clear hown hg)
    | (at_builtin; refine wpList_append_rd rfl (.tmp 12) (.tmp 13) rfl (w1.heap.size + 1) _ [] rfl hown2 B _ l rfl hv2 (by simp; omega) hz2 ?_; intro v3 w3 hown3 hg3 hob3; rw [List.nil_append] at hown3; have hb3 := hb2.grown hg3 (by have := hb.size; omega) (by intro k h; have := hown2.lt k h; have := hb.size; omega); have htl3 := htl2.grown hg3 hz2 (by intro k h; have := hown2.lt k h; omega); have hz3 : w1.heap.size + 1 ≤ w3.heap.size := (by have := hg3.size; omega); clear hg3 hob3)
    | (at_builtin; refine wpList_append_rd rfl (.tmp 15) (.tmp 16) rfl (w1.heap.size + 1) _ l rfl hown3 (w1.heap.size + 1) _ (tail s) rfl htl3 (by rw [HL.out]; omega) hz3 ?_; intro v4 w4 hown4 hg4 hob4; have hb4 := hb3.grown hg4 (by have := hb.size; omega) (by intro k h; have := hown3.lt k h; have := hb.size; omega); clear hg4 hob4))
  go_ret
  exact ⟨_, rfl, by rw [hseal.out]; exact hown4.down (by have := hb.size; omega), hb4⟩
theorem seal_length (l : List UInt8) : (seal_ l).length = l.length + 4 := by simp [seal_, tail_length]
/-- The same, the value's shape laid open. -/
theorem seal_rd (v : Value) (l : List UInt8) (hl : l.length ≤ 10000) (w : World) (B : Nat) (hB : B ≤ w.heap.size) (hv : Rd w B v l) (hT : Tab w) :
    Calls Tryd.prog 65 #[v] w fun e w' => ∃ A c, e = .returned (.slice A (l.length + 4) c) ∧ Rd w' w'.heap.size (.slice A (l.length + 4) c) (seal_ l) ∧ Below w.heap.size w w' :=
  (seal_any v l hl w B hB hv hT).mono fun e w' ⟨u, he, ho, hb⟩ => by
    have hr := ho.rd
    obtain ⟨A, c, hu, _⟩ := hr.form
    rw [seal_length] at hu
    subst hu
    exact ⟨A, c, he, hr, hb⟩
end Go.Proofs.YtcacebkbfnnjbaaDoor

/-
  What the reference's Seal gives.
-/

namespace Go.Proofs.YtcacebkbfnnjbaaDoor
open Go.RowKit

set_option maxRecDepth 100000 in
theorem refSeal_any (v : Value) (l : List UInt8) (hl : l.length ≤ 10000) (w : World) (B : Nat) (hv : Rd w B v l) :
    Calls Tryd.prog 58 #[v] w fun e w' => ∃ u, e = .returned u ∧ OwnB w' w.heap.size u (seal_ l) ∧ Below w.heap.size w w' := by
  have hs : Crc.csum (nums l) < 4294967296 := Crc.more_lt _ (by omega) (nums_lt _)
  have hsum := Lib.hid (refSum_any v l (by omega) w B hv)
  have HTL := Lib.hid (bv_tail (Crc.csum (nums l)) hs)
  have hseal : Hid (seal_ l = l ++ tail (Crc.csum (nums l))) := rfl
  have htl : (tail (Crc.csum (nums l))).length = 4 := rfl
  obtain ⟨A, c, rfl, hc, _⟩ := hv.form
  generalize Crc.csum (nums l) = s at *
  have HV := Lib.hid hv
  have HL := Lib.hid htl
  clear hv htl
  go_enter Tryd.func58, Tryd.ntmps58
  go_wp2_with (first
    | (go_at_call 66; refine hsum.out.mono ?_; rintro e w' ⟨rfl, rfl⟩)
    | (at_builtin; refine wpList_append_rd rfl _ (.tmp 7) rfl w.heap.size _ [] rfl (OwnB.nil _ _) B _ l rfl HV.out (by simp; omega) (Nat.le_refl _) ?_; intro v3 w3 hown3 hg3 hob3; rw [List.nil_append] at hown3; have hb3 := (Below.refl w.heap.size w).grown hg3 (Nat.le_refl _) (by intro k h; cases h); have hz3 := hg3.size; have htl3 := tail_rd (w := w3) HTL.out 5; clear hg3 hob3)
    | (at_builtin; refine wpList_append_rd rfl (.tmp 9) (.tmp 24) rfl w.heap.size _ l rfl (hown3.alloc _) (w3.heap.size + 1) _ (tail s) rfl htl3 (by rw [HL.out]; omega) (by simp; omega) ?_; intro v4 w4 hown4 hg4 hob4; have hb4 := (hb3.alloc hz3 _).grown hg4 (by simp; omega) (by intro k h; have := hown3.lt k h; omega); clear hg4 hob4))
  go_ret
  exact ⟨_, rfl, by rw [hseal.out]; exact hown4, hb4⟩
theorem refSeal_rd (v : Value) (l : List UInt8) (hl : l.length ≤ 10000) (w : World) (B : Nat) (hv : Rd w B v l) :
    Calls Tryd.prog 58 #[v] w fun e w' => ∃ A c, e = .returned (.slice A (l.length + 4) c) ∧ Rd w' w'.heap.size (.slice A (l.length + 4) c) (seal_ l) ∧ Below w.heap.size w w' :=
  (refSeal_any v l hl w B hv).mono fun e w' ⟨u, he, ho, hb⟩ => by
    have hr := ho.rd
    obtain ⟨A, c, hu, _⟩ := hr.form
    rw [seal_length] at hu
    subst hu
    exact ⟨A, c, he, hr, hb⟩
end Go.Proofs.YtcacebkbfnnjbaaDoor
