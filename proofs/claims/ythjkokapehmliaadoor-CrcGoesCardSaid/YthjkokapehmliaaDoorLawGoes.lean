/-
  A sum goes on where it ended, wherever bytes are cut; sealed bytes are opened as they were: what the law's text comes to.
-/
import Derived.Test.YthjkokapehmliaaDoorAwake
import Derived.Test.YthjkokapehmliaaDoorOpen
import Derived.Test.YthjkokapehmliaaDoorStr
import Derived.Test.YthjkokapehmliaaDoorFrame
import Derived.Deep.RegionWith
namespace Go.Proofs.YthjkokapehmliaaDoor
open Go.RowKit

theorem quiet_same {P : Program} {f : FuncId} {args : Array Value} {w : World} {n : Nat} {v : Value}
    (h : Calls P f args (w.drewN n) fun e w' => e = .returned v ∧ w.drewN n = w') : Calls P f args (w.drewN n) fun e w'' => e = .returned v ∧ ∃ m, w'' = w.drewN m :=
  h.mono fun _ _ ⟨he, hm⟩ => ⟨he, n, hm.symm⟩

set_option maxRecDepth 100000 in
theorem goes_out (A : Option Addr) (c n : Nat) (k : Int) (w : World) (hT : Tab w) (hout : 4000 < n ∨ (n ≤ 4000 ∧ k < 0) ∨ (n ≤ 4000 ∧ 0 ≤ k ∧ (n : Int) < k)) :
    Calls Tryd.prog 5 #[.slice A n c, .int .i64 k] w fun e w' => e = .returned (.bool true) ∧ Below w.heap.size w w' := by
  have K1 := Lib.hid (awake_any w hT)
  clear hT
  rcases hout with h | ⟨h, h1⟩ | ⟨h, h1, h2⟩
  all_goals
    go_enter Tryd.func5, Tryd.ntmps5
    go_wp2_with (go_at_call 11; refine K1.out.mono ?_; rintro e w1 ⟨rfl, hb1⟩)
    go_ret
    exact ⟨rfl, hb1⟩

set_option maxRecDepth 100000 in
theorem goes_in (A : Option Addr) (c : Nat) (l : List UInt8) (k : Nat) (w : World) (hT : Tab w) (hv : Rd w w.heap.size (.slice A l.length c) l) (hl : l.length ≤ 4000) (hk : k ≤ l.length)
    (A1 A2 : Option Addr) (n2 c1 c2 : Nat) (h1 : Rd w w.heap.size (.slice A1 k c1) (l.take k)) (h2 : Rd w w.heap.size (.slice A2 n2 c2) (l.drop k))
    (hs1 : ∀ W, (Instr.slice 23 (.slice A l.length c) none (some (.int .i64 (k : Int))) none).run Tryd.prog W = .ok (.slice A1 k c1) W)
    (hs2 : ∀ W, (Instr.slice 23 (.slice A l.length c) (some (.int .i64 (k : Int))) none none).run Tryd.prog W = .ok (.slice A2 n2 c2) W) :
    Calls Tryd.prog 5 #[.slice A l.length c, .int .i64 (k : Int)] w fun e w' => e = .returned (.bool true) ∧ Below w.heap.size w w' := by
  have K1 := Lib.hid (awake_any w hT)
  have hpos := hT.pos
  have HT := Lib.hid hT
  have HV := Lib.hid hv
  have H1 := Lib.hid h1
  have H2 := Lib.hid h2
  clear hT hv h1 h2
  have r1 : Crc.csum (nums (l.take k)) < 4294967296 := Crc.more_lt _ (by omega) (nums_lt _)
  have r2 : Crc.csum (nums l) < 4294967296 := Crc.more_lt _ (by omega) (nums_lt _)
  have hmore : Crc.more (Crc.csum (nums (l.take k))) (nums (l.drop k)) = Crc.csum (nums l) := by
    unfold Crc.csum
    rw [Crc.more_append]
    congr 1
    unfold nums
    rw [← List.map_append, List.take_append_drop]
  have hmore0 : Crc.more (Crc.csum (nums l)) (nums []) = Crc.csum (nums l) := by
    unfold Crc.csum
    rw [Crc.more_append]
    simp [nums]
  have k1 := Lib.hid (fun W (h : Below w.heap.size w W) => sum_any _ (l.take k) (by simp; omega) W _ (H1.out.below h) (HT.out.below h hpos))
  have k2 := Lib.hid (fun W (h : Below w.heap.size w W) => sum_any _ l (by omega) W _ (HV.out.below h) (HT.out.below h hpos))
  have k3 := Lib.hid (fun W (h : Below w.heap.size w W) => by
    have := more_any _ r1 _ (l.drop k) (by simp; omega) W _ (H2.out.below h) (HT.out.below h hpos)
    rwa [hmore] at this)
  have k4 := Lib.hid (fun W (h : Below w.heap.size w W) => by
    have := more_any _ r2 (.slice none 0 0) [] (by simp) W 0 (Rd.nil _ _) (HT.out.below h hpos)
    rwa [hmore0] at this)
  have hc := Lib.hid (fun W (h : Below w.heap.size w W) => conv_rd (HV.out.below h))
  have hc2 := Lib.hid (fun (W : World) (B : Nat) (A : Option Addr) (n c : Nat) (h : Rd W B (.slice A n c) l) => conv_rd h)
  have hseal := Lib.hid (fun W (h : Below w.heap.size w W) => seal_rd _ l (by omega) W w.heap.size h.size (HV.out.below h) (HT.out.below h hpos))
  have hopen := Lib.hid (fun (W : World) (A : Option Addr) (n c : Nat) (h : Below w.heap.size w W) (hr : Rd W W.heap.size (.slice A n c) (seal_ l)) => open_sealed _ l (by omega) W W.heap.size (Nat.le_refl _) hr (HT.out.below h hpos))
  have HS1 := Lib.hid hs1
  have HS2 := Lib.hid hs2
  clear hs1 hs2 hmore hmore0 r1 r2
  generalize Crc.csum (nums (l.take k)) = s1 at *
  generalize Crc.csum (nums l) = s at *
  generalize strOf l = S at *
  generalize hn : l.length = n at *
  have HN := Lib.hid hn
  clear hn
  go_enter Tryd.func5, Tryd.ntmps5
  go_wp2_with fail
  refine K1.out.mono ?_
  rintro e w1 ⟨rfl, hb1⟩
  go_wp2_with fail
  refine (hseal.out w1 hb1).mono ?_
  rintro e w2 ⟨A3, c3, rfl, hr2, hb2⟩
  have hb12 := hb1.trans (hb2.mono hb1.size)
  go_wp2_with fail
  refine (hopen.out w2 _ _ _ hb12 hr2).mono ?_
  rintro e w3 ⟨A4, c4, rfl, hr3, hb3⟩
  have hb13 := hb12.trans (hb3.mono hb12.size)
  have hs1 := HS1.out
  have hs2 := HS2.out
  have j1 : ∀ m, Calls Tryd.prog 14 #[.slice A1 k c1] (w3.drewN m) fun e w'' => e = .returned (.int .u32 (s1 : Int)) ∧ ∃ m, w'' = w3.drewN m := fun m => quiet_same (k1.out _ (below_drewN hb13 m))
  have j2 : ∀ m, Calls Tryd.prog 14 #[.slice A n c] (w3.drewN m) fun e w'' => e = .returned (.int .u32 (s : Int)) ∧ ∃ m, w'' = w3.drewN m := fun m => quiet_same (k2.out _ (below_drewN hb13 m))
  have j3 : ∀ m, Calls Tryd.prog 16 #[.int .u32 (s1 : Int), .slice A2 n2 c2] (w3.drewN m) fun e w'' => e = .returned (.int .u32 (s : Int)) ∧ ∃ m, w'' = w3.drewN m := fun m => quiet_same (k3.out _ (below_drewN hb13 m))
  have j4 : ∀ m, Calls Tryd.prog 16 #[.int .u32 (s : Int), .slice none 0 0] (w3.drewN m) fun e w'' => e = .returned (.int .u32 (s : Int)) ∧ ∃ m, w'' = w3.drewN m := fun m => quiet_same (k4.out _ (below_drewN hb13 m))
  have v1 : ∀ m, (convert 23 9 (.slice A n c)).run Tryd.prog (w3.drewN m) = .ok (.string S) (w3.drewN m) := fun m => hc.out _ (below_drewN hb13 m)
  have v2 : ∀ m, (convert 23 9 (.slice A4 n c4)).run Tryd.prog (w3.drewN m) = .ok (.string S) (w3.drewN m) := fun m => hc2.out _ _ _ _ _ (hr3.below (below_drewN (Below.refl _ _) m))
  have HB := Lib.hid hb13
  clear hb1 hb2 hb12 hb3 hb13 hr2 hr3
  go_upto_region 5 with (fail)
  refine wp_region_quiet_lit (by kernel_rfl) (by kernel_rfl) ?_
  repeat (quiet_step (first | (go_at_call_of 14 (Value.slice A1 k c1); exact j1 _) | (go_at_call_of 14 (Value.slice A n c); exact j2 _) | (go_at_call_of 16 (Value.slice A2 n2 c2); exact j3 _) | (go_at_call_of 16 (Value.slice none 0 0); exact j4 _)))
  refine wpQuiet_nil ?_
  intro _ hw'
  obtain ⟨nq, hw''⟩ := hw'
  subst hw''
  clear j1 j2 j3 j4 v1 v2 hs1 hs2
  go_wp2_with fail
  go_ret
  exact ⟨rfl, below_drewN HB.out _⟩

theorem elem23 : Tryd.prog.underlying 23 = some (.slice (Tryd.prog.elem 23)) := by kernel_rfl
theorem elem_is : Tryd.prog.elem 23 = 5 := by kernel_rfl
theorem size_elem (W : World) : (sizeOf (Tryd.prog.elem 23)).run Tryd.prog W = .ok 1 W := by
  obtain ⟨i, hi, _, hsz, _⟩ := info_parts info5
  rw [elem_is]
  simp [sizeOf, typeInfo, hi, hsz]
theorem goes_law (w : World) (hT : Tab w) (A : Option Addr) (c : Nat) (l : List UInt8) (hv : Rd w w.heap.size (.slice A l.length c) l) (k : Int) (_ : (Lit.int .i64 k).wf = true) :
    Calls Tryd.prog 5 #[.slice A l.length c, .int .i64 k] w fun e w' => e = .returned (.bool true) ∧ Below w.heap.size w w' := by
  by_cases h : l.length ≤ 4000 ∧ 0 ≤ k ∧ k ≤ (l.length : Int)
  · obtain ⟨h1, h2, h3⟩ := h
    obtain ⟨n, rfl⟩ := Int.eq_ofNat_of_zero_le h2
    obtain ⟨A', c', e, hc, hx⟩ := hv.form
    injection e with e1 _ e3
    subst e1 e3
    refine goes_in A c l n w hT hv h1 (by omega) (if c = 0 then A else A.map (·.add (0 * 1))) (if c = n then A else A.map (·.add (n * 1))) (l.length - n) c (c - n) ?_ ?_ ?_ ?_
    · have hlen : (l.take n).length = n := by simp; omega
      refine ⟨_, _, by rw [hlen], by omega, fun h0 => ?_⟩
      obtain ⟨b, off, rfl, hb, hk⟩ := hx (by omega)
      refine ⟨b, off, by rw [if_neg (by omega)]; simp [Addr.add], hb, fun j hj => ?_⟩
      rw [hk j (by omega)]
      simp
    · have hlen : (l.drop n).length = l.length - n := by simp
      refine ⟨_, _, by rw [hlen], by omega, fun h0 => ?_⟩
      obtain ⟨b, off, rfl, hb, hk⟩ := hx (by omega)
      refine ⟨b, off + n, by rw [if_neg (by omega), Nat.mul_one, Option.map_some, add_at], hb, fun j hj => ?_⟩
      have hj2 : n + j < l.length := by omega
      rw [Nat.add_assoc, hk (n + j) hj2]
      simp
    · intro W
      rw [run_slice_h W _ A l.length c elem23 .i64 (n : Int) (by omega) (by omega), size_elem]
      simp [Result.andThen, sliced]
    · intro W
      rw [run_slice_l W _ A l.length c elem23 .i64 (n : Int) (by omega) (by omega), size_elem]
      simp [Result.andThen, sliced]
  · exact goes_out A c l.length k w hT (by omega)
end Go.Proofs.YthjkokapehmliaaDoor
