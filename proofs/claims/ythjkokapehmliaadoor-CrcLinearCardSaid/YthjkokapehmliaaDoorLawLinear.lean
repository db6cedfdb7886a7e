/-
  The sum of three texts of one length, byte by byte by exclusive or: what the law's text comes to.
-/
import Derived.Test.YthjkokapehmliaaDoorAwake
import Derived.Test.YthjkokapehmliaaDoorBurst
import Derived.Test.YthjkokapehmliaaDoorFrame
import Derived.StillTailTactics
import Derived.BigRegion
namespace Go.Proofs.YthjkokapehmliaaDoor
open Go.RowKit

/-- Three lists, byte by byte. -/
def mix (a b c : List UInt8) : List UInt8 := (List.range a.length).map fun i => UInt8.ofNat (((a.getD i 0).toNat ^^^ (b.getD i 0).toNat) ^^^ (c.getD i 0).toNat)
theorem mix_length (a b c : List UInt8) : (mix a b c).length = a.length := by simp [mix]
theorem mix_get (a b c : List UInt8) (i : Nat) (h : i < a.length) : (mix a b c)[i]'(by rw [mix_length]; exact h) = UInt8.ofNat (((a.getD i 0).toNat ^^^ (b.getD i 0).toNat) ^^^ (c.getD i 0).toNat) := by simp [mix]
/-- The first k bytes are made; the rest is naught. -/
def part (X : List UInt8) (k : Nat) : List UInt8 := X.take k ++ List.replicate (X.length - k) 0
theorem part_length (X : List UInt8) (k : Nat) (h : k ≤ X.length) : (part X k).length = X.length := by simp [part]; omega
theorem part_zero (X : List UInt8) : part X 0 = List.replicate X.length 0 := by simp [part]
theorem part_all (X : List UInt8) : part X X.length = X := by simp [part]
theorem part_set (X : List UInt8) (k : Nat) (h : k < X.length) : (part X k).set k X[k] = part X (k + 1) := by
  have hk : (X.take k).length = k := by simp; omega
  unfold part
  rw [List.set_append_right _ _ (by omega), hk, Nat.sub_self, show X.length - k = (X.length - (k + 1)) + 1 by omega, List.replicate_succ, List.set_cons_zero, List.take_succ_eq_append_getElem h, List.append_assoc]
  rfl

theorem mix_cons (x y z : UInt8) (a b c : List UInt8) : mix (x :: a) (y :: b) (z :: c) = UInt8.ofNat (x.toNat ^^^ y.toNat ^^^ z.toNat) :: mix a b c := by
  unfold mix
  rw [List.length_cons, List.range_succ_eq_map, List.map_cons, List.map_map]
  rfl
theorem num_mix (a b c : List UInt8) (h1 : a.length = b.length) (h2 : a.length = c.length) : Crc.num (nums (mix a b c)) = Crc.num (nums a) ^^^ Crc.num (nums b) ^^^ Crc.num (nums c) := by
  induction a generalizing b c with
  | nil =>
    have hb : b = [] := List.eq_nil_of_length_eq_zero (by simpa using h1.symm)
    have hc : c = [] := List.eq_nil_of_length_eq_zero (by simpa using h2.symm)
    subst hb
    subst hc
    rfl
  | cons x a ih =>
    obtain ⟨y, b, rfl⟩ : ∃ y t, b = y :: t := by cases b with | nil => simp at h1 | cons y t => exact ⟨y, t, rfl⟩
    obtain ⟨z, c, rfl⟩ : ∃ y t, c = y :: t := by cases c with | nil => simp at h2 | cons y t => exact ⟨y, t, rfl⟩
    have hx : (x.toNat ^^^ y.toNat) ^^^ z.toNat < 256 := Nat.xor_lt_two_pow (n := 8) (Nat.xor_lt_two_pow (n := 8) x.toNat_lt y.toNat_lt) z.toNat_lt
    have e : (UInt8.ofNat (x.toNat ^^^ y.toNat ^^^ z.toNat)).toNat = x.toNat ^^^ y.toNat ^^^ z.toNat := UInt8.toNat_ofNat_of_lt' hx
    have i := ih b c (by simpa using h1) (by simpa using h2)
    rw [mix_cons]
    unfold nums at i ⊢
    simp only [List.map_cons, Crc.num, e]
    rw [i, show (256 : Nat) = 2 ^ 8 by rfl, mul_xor, mul_xor]
    ac_rfl
theorem csum_run (l : List UInt8) : Crc.csum (nums l) = Crc.stps (8 * l.length) (Crc.ones ^^^ Crc.num (nums l)) ^^^ Crc.ones := by
  show Crc.run (0 ^^^ Crc.ones) (nums l) ^^^ Crc.ones = _
  rw [Nat.zero_xor, Crc.run_num, nums_length]
theorem csum_mix (a b c : List UInt8) (h1 : a.length = b.length) (h2 : a.length = c.length) : Crc.csum (nums (mix a b c)) = Crc.csum (nums a) ^^^ Crc.csum (nums b) ^^^ Crc.csum (nums c) := by
  rw [csum_run, csum_run, csum_run, csum_run, mix_length, num_mix a b c h1 h2, ← h1, ← h2]
  generalize Crc.num (nums a) = x
  generalize Crc.num (nums b) = y
  generalize Crc.num (nums c) = z
  generalize 8 * a.length = N
  simp only [Crc.stps_xor]
  generalize Crc.stps N x = x
  generalize Crc.stps N y = y
  generalize Crc.stps N z = z
  generalize Crc.stps N Crc.ones = f
  generalize Crc.ones = g
  have e : (f ^^^ x ^^^ g) ^^^ (f ^^^ y ^^^ g) ^^^ (f ^^^ z ^^^ g) = (f ^^^ (x ^^^ y ^^^ z) ^^^ g) ^^^ ((f ^^^ f) ^^^ (g ^^^ g)) := by ac_rfl
  rw [e]
  simp
theorem mix_step (a b c : List UInt8) (k : Nat) (h : k < a.length) : (mix a b c)[k]'(by rw [mix_length]; exact h) = UInt8.ofNat ((a.getD k 0).toNat ^^^ (b.getD k 0).toNat ^^^ (c.getD k 0).toNat) := mix_get a b c k h

set_option maxRecDepth 100000 in
theorem linear_in (A1 A2 A3 : Option Addr) (c1 c2 c3 : Nat) (a b c : List UInt8) (hab : b.length = a.length) (hac : c.length = a.length) (hl : a.length ≤ 2000) (w : World) (hT : Tab w)
    (ha : Rd w w.heap.size (.slice A1 a.length c1) a) (hb : Rd w w.heap.size (.slice A2 a.length c2) b) (hc : Rd w w.heap.size (.slice A3 a.length c3) c) :
    Calls Tryd.prog 7 #[.slice A1 a.length c1, .slice A2 a.length c2, .slice A3 a.length c3] w fun e w' => e = .returned (.bool true) ∧ Below w.heap.size w w' := by
  have K1 := Lib.hid (awake_any w hT)
  have hpos := hT.pos
  have HT := Lib.hid hT
  have HA := Lib.hid ha
  have HB := Lib.hid hb
  have HC := Lib.hid hc
  have HX1 : Hid (b.length = a.length) := hab
  have HX2 : Hid (c.length = a.length) := hac
  clear hT ha hb hc hab hac
  obtain ⟨i0, hi, hz, hsz, hby⟩ := info_parts info5
  generalize hn : a.length = n at *
  have HN := Lib.hid hn
  clear hn
  go_enter Tryd.func7, Tryd.ntmps7
  go_wp2_with fail
  refine K1.out.mono ?_
  rintro e w1 ⟨rfl, hb1⟩
  have hz1 := hb1.size
  go_wp2_with (at_make; refine wpList_make_full _ rfl _ _ 23 rfl w1.heap.size 5 i0 (.int .u8 0) 1 Tryd.underlying23 hi hz hsz .i64 .i64 _ _ n rfl rfl rfl rfl (by rw [hby]; omega) (by unfold maxLen; omega) (Nat.le_refl _) ?_; intro w2 hown2 hg2)
  have hb2 : Below w.heap.size w w2 := hb1.grown hg2 hz1 (by intro k h; cases h)
  have hown2' : w2.ownsRow w1.heap.size 5 1 (.slice (some ⟨w1.heap.size, 0, none⟩) n n) n (bv (part (mix a b c) 0)) := by
    rw [part_zero, mix_length, HN.out]
    have e : bv (List.replicate n 0) = (madeCells (Value.int .u8 0).cells (n * 1)).toList := by
      show _ = (madeCells #[Value.int .u8 0] (n * 1)).toList
      rw [toList_madeCells_one, Nat.mul_one]
      simp [bv]
    rw [e]
    exact hown2
  have HG := Lib.hid hg2.size
  clear hown2 hg2
  have hXl : Hid ((mix a b c).length = n) := by rw [Hid, mix_length]; exact HN.out
  go_loopw [9] (fun i wr => ∃ k : Nat, k ≤ n ∧ i = .int .i64 k ∧ wr.ownsRow w1.heap.size 5 1 (.slice (some ⟨w1.heap.size, 0, none⟩) n n) n (bv (part (mix a b c) k)) ∧ Below w.heap.size w wr) (fun i _ => n - (intOf i).toNat)
  case atStart => exact ⟨0, Nat.zero_le _, rfl, hown2', hb2⟩
  case round =>
    obtain ⟨k, hk, rfl, hown, hbr⟩ := hrel
    clear hown2'
    by_cases hlt : k < n
    · obtain ⟨b1, o1, rfl, hb1b, hc1⟩ := HA.out.at_ HN.out k hlt
      obtain ⟨b2, o2, rfl, hb2b, hc2⟩ := HB.out.at_ HX1.out k hlt
      obtain ⟨b3, o3, rfl, hb3b, hc3⟩ := HC.out.at_ HX2.out k hlt
      have d1 := (hbr.cell (p := ⟨b1, o1 + k, none⟩) hb1b).trans hc1
      have d2 := (hbr.cell (p := ⟨b2, o2 + k, none⟩) hb2b).trans hc2
      have d3 := (hbr.cell (p := ⟨b3, o3 + k, none⟩) hb3b).trans hc3
      clear hc1 hc2 hc3
      have hy := mix_step a b c k (by rw [HN.out]; exact hlt)
      have q1 : (a.getD k 0).toNat < 256 := (a.getD k 0).toNat_lt
      have q2 : (b.getD k 0).toNat < 256 := (b.getD k 0).toNat_lt
      have q3 : (c.getD k 0).toNat < 256 := (c.getD k 0).toNat_lt
      have hset : Hid (bv (part (mix a b c) (k + 1)) = (bv (part (mix a b c) k)).set k (.int .u8 (((a.getD k 0).toNat ^^^ (b.getD k 0).toNat ^^^ (c.getD k 0).toNat : Nat) : Int))) := by
        have hkx : k < (mix a b c).length := by rw [hXl.out]; exact hlt
        have := part_set (mix a b c) k hkx
        rw [Hid, ← this, hy]
        simp [bv, List.map_set]
      generalize (a.getD k 0).toNat = p1 at *
      generalize (b.getD k 0).toNat = p2 at *
      generalize (c.getD k 0).toNat = p3 at *
      have x1 := u8_xor_nat p1 p2 q1 q2
      have q4 : p1 ^^^ p2 < 256 := Nat.xor_lt_two_pow (n := 8) q1 q2
      generalize p1 ^^^ p2 = p4 at *
      have x2 := u8_xor_nat p4 p3 q4 q3
      generalize p4 ^^^ p3 = p5 at *
      have hst := World.ownsRow.stored hown k (.int .u8 (p5 : Int))
      have hHS := Lib.hid hst
      clear hst hy
      have hown' := hown
      have hfr := World.ownsRow.frozenAt hown k
      obtain ⟨old, hold⟩ : ∃ old, wr.cell? ⟨w1.heap.size, k, none⟩ = some old := by
        have h := World.ownsRow.cellAt hown k (by omega)
        have hl2 : k < (bv (part (mix a b c) k)).length := by rw [hown.1]; omega
        exact ⟨_, h.trans (List.getElem?_eq_getElem hl2)⟩
      have HO := Lib.hid hown
      clear hown hown'
      go_wp2
      go_still_tail 16, (by kernel_rfl)
      go_wp2
      exact ⟨⟨k + 1, by omega, by go_num, by rw [hset.out]; exact hHS.out.1, (hbr.setCell (p := ⟨w1.heap.size, k, none⟩) hz1 _).drew⟩, by simp [intOf]; omega⟩
    · have hkn : k = n := by omega
      subst hkn
      have hX : part (mix a b c) k = mix a b c := by
        have := part_all (mix a b c)
        rwa [hXl.out] at this
      rw [hX] at hown
      have hrx : Rd wr wr.heap.size (.slice (some ⟨w1.heap.size, 0, none⟩) k k) (mix a b c) := by
        have ho : OwnB wr w1.heap.size (.slice (some ⟨w1.heap.size, 0, none⟩) k k) (mix a b c) := by
          unfold OwnB
          rw [hXl.out]
          exact hown
        exact ho.rd
      have htr := HT.out.below hbr hpos
      have k1 := sum_any _ (mix a b c) (by rw [hXl.out]; omega) wr _ hrx htr
      have k2 := sum_any _ a (by rw [HN.out]; omega) wr _ (HA.out.below hbr) htr
      have k3 := sum_any _ b (by rw [HX1.out]; omega) wr _ (HB.out.below hbr) htr
      have k4 := sum_any _ c (by rw [HX2.out]; omega) wr _ (HC.out.below hbr) htr
      have hfin := csum_mix a b c (by rw [HN.out, HX1.out]) (by rw [HN.out, HX2.out])
      have r2 : Crc.csum (nums a) < 4294967296 := Crc.more_lt _ (by omega) (nums_lt _)
      have r3 : Crc.csum (nums b) < 4294967296 := Crc.more_lt _ (by omega) (nums_lt _)
      have r4 : Crc.csum (nums c) < 4294967296 := Crc.more_lt _ (by omega) (nums_lt _)
      rw [hfin] at k1
      clear hX hown hrx htr hfin
      generalize Crc.csum (nums a) = s2 at *
      generalize Crc.csum (nums b) = s3 at *
      generalize Crc.csum (nums c) = s4 at *
      have x1 := u32_xor_nat s2 s3 r2 r3
      have r5 : s2 ^^^ s3 < 4294967296 := xor_lt32 r2 r3
      generalize s2 ^^^ s3 = s5 at *
      have x2 := u32_xor_nat s5 s4 r5 r4
      generalize s5 ^^^ s4 = s6 at *
      have L1 := Lib.hid k1
      have L2 := Lib.hid k2
      have L3 := Lib.hid k3
      have L4 := Lib.hid k4
      clear k1 k2 k3 k4
      go_wp2_with fail
      refine L1.out.mono ?_
      rintro e w' ⟨rfl, rfl⟩
      go_wp2_with fail
      refine L2.out.mono ?_
      rintro e w' ⟨rfl, rfl⟩
      go_wp2_with fail
      refine L3.out.mono ?_
      rintro e w' ⟨rfl, rfl⟩
      go_wp2_with fail
      refine L4.out.mono ?_
      rintro e w' ⟨rfl, rfl⟩
      go_wp2_with fail
      go_ret
      exact ⟨rfl, hbr⟩

set_option maxRecDepth 100000 in
theorem linear_out (A1 A2 A3 : Option Addr) (n1 n2 n3 c1 c2 c3 : Nat) (w : World) (hT : Tab w)
    (hout : 2000 < n1 ∨ (n1 ≤ 2000 ∧ n1 ≠ n2) ∨ (n1 ≤ 2000 ∧ n1 = n2 ∧ n1 ≠ n3)) :
    Calls Tryd.prog 7 #[.slice A1 n1 c1, .slice A2 n2 c2, .slice A3 n3 c3] w fun e w' => e = .returned (.bool true) ∧ Below w.heap.size w w' := by
  have K1 := Lib.hid (awake_any w hT)
  clear hT
  rcases hout with h | ⟨h, h1⟩ | ⟨h, rfl, h2⟩
  · go_enter Tryd.func7, Tryd.ntmps7
    go_wp2_with (go_at_call 11; refine K1.out.mono ?_; rintro e w1 ⟨rfl, hb1⟩)
    go_ret
    exact ⟨rfl, hb1⟩
  · have hd : decide ((2000 : Int) < (n1 : Int)) = false := by simp; omega
    have hn : ((n1 : Int) != (n2 : Int)) = true := by simp; omega
    go_enter Tryd.func7, Tryd.ntmps7
    go_wp2_with (go_at_call 11; refine K1.out.mono ?_; rintro e w1 ⟨rfl, hb1⟩)
    go_ret
    exact ⟨rfl, hb1⟩
  · have hd : decide ((2000 : Int) < (n1 : Int)) = false := by simp; omega
    have hn : ((n1 : Int) != (n3 : Int)) = true := by simp; omega
    go_enter Tryd.func7, Tryd.ntmps7
    go_wp2_with (go_at_call 11; refine K1.out.mono ?_; rintro e w1 ⟨rfl, hb1⟩)
    go_ret
    exact ⟨rfl, hb1⟩

theorem linear_law (w : World) (hT : Tab w) (A1 : Option Addr) (c1 : Nat) (a : List UInt8) (ha : Rd w w.heap.size (.slice A1 a.length c1) a) (A2 : Option Addr) (c2 : Nat) (b : List UInt8) (hb : Rd w w.heap.size (.slice A2 b.length c2) b)
    (A3 : Option Addr) (c3 : Nat) (c : List UInt8) (hc : Rd w w.heap.size (.slice A3 c.length c3) c) :
    Calls Tryd.prog 7 #[.slice A1 a.length c1, .slice A2 b.length c2, .slice A3 c.length c3] w fun e w' => e = .returned (.bool true) ∧ Below w.heap.size w w' := by
  by_cases h : a.length ≤ 2000 ∧ b.length = a.length ∧ c.length = a.length
  · obtain ⟨h1, h2, h3⟩ := h
    rw [h2] at hb
    rw [h3] at hc
    rw [h2, h3]
    exact linear_in A1 A2 A3 c1 c2 c3 a b c h2 h3 h1 w hT ha hb hc
  · exact linear_out A1 A2 A3 _ _ _ c1 c2 c3 w hT (by omega)
end Go.Proofs.YthjkokapehmliaaDoor
