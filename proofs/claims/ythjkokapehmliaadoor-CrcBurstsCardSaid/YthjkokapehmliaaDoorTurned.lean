/-
  What 'turned' gives: bytes of which some bits from one on are turned.
-/
import Derived.Test.YthjkokapehmliaaDoorBurst
namespace Go.Proofs.YthjkokapehmliaaDoor
open Go.RowKit

/-- Bit k of the mask is turned, at bit p + k, if that lies in the bytes. -/
def hit (n p mask k : Nat) : Bool := mask / 2 ^ k % 2 == 1 && decide (p + k < 8 * n)
/-- One bit is turned. -/
def flip (l : List UInt8) (p : Nat) : List UInt8 := l.set (p / 8) (UInt8.ofNat ((l.getD (p / 8) 0).toNat ^^^ 2 ^ (p % 8)))
/-- The first k bits of the mask are turned. -/
def turn (l : List UInt8) (p mask : Nat) : Nat → List UInt8
  | 0 => l
  | k + 1 => if hit l.length p mask k then flip (turn l p mask k) (p + k) else turn l p mask k
/-- What is turned, as a number. -/
def mark (n p mask : Nat) : Nat → Nat
  | 0 => 0
  | k + 1 => if hit n p mask k then mark n p mask k ^^^ 2 ^ k else mark n p mask k
theorem flip_length (l : List UInt8) (p : Nat) : (flip l p).length = l.length := by simp [flip]
theorem turn_length (l : List UInt8) (p mask k : Nat) : (turn l p mask k).length = l.length := by
  induction k with
  | zero => rfl
  | succ k ih => rw [turn]; split <;> simp [flip_length, ih]
theorem pow_lt_byte (r : Nat) (h : r < 8) : 2 ^ r < 256 := by
  have : 2 ^ r < 2 ^ 8 := Nat.pow_lt_pow_right (by omega) h
  omega
theorem num_flip (l : List UInt8) (p : Nat) (h : p < 8 * l.length) : Crc.num (nums (flip l p)) = Crc.num (nums l) ^^^ 2 ^ p := by
  have hj : p / 8 < l.length := by omega
  have e : l.getD (p / 8) 0 = l[p / 8] := by simp [List.getD, hj]
  have hb : (l[p / 8]).toNat ^^^ 2 ^ (p % 8) < 256 := Nat.xor_lt_two_pow (n := 8) (l[p / 8]).toNat_lt (pow_lt_byte _ (by omega))
  have e2 : (UInt8.ofNat ((l[p / 8]).toNat ^^^ 2 ^ (p % 8))).toNat = (l[p / 8]).toNat ^^^ 2 ^ (p % 8) := UInt8.toNat_ofNat_of_lt' hb
  have hj' : p / 8 < (nums l).length := by rw [nums_length]; exact hj
  unfold flip
  rw [e, nums_set, e2, ← nums_get l _ hj, num_set (nums l) (p / 8) _ hj', ← Nat.pow_add, show 8 * (p / 8) + p % 8 = p by omega]
theorem num_turn (l : List UInt8) (p mask k : Nat) : Crc.num (nums (turn l p mask k)) = Crc.num (nums l) ^^^ 2 ^ p * mark l.length p mask k := by
  induction k with
  | zero => simp [turn, mark]
  | succ k ih =>
    rw [turn, mark]
    by_cases h : hit l.length p mask k = true
    · have hp : p + k < 8 * l.length := by
        unfold hit at h
        simp at h
        exact h.2
      rw [if_pos h, if_pos h, num_flip _ _ (by rw [turn_length]; exact hp), ih, mul_xor, Nat.pow_add, Nat.xor_assoc]
    · rw [if_neg h, if_neg h, ih]
theorem mark_lt (n p mask k : Nat) : mark n p mask k < 2 ^ k := by
  induction k with
  | zero => simp [mark]
  | succ k ih =>
    have h2 : 2 ^ k < 2 ^ (k + 1) := Nat.pow_lt_pow_right (by omega) (by omega)
    rw [mark]
    split
    · exact Nat.xor_lt_two_pow (by omega) h2
    · omega
theorem mark_odd (n p mask k : Nat) (hm : mask % 2 = 1) (hp : p < 8 * n) : mark n p mask (k + 1) % 2 = 1 := by
  induction k with
  | zero =>
    have h : hit n p mask 0 = true := by simp [hit, hm, hp]
    rw [mark, if_pos h]
    simp [mark]
  | succ k ih =>
    rw [mark]
    split
    · have h := Nat.xor_mod_two_pow (a := mark n p mask (k + 1)) (b := 2 ^ (k + 1)) (n := 1)
      have e : 2 ^ (k + 1) % 2 ^ 1 = 0 := by rw [Nat.pow_succ]; simp
      simp only [Nat.pow_one] at h e
      rw [h, ih, e]
      rfl
    · exact ih
/-- No bytes of which a burst was turned out of sealed ones are sealed. -/
theorem turn_sealed (l m : List UInt8) (p mask : Nat) (hm : mask % 2 = 1) (hp : p < 8 * (l.length + 4)) : turn (l ++ tail (Crc.csum (nums l))) p mask 32 ≠ m ++ tail (Crc.csum (nums m)) := by
  intro h
  have hlen : (l ++ tail (Crc.csum (nums l))).length = l.length + 4 := by simp [tail_length]
  have h1 := run_sealed m
  rw [← h] at h1
  have hlt := mark_lt (l ++ tail (Crc.csum (nums l))).length p mask 32
  have hod := mark_odd (l ++ tail (Crc.csum (nums l))).length p mask 31 hm (by rw [hlen]; exact hp)
  refine run_burst Crc.ones p (mark (l ++ tail (Crc.csum (nums l))).length p mask 32) (nums (l ++ tail (Crc.csum (nums l)))) _ ?_ (num_turn _ p mask 32) ?_ (by omega) (by intro h0; rw [h0] at hod; cases hod) (h1.trans (run_sealed l).symm)
  · rw [nums_length, nums_length, turn_length]
  · rw [nums_length, hlen]; omega

set_option maxRecDepth 100000 in
theorem turned_any (v : Value) (l : List UInt8) (p mask : Nat) (hl : l.length ≤ 10000) (hp : p ≤ 100000) (w : World) (B : Nat) (hv : Rd w B v l) :
    Calls Tryd.prog 22 #[v, .int .i64 (p : Int), .int .u32 (mask : Int)] w fun e w' => ∃ u, e = .returned u ∧ OwnB w' w.heap.size u (turn l p mask 32) ∧ Below w.heap.size w w' := by
  obtain ⟨A, c, rfl, hc, hx⟩ := hv.form
  clear hx
  have HV := Lib.hid hv
  clear hv
  have h0 : Hid (turn l p mask 0 = l) := rfl
  have hlen : Hid (∀ k, (turn l p mask k).length = l.length) := fun k => turn_length l p mask k
  have hstep : Hid (∀ k, turn l p mask (k + 1) = if hit l.length p mask k then flip (turn l p mask k) (p + k) else turn l p mask k) := fun k => rfl
  generalize turn l p mask = T at *
  generalize hn : l.length = n at *
  have HN := Lib.hid hn
  clear hn
  go_enter Tryd.func22, Tryd.ntmps22
  go_wp2_with (at_builtin; refine wpList_append_rd rfl _ (.tmp 10) rfl w.heap.size _ [] rfl (OwnB.nil _ _) B _ l rfl HV.out (by rw [HN.out]; simp; omega) (Nat.le_refl _) ?_; intro v2 w2 hown2 hg2 hob2; rw [List.nil_append] at hown2; have hb2 := (Below.refl w.heap.size w).grown hg2 (Nat.le_refl _) (by intro k h; cases h); clear hg2 hob2; obtain ⟨A2, c2, hv2, _⟩ := hown2.rd.form; rw [HN.out] at hv2; subst hv2)
  go_loopw [8] (fun i wr => ∃ k : Nat, k ≤ 32 ∧ i = .int .i64 k ∧ OwnB wr w.heap.size (.slice A2 n c2) (T k) ∧ Below w.heap.size w wr) (fun i _ => 32 - (intOf i).toNat)
  case atStart => exact ⟨0, Nat.zero_le _, rfl, by rw [h0.out]; exact hown2, hb2⟩
  case round =>
    obtain ⟨k, hk, rfl, hown, hbr⟩ := hrel
    clear hown2
    have HO := Lib.hid hown
    clear hown
    by_cases hlt : k < 32
    · have hqe : (mask : Int) / 2 ^ k = ((mask / 2 ^ k : Nat) : Int) := by simp
      have hst := Lib.hid (hstep.out k)
      have hhit : Hid (hit n p mask k = (mask / 2 ^ k % 2 == 1 && decide (p + k < 8 * n))) := rfl
      generalize mask / 2 ^ k = q at *
      by_cases hq : q % 2 = 1
      · have hqb : ((q : Int) % 2 == 1) = true := by simp; omega
        by_cases hin : p + k < 8 * n
        · have hd : decide ((p : Int) + (k : Int) < 8 * (n : Int)) = true := by simp; omega
          obtain ⟨g, rfl, hg, hcell, hfree, hstore⟩ := HO.out.at_ (hlen.out k) ((p + k) / 8) (by omega)
          have hby : ((T k).getD ((p + k) / 8) 0).toNat < 256 := ((T k).getD ((p + k) / 8) 0).toNat_lt
          have hx : bits .xor .u8 ((((T k).getD ((p + k) / 8) 0).toNat : Nat) : Int) (2 ^ ((p + k) % 8) % 256) = ((((T k).getD ((p + k) / 8) 0).toNat ^^^ 2 ^ ((p + k) % 8) : Nat) : Int) := by
            have h1 := u8_xor_nat ((T k).getD ((p + k) / 8) 0).toNat (2 ^ ((p + k) % 8)) hby (pow_lt_byte _ (by omega))
            have h2 : ((2 : Int) ^ ((p + k) % 8) % 256) = ((2 ^ ((p + k) % 8) : Nat) : Int) := by
              have h3 : ((2 : Int) ^ ((p + k) % 8)) = ((2 ^ ((p + k) % 8) : Nat) : Int) := by simp
              have h4 := pow_lt_byte ((p + k) % 8) (by omega)
              rw [h3]
              generalize 2 ^ ((p + k) % 8) = z at h4 ⊢
              omega
            rw [h2]
            exact h1
          have hun : (UInt8.ofNat (((T k).getD ((p + k) / 8) 0).toNat ^^^ 2 ^ ((p + k) % 8))).toNat = ((T k).getD ((p + k) / 8) 0).toNat ^^^ 2 ^ ((p + k) % 8) :=
            UInt8.toNat_ofNat_of_lt' (Nat.xor_lt_two_pow (n := 8) hby (pow_lt_byte _ (by omega)))
          have hfin := hstore (UInt8.ofNat (((T k).getD ((p + k) / 8) 0).toNat ^^^ 2 ^ ((p + k) % 8)))
          have e : T (k + 1) = (T k).set ((p + k) / 8) (UInt8.ofNat (((T k).getD ((p + k) / 8) 0).toNat ^^^ 2 ^ ((p + k) % 8))) := by
            rw [hst.out, hhit.out]
            simp [hq, hin, flip]
          rw [← e, hun, ← hx] at hfin
          have HF := Lib.hid hfin
          clear hstore hfin e hun hx
          generalize ((T k).getD ((p + k) / 8) 0).toNat = y at *
          go_wp2
          exact ⟨⟨k + 1, by omega, by go_num, HF.out, hbr.setCell (p := ⟨g, (p + k) / 8, none⟩) hg _⟩, by simp [intOf]; omega⟩
        · have hd : decide ((p : Int) + (k : Int) < 8 * (n : Int)) = false := by simp; omega
          go_wp2
          have e : T (k + 1) = T k := by rw [hst.out, hhit.out]; simp [hin]
          exact ⟨⟨k + 1, by omega, by go_num, by rw [e]; exact HO.out, hbr⟩, by simp [intOf]; omega⟩
      · have hqb : ((q : Int) % 2 == 1) = false := by simp; omega
        go_wp2
        have e : T (k + 1) = T k := by rw [hst.out, hhit.out]; simp [hq]
        exact ⟨⟨k + 1, by omega, by go_num, by rw [e]; exact HO.out, hbr⟩, by simp [intOf]; omega⟩
    · have hk32 : k = 32 := by omega
      have HK := Lib.hid hk32
      clear hk32
      go_wp2
      go_ret
      exact ⟨_, rfl, by rw [← HK.out]; exact HO.out, hbr⟩
end Go.Proofs.YthjkokapehmliaaDoor
