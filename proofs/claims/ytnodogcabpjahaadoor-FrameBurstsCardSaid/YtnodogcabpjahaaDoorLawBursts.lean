/-
  A frame of which some bits within 32 in a row, but none of its third and fourth byte, are turned is not got: what the law's text comes to.
-/
import Derived.Test.YtnodogcabpjahaaDoorAwk
import Derived.Test.YtnodogcabpjahaaDoorTurn
import Derived.LoopTactic
namespace Go.Proofs.YtnodogcabpjahaaDoor
open Go.RowKit

/-- None of the first k bits that are turned lies in the third or fourth byte. -/
def NoMid (n p mask k : Nat) : Prop := ∀ j, j < k → hit n p mask j = true → (p + j) / 8 ≠ 2 ∧ (p + j) / 8 ≠ 3
theorem noMid_zero (n p mask : Nat) : NoMid n p mask 0 := fun _ h => absurd h (by omega)
theorem noMid_succ {n p mask k : Nat} (h : NoMid n p mask k) (hk : hit n p mask k = true → (p + k) / 8 ≠ 2 ∧ (p + k) / 8 ≠ 3) : NoMid n p mask (k + 1) := fun j hj hh => by
  by_cases e : j = k
  · subst e; exact hk hh
  · exact h j (by omega) hh
theorem turn_mid (l : List UInt8) (p mask : Nat) : ∀ k, NoMid l.length p mask k → ∀ q, q = 2 ∨ q = 3 → (turn l p mask k)[q]? = l[q]?
  | 0, _, _, _ => rfl
  | k + 1, h, q, hq => by
    have ih := turn_mid l p mask k (fun j hj hh => h j (by omega) hh) q hq
    rw [turn]
    split
    · rename_i hh
      have := h k (by omega) hh
      unfold flip
      rw [List.getElem?_set_ne (by omega), ih]
    · exact ih
theorem burst_get (f : Frm.F) (p mask : Nat) (hm : mask % 2 = 1) (hp : p < 8 * (Frm.enc f).length) (hok : Frm.ok f) (hno : NoMid (Frm.enc f).length p mask 32) : ∃ e, (e = 2 ∨ e = 3 ∨ e = 4 ∨ e = 7) ∧ Frm.get (turn (Frm.enc f) p mask 32) = Frm.err e := by
  rcases Frm.get_cases (turn (Frm.enc f) p mask 32) with h | h
  · exfalso
    obtain ⟨hok2, _, hle, htk⟩ := Frm.get_fn h
    have hmid := turn_mid (Frm.enc f) p mask 32 hno
    have hlen := turn_length (Frm.enc f) p mask 32
    have hel := Frm.enc_length f
    have hns := turn_sealed (Frm.raw f.1.toNat f.2.length f.2) (Frm.raw (Frm.get (turn (Frm.enc f) p mask 32)).1.1.toNat (Frm.get (turn (Frm.enc f) p mask 32)).1.2.length (Frm.get (turn (Frm.enc f) p mask 32)).1.2) p mask hm (by rw [Frm.raw_length]; omega)
    generalize hgf : (Frm.get (turn (Frm.enc f) p mask 32)).1 = g at *
    obtain ⟨t1, ht1⟩ := Frm.enc_cons f
    obtain ⟨t2, ht2⟩ := Frm.enc_cons g
    have hb2 := g.2.length
    have c2 : (turn (Frm.enc f) p mask 32)[2]? = some (UInt8.ofNat (g.2.length / 256)) := by
      have : ((turn (Frm.enc f) p mask 32).take (g.2.length + 8))[2]? = some (UInt8.ofNat (g.2.length / 256)) := by rw [htk, ht2]; rfl
      rwa [List.getElem?_take_of_lt (by omega)] at this
    have c3 : (turn (Frm.enc f) p mask 32)[3]? = some (UInt8.ofNat (g.2.length % 256)) := by
      have : ((turn (Frm.enc f) p mask 32).take (g.2.length + 8))[3]? = some (UInt8.ofNat (g.2.length % 256)) := by rw [htk, ht2]; rfl
      rwa [List.getElem?_take_of_lt (by omega)] at this
    rw [hmid 2 (.inl rfl), ht1] at c2
    rw [hmid 3 (.inr rfl), ht1] at c3
    injection c2 with c2
    injection c3 with c3
    have g1 := hok.2.2
    have g2 := hok2.2.2
    have d2 := congrArg UInt8.toNat c2
    have d3 := congrArg UInt8.toNat c3
    rw [Frm.u8_of (by omega), Frm.u8_of (by omega)] at d2 d3
    have hll : g.2.length = f.2.length := by omega
    rw [List.take_of_length_le (by omega)] at htk
    exact hns htk
  · exact h

set_option maxRecDepth 100000 in
theorem fbursts_out (w : World) (hT : Tab w) (k : Int) (sB : Value) (b : List UInt8) (hb : Sl w w.heap.size sB b) (p mask : Int) (hm0 : 0 ≤ mask) (hout : ¬ Frm.ok (k, b) ∨ (Frm.ok (k, b) ∧ (p < 0 ∨ 8 * ((b.length : Int) + 8) ≤ p ∨ mask % 2 = 0))) :
    Calls Tryd.prog 8 #[.agg #[.int .i64 k, sB], .int .i64 p, .int .u32 mask] w fun e w' => e = .returned (.bool true) ∧ Below w.heap.size w w' := by
  obtain ⟨A, c, rfl, _, hm⟩ := hb.form
  unfold maxLen at hm
  have hpos := hT.pos
  have hb0 : Below w.heap.size w (w.alloc (.cells #[.int .i64 k, .slice A b.length c] 24)) := (Below.refl _ _).alloc (Nat.le_refl _) _
  have HK := Lib.hid (awake_any (w.alloc (.cells #[.int .i64 k, .slice A b.length c] 24)) (hT.below hb0 hpos))
  have HW := Lib.hid (Whole.new w 24 #[.int .i64 k, .slice A b.length c])
  have HP := Lib.hid (fun W (h : Below w.heap.size w W) => put_any k _ b W w.heap.size h.size (hb.below h) (hT.below h hpos))
  clear hb hT
  rcases hout with ho | ⟨ho, hout⟩
  · obtain ⟨hb1, hb2⟩ := Frm.put_err ho
    generalize Frm.put (k, b) = q at *
    obtain ⟨q1, q2⟩ := q
    simp only at hb1 hb2
    subst hb1
    have hne : (q2 != 0) = true := by simpa using hb2
    clear ho hb2
    generalize b.length = n at *
    go_enter Tryd.func8, Tryd.ntmps8
    go_wp2_with fail
    refine HK.out.mono ?_
    rintro e w1 ⟨rfl, hb1⟩
    have hW1 := HW.out.below hb1 (by simp)
    have k0 : w1.cell? ⟨w.heap.size, 0, none⟩ = some (.int .i64 k) := hW1.cell 0
    have k1 : w1.cell? ⟨w.heap.size, 1, none⟩ = some (.slice A n c) := hW1.cell 1
    have hb := hb0.trans (hb1.mono (by simp))
    have HP1 := Lib.hid (HP.out w1 hb)
    clear hW1
    go_wp2_with fail
    with_reducible refine HP1.out.mono ?_
    rintro e w2 ⟨A3, c3, rfl, ho3, hb2⟩
    simp only [List.length_nil]
    have hbb := hb.trans (hb2.mono hb.size)
    clear ho3
    go_wp2_with fail
    go_ret
    exact ⟨rfl, hbb⟩
  · have hel := Frm.enc_length (k, b)
    rw [Frm.put_ok ho] at HP
    simp only at hel
    have hbl := ho.2.2
    simp only at hbl
    clear ho
    generalize Frm.enc (k, b) = q at *
    generalize hql : q.length = ql at *
    have HQL := Lib.hid hql
    clear hql
    generalize b.length = n at *
    have hqi : (ql : Int) = (n : Int) + 8 := by omega
    have hqb : ql ≤ 4104 := by omega
    rw [← hqi] at hout
    clear hel hqi
    have hmod : mask % 2 = 0 ∨ mask % 2 ≠ 0 := by omega
    rcases (show p < 0 ∨ (0 ≤ p ∧ 8 * (ql : Int) ≤ p) ∨ (0 ≤ p ∧ p < 8 * (ql : Int) ∧ mask % 2 = 0) by omega) with h | ⟨h, h'⟩ | ⟨h, h', h''⟩
    all_goals
      clear hout hmod
      try have hmz : (mask % 2 == 0) = true := by simpa using h''
      try clear h''
      go_enter Tryd.func8, Tryd.ntmps8
      go_wp2_with fail
      refine HK.out.mono ?_
      rintro e w1 ⟨rfl, hb1⟩
      have hW1 := HW.out.below hb1 (by simp)
      have k0 : w1.cell? ⟨w.heap.size, 0, none⟩ = some (.int .i64 k) := hW1.cell 0
      have k1 : w1.cell? ⟨w.heap.size, 1, none⟩ = some (.slice A n c) := hW1.cell 1
      have hb := hb0.trans (hb1.mono (by simp))
      have HP1 := Lib.hid (HP.out w1 hb)
      clear hW1
      go_wp2_with fail
      with_reducible refine HP1.out.mono ?_
      rintro e w2 ⟨A3, c3, rfl, ho3, hb2⟩
      dsimp only
      rw [HQL.out]
      have hbb := hb.trans (hb2.mono hb.size)
      clear ho3
      go_wp2_with fail
      go_ret
      exact ⟨rfl, hbb⟩

set_option maxRecDepth 100000 in
set_option maxHeartbeats 800000 in
theorem fbursts_in (w : World) (hT : Tab w) (k : Int) (sB : Value) (b : List UInt8) (hb : Sl w w.heap.size sB b) (p mask : Nat) (hmask : mask < 4294967296) (ho : Frm.ok (k, b)) (hp : p < 8 * (b.length + 8)) (hodd : mask % 2 = 1) :
    Calls Tryd.prog 8 #[.agg #[.int .i64 k, sB], .int .i64 (p : Int), .int .u32 (mask : Int)] w fun e w' => e = .returned (.bool true) ∧ Below w.heap.size w w' := by
  obtain ⟨A, c, rfl, _, hm⟩ := hb.form
  unfold maxLen at hm
  have hpos := hT.pos
  have hb0 : Below w.heap.size w (w.alloc (.cells #[.int .i64 k, .slice A b.length c] 24)) := (Below.refl _ _).alloc (Nat.le_refl _) _
  have HK := Lib.hid (awake_any (w.alloc (.cells #[.int .i64 k, .slice A b.length c] 24)) (hT.below hb0 hpos))
  have HW := Lib.hid (Whole.new w 24 #[.int .i64 k, .slice A b.length c])
  have HT := Lib.hid (fun W (h : Below w.heap.size w W) => hT.below h hpos)
  have HP := Lib.hid (fun W (h : Below w.heap.size w W) => put_any k _ b W w.heap.size h.size (hb.below h) (hT.below h hpos))
  have hel := Frm.enc_length (k, b)
  have hbg := burst_get (k, b) p mask hodd (by rw [hel]; exact hp) ho
  rw [Frm.put_ok ho] at HP
  simp only at hel
  have hbl := ho.2.2
  simp only at hbl
  clear ho hb hT
  have h0 : Hid (turn (Frm.enc (k, b)) p mask 0 = Frm.enc (k, b)) := rfl
  have hlen : Hid (∀ j, (turn (Frm.enc (k, b)) p mask j).length = (Frm.enc (k, b)).length) := fun j => turn_length _ p mask j
  have hstep : Hid (∀ j, turn (Frm.enc (k, b)) p mask (j + 1) = if hit (Frm.enc (k, b)).length p mask j then flip (turn (Frm.enc (k, b)) p mask j) (p + j) else turn (Frm.enc (k, b)) p mask j) := fun j => rfl
  generalize turn (Frm.enc (k, b)) p mask = T at *
  generalize Frm.enc (k, b) = q at *
  generalize hql : q.length = ql at *
  have HQL := Lib.hid hql
  have HBG := Lib.hid hbg
  have hqb : ql ≤ 4104 := by omega
  have hp2 : p < 8 * ql := by omega
  clear hql hbg hel hp
  generalize b.length = n at *
  have hd0 : decide ((p : Int) < 0) = false := by simp
  have hdm : ((mask : Int) % 2 == 0) = false := by simp; omega
  have hdp : decide (8 * (ql : Int) ≤ (p : Int)) = false := by simp; omega
  go_enter Tryd.func8, Tryd.ntmps8
  go_wp2_with fail
  refine HK.out.mono ?_
  rintro e w1 ⟨rfl, hb1⟩
  have hW1 := HW.out.below hb1 (by simp)
  have k0 : w1.cell? ⟨w.heap.size, 0, none⟩ = some (.int .i64 k) := hW1.cell 0
  have k1 : w1.cell? ⟨w.heap.size, 1, none⟩ = some (.slice A n c) := hW1.cell 1
  have hb := hb0.trans (hb1.mono (by simp))
  have HP1 := Lib.hid (HP.out w1 hb)
  have HB := Lib.hid hb
  clear hW1 hb
  go_wp2_with fail
  with_reducible refine HP1.out.mono ?_
  rintro e w2 ⟨A3, c3, rfl, ho3, hb2⟩
  dsimp only at ho3 ⊢
  rw [HQL.out] at ho3 ⊢
  have HB2 := Lib.hid (HB.out.trans (hb2.mono HB.out.size))
  have HS2 := Lib.hid ho3.sl
  clear ho3
  go_wp2_with (at_builtin; refine wpList_append_sl rfl _ (.tmp 45) rfl rowB w.heap.size _ [] rfl (Own.nil _ _ _) w2.heap.size _ q rfl HS2.out (by rw [HQL.out]; unfold maxLen; simp; omega) (by rw [HQL.out]; simp; omega) HB2.out.size ?_; intro v4 w4 hown4 hg4 hat4; rw [List.nil_append] at hown4; have HB4 := Lib.hid (below_of_own HB2.out (Own.nil w2 w.heap.size 5 (α := UInt8)) hg4 HB2.out.size); obtain ⟨A4, c4, hv4, _⟩ := hown4.sl.form; rw [HQL.out] at hv4; subst hv4; have HO4 := Lib.hid hown4.ownB; clear hg4 hat4 hown4)
  go_loopw [11, 12] (fun i _ wr => ∃ j : Nat, j ≤ 32 ∧ i = .int .i64 (j : Int) ∧ OwnB wr w.heap.size (.slice A4 ql c4) (T j) ∧ NoMid ql p mask j ∧ Below w.heap.size w wr) (fun i _ _ => 32 - (intOf i).toNat)
  case atStart => exact ⟨0, Nat.zero_le _, rfl, by rw [h0.out]; exact HO4.out, noMid_zero _ _ _, HB4.out⟩
  case round =>
    obtain ⟨j, hj, rfl, hown, hno, hbr⟩ := hrel
    have HO := Lib.hid hown
    have HNO := Lib.hid hno
    clear hown hno
    by_cases hlt : j < 32
    · have hqe : (mask : Int) / 2 ^ j = ((mask / 2 ^ j : Nat) : Int) := by simp
      have hst := Lib.hid (hstep.out j)
      have hhit : Hid (hit ql p mask j = (mask / 2 ^ j % 2 == 1 && decide (p + j < 8 * ql))) := rfl
      generalize mask / 2 ^ j = qm at *
      by_cases hq : qm % 2 = 1
      · have hqb2 : ((qm : Int) % 2 == 1) = true := by simp; omega
        by_cases hin : p + j < 8 * ql
        · have hd : decide ((p : Int) + (j : Int) < 8 * (ql : Int)) = true := by simp; omega
          by_cases hm2 : (p + j) / 8 = 2
          · have e2 : (((p : Int) + (j : Int)) / 8 == 2) = true := by rw [beq_iff_eq]; omega
            go_wp2_with fail
            go_ret
            exact ⟨rfl, hbr⟩
          · have e2 : (((p : Int) + (j : Int)) / 8 == 2) = false := by rw [beq_eq_false_iff_ne]; omega
            by_cases hm3 : (p + j) / 8 = 3
            · have e3 : (((p : Int) + (j : Int)) / 8 == 3) = true := by rw [beq_iff_eq]; omega
              go_wp2_with fail
              go_ret
              exact ⟨rfl, hbr⟩
            · have e3 : (((p : Int) + (j : Int)) / 8 == 3) = false := by rw [beq_eq_false_iff_ne]; omega
              obtain ⟨g, rfl, hg, hcell, hfree, hstore⟩ := HO.out.at_ (hlen.out j) ((p + j) / 8) (by omega)
              have hby : ((T j).getD ((p + j) / 8) 0).toNat < 256 := ((T j).getD ((p + j) / 8) 0).toNat_lt
              have hx : bits .xor .u8 ((((T j).getD ((p + j) / 8) 0).toNat : Nat) : Int) (2 ^ ((p + j) % 8) % 256) = ((((T j).getD ((p + j) / 8) 0).toNat ^^^ 2 ^ ((p + j) % 8) : Nat) : Int) := by
                have h1 := u8_xor_nat ((T j).getD ((p + j) / 8) 0).toNat (2 ^ ((p + j) % 8)) hby (pow_lt_byte _ (by omega))
                have h2 : ((2 : Int) ^ ((p + j) % 8) % 256) = ((2 ^ ((p + j) % 8) : Nat) : Int) := by
                  have h3 : ((2 : Int) ^ ((p + j) % 8)) = ((2 ^ ((p + j) % 8) : Nat) : Int) := by simp
                  have h4 := pow_lt_byte ((p + j) % 8) (by omega)
                  rw [h3]
                  generalize 2 ^ ((p + j) % 8) = z at h4 ⊢
                  omega
                rw [h2]
                exact h1
              have hun : (UInt8.ofNat (((T j).getD ((p + j) / 8) 0).toNat ^^^ 2 ^ ((p + j) % 8))).toNat = ((T j).getD ((p + j) / 8) 0).toNat ^^^ 2 ^ ((p + j) % 8) :=
                UInt8.toNat_ofNat_of_lt' (Nat.xor_lt_two_pow (n := 8) hby (pow_lt_byte _ (by omega)))
              have hfin := hstore (UInt8.ofNat (((T j).getD ((p + j) / 8) 0).toNat ^^^ 2 ^ ((p + j) % 8)))
              have e : T (j + 1) = (T j).set ((p + j) / 8) (UInt8.ofNat (((T j).getD ((p + j) / 8) 0).toNat ^^^ 2 ^ ((p + j) % 8))) := by
                rw [hst.out, hhit.out]
                simp [hq, hin, flip]
              rw [← e, hun, ← hx] at hfin
              have HF := Lib.hid hfin
              have HN2 := Lib.hid (noMid_succ HNO.out (fun _ => ⟨hm2, hm3⟩))
              clear hstore hfin e hun hx
              generalize ((T j).getD ((p + j) / 8) 0).toNat = y at *
              go_wp2_with fail
              exact ⟨⟨j + 1, by omega, by go_num, HF.out, HN2.out, hbr.setCell (p := ⟨g, (p + j) / 8, none⟩) hg _⟩, by simp [intOf]; omega⟩
        · have hd : decide ((p : Int) + (j : Int) < 8 * (ql : Int)) = false := by simp; omega
          have e : T (j + 1) = T j := by rw [hst.out, hhit.out]; simp [hin]
          have hn2 := noMid_succ HNO.out (fun h => absurd h (by rw [hhit.out]; simp [hin]))
          have HE := Lib.hid e
          have HN2 := Lib.hid hn2
          clear e hn2
          go_wp2_with fail
          go_roundw
          case rel => exact ⟨j + 1, by omega, by go_num, by rw [HE.out]; exact HO.out, HN2.out, hbr⟩
          case measure => simp [intOf]; omega
      · have hqb2 : ((qm : Int) % 2 == 1) = false := by simp; omega
        have e : T (j + 1) = T j := by rw [hst.out, hhit.out]; simp [hq]
        have hn2 := noMid_succ HNO.out (fun h => absurd h (by rw [hhit.out]; simp [hq]))
        have HE := Lib.hid e
        have HN2 := Lib.hid hn2
        clear e hn2
        go_wp2_with fail
        go_roundw
        case rel => exact ⟨j + 1, by omega, by go_num, by rw [HE.out]; exact HO.out, HN2.out, hbr⟩
        case measure => simp [intOf]; omega
    · have hk32 : j = 32 := by omega
      subst hk32
      obtain ⟨e, her, hget⟩ := HBG.out HNO.out
      have hsl := HO.out.own.sl
      have HG := Lib.hid (get_any _ (T 32) (by rw [hlen.out]; omega) wr wr.heap.size (Nat.le_refl _) hsl (HT.out wr hbr))
      rw [hget] at HG
      have hne : (e != 0) = true := by rcases her with rfl | rfl | rfl | rfl <;> rfl
      clear hget hsl her
      go_wp2_with fail
      with_reducible refine HG.out.mono ?_
      rintro e w5 ⟨A5, c5, rfl, ho5, hb5⟩
      simp only [Frm.err, List.length_nil]
      have hb6 := hbr.trans (hb5.mono hbr.size)
      clear ho5
      go_wp2_with fail
      go_ret
      exact ⟨rfl, hb6.alloc hb6.size _⟩

/-- The law, for every input. -/
theorem fbursts_law (w : World) (hT : Tab w) (k : Int) (sB : Value) (b : List UInt8) (hb : Sl w w.heap.size sB b) (p m : Int) (hm : 0 ≤ m ∧ m < 4294967296) :
    Calls Tryd.prog 8 #[.agg #[.int .i64 k, sB], .int .i64 p, .int .u32 m] w fun e w' => e = .returned (.bool true) ∧ Below w.heap.size w w' := by
  by_cases ho : Frm.ok (k, b)
  · by_cases hout : p < 0 ∨ 8 * ((b.length : Int) + 8) ≤ p ∨ m % 2 = 0
    · exact fbursts_out w hT k sB b hb p m hm.1 (.inr ⟨ho, hout⟩)
    · obtain ⟨p', rfl⟩ : ∃ n : Nat, p = (n : Int) := ⟨p.toNat, by omega⟩
      obtain ⟨m', rfl⟩ : ∃ n : Nat, m = (n : Int) := ⟨m.toNat, by omega⟩
      exact fbursts_in w hT k sB b hb p' m' (by omega) ho (by omega) (by omega)
  · exact fbursts_out w hT k sB b hb p m hm.1 (.inl ho)
end Go.Proofs.YtnodogcabpjahaaDoor
