/-
  What the reference's From answers.
-/
import Derived.Test.YtckcfmkpchoaeaaFrom
import Derived.LoopTactic
namespace Go.Proofs.Ytckcfmkpchoaeaa
open Go.RowKit

/-! How many there are, and which is next. -/
theorem from0_len1 {k : Nat} {z i m : Int} {s : List E} {cn d : Nat} (hc : (cn : Int) = i + d) (hi : (k : Int) < i) (h : (s.length : Int) < cn - k) : (Lg.from0 ((k : Int), z, s) i m).length ≤ d := by
  unfold Lg.from0
  split
  · simp
  · simp only at *
    rw [List.length_take, List.length_drop]
    omega
theorem from0_len2 {x : Lg.L} {i m : Int} {d : Nat} (h : m ≤ d) : (Lg.from0 x i m).length ≤ d := by
  unfold Lg.from0
  split
  · simp
  · rw [List.length_take]; omega
theorem from0_len3 {x : Lg.L} {i m : Int} {d : Nat} (h : i ≤ x.1) : (Lg.from0 x i m).length ≤ d := by
  unfold Lg.from0
  rw [if_pos (.inr (.inl h))]; simp
theorem from0_more {k : Nat} {z i m : Int} {s : List E} {cn d : Nat} (hc : (cn : Int) = i + d) (hi : (k : Int) < i) (h : (cn : Int) - k ≤ (s.length : Int)) (hm : (d : Int) < m) :
    ∃ x, s[cn - k - 1]? = some x ∧ (Lg.from0 ((k : Int), z, s) i m).take (d + 1) = (Lg.from0 ((k : Int), z, s) i m).take d ++ [x] := by
  have h2 : cn - k - 1 < s.length := by omega
  refine ⟨_, List.getElem?_eq_getElem h2, ?_⟩
  have h3 : d < (Lg.from0 ((k : Int), z, s) i m).length ∧ ∀ h, (Lg.from0 ((k : Int), z, s) i m)[d]'h = s[cn - k - 1] := by
    unfold Lg.from0
    rw [if_neg (by simp only; omega)]
    simp only
    refine ⟨by rw [List.length_take, List.length_drop]; omega, fun h => ?_⟩
    rw [List.getElem_take, List.getElem_drop]
    congr 1
    omega
  rw [List.take_succ_eq_append_getElem h3.1, h3.2]
theorem from0_le (x : Lg.L) (i m : Int) : (Lg.from0 x i m).length ≤ x.2.2.length := by
  unfold Lg.from0
  split
  · simp
  · rw [List.length_take, List.length_drop]; omega

set_option maxRecDepth 100000 in
theorem rfrom_any (b t i m : Int) (hi : -9223372036854775808 ≤ i ∧ i ≤ 9223372036854775807) (v : Value) (l : List E) (w : World) (B : Nat) (hB : B ≤ w.heap.size) (hv : Sl w B v l) :
    Calls Try.prog 17 #[lv b t v, .int .i64 i, .int .i64 m] w (ListOut w (Lg.from_ (b, t, l) i m)) := by
  obtain ⟨A, c, rfl, hc, hmm⟩ := hv.form
  unfold maxLen at hmm
  have hb0 : Below w.heap.size w (w.alloc (.cells #[.int .i64 b, .int .i64 t, .slice A l.length c] 24)) := (Below.refl _ _).alloc (Nat.le_refl _) _
  have HF := Lib.hid (rfair_any b t _ l _ B (Nat.le_trans hB hb0.size) (hv.below (hb0.mono hB)))
  have HB := Lib.hid hb0
  have hfm := Lg.fair_may (b, t, l)
  unfold Lg.from_
  clear hv hb0
  generalize Lg.fair (b, t, l) = x at *
  generalize l.length = n at *
  obtain ⟨y, z, s⟩ := x
  rw [Lg.may_iff] at hfm
  simp only at hfm
  obtain ⟨q1, q2, q3, q4, -, q6, -⟩ := hfm
  obtain ⟨k, rfl⟩ := Int.eq_ofNat_of_zero_le q1
  have H1 := Lib.hid (fun cn d => @from0_len1 k z i m s cn d)
  have H2 := Lib.hid (fun d => @from0_len2 ((k : Int), z, s) i m d)
  have H3 := Lib.hid (fun d => @from0_len3 ((k : Int), z, s) i m d)
  have H4 := Lib.hid (fun cn d => @from0_more k z i m s cn d)
  have HR := Lib.hid (from0_le ((k : Int), z, s) i m)
  generalize Lg.from0 ((k : Int), z, s) i m = R at *
  go_enter Try.func17, Try.ntmps17
  go_wp2_with fail
  with_reducible refine HF.out.mono ?_
  rintro e w2 ⟨v2, rfl, hs, hb2⟩
  simp only at hs ⊢
  obtain ⟨A2, c2, rfl, hc2, hm2⟩ := hs.form
  unfold maxLen at hm2
  have hbb := HB.out.trans (hb2.mono HB.out.size)
  have HB2 := Lib.hid (hbb.alloc hbb.size (.cells #[.int .i64 (k : Int), .int .i64 z, .slice A2 s.length c2] 24))
  have HW2 := Lib.hid (Whole.new w2 24 #[.int .i64 (k : Int), .int .i64 z, .slice A2 s.length c2])
  have HS2 := Lib.hid (hs.below ((Below.refl B w2).alloc (Nat.le_trans hB hbb.size) (.cells #[.int .i64 (k : Int), .int .i64 z, .slice A2 s.length c2] 24)))
  have HZ := Lib.hid (World.size_alloc w2 (.cells #[.int .i64 (k : Int), .int .i64 z, .slice A2 s.length c2] 24))
  have HZ0 := Lib.hid hbb.size
  clear hbb hb2 HF HB hs
  generalize hsl : s.length = p at *
  have HSL := Lib.hid hsl
  clear hsl
  go_wp2_with fail
  generalize w2.alloc (.cells #[.int .i64 (k : Int), .int .i64 z, .slice A2 p c2] 24) = w3 at *
  generalize w2.heap.size = g at *
  go_loopw [8, 9] (fun o x wr => ∃ (d : Nat) (c : Int), (R.take d).length = d ∧ c = i + d ∧ ((d = 0 ∧ R.take d = []) ∨ (c ≤ (k : Int) + p + 1 ∧ (k : Int) < c)) ∧ x = .int .i64 c ∧ Own wr (g + 1) 44 o (R.take d) ∧ Below (g + 1) w3 wr) (fun _ x _ => (k + p + 2 - intOf x).toNat)
  case atStart => exact ⟨0, i, by simp, by simp, .inl ⟨rfl, rfl⟩, rfl, Own.nil _ _ _, Below.refl _ _⟩
  case round =>
    obtain ⟨d, c, hq, hcd, hcb, rfl, hown, hb⟩ := hrel
    have hz := hb.size
    obtain ⟨Ao, co, rfl, -, -⟩ := hown.sl.form
    have hgl : g < g + 1 := Nat.lt_succ_self g
    obtain ⟨k0, k1, k2⟩ := (HW2.out.below hb hgl).c3
    have HB5 := Lib.hid (HB2.out.trans (hb.mono (by have := HZ0.out; omega)))
    have fin : R.length ≤ d → ListOut w R (.returned (.slice Ao (R.take d).length co)) wr := by
      intro hle
      have h := hown
      rw [List.take_of_length_le hle] at h ⊢
      exact listOut_of (h.down (by have := HZ0.out; omega)) HB5.out
    have FIN := Lib.hid fin
    clear fin
    have HO := Lib.hid hown
    have HBR := Lib.hid hb
    clear hown hb
    rw [hq] at FIN HO ⊢
    have HQ := Lib.hid hq
    clear hq
    by_cases c1 : i ≤ (k : Int)
    · have hf := FIN.out (H3.out d c1)
      go_wp2_with fail
      go_ret
      exact hf
    obtain ⟨cn, rfl⟩ := Int.eq_ofNat_of_zero_le (show 0 ≤ c by omega)
    by_cases c2 : (p : Int) < (cn : Int) - (k : Int)
    · have hf := FIN.out (H1.out cn d hcd (by omega) (by omega))
      go_wp2_with fail
      go_ret
      exact hf
    have j2 : (cn : Int) - (k : Int) ≤ (p : Int) := by omega
    have j1 : (k : Int) < i := by omega
    by_cases c3 : m ≤ (d : Int)
    · have hf := FIN.out (H2.out d c3)
      go_wp2_with fail
      go_ret
      exact hf
    · obtain ⟨x, hx, htk⟩ := H4.out cn d hcd (by omega) (by omega) (by omega)
      have hxl : cn - k - 1 < s.length := by rw [HSL.out]; omega
      rw [List.getElem?_eq_getElem hxl] at hx
      injection hx with hx
      have hdp : d < 100 := by omega
      have j0 : (k : Int) < (cn : Int) := by omega
      have HCD := Lib.hid hcd
      clear hcd hcb
      obtain ⟨b1, o1, rfl, hbB, g0, g1, g2, g3, g4, g5, g6, hwf⟩ := (HS2.out.below (HBR.out.mono (show B ≤ g + 1 by have := HZ0.out; omega))).entry (cn - k - 1) hxl
      rw [hx] at g0 g1 g2 g3 g4 g5 g6 hwf
      have HWF := Lib.hid hwf
      have HTK := Lib.hid htk
      clear hwf hx htk hxl FIN H1 H2 H3 H4
      obtain ⟨x0, x1, x2, x3, x4, x5, x6⟩ := x
      dsimp only at g0 g1 g2 g3 g4 g5 g6
      have i1 : (0 : Int) ≤ (cn : Int) - (k : Int) - 1 := by omega
      have i2 : (cn : Int) - (k : Int) - 1 < (p : Int) := by omega
      have hz3 := HZ.out
      have hnew := Sl.new1 (α := E) wr 44 (x0, x1, x2, x3, x4, x5, x6) (ec (x0, x1, x2, x3, x4, x5, x6)) HWF.out rfl
      have HN := Lib.hid hnew
      have HOA := Lib.hid (HO.out.alloc (.cells (ec (x0, x1, x2, x3, x4, x5, x6)) 44))
      have HBA := Lib.hid (HBR.out.alloc (by omega) (.cells (ec (x0, x1, x2, x3, x4, x5, x6)) 44))
      clear hnew
      go_wp2_with (at_builtin; refine wpList_append_sl rfl (.tmp 35) (.tmp 45) rfl rowE (g + 1) _ (R.take d) (by rfl) HOA.out (wr.heap.size + 1) _ [(x0, x1, x2, x3, x4, x5, x6)] (by rfl) HN.out (by rw [HQ.out]; unfold maxLen; simp; omega) (by rw [HQ.out]; simp; omega) (by simp; omega) ?_; intro v9 w9 hown9 hg9 hat9; have HB9 := Lib.hid (below_of_own HBA.out HOA.out hg9 (by simp; omega)); rw [← HTK.out] at hown9; have HO9 := Lib.hid hown9; clear hg9 hat9 hown9)
      go_roundw
      case rel => exact ⟨d + 1, (cn : Int) + 1, by rw [HTK.out, List.length_append, HQ.out]; rfl, by have := HCD.out; omega, .inr ⟨by omega, by have := HCD.out; omega⟩, by go_num, HO9.out, HB9.out⟩
      case measure => simp [intOf]; omega
end Go.Proofs.Ytckcfmkpchoaeaa
