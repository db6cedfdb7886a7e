/-
  SessionRuns: of any run of a client's numbers each is put at most once, and those that are put are 1, 2, 3 and so on.
-/
import Derived.Test.YtpfhigcfpchkkaaAwk
namespace Go.Proofs.Ytpfhigcfpchkkaa
open Go.RowKit

theorem ints_at {w : World} {B n c : Nat} {A : Option Addr} {l : List Int} (h : Sl w B (.slice A n c) l) (k : Nat) (hk : k < l.length) {W : World} (hb : Below B w W) :
    ∃ b off, A = some ⟨b, off, none⟩ ∧ W.cell? ⟨b, off + k, none⟩ = some (.int .i64 l[k]) := by
  obtain ⟨b, off, h1, _, h2, _⟩ := (h.below hb).int k hk
  exact ⟨b, off, h1, h2⟩

set_option maxRecDepth 100000 in
set_option maxHeartbeats 800000 in
theorem runs_law (w : World) (c : Int) (v : Value) (qs : List Int) (hv : Sl w w.heap.size v qs) :
    Calls Try.prog 6 #[.int .i64 c, v] w fun e w' => e = .returned (.bool true) ∧ Below w.heap.size w w' := by
  obtain ⟨A, cap, rfl, hc, hm⟩ := hv.form
  have HK := Lib.hid (awake_any w)
  have HV := Lib.hid hv
  clear hv
  generalize hn : qs.length = n at *
  have HN := Lib.hid hn
  clear hn
  go_enter Try.func6, Try.ntmps6
  go_wp2_with fail
  with_reducible refine HK.out.mono ?_
  rintro e w1 ⟨rfl, hb1⟩
  have HB1 := Lib.hid hb1
  clear hb1 HK
  by_cases c1 : 100 < n
  · go_wp2_with fail
    go_ret
    exact ⟨rfl, HB1.out⟩
  go_wp2_with fail
  go_loopw [6, 7, 8] (fun lv nv iv wr => ∃ (k j p cp : Nat) (Al : Option Addr) (l : List Se), k ≤ n ∧ j ≤ k ∧ iv = .int .i64 (k : Int) ∧ nv = .int .i64 (j : Int) ∧ lv = .slice Al p cp ∧ Hid (l.length = p) ∧ Hid ((p = 0 ∧ j = 0) ∨ (p = 1 ∧ 0 < j)) ∧ Hid (∃ b, (l = [] ∧ (j : Int) = 0) ∨ (l = [(c, (j : Int), b)] ∧ (0 : Int) < (j : Int))) ∧ Hid (Sl wr wr.heap.size (.slice Al p cp) l) ∧ Hid (Below w.heap.size w wr)) (fun _ _ iv _ => n - (intOf iv).toNat)
  case atStart => exact ⟨0, 0, 0, 0, none, [], Nat.zero_le _, Nat.le_refl _, rfl, rfl, rfl, rfl, .inl ⟨rfl, rfl⟩, ⟨0, .inl ⟨rfl, rfl⟩⟩, Sl.nil _ _, HB1⟩
  case round =>
    obtain ⟨k, j, p, cp, Al, l, hk, hjk, rfl, rfl, rfl, HL, HPJ, HONE, HS, HBr⟩ := hrel
    by_cases hlt : k < n
    · have hkl : k < qs.length := by rw [HN.out]; exact hlt
      obtain ⟨b1, o1, rfl, p0⟩ := ints_at HV.out k hkl HBr.out
      have hent := fun W (h : Below w.heap.size w W) => ints_at HV.out k hkl h
      have HENT : Hid (∀ W, Below w.heap.size w W → W.cell? ⟨b1, o1 + k, none⟩ = some (.int .i64 qs[k])) := fun W h => by
        obtain ⟨b, off, e, h0⟩ := hent W h
        injection e with e
        injection e with e4 e5
        subst e4 e5
        exact h0
      clear hent
      generalize qs[k] = q at *
      have hP := put_any _ l c q (5 * (k : Int)) (by omega) wr wr.heap.size (Nat.le_refl _) HS.out
      have h1p := Lib.hid (fun h => HONE.out.elim fun b hb => @Sm.one_put c q (j : Int) (5 * (k : Int)) b l hb h)
      have hmay := Lib.hid (@Sm.put_length l c q (5 * (k : Int)))
      generalize Sm.put l c q (5 * (k : Int)) = X at *
      obtain ⟨m, x⟩ := X
      have HP := Lib.hid hP
      dsimp only at h1p hmay
      clear hP hkl
      have i1 : (0 : Int) ≤ (k : Int) := by omega
      have i2 : (k : Int) < (n : Int) := by omega
      have hw5 : IntKind.i64.wrap (5 * (k : Int)) = 5 * (k : Int) := by rw [IntKind.wrap_i64]; omega
      go_wp2_with fail
      with_reducible refine HP.out.mono ?_
      rintro e w2 ⟨A2, c2, rfl, hown2, hb2⟩
      dsimp only at hown2 ⊢
      have HB2 := Lib.hid (HBr.out.trans (hb2.mono HBr.out.size))
      have p1 := HENT.out _ HB2.out
      by_cases h0 : x = 0
      · subst h0
        obtain ⟨h1, h2⟩ := h1p.out rfl
        subst h1 h2
        have HS2 := Lib.hid hown2.sl
        clear hown2 hb2 HP HS h1p hmay p0
        simp only [List.length_cons, List.length_nil, Nat.zero_add] at HS2 ⊢
        have e1 : ((j : Int) + 1 != (j : Int) + 1) = false := by simp
        go_wp2_with fail
        go_roundw
        case rel => exact ⟨k + 1, j + 1, 1, c2, A2, [(c, (j : Int) + 1, 5 * (k : Int))], by omega, by omega, by go_num, by go_num, rfl, rfl, .inr ⟨rfl, by omega⟩, ⟨5 * (k : Int), .inr ⟨by rw [show ((j + 1 : Nat) : Int) = (j : Int) + 1 by omega], by omega⟩⟩, HS2, HB2⟩
        case measure => simp [intOf]; omega
      · have d3 : (x != 0) = true := by simpa using h0
        have HS2 := Lib.hid ((HS.out.below hb2).mono hb2.size)
        clear hown2 hb2 HP HS h1p hmay p0
        go_wp2_with fail
        go_roundw
        case rel => exact ⟨k + 1, j, p, cp, Al, l, by omega, by omega, by go_num, rfl, rfl, HL, HPJ, HONE, HS2, HB2⟩
        case measure => simp [intOf]; omega
    · rcases HPJ.out with ⟨rfl, rfl⟩ | ⟨rfl, hj⟩
      · go_wp2_with fail
        go_ret
        exact ⟨rfl, HBr.out⟩
      · have d1 : ((j : Int) == 0) = false := by simp; omega
        go_wp2_with fail
        go_ret
        exact ⟨ret_bool (by simp), HBr.out⟩
end Go.Proofs.Ytpfhigcfpchkkaa
