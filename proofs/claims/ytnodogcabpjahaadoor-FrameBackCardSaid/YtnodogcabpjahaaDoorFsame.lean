/-
  What the reference's Same answers of two lists of frames that are the same.
-/
import Derived.Test.YtnodogcabpjahaaDoorRun
namespace Go.Proofs.YtnodogcabpjahaaDoor
open Go.RowKit

/-- A frame of a slice of frames: its cells, and its Body. -/
theorem Sl.frame {w : World} {B n c : Nat} {A : Option Addr} {l : List Frm.F} (h : Sl w B (.slice A n c) l) (k : Nat) (hk : k < l.length) :
    ∃ b off A2 c2, A = some ⟨b, off, none⟩ ∧ b < B ∧ w.cell? ⟨b, off + k * 2, none⟩ = some (.int .i64 (l[k]).1) ∧ w.cell? ⟨b, off + k * 2 + 1, none⟩ = some (.slice A2 (l[k]).2.length c2) ∧ Sl w B (.slice A2 (l[k]).2.length c2) (l[k]).2 := by
  have hr := h.room
  obtain ⟨b, off, ds, e, hb, ⟨c1, c2, e2, ⟨e3, _⟩, ⟨v, e4, hs⟩⟩, h2⟩ := h.at_ k (by omega) hk
  obtain ⟨A2, c', rfl, _, _⟩ := SlS.form hs
  subst e3 e4
  have hd : ds = [.int .i64 (l[k]).1, .slice A2 (l[k]).2.length c'] := e2
  subst hd
  have g0 := h2 0 _ rfl
  have g1 := h2 1 _ rfl
  rw [show Rep.sz Frm.F = 2 from rfl] at g0 g1
  exact ⟨b, off, A2, c', e, hb, g0, g1, hs⟩

set_option maxRecDepth 100000 in
theorem fsame_any (v1 v2 : Value) (l : List Frm.F) (hl : l.length ≤ 1000000) (w : World) (B : Nat) (_hB : B ≤ w.heap.size) (h1 : Sl w B v1 l) (h2 : Sl w B v2 l) :
    Calls Tryd.prog 17 #[v1, v2] w fun e w' => e = .returned (.bool true) ∧ Below w.heap.size w w' := by
  obtain ⟨A1, c1, rfl, hc1, hm1⟩ := h1.form
  obtain ⟨A2, c2, rfl, hc2, hm2⟩ := h2.form
  unfold maxLen at hm1 hm2
  have H1 := Lib.hid h1
  have H2 := Lib.hid h2
  clear h1 h2
  generalize hn : l.length = n at *
  have HN := Lib.hid hn
  clear hn
  have hne : ((n : Int) != (n : Int)) = false := by simp
  go_enter Tryd.func17, Tryd.ntmps17
  go_wp2_with fail
  go_loopw [5] (fun i wr => ∃ k : Nat, k ≤ n ∧ i = .int .i64 (k : Int) ∧ Sl wr B (.slice A1 n c1) l ∧ Sl wr B (.slice A2 n c2) l ∧ Below w.heap.size w wr) (fun i _ => n - (intOf i).toNat)
  case atStart => exact ⟨0, Nat.zero_le _, rfl, H1.out, H2.out, Below.refl _ _⟩
  case round =>
    obtain ⟨k, hk, rfl, h1, h2, hb⟩ := hrel
    by_cases hlt : k < n
    · have hkl : k < l.length := by rw [HN.out]; exact hlt
      obtain ⟨b1, o1, B1, d1, rfl, _, g1, g2, s1⟩ := h1.frame k hkl
      obtain ⟨b2, o2, B2, d2, rfl, _, g3, g4, s2⟩ := h2.frame k hkl
      have q1 := fun j => conv_sl (s1.drewN j)
      have q2 := fun j => conv_sl (s2.drewN j)
      have S1 := Lib.hid h1
      have S2 := Lib.hid h2
      have HB := Lib.hid hb
      clear s1 s2 h1 h2 hb
      generalize strOf (l[k]).2 = S at *
      generalize (l[k]).2.length = m at *
      generalize (l[k]).1 = x at *
      clear hkl
      have i1 : (0 : Int) ≤ (k : Int) := by omega
      have i2 : (k : Int) < (n : Int) := by omega
      have hx : (x != x) = false := by simp
      have hS : (S.toList != S.toList) = false := by simp
      go_wp2_with fail
      go_quiet (fail)
      go_wp2_with fail
      exact ⟨⟨k + 1, by omega, by go_num, S1.out.drewN nq, S2.out.drewN nq, below_drewN HB.out nq⟩, by simp [intOf]; omega⟩
    · go_wp2_with fail
      go_ret
      exact ⟨rfl, hb⟩
end Go.Proofs.YtnodogcabpjahaaDoor
