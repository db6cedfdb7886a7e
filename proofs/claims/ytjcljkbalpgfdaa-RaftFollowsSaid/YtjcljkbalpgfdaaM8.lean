/-
  Parts that the statement rests on, joined: Known.
-/
import Derived.Test.YtjcljkbalpgfdaaM2
import Derived.Test.YtjcljkbalpgfdaaM3
import Derived.Test.YtjcljkbalpgfdaaM7
import Derived.BigQuiet
import Derived.LoopTactic
/-
  How many of the entries are there already: what known answers.
-/





namespace Go.Proofs.Ytjcljkbalpgfdaa
open Go.RowKit

set_option maxRecDepth 100000 in
theorem known_any (v1 v2 : Value) (l m : List E) (w : World) (B : Nat) (_hB : B ≤ w.heap.size) (h1 : Sl w B v1 l) (h2 : Sl w B v2 m) :
    Calls Try.prog 54 #[v1, v2] w fun e w' => e = .returned (.int .i64 (Lg.known l m : Int)) ∧ Below w.heap.size w w' := by
  obtain ⟨A1, c1, rfl, hc1, hm1⟩ := h1.form
  obtain ⟨A2, c2, rfl, hc2, hm2⟩ := h2.form
  unfold maxLen at hm1 hm2
  have H1 := Lib.hid h1
  have H2 := Lib.hid h2
  have H0 := Lib.hid (Lg.same_zero l m)
  have HK := Lib.hid (fun k => @Lg.same_stop l m k)
  clear h1 h2
  generalize Lg.known l m = r at *
  generalize hn1 : l.length = n1 at *
  generalize hn2 : m.length = n2 at *
  have HN1 := Lib.hid hn1
  have HN2 := Lib.hid hn2
  clear hn1 hn2
  go_enter Try.func54, Try.ntmps54
  go_wp2_with fail
  refine wp_scope_goto 0 (fun a' w' => ∃ (k q : Nat), Lg.same l m k ∧ w' = w.drewN q ∧ ∃ (u2 u3 u6 u7 u8 u9 u10 u11 u12 u13 u14 u15 u16 u17 u18 u19 u20 u21 u22 u23 u24 u25 u26 u27 u28 u29 u30 u31 : Value), a' = { tmps := #[.slice A1 n1 c1, .slice A2 n2 c2, u2, u3, .int .i64 0, .int .i64 (k : Int), u6, u7, u8, u9, u10, u11, u12, u13, u14, u15, u16, u17, u18, u19, u20, u21, u22, u23, u24, u25, u26, u27, u28, u29, u30, u31], defers := [] }) (fun a' _ => n1 - (intOf (a'.tmps.getD 5 undef)).toNat) rfl ?_ ?_
  · rintro a' w' ⟨k, q, hs, rfl, u2, u3, u6, u7, u8, u9, u10, u11, u12, u13, u14, u15, u16, u17, u18, u19, u20, u21, u22, u23, u24, u25, u26, u27, u28, u29, u30, u31, rfl⟩
    have hk1 : k ≤ n1 := by have := hs.1; rw [HN1.out] at this; exact this
    have hk2 : k ≤ n2 := by have := hs.2.1; rw [HN2.out] at this; exact this
    have HS := Lib.hid hs
    clear hs
    by_cases h1 : k = n1
    · have e := HK.out k HS.out (.inl (by omega))
      subst h1
      subst e
      have e1 : ((r : Int) == (r : Int)) = true := by simp
      go_wp2_with fail
      go_quiet (fail)
      go_wp2_with fail
      simp only [Exit.jump]
      go_ret
      exact ⟨rfl, below_drewN (Below.refl _ _) _⟩
    have e1 : ((k : Int) == (n1 : Int)) = false := by simp; omega
    by_cases h2 : k = n2
    · have e := HK.out k HS.out (.inr (.inl (by omega)))
      subst h2
      subst e
      have e2 : ((r : Int) == (r : Int)) = true := by simp
      go_wp2_with fail
      go_quiet (fail)
      go_wp2_with fail
      simp only [Exit.jump]
      go_ret
      exact ⟨rfl, below_drewN (Below.refl _ _) _⟩
    have e2 : ((k : Int) == (n2 : Int)) = false := by simp; omega
    have hl1 : k < l.length := by rw [HN1.out]; omega
    have hl2 : k < m.length := by rw [HN2.out]; omega
    obtain ⟨b1, o1, rfl, g1⟩ := H1.out.term k hl1
    obtain ⟨b2, o2, rfl, g2⟩ := H2.out.term k hl2
    have hst := Lib.hid (fun h => HK.out k HS.out (.inr (.inr ⟨by omega, by omega, h⟩)))
    have hsp := Lib.hid (Lg.same_step HS.out hl1 hl2)
    rw [Lg.tm_eq _ _ hl1, Lg.tm_eq _ _ hl2] at hst hsp
    clear HK HS
    generalize (l[k]).1 = x at *
    generalize (m[k]).1 = y at *
    clear hl1 hl2
    have i1 : (0 : Int) ≤ (k : Int) := by omega
    have i2 : (k : Int) < (n1 : Int) := by omega
    have i3 : (k : Int) < (n2 : Int) := by omega
    by_cases h3 : x = y
    · have hs2 := Lib.hid (hsp.out h3)
      subst h3
      have e3 : (x != x) = false := by simp
      clear hst hsp
      go_wp2_with fail
      go_quiet (fail)
      go_wp2_with fail
      go_step3
      exact ⟨rfl, ⟨k + 1, _, hs2.out, rfl, _, _, _, _, _, _, _, _, _, _, _, _, _, _, _, _, _, _, _, _, _, _, _, _, _, _, _, _, rfl⟩, by simp [intOf]; omega⟩
    · obtain rfl := hst.out h3
      have e3 : (x != y) = true := by simpa using h3
      go_wp2_with fail
      go_quiet (fail)
      go_wp2_with fail
      simp only [Exit.jump]
      go_ret
      exact ⟨rfl, below_drewN (Below.refl _ _) _⟩
  · intro hgo
    go_wp2_with fail
    go_step3
    go_simp
    refine (by assumption : ∀ (a : Act) (w : World), _ → _) _ _ (hgo _ _ ?_)
    exact ⟨0, 0, H0.out, rfl, _, _, _, _, _, _, _, _, _, _, _, _, _, _, _, _, _, _, _, _, _, _, _, _, _, _, _, _, rfl⟩
end Go.Proofs.Ytjcljkbalpgfdaa
