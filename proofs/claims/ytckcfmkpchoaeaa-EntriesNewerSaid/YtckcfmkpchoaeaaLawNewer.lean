/-
  EntriesNewer: of two ends one is no older, of three the order holds.
-/
import Derived.Test.YtckcfmkpchoaeaaAwk
import Derived.Test.YtckcfmkpchoaeaaNewer
namespace Go.Proofs.Ytckcfmkpchoaeaa
open Go.RowKit

set_option maxRecDepth 100000 in
set_option maxHeartbeats 800000 in
theorem newer_law (w : World) (i t k u m v : Int) :
    Calls Try.prog 8 #[.int .i64 i, .int .i64 t, .int .i64 k, .int .i64 u, .int .i64 m, .int .i64 v] w fun e w' => e = .returned (.bool true) ∧ Below w.heap.size w w' := by
  have HK := Lib.hid (awake_any w)
  have HA := Lib.hid (fun W => newer_any i t k u W)
  have HB := Lib.hid (fun W => newer_any k u i t W)
  have HC := Lib.hid (fun W => newer_any k u m v W)
  have HD := Lib.hid (fun W => newer_any i t m v W)
  have HE := Lib.hid (fun W => newer_any i t i t W)
  have h1 : Lg.newer i t k u = true ∨ Lg.newer k u i t = true := by unfold Lg.newer; simp only [Bool.or_eq_true, Bool.and_eq_true, decide_eq_true_eq]; omega
  have h2 : Lg.newer i t k u = true → Lg.newer k u i t = true → i = k ∧ t = u := by unfold Lg.newer; simp only [Bool.or_eq_true, Bool.and_eq_true, decide_eq_true_eq]; omega
  have h3 : Lg.newer i t k u = true → Lg.newer k u m v = true → Lg.newer i t m v = true := by unfold Lg.newer; simp only [Bool.or_eq_true, Bool.and_eq_true, decide_eq_true_eq]; omega
  have h4 : Lg.newer i t i t = true := by unfold Lg.newer; simp
  generalize Lg.newer i t k u = a at *
  generalize Lg.newer k u i t = b at *
  generalize Lg.newer k u m v = c at *
  generalize Lg.newer i t m v = d at *
  generalize Lg.newer i t i t = f at *
  subst h4
  rcases a with _ | _
  · obtain rfl : b = true := by simpa using h1
    clear h1 h2 h3
    go_enter Try.func8, Try.ntmps8
    go_wp2_with fail
    with_reducible refine HK.out.mono ?_
    rintro e w1 ⟨rfl, hb1⟩
    go_wp2_with fail
    with_reducible refine (HA.out _).mono ?_
    rintro e w2 ⟨rfl, hw⟩
    subst hw
    go_wp2_with fail
    with_reducible refine (HB.out _).mono ?_
    rintro e w2 ⟨rfl, hw⟩
    subst hw
    go_wp2_with fail
    with_reducible refine (HE.out _).mono ?_
    rintro e w2 ⟨rfl, hw⟩
    subst hw
    go_wp2_with fail
    go_ret
    exact ⟨rfl, hb1⟩
  · have h5 : b = true → i = k ∧ t = u := h2 rfl
    have h6 : c = true → d = true := h3 rfl
    clear h1 h2 h3
    have hne : b = false ∨ (b = true ∧ (i != k) = false ∧ (t != u) = false) := by
      rcases b with _ | _
      · exact .inl rfl
      · obtain ⟨rfl, rfl⟩ := h5 rfl
        exact .inr ⟨rfl, by simp, by simp⟩
    clear h5
    have hcd : c = false ∨ (c = true ∧ d = true) := by
      rcases c with _ | _
      · exact .inl rfl
      · exact .inr ⟨rfl, h6 rfl⟩
    clear h6
    rcases hne with rfl | ⟨rfl, e1, e2⟩
    all_goals
      rcases hcd with rfl | ⟨rfl, rfl⟩
    all_goals
      go_enter Try.func8, Try.ntmps8
      go_wp2_with fail
      with_reducible refine HK.out.mono ?_
      rintro e w1 ⟨rfl, hb1⟩
      go_wp2_with fail
      with_reducible refine (HA.out _).mono ?_
      rintro e w2 ⟨rfl, hw⟩
      subst hw
      go_wp2_with fail
      with_reducible refine (HB.out _).mono ?_
      rintro e w2 ⟨rfl, hw⟩
      subst hw
      go_wp2_with fail
      with_reducible refine (HC.out _).mono ?_
      rintro e w2 ⟨rfl, hw⟩
      subst hw
      go_wp2_with fail
      first
        | (with_reducible refine (HD.out _).mono ?_
           rintro e w2 ⟨rfl, hw⟩
           subst hw
           go_wp2_with fail
           with_reducible refine (HE.out _).mono ?_
           rintro e w2 ⟨rfl, hw⟩
           subst hw
           go_wp2_with fail
           go_ret
           exact ⟨rfl, hb1⟩)
        | (with_reducible refine (HE.out _).mono ?_
           rintro e w2 ⟨rfl, hw⟩
           subst hw
           go_wp2_with fail
           go_ret
           exact ⟨rfl, hb1⟩)
end Go.Proofs.Ytckcfmkpchoaeaa
