/-
  Where a client's session stands: the closure, sort.Search, find.
-/
import Derived.Test.YtpfhigcfpchkkaaSe
import Derived.Test.YtpfhigcfpchkkaaSm
import Derived.LoopTactic
import Derived.BigQuiet
namespace Go.Proofs.Ytpfhigcfpchkkaa
open Go.RowKit

set_option maxRecDepth 100000 in
/-- The closure: is the session at i one of a client no less? -/
theorem less_any (l : List Se) (A : Option Addr) (cap : Nat) (c : Int) (g1 g2 : Nat) (w : World) (B : Nat) (hv : Sl w B (.slice A l.length cap) l) (h1 : w.cell? ⟨g1, 0, none⟩ = some (.slice A l.length cap)) (h2 : w.cell? ⟨g2, 0, none⟩ = some (.int .i64 c))
    (k : Nat) (hk : k < l.length) :
    Calls Try.prog 25 #[.int .i64 k, .pointer (some ⟨g1, 0, none⟩), .pointer (some ⟨g2, 0, none⟩)] w fun e w' => e = .returned (.bool (decide (c ≤ (l[k]).1))) ∧ ∃ n, w' = w.drewN n := by
  obtain ⟨b1, o1, rfl, -, p0, p1, p2, -⟩ := hv.sess k hk
  clear hv p1 p2
  generalize (l[k]).1 = x at *
  generalize l.length = n at *
  have i1 : (0 : Int) ≤ (k : Int) := by omega
  have i2 : (k : Int) < (n : Int) := by omega
  go_enter Try.func25, Try.ntmps25
  go_wp2_with fail
  go_quiet (fail)
  go_wp2_with fail
  go_ret
  exact ⟨rfl, _, rfl⟩

set_option maxRecDepth 100000 in
/-- sort.Search over the closure: where it turns from no to yes. -/
theorem search_core (n : Nat) (p : Nat → Bool) (hm : ∀ t u, t ≤ u → u < n → p t = true → p u = true) (g1 g2 : Nat) (w : World) (hlen : n ≤ 100000)
    (hf : ∀ q k, k < n → Calls Try.prog 25 #[.int .i64 (k : Int), .pointer (some ⟨g1, 0, none⟩), .pointer (some ⟨g2, 0, none⟩)] (w.drewN q) fun e w' => e = .returned (.bool (p k)) ∧ ∃ n, w' = (w.drewN q).drewN n) :
    Calls Try.prog 24 #[.int .i64 n, .func (.func 25) #[] #[.pointer (some ⟨g1, 0, none⟩), .pointer (some ⟨g2, 0, none⟩)]] w fun e w' => ∃ r : Nat, e = .returned (.int .i64 (r : Int)) ∧ (r ≤ n ∧ (∀ t, t < r → p t = false) ∧ (∀ t, r ≤ t → t < n → p t = true)) ∧ ∃ n, w' = w.drewN n := by
  have HF := Lib.hid hf
  have HG := Lib.hid hm
  clear hf hm
  go_enter Try.func24, Try.ntmps24
  go_wp2_with fail
  go_loopw [5, 6] (fun s5 s6 wr => ∃ (lo hi q : Nat), s5 = .int .i64 (lo : Int) ∧ s6 = .int .i64 (hi : Int) ∧ lo ≤ hi ∧ hi ≤ n ∧ wr = w.drewN q ∧ Hid ((∀ t, t < lo → p t = false) ∧ (∀ t, hi ≤ t → t < n → p t = true))) (fun s5 s6 _ => (intOf s6).toNat - (intOf s5).toNat)
  case atStart => exact ⟨0, n, 0, rfl, rfl, Nat.zero_le _, Nat.le_refl _, rfl, fun t ht => absurd ht (Nat.not_lt_zero _), fun t h1 h2 => by omega⟩
  case round =>
    obtain ⟨lo, hi, q, rfl, rfl, hlh, hin, rfl, I⟩ := hrel
    by_cases hlt : lo < hi
    · obtain ⟨m, hm⟩ : ∃ m, m = (lo + hi) / 2 := ⟨_, rfl⟩
      have hm1 : lo ≤ m := by omega
      have hm2 : m < hi := by omega
      have hc := HF.out q m (by omega)
      rw [show ((m : Nat) : Int) = ((lo : Int) + (hi : Int)) / 2 by omega] at hc
      have I1 : Hid (((lo : Int) + (hi : Int)) / 2 = (m : Int)) := by show _ = _; omega
      rcases hx : p m with _ | _
      · have hJ : Hid ((∀ t, t < m + 1 → p t = false) ∧ (∀ t, hi ≤ t → t < n → p t = true)) := ⟨fun t h => (Bool.eq_false_iff.2 fun h3 => by rw [HG.out t m (by omega) (by omega) h3] at hx; cases hx), I.out.2⟩
        rw [hx] at hc
        have HC := Lib.hid hc
        clear hc hx hm
        go_wp2_with fail
        with_reducible refine HC.out.mono ?_
        rintro e w2 ⟨rfl, n2, rfl⟩
        go_wp2_with fail
        go_roundw
        case rel => exact ⟨m + 1, hi, q + n2, by rw [I1.out]; go_num, rfl, by omega, hin, rfl, hJ⟩
        case measure => have := I1.out; simp [intOf]; omega
      · have hJ : Hid ((∀ t, t < lo → p t = false) ∧ (∀ t, m ≤ t → t < n → p t = true)) := ⟨I.out.1, fun t h ht => HG.out m t h ht hx⟩
        rw [hx] at hc
        have HC := Lib.hid hc
        clear hc hx hm
        go_wp2_with fail
        with_reducible refine HC.out.mono ?_
        rintro e w2 ⟨rfl, n2, rfl⟩
        go_wp2_with fail
        go_roundw
        case rel => exact ⟨lo, m, q + n2, rfl, by rw [I1.out], hm1, by omega, rfl, hJ⟩
        case measure => have := I1.out; simp [intOf]; omega
    · obtain rfl : hi = lo := by omega
      go_wp2_with fail
      go_ret
      exact ⟨hi, rfl, ⟨hin, I.out⟩, q, rfl⟩

theorem search_any (l : List Se) (m : Int) (hr : Sm.rise m l = true) (A : Option Addr) (cap : Nat) (c : Int) (g1 g2 : Nat) (w : World) (B : Nat) (hv : Sl w B (.slice A l.length cap) l) (hlen : l.length ≤ 100000) (h1 : w.cell? ⟨g1, 0, none⟩ = some (.slice A l.length cap)) (h2 : w.cell? ⟨g2, 0, none⟩ = some (.int .i64 c)) :
    Calls Try.prog 24 #[.int .i64 l.length, .func (.func 25) #[] #[.pointer (some ⟨g1, 0, none⟩), .pointer (some ⟨g2, 0, none⟩)]] w fun e w' => e = .returned (.int .i64 (Sm.pos l c : Nat)) ∧ ∃ n, w' = w.drewN n := by
  have hp : ∀ k (hk : k < l.length), (if h : k < l.length then decide (c ≤ (l[k]).1) else true) = decide (c ≤ (l[k]).1) := fun k hk => dif_pos hk
  refine (search_core l.length (fun k => if h : k < l.length then decide (c ≤ (l[k]).1) else true) ?_ g1 g2 w hlen ?_).mono ?_
  · intro t u htu hu ht
    rw [hp t (by omega)] at ht
    rw [hp u hu]
    have ht := of_decide_eq_true ht
    refine decide_eq_true ?_
    rcases Nat.lt_or_ge t u with h3 | h3
    · have := Sm.rise_asc hr t u h3 hu; omega
    · have : t = u := by omega
      subst this; exact ht
  · intro q k hk
    rw [hp k hk]
    exact less_any l A cap c g1 g2 (w.drewN q) B hv h1 h2 k hk
  · rintro e w' ⟨r, rfl, ⟨hr1, hr2, hr3⟩, hn⟩
    have : r = Sm.pos l c := Sm.pos_uniq hr1 (fun t ht => by
      have := hr2 t ht
      rw [hp t (by omega)] at this
      have := of_decide_eq_false this
      omega) (fun t h1 ht => by
      have := hr3 t h1 ht
      rw [hp t ht] at this
      exact of_decide_eq_true this)
    subst this
    exact ⟨rfl, hn⟩

set_option maxRecDepth 100000 in
/-- find: a client's place, and whether its session stands there. -/
theorem find_any (v : Value) (l : List Se) (m : Int) (hr : Sm.rise m l = true) (hlen : l.length ≤ 100000) (c : Int) (w : World) (B : Nat) (hB : B ≤ w.heap.size) (hv : Sl w B v l) :
    Calls Try.prog 21 #[v, .int .i64 c] w fun e w' => e = .returned (.tuple #[.int .i64 (Sm.pos l c : Nat), .bool (Sm.has l c)]) ∧ Below w.heap.size w w' := by
  obtain ⟨A, cap, rfl, hc, hm⟩ := hv.form
  unfold maxLen at hm
  have hb0 : Below w.heap.size w (w.alloc (.cells #[.slice A l.length cap] 22)) := (Below.refl _ _).alloc (Nat.le_refl _) _
  have hb1 := hb0.alloc hb0.size (.cells #[.int .i64 c] 3)
  have hW0 := (Whole.new w 22 #[.slice A l.length cap]).alloc (.cells #[.int .i64 c] 3)
  have hW1 := Whole.new (w.alloc (.cells #[.slice A l.length cap] 22)) 3 #[.int .i64 c]
  rw [World.size_alloc] at hW1
  have k0 := hW0.cell 0
  have k1 := hW1.cell 0
  simp only [List.getElem?_toArray, List.getElem?_cons_zero] at k0 k1
  have HS := Lib.hid (search_any l m hr A cap c w.heap.size (w.heap.size + 1) _ B (hv.below (hb1.mono hB)) hlen k0 k1)
  have HB := Lib.hid hb1
  have hpl := Sm.pos_le l c
  obtain ⟨hh, -, -⟩ := Sm.has_pos hr c
  have HV := Lib.hid (fun W (h : Below w.heap.size w W) => hv.below (h.mono hB))
  by_cases hp : Sm.pos l c < l.length
  · have hcl : Hid (∀ W, Below w.heap.size w W → ∃ b off, A = some ⟨b, off, none⟩ ∧ W.cell? ⟨b, off + Sm.pos l c * 3, none⟩ = some (.int .i64 (l[Sm.pos l c]).1)) := fun W h => by
      obtain ⟨b, off, h1, -, h2, -⟩ := (HV.out W h).sess _ hp
      exact ⟨b, off, h1, h2⟩
    have hh' : Sm.has l c = decide ((l[Sm.pos l c]).1 = c) := by rw [hh]; simp [hp]
    clear hv hb0 hb1 hh HV hW0 hW1 hr
    obtain ⟨b1, o1, rfl, -⟩ := hcl.out w (Below.refl _ _)
    have hcl2 : Hid (∀ W, Below w.heap.size w W → W.cell? ⟨b1, o1 + Sm.pos l c * 3, none⟩ = some (.int .i64 (l[Sm.pos l c]).1)) := fun W h => by
      obtain ⟨b, off, h1, h2⟩ := hcl.out W h
      injection h1 with h1
      injection h1 with h1 h3
      subst h1 h3
      exact h2
    clear hcl
    generalize (l[Sm.pos l c]).1 = x at *
    generalize Sm.has l c = R at *
    generalize Sm.pos l c = p at *
    generalize l.length = n at *
    have i1 : (0 : Int) ≤ (p : Int) := by omega
    have i2 : (p : Int) < (n : Int) := by omega
    subst hh'
    go_enter Try.func21, Try.ntmps21
    go_wp2_with fail
    with_reducible refine HS.out.mono ?_
    rintro e w2 ⟨rfl, n2, rfl⟩
    have c1 := hcl2.out _ HB.out
    have hd : decide ((p : Int) < (n : Int)) = true := by simpa using hp
    go_wp2_with fail
    go_quiet (fail)
    go_wp2_with fail
    go_ret2
    refine ⟨?_, below_drewN (below_drewN HB.out _) _⟩
    rfl
  · have hh' : Sm.has l c = false := by rw [hh]; simp [hp]
    clear hv hb0 hb1 hh HV hW0 hW1 hr
    generalize Sm.has l c = R at *
    generalize Sm.pos l c = p at *
    generalize l.length = n at *
    subst hh'
    go_enter Try.func21, Try.ntmps21
    go_wp2_with fail
    with_reducible refine HS.out.mono ?_
    rintro e w2 ⟨rfl, n2, rfl⟩
    have hd : decide ((p : Int) < (n : Int)) = false := by simp; omega
    go_wp2_with fail
    go_quiet (fail)
    go_wp2_with fail
    go_ret2
    exact ⟨rfl, below_drewN (below_drewN HB.out _) _⟩
end Go.Proofs.Ytpfhigcfpchkkaa
