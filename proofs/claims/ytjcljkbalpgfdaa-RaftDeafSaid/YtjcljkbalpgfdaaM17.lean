/-
  Parts that the statement rests on, joined: Commit.
-/
import Derived.Test.YtjcljkbalpgfdaaM6
import Derived.Test.YtjcljkbalpgfdaaM7
import Derived.Test.YtjcljkbalpgfdaaM14
import Derived.Test.YtjcljkbalpgfdaaM16
/-
  What Commit answers.
-/




namespace Go.Proofs.Ytjcljkbalpgfdaa
open Go.RowKit

def upOf (v : Value) : Nat := match v with
  | .int _ n => (n + 1).toNat
  | _ => 0

set_option maxRecDepth 100000 in
theorem commit_any (b t : Int) (v : Value) (l : List E) (vm : Value) (m : List Int) (hl : m.length ≤ 100000) (tm s : Int) (hs : -9223372036854775808 ≤ s ∧ s ≤ 9223372036854775807) (w : World) (B : Nat) (hB : B ≤ w.heap.size) (hv : Sl w B v l) (hm : Sl w B vm m) :
    Calls Try.prog 44 #[lv b t v, vm, .int .i64 tm, .int .i64 s] w fun e w' => e = .returned (.int .i64 (Qr.commit (b, t, l) m tm s)) ∧ Below w.heap.size w w' := by
  obtain ⟨A, c, rfl, hc, -⟩ := hv.form
  obtain ⟨A2, c2, rfl, hc2, -⟩ := hm.form
  have hb0 : Below w.heap.size w (w.alloc (.cells #[.int .i64 b, .int .i64 t, .slice A l.length c] 26)) := (Below.refl _ _).alloc (Nat.le_refl _) _
  have HB := Lib.hid hb0
  have HW := Lib.hid (Whole.new w 26 #[.int .i64 b, .int .i64 t, .slice A l.length c])
  have HL := Lib.hid (fun W (h : Below w.heap.size w W) => last_any b t _ l W B (Nat.le_trans hB h.size) (hv.below (h.mono hB)))
  have HT := Lib.hid (fun i hi W (h : Below w.heap.size w W) => term_any b t i hi _ l W B (Nat.le_trans hB h.size) (hv.below (h.mono hB)))
  have HM := Lib.hid (fun W (h : Below w.heap.size w W) => most_any _ m hl W B (Nat.le_trans hB h.size) (hm.below (h.mono hB)))
  have hfit : -9223372036854775808 ≤ Qr.most m ∧ Qr.most m ≤ 9223372036854775807 := by
    rcases Nat.eq_zero_or_pos m.length with h0 | h0
    · obtain rfl : m = [] := List.eq_nil_of_length_eq_zero h0
      rw [Qr.most_nil]; omega
    · exact hm.fit _ (Qr.most_mem h0)
  have hlast := Qr.last_le (b, t, l)
  have HG := Lib.hid (Qr.goes_start (b, t, l) m tm s)
  have HG1 := Lib.hid (fun R i => @Qr.goes_low (b, t, l) tm s R i)
  have HG2 := Lib.hid (fun R i => @Qr.goes_none (b, t, l) tm s R i)
  have HG3 := Lib.hid (fun R i => @Qr.goes_here (b, t, l) tm s R i)
  have HG4 := Lib.hid (fun R i => @Qr.goes_on (b, t, l) tm s R i)
  have HTI := Lib.hid (fun i => @Qr.term_in (b, t, l) i)
  clear hv hm hb0
  generalize Qr.commit (b, t, l) m tm s = R at *
  generalize Qr.goes (b, t, l) tm s = gs at *
  generalize Lg.term (b, t, l) = tt at *
  generalize Lg.last (b, t, l) = p at *
  generalize (Lg.fair (b, t, l)).1 = y at *
  generalize Qr.most m = mo at *
  obtain ⟨p1, p2⟩ := p
  generalize l.length = n at *
  generalize m.length = n2 at *
  simp only at hlast HL HG
  go_enter Try.func44, Try.ntmps44
  go_wp2_with fail
  refine wp_scope_goto 0 (fun a' w' => ∃ i : Int, gs R i ∧ i ≤ 1099511627840 ∧ Below w.heap.size w w' ∧ Whole w' w.heap.size 26 #[.int .i64 b, .int .i64 t, .slice A n c] ∧ ∃ (u5 u6 u7 u12 u13 u14 u15 u16 u17 u18 u19 u20 u21 u22 u23 u24 u25 u26 u27 u28 u29 u30 u31 u32 u33 u34 u35 u36 u37 u38 u39 u40 u41 : Value), a' = { tmps := #[lv b t (.slice A n c), .slice A2 n2 c2, .int .i64 tm, .int .i64 s, .pointer (some ⟨w.heap.size, 0, none⟩), u5, u6, u7, .int .i64 0, .int .i64 p1, .int .i64 p2, .int .i64 i, u12, u13, u14, u15, u16, u17, u18, u19, u20, u21, u22, u23, u24, u25, u26, u27, u28, u29, u30, u31, u32, u33, u34, u35, u36, u37, u38, u39, u40, u41], defers := [] }) (fun a' _ => upOf (a'.tmps.getD 11 undef)) rfl ?_ ?_
  · rintro a' w' ⟨i, hg, hi, hb, hw, u5, u6, u7, u12, u13, u14, u15, u16, u17, u18, u19, u20, u21, u22, u23, u24, u25, u26, u27, u28, u29, u30, u31, u32, u33, u34, u35, u36, u37, u38, u39, u40, u41, rfl⟩
    have HB1 := Lib.hid hb
    have HW1 := Lib.hid hw
    have HGG := Lib.hid hg
    obtain ⟨k0, k1, k2⟩ := hw.c3
    clear hb hw hg HB HW HL HM HG
    by_cases h1 : i ≤ s
    · obtain rfl := HG1.out R i HGG.out h1
      clear HG1 HG2 HG3 HG4
      go_wp2_with fail
      simp only [Exit.jump]
      go_ret
      exact ⟨rfl, HB1.out⟩
    have d1 : decide (i ≤ s) = false := by simpa using h1
    have HTC := Lib.hid (HT.out i (by omega) w' HB1.out)
    have H2 := Lib.hid (HG2.out R i HGG.out)
    have H3 := Lib.hid (HG3.out R i HGG.out (by omega))
    have H4 := Lib.hid (HG4.out R i HGG.out (by omega))
    have H5 := Lib.hid (HTI.out i)
    clear HG1 HG2 HG3 HG4 HTI HT HGG
    generalize tt i = q at *
    obtain ⟨q1, q2⟩ := q
    simp only at HTC H2 H3 H4 H5
    go_wp2_with fail
    with_reducible refine HTC.out.mono ?_
    rintro e w1 ⟨rfl, hb1⟩
    replace HW1 := Lib.hid (HW1.out.below hb1 HW1.out.lt)
    replace HB1 := Lib.hid (HB1.out.trans (hb1.mono HB1.out.size))
    clear k0 k1 k2 hb1 HTC
    rcases q2 with _ | _
    · obtain rfl := H2.out rfl
      clear H2 H3 H4 H5
      go_wp2_with fail
      simp only [Exit.jump]
      go_ret
      exact ⟨rfl, HB1.out⟩
    by_cases h2 : q1 = tm
    · obtain rfl := H3.out rfl h2
      have e2 : (q1 != tm) = false := by simpa using h2
      clear H2 H3 H4 H5 h2
      go_wp2_with fail
      simp only [Exit.jump]
      go_ret
      exact ⟨rfl, HB1.out⟩
    · have H := Lib.hid (H4.out rfl h2)
      have h5 := H5.out rfl
      have e2 : (q1 != tm) = true := by simpa using h2
      clear H2 H3 H4 H5 h2
      have hwr : IntKind.i64.wrap (i - 1) = i - 1 := by rw [IntKind.wrap_i64]; omega
      go_wp2_with fail
      go_step3
      exact ⟨rfl, ⟨i - 1, H.out, by omega, HB1.out, HW1.out, _, _, _, _, _, _, _, _, _, _, _, _, _, _, _, _, _, _, _, _, _, _, _, _, _, _, _, _, _, _, _, _, _, rfl⟩, by simp [upOf]; omega⟩
  · intro hgo
    obtain ⟨k0, k1, k2⟩ := HW.out.c3
    go_wp2_with fail
    with_reducible refine (HL.out _ HB.out).mono ?_
    rintro e w1 ⟨rfl, hb1⟩
    replace HW := Lib.hid (HW.out.below hb1 HW.out.lt)
    replace HB := Lib.hid (HB.out.trans (hb1.mono HB.out.size))
    clear k0 k1 k2 hb1
    go_wp2_with fail
    with_reducible refine (HM.out _ HB.out).mono ?_
    rintro e w2 ⟨rfl, hb1⟩
    replace HW := Lib.hid (HW.out.below hb1 HW.out.lt)
    replace HB := Lib.hid (HB.out.trans (hb1.mono HB.out.size))
    clear hb1
    by_cases hmin : mo ≤ p1
    · have emin : min mo p1 = mo := by omega
      rw [emin] at HG
      go_wp2_with fail
      go_step3
      go_simp
      refine (by assumption : ∀ (a : Act) (w : World), _ → _) _ _ (hgo _ _ ?_)
      exact ⟨mo, HG.out, by omega, HB.out, HW.out, _, _, _, _, _, _, _, _, _, _, _, _, _, _, _, _, _, _, _, _, _, _, _, _, _, _, _, _, _, _, _, _, _, rfl⟩
    · have emin : min mo p1 = p1 := by omega
      rw [emin] at HG
      have dmin : decide (mo ≤ p1) = false := by simpa using hmin
      go_wp2_with fail
      go_step3
      go_simp
      refine (by assumption : ∀ (a : Act) (w : World), _ → _) _ _ (hgo _ _ ?_)
      exact ⟨p1, HG.out, by omega, HB.out, HW.out, _, _, _, _, _, _, _, _, _, _, _, _, _, _, _, _, _, _, _, _, _, _, _, _, _, _, _, _, _, _, _, _, _, rfl⟩
end Go.Proofs.Ytjcljkbalpgfdaa
