/-
  QuorumGrows: where each member has no less, no less is held, and most have no less; one member more changes a majority by one at most.
-/
import Derived.Test.YtdgfopiagfibkaaAwk
import Derived.Test.YtdgfopiagfibkaaOrda
namespace Go.Proofs.Ytdgfopiagfibkaa
open Go.RowKit

set_option maxRecDepth 100000 in
theorem grows_law (w : World) (v u : Value) (l m : List Int) (hv : Sl w w.heap.size v l) (hu : Sl w w.heap.size u m) (i : Int) :
    Calls Try.prog 6 #[v, u, .int .i64 i] w fun e w' => e = .returned (.bool true) ∧ Below w.heap.size w w' := by
  obtain ⟨A, c, rfl, hc, hm⟩ := hv.form
  obtain ⟨A2, c2, rfl, hc2, hm2⟩ := hu.form
  have HB := Lib.hid (Below.refl w.heap.size w)
  have HK := Lib.hid (fun W => awake_any W)
  have HV := Lib.hid hv
  have HU := Lib.hid hu
  have H1 := Lib.hid (fun (h : l.length ≤ 1000) W => show Calls Try.prog 8 #[.int .i64 (l.length : Int)] W fun e w' => e = .returned (.int .i64 ((l.length / 2 + 1 : Nat) : Int)) ∧ W = w' by rw [← Qr.maj_all]; exact maj_any (l.length : Int) (by omega) W)
  have H2 := Lib.hid (fun (h : l.length ≤ 1000) W => show Calls Try.prog 8 #[.int .i64 ((l.length : Int) + 1)] W fun e w' => e = .returned (.int .i64 (((l.length + 1) / 2 + 1 : Nat) : Int)) ∧ W = w' by rw [← Qr.maj_all]; exact maj_any ((l.length : Int) + 1) (by omega) W)
  have H3 := Lib.hid (fun W (h : Below w.heap.size w W) => held_any _ l i W w.heap.size h.size (hv.below h))
  have H5 := Lib.hid (fun W (h : Below w.heap.size w W) (hl : l.length ≤ 100000) => most_any _ l hl W w.heap.size h.size (hv.below h))
  have H4 := Lib.hid (fun W v (h : Sl W W.heap.size v (Qr.sums l m)) => held_any v _ i W W.heap.size (Nat.le_refl _) h)
  have H6 := Lib.hid (fun W v (h : Sl W W.heap.size v (Qr.sums l m)) (hl : l.length = m.length) (hl2 : l.length ≤ 1000) => most_any v (Qr.sums l m) (by rw [Qr.sums_len hl]; omega) W W.heap.size (Nat.le_refl _) h)
  have HX := Lib.hid (fun (h : l.length = m.length) (hp : ∀ x ∈ m, 0 ≤ x) => (⟨Qr.held_sums l m i h hp, Qr.most_sums h hp⟩ : _ ∧ _))
  have HS := Lib.hid (fun k x y (h : l[k]? = some x) (h2 : m[k]? = some y) => show (Qr.sums l m).take (k + 1) = (Qr.sums l m).take k ++ [x + y] by
    obtain ⟨h3, rfl⟩ := List.getElem?_eq_some_iff.1 h
    obtain ⟨h4, rfl⟩ := List.getElem?_eq_some_iff.1 h2
    exact Qr.sums_take h3 h4)
  have HSL := Lib.hid (fun (h : l.length = m.length) => Qr.sums_len h)
  have HT0 := Lib.hid (show (Qr.sums l m).take 0 = [] from rfl)
  have HP0 := Lib.hid (show ∀ x ∈ m.take 0, (0 : Int) ≤ x from fun x hx => by simp at hx)
  have HPS := Lib.hid (fun k y (h2 : m[k]? = some y) (h : ∀ x ∈ m.take k, (0 : Int) ≤ x) (h3 : 0 ≤ y) => show ∀ x ∈ m.take (k + 1), (0 : Int) ≤ x from fun x hx => by
    rw [List.take_add_one, h2] at hx
    rcases List.mem_append.1 hx with hx | hx
    · exact h x hx
    · simp at hx; omega)
  clear hv hu
  generalize Qr.held l i = x1 at *
  generalize Qr.most l = x2 at *
  generalize Qr.held (Qr.sums l m) i = y1 at *
  generalize Qr.most (Qr.sums l m) = y2 at *
  generalize Qr.sums l m = s at *
  go_enter Try.func6, Try.ntmps6
  go_wp2_with fail
  with_reducible refine (HK.out _).mono ?_
  rintro e w1 ⟨rfl, hb⟩
  replace HB := Lib.hid (HB.out.trans (hb.mono HB.out.size))
  clear hb HK
  by_cases hk : 100 < l.length
  · go_wp2_with fail
    go_ret
    exact ⟨rfl, HB.out⟩
  have d1 : decide (100 < l.length) = false := by simpa using hk
  by_cases he : l.length = m.length
  rotate_left
  · have e1 : ((l.length : Int) != (m.length : Int)) = true := by simp; omega
    go_wp2_with fail
    go_ret
    exact ⟨rfl, HB.out⟩
  replace H1 := Lib.hid (H1.out (by omega))
  replace H2 := Lib.hid (H2.out (by omega))
  replace H6 := Lib.hid (fun W v h => H6.out W v h he (by omega))
  replace HX := Lib.hid (HX.out he)
  replace HSL := Lib.hid (HSL.out he)
  generalize hl : l.length = n at *
  rw [← he] at HU ⊢
  have HL := Lib.hid hl
  have HL2 := Lib.hid he
  clear hl he
  have e1 : ((n : Int) != (n : Int)) = false := by simp
  go_wp2_with fail
  go_loopw [8, 9] (fun sv j wr => ∃ k : Nat, k ≤ n ∧ j = .int .i64 (k : Int) ∧ Hid (Own wr w.heap.size 3 sv (s.take k)) ∧ Hid (∀ x ∈ m.take k, (0 : Int) ≤ x) ∧ Below w.heap.size w wr) (fun _ j _ => n - (intOf j).toNat)
  case atStart => exact ⟨0, Nat.zero_le _, rfl, by rw [HT0.out]; exact Own.nil _ _ _, HP0, HB.out⟩
  case round =>
    obtain ⟨k, hkn, rfl, ho, hp, hb⟩ := hrel
    obtain ⟨As, cs, hform, hcs, -⟩ := ho.out.sl.form
    have htl : (s.take k).length = k := by rw [List.length_take, HSL.out]; omega
    rw [htl] at hform
    subst hform
    have HBW := Lib.hid hb
    by_cases hlt : k < n
    · have hkl : k < l.length := by rw [HL.out]; exact hlt
      have hkm : k < m.length := by rw [← HL2.out]; exact hlt
      obtain ⟨b1, o1, rfl, hb1, g1, -⟩ := (HV.out.below hb).int k hkl
      obtain ⟨b2, o2, rfl, hb2, g2, -⟩ := (HU.out.below hb).int k hkm
      have HSK := Lib.hid (HS.out k _ _ (List.getElem?_eq_getElem hkl) (List.getElem?_eq_getElem hkm))
      have HPK := Lib.hid (HPS.out k _ (List.getElem?_eq_getElem hkm) hp.out)
      generalize l[k] = x at *
      generalize m[k] = y at *
      have hzz := hb.size
      clear hkl hkm hp hb
      by_cases c1 : y < 0
      · go_wp2_with fail
        go_ret
        exact ⟨rfl, HBW.out⟩
      have e2 : decide (y < 0) = false := by simpa using c1
      by_cases c2 : 1000 < y
      · go_wp2_with fail
        go_ret
        exact ⟨rfl, HBW.out⟩
      have e3 : decide (1000 < y) = false := by simpa using c2
      by_cases c3 : x < -1000000
      · go_wp2_with fail
        go_ret
        exact ⟨rfl, HBW.out⟩
      have e4 : decide (x < -1000000) = false := by simpa using c3
      by_cases c4 : 1000000 < x
      · go_wp2_with fail
        go_ret
        exact ⟨rfl, HBW.out⟩
      have e5 : decide (1000000 < x) = false := by simpa using c4
      go_wp2_with fail
      have hwr : IntKind.i64.wrap (x + y) = x + y := by rw [IntKind.wrap_i64]; omega
      -- region
      refine b_start w.heap.size (by kernel_rfl) ?_
      have HC := Lib.hid (Below.refl w.heap.size wr.drew)
      have hBz : w.heap.size ≤ wr.drew.heap.size := hzz
      replace HBW := Lib.hid HBW.out.drew
      have HO := Lib.hid (show Own wr.drew _ _ _ _ from ho.out)
      have G1 := Lib.hid (fun W (h : Below w.heap.size wr.drew W) => (World.cell?_of_block (a := ⟨b1, o1 + k, none⟩) (h.block b1 hb1)).trans g1)
      have G2 := Lib.hid (fun W (h : Below w.heap.size wr.drew W) => (World.cell?_of_block (a := ⟨b2, o2 + k, none⟩) (h.block b2 hb2)).trans g2)
      have HPN := Lib.hid (HPK.out c1)
      have HTL := Lib.hid htl
      clear ho g1 g2 htl HPK hzz hcs
      generalize wr.drew = w4 at *
      refine b_take (i := 0) (v := ?_) rfl (by kernel_rfl) (by kernel_rfl) (by kernel_rfl) (fun _ _ _ h => h) (by rfl) ?_ ?_
      rotate_left
      · intro W hW
        go_simp
        first | done | rfl
      simp only [Act.put, List.setIfInBounds_toArray, List.set_cons_zero, List.set_cons_succ, List.getElem_toArray, List.getElem_cons_zero, List.getElem_cons_succ]
      refine b_take (i := 1) (v := ?_) rfl (by kernel_rfl) (by kernel_rfl) (by kernel_rfl) (fun _ _ _ h => h) (by rfl) ?_ ?_
      rotate_left
      · intro W hW
        go_simp
        first | done | rfl
      simp only [Act.put, List.setIfInBounds_toArray, List.set_cons_zero, List.set_cons_succ, List.getElem_toArray, List.getElem_cons_zero, List.getElem_cons_succ]
      refine b_take (i := 2) (v := ?_) rfl (by kernel_rfl) (by kernel_rfl) (by kernel_rfl) (fun _ _ _ h => h) (by rfl) ?_ ?_
      rotate_left
      · intro W hW
        go_simp
        first | done | rfl
      simp only [Act.put, List.setIfInBounds_toArray, List.set_cons_zero, List.set_cons_succ, List.getElem_toArray, List.getElem_cons_zero, List.getElem_cons_succ]
      refine b_take (i := 3) (v := ?_) rfl (by kernel_rfl) (by kernel_rfl) (by kernel_rfl) (fun _ _ _ h => h) (by rfl) ?_ ?_
      rotate_left
      · intro W hW
        go_simp
        first | done | rfl
      simp only [Act.put, List.setIfInBounds_toArray, List.set_cons_zero, List.set_cons_succ, List.getElem_toArray, List.getElem_cons_zero, List.getElem_cons_succ]
      refine b_take (i := 4) (v := ?_) rfl (by kernel_rfl) (by kernel_rfl) (by kernel_rfl) (fun _ _ _ h => h) (by rfl) ?_ ?_
      rotate_left
      · intro W hW
        have g1w := G1.out _ (HC.out.trans hW)
        go_simp
        first | done | rfl
      simp only [Act.put, List.setIfInBounds_toArray, List.set_cons_zero, List.set_cons_succ, List.getElem_toArray, List.getElem_cons_zero, List.getElem_cons_succ]
      refine b_take (i := 5) (v := ?_) rfl (by kernel_rfl) (by kernel_rfl) (by kernel_rfl) (fun _ _ _ h => h) (by rfl) ?_ ?_
      rotate_left
      · intro W hW
        go_simp
        first | done | rfl
      simp only [Act.put, List.setIfInBounds_toArray, List.set_cons_zero, List.set_cons_succ, List.getElem_toArray, List.getElem_cons_zero, List.getElem_cons_succ]
      refine b_take (i := 6) (v := ?_) rfl (by kernel_rfl) (by kernel_rfl) (by kernel_rfl) (fun _ _ _ h => h) (by rfl) ?_ ?_
      rotate_left
      · intro W hW
        go_simp
        first | done | rfl
      simp only [Act.put, List.setIfInBounds_toArray, List.set_cons_zero, List.set_cons_succ, List.getElem_toArray, List.getElem_cons_zero, List.getElem_cons_succ]
      refine b_take (i := 7) (v := ?_) rfl (by kernel_rfl) (by kernel_rfl) (by kernel_rfl) (fun _ _ _ h => h) (by rfl) ?_ ?_
      rotate_left
      · intro W hW
        go_simp
        first | done | rfl
      simp only [Act.put, List.setIfInBounds_toArray, List.set_cons_zero, List.set_cons_succ, List.getElem_toArray, List.getElem_cons_zero, List.getElem_cons_succ]
      refine b_take (i := 8) (v := ?_) rfl (by kernel_rfl) (by kernel_rfl) (by kernel_rfl) (fun _ _ _ h => h) (by rfl) ?_ ?_
      rotate_left
      · intro W hW
        have g2w := G2.out _ (HC.out.trans hW)
        go_simp
        first | done | rfl
      simp only [Act.put, List.setIfInBounds_toArray, List.set_cons_zero, List.set_cons_succ, List.getElem_toArray, List.getElem_cons_zero, List.getElem_cons_succ]
      refine b_take (i := 9) (v := ?_) rfl (by kernel_rfl) (by kernel_rfl) (by kernel_rfl) (fun _ _ _ h => h) (by rfl) ?_ ?_
      rotate_left
      · intro W hW
        go_simp
        first | done | rfl
      simp only [Act.put, List.setIfInBounds_toArray, List.set_cons_zero, List.set_cons_succ, List.getElem_toArray, List.getElem_cons_zero, List.getElem_cons_succ]
      refine b_one (i := 10) (by kernel_rfl) ?_
      refine one_run (i := 10) (v := ?_) (w' := ?_) rfl (by rfl) ?_ ?_ ?_
      rotate_left 2
      · go_simp
        first | done | (constructor <;> rfl)
      · exact (Below.refl _ _).alloc hBz _
      simp only [Act.put, List.setIfInBounds_toArray, List.set_cons_zero, List.set_cons_succ, List.getElem_toArray, List.getElem_cons_zero, List.getElem_cons_succ]
      have HN := Lib.hid (Sl.new1 (w4) 3 (x + y) #[.int .i64 (x + y)] ⟨by omega, by omega⟩ rfl)
      replace HO := Lib.hid (HO.out.alloc (.cells #[.int .i64 (x + y)] 3))
      replace HC := Lib.hid (HC.out.alloc hBz (.cells #[.int .i64 (x + y)] 3))
      replace hBz := Nat.le_trans hBz ((Below.refl _ _).alloc (Nat.le_refl _) (.cells #[.int .i64 (x + y)] 3) : Below (w4).heap.size (w4) _).size
      generalize w4.heap.size = g3 at *
      generalize (w4).alloc (.cells #[.int .i64 (x + y)] 3) = wa1 at *
      refine b_one (i := 11) (by kernel_rfl) ?_
      refine one_append_sl (i := 11) rfl (by rfl) _ _ rfl rowI w.heap.size _ (s.take k) rfl HO.out (g3 + 1) _ [x + y] rfl HN.out (by rw [HTL.out]; unfold maxLen; simp; omega) (by rw [HTL.out]; simp; omega) hBz (Nat.le_refl _) ?_
      intro v4 wa2 hown4 hb4
      replace HC := Lib.hid (HC.out.trans hb4)
      have HO4 := Lib.hid (show Own _ w.heap.size 3 v4 (s.take (k + 1)) by rw [HSK.out]; exact hown4)
      replace hBz := Nat.le_trans hBz hb4.size
      clear hown4 hb4 HN HO
      simp only [Act.put, List.setIfInBounds_toArray, List.set_cons_zero, List.set_cons_succ, List.getElem_toArray, List.getElem_cons_zero, List.getElem_cons_succ]
      refine b_take (i := 12) (v := ?_) rfl (by kernel_rfl) (by kernel_rfl) (by kernel_rfl) (fun _ _ _ h => h) (by rfl) ?_ ?_
      rotate_left
      · intro W hW
        go_simp
        first | done | rfl
      simp only [Act.put, List.setIfInBounds_toArray, List.set_cons_zero, List.set_cons_succ, List.getElem_toArray, List.getElem_cons_zero, List.getElem_cons_succ]
      refine b_done (by kernel_rfl) ?_
      have HB4 := Lib.hid (HBW.out.trans HC.out)
      clear HC hBz
      go_simp
      go_wp2_with fail
      go_roundw
      case rel => exact ⟨k + 1, by omega, by go_num, HO4, HPN, HB4.out⟩
      case measure => simp [intOf]; omega
      -- end
    · obtain rfl : k = n := by omega
      have hts : s.take k = s := by rw [← HSL.out]; exact List.take_length
      have htm : m.take k = m := by rw [HL2.out]; exact List.take_length
      rw [hts] at ho
      rw [htm] at hp
      obtain ⟨hx1, hx2⟩ := HX.out hp.out
      have q1 : (k + 1) / 2 + 1 = k / 2 + 1 ∨ (k + 1) / 2 + 1 = k / 2 + 1 + 1 := by omega
      have q2 : k < 2 * (k / 2 + 1) ∧ k / 2 + 1 ≤ k + 1 := by omega
      generalize (k + 1) / 2 + 1 = p2 at *
      generalize k / 2 + 1 = p1 at *
      go_wp2_with fail
      with_reducible refine (H1.out _).mono ?_
      rintro e w2 ⟨rfl, rfl⟩
      go_wp2_with fail
      with_reducible refine (H2.out _).mono ?_
      rintro e w2 ⟨rfl, rfl⟩
      go_wp2_with fail
      with_reducible refine (H4.out _ _ ho.out.sl).mono ?_
      rintro e w2 ⟨rfl, rfl⟩
      go_wp2_with fail
      with_reducible refine (H3.out _ HBW.out).mono ?_
      rintro e w2 ⟨rfl, rfl⟩
      have f1 : decide (x1 ≤ y1) = true := by simpa using hx1
      go_wp2_with fail
      with_reducible refine (H6.out _ _ ho.out.sl).mono ?_
      rintro e w2 ⟨rfl, hb⟩
      replace HBW := Lib.hid (HBW.out.trans (hb.mono HBW.out.size))
      clear hb
      go_wp2_with fail
      with_reducible refine (H5.out _ HBW.out (by omega)).mono ?_
      rintro e w3 ⟨rfl, hb⟩
      replace HBW := Lib.hid (HBW.out.trans (hb.mono HBW.out.size))
      clear hb
      have f2 : decide (x2 ≤ y2) = true := by simpa using hx2
      have f3 : decide (p1 ≤ p2) = true := by simp; omega
      have f4 : decide (p2 ≤ p1 + 1) = true := by simp; omega
      have f5 : decide ((k : Int) < 2 * (p1 : Int)) = true := by simp; omega
      go_wp2_with fail
      go_ret
      exact ⟨rfl, HBW.out⟩
end Go.Proofs.Ytdgfopiagfibkaa
