/-
  What cutData answers.
-/
import Derived.Test.YtniibcjlmlmboaaFrom
namespace Go.Proofs.Ytniibcjlmlmboaa
open Go.RowKit

def DataOut (w : World) (B : Nat) : Fm.Got (List UInt8) → Ending → World → Prop
  | .err er, e, w' => e = .returned (.tuple #[.slice none 0 0, .slice none 0 0, .int .i64 er]) ∧ Below w.heap.size w w'
  | .ok D r, e, w' => ∃ sD A c, e = .returned (.tuple #[sD, .slice A r.length c, .int .i64 0]) ∧ Own w' w.heap.size 5 sD D ∧ Sl w' B (.slice A r.length c) r ∧ Below w.heap.size w w'

set_option maxRecDepth 100000 in
theorem cutData_any (v : Value) (l : List UInt8) (hl : l.length ≤ 1000000) (w : World) (B : Nat) (hB : B ≤ w.heap.size) (hv : Sl w B v l) :
    Calls Try.prog 25 #[v] w (DataOut w B (Fm.cutD l)) := by
  by_cases h2 : l.length < 2
  · have hc : Fm.cutD l = .err 3 := by unfold Fm.cutD; rw [if_pos h2]
    rw [hc]
    have H := Lib.hid (cutBytes_short v l 2 h2 w B hv)
    clear hc hv
    go_enter Try.func25, Try.ntmps25
    go_wp2_with fail
    refine H.out.mono ?_
    rintro e w' ⟨rfl, rfl⟩
    go_wp2_with fail
    go_ret3
    exact ⟨rfl, Below.refl _ _⟩
  · have H := Lib.hid (cutBytes_any v l 2 (by omega) w B hv)
    have hd := Lib.hid (fun W A c (h : Sl W B (.slice A 2 c) (l.take 2)) => fromDigits_any _ (l.take 2) (by rw [List.length_take]; omega) W B h)
    have hvl : Fm.val (l.take 2) < 65536 := by
      have := Fm.val_lt (l.take 2)
      rw [List.length_take, Nat.min_eq_left (by omega)] at this
      exact this
    have hcc : Fm.cutD l = if 4096 < Fm.val (l.take 2) then .err 7 else if (l.drop 2).length < Fm.val (l.take 2) then .err 3 else .ok ((l.drop 2).take (Fm.val (l.take 2))) ((l.drop 2).drop (Fm.val (l.take 2))) := by
      unfold Fm.cutD; rw [if_neg h2]
    rw [hcc]
    clear hcc
    have hlr : (l.drop 2).length + 2 = l.length := by rw [List.length_drop]; omega
    have hrr : (l.drop 2).length ≤ 1000000 := by omega
    have HLR := Lib.hid hlr
    clear hlr hv
    generalize Fm.val (l.take 2) = s at *
    generalize hr : l.drop 2 = r at *
    have HR := Lib.hid hr
    clear hr
    by_cases h4 : 4096 < s
    · rw [if_pos h4]
      go_enter Try.func25, Try.ntmps25
      go_wp2_with fail
      refine H.out.mono ?_
      rintro e w' ⟨A1, c1, A2, m, c2, hmk, rfl, h1, h2, n, rfl⟩
      have H1 := Lib.hid (sl_drewN h1 n)
      clear h1 h2 H hmk
      go_wp2_with fail
      refine (hd.out _ _ _ H1.out).mono ?_
      rintro e w' ⟨rfl, rfl⟩
      go_wp2_with fail
      go_ret3
      exact ⟨rfl, below_drewN (Below.refl _ _) _⟩
    · rw [if_neg h4]
      have hcs := Lib.hid (fun W A c (h : Sl W B (.slice A r.length c) r) (hlt : r.length < s) => cutBytes_short _ r s hlt W B h)
      have hca := Lib.hid (fun W A c (h : Sl W B (.slice A r.length c) r) (hle : s ≤ r.length) => cutBytes_any _ r s hle W B h)
      by_cases hlt : r.length < s
      · rw [if_pos hlt]
        go_enter Try.func25, Try.ntmps25
        go_wp2_with fail
        refine H.out.mono ?_
        rintro e w' ⟨A1, c1, A2, m, c2, hmk, rfl, h1, h2, n, rfl⟩
        have H1 := Lib.hid (sl_drewN h1 n)
        obtain rfl : m = r.length := by have := HLR.out; omega
        rw [HR.out] at h2
        have HS := Lib.hid (hcs.out _ _ _ (sl_drewN h2 n) hlt)
        clear h1 h2 H hmk hcs hca
        generalize r.length = m at *
        go_wp2_with fail
        refine (hd.out _ _ _ H1.out).mono ?_
        rintro e w' ⟨rfl, rfl⟩
        go_wp2_with fail
        refine HS.out.mono ?_
        rintro e w' ⟨rfl, rfl⟩
        go_wp2_with fail
        go_ret3
        exact ⟨rfl, below_drewN (Below.refl _ _) _⟩
      · rw [if_neg hlt]
        have hkl : (r.take s).length = s := by rw [List.length_take]; omega
        have hdl : (r.drop s).length + s = r.length := by rw [List.length_drop]; omega
        have HKL := Lib.hid hkl
        clear hkl
        go_enter Try.func25, Try.ntmps25
        go_wp2_with fail
        refine H.out.mono ?_
        rintro e w' ⟨A1, c1, A2, m, c2, hmk, rfl, h1, h2, n, rfl⟩
        have H1 := Lib.hid (sl_drewN h1 n)
        obtain rfl : m = r.length := by have := HLR.out; omega
        rw [HR.out] at h2
        have HS := Lib.hid (hca.out _ _ _ (sl_drewN h2 n) (by omega))
        clear h1 h2 H hmk hcs hca
        generalize hd0 : (r.drop s).length = d at hdl
        generalize hm0 : r.length = m at *
        have HD := Lib.hid hd0
        have HM := Lib.hid hm0
        have HDL := Lib.hid hdl
        clear hd0 hm0 hdl
        go_wp2_with fail
        refine (hd.out _ _ _ H1.out).mono ?_
        rintro e w' ⟨rfl, rfl⟩
        go_wp2_with fail
        refine HS.out.mono ?_
        rintro e w' ⟨A3, c3, A4, m4, c4, hm4, rfl, h3, h4, n2, rfl⟩
        rw [World.drewN_drewN]
        have h3' := sl_drewN h3 n2
        have h4' := sl_drewN h4 n2
        rw [World.drewN_drewN] at h3' h4'
        obtain rfl : m4 = d := by have := HDL.out; have := HM.out; omega
        have hb := below_drewN (Below.refl w.heap.size w) (n + n2)
        have hz : w.heap.size ≤ (w.drewN (n + n2)).heap.size := Nat.le_refl _
        have H3 := Lib.hid h3'
        have H4 := Lib.hid h4'
        clear h3 h4 h3' h4' hm4 H1 HS hd
        generalize w.drewN (n + n2) = w1 at *
        go_wp2_with (at_builtin; refine wpList_append_sl rfl _ (.tmp 31) rfl rowB w.heap.size _ [] rfl (Own.nil _ _ _) B _ (r.take s) rfl H3.out (by rw [HKL.out]; unfold maxLen; simp; omega) (by rw [HKL.out]; simp; omega) hz ?_; intro v3 w3 hown3 hg3 hat3; rw [List.nil_append] at hown3; have hb3 := hb.grown hg3 hz (by intro k h; cases h); have hs3 := H4.out.below ((Below.refl _ _).grown hg3 (Nat.le_trans hB hz) (by intro k h; cases h)); clear hg3 hat3)
        go_ret3
        have h := HD.out
        subst h
        exact ⟨_, _, _, rfl, hown3, hs3, hb3⟩
end Go.Proofs.Ytniibcjlmlmboaa
