/-
  The reference's Put.
-/
import Derived.Test.YtpfhigcfpchkkaaPput
import Derived.Test.YtpfhigcfpchkkaaRlook
namespace Go.Proofs.Ytpfhigcfpchkkaa
open Go.RowKit

set_option maxRecDepth 100000 in
set_option maxHeartbeats 1600000 in
theorem rput_any (v : Value) (l : List Se) (c q a : Int) (ha : -9223372036854775808 ≤ a ∧ a ≤ 9223372036854775807) (w : World) (B : Nat) (hB : B ≤ w.heap.size) (hv : Sl w B v l) :
    Calls Try.prog 14 #[v, .int .i64 c, .int .i64 q, .int .i64 a] w (PutOut w (Sm.put l c q a)) := by
  obtain ⟨A, cap, rfl, hc, hm⟩ := hv.form
  unfold maxLen at hm
  have HL := Lib.hid (rlook_any _ l c q w B hB hv)
  have hok := Lib.hid (@Sm.look_ok l c q)
  have HF := Lib.hid (fun W (hb : Below w.heap.size w W) => rfind_any _ l c W B (Nat.le_trans hB hb.size) (hv.below (hb.mono hB)))
  have HV := Lib.hid (fun W (hb : Below w.heap.size w W) => hv.below (hb.mono hB))
  have he1 := Lib.hid (@Sm.put_err l c q a)
  have he2 := Lib.hid (@Sm.put_there l c q a)
  have he3 := Lib.hid (@Sm.put_full l c q a)
  have he4 := Lib.hid (@Sm.put_in l c q a)
  clear hv
  generalize Sm.look l c q = X at *
  generalize Sm.put l c q a = R at *
  obtain ⟨x1, x2, x3⟩ := X
  dsimp only at *
  go_enter Try.func14, Try.ntmps14
  go_wp2_with fail
  with_reducible refine HL.out.mono ?_
  rintro e w2 ⟨rfl, hb2⟩
  have HB2 := Lib.hid hb2
  clear hb2 HL
  by_cases h3 : x3 = 0
  · subst h3
    rcases x2 with _ | _
    · obtain ⟨hmay, hokc, hoks⟩ := hok.out rfl
      have hlen := Sm.may_len hmay
      have hrise := Sm.may_rise hmay
      have hwf : Flat.wf ((c, q, a) : Se) := by
        rw [Sm.okc_iff] at hokc
        rw [Sm.oks_iff] at hoks
        refine ⟨?_, ?_, ha⟩
        · show _ ∧ _; constructor <;> simp only <;> omega
        · show _ ∧ _; constructor <;> simp only <;> omega
      have HWF := Lib.hid hwf
      obtain ⟨q1, q2, q3⟩ := Sm.fnd_range hrise c
      have HZ := Lib.hid (Sm.rs_zero hrise (c, q, a))
      clear hmay hokc hoks hrise hwf hok he1 he2
      go_wp2_with fail
      with_reducible refine (HF.out _ HB2.out).mono ?_
      rintro e w3 ⟨rfl, hb3⟩
      have hbb := HB2.out.trans (hb3.mono HB2.out.size)
      clear hb3 HF HB2
      generalize Sm.fnd l c = y at *
      obtain ⟨y0, y1, y2⟩ := y
      dsimp only at q1 q2 q3
      have hbf := hbb.alloc hbb.size (.cells #[.int .i64 y0, .int .i64 y1, .int .i64 y2] 37)
      have HB4 := Lib.hid hbf
      have HB3 := Lib.hid hbb
      clear hbb hbf
      by_cases h16 : Sm.has l c = false ∧ l.length = 16
      · obtain rfl := he3.out (by simp) (by simp) h16.1 h16.2
        have hy : y1 = 0 := q3.2 h16.1
        have h16' := h16.2
        clear he3 he4 h16 q3 q1 q2 HZ HV
        generalize l.length = n at *
        subst h16' hy
        go_wp2_with fail
        go_ret2
        exact putOut_err HB4.out
      · obtain rfl := he4.out (by simp) (by simp) h16
        clear he3 he4
        have hcond : Hid (y1 = 0 → l.length < 16) := fun hy => by
          have : l.length ≠ 16 := fun h => h16 ⟨q3.1 hy, h⟩
          omega
        clear h16 q3
        have hWn := Whole.new (w3.alloc (.cells #[.int .i64 y0, .int .i64 y1, .int .i64 y2] 37)) 37 #[.int .i64 c, .int .i64 q, .int .i64 a]
        rw [World.size_alloc] at hWn
        have HW5 := Lib.hid hWn
        have HB5 := Lib.hid (HB4.out.alloc HB4.out.size (.cells #[.int .i64 c, .int .i64 q, .int .i64 a] 37))
        have hz3 := HB3.out.size
        clear hWn
        generalize hX : Sm.ins l (c, q, a) = X at *
        clear hX
        generalize hn : l.length = n at *
        have HN := Lib.hid hn
        clear hn
        have HHEAD : Hid ((y1 == 0) = true ∧ decide ((16 : Int) ≤ (n : Int)) = false ∨ (y1 == 0) = false) := by
          by_cases hy : y1 = 0
          · left; have := hcond.out hy; constructor
            · simpa using hy
            · simp; omega
          · right; simpa using hy
        rcases HHEAD.out with ⟨e1, e2⟩ | e1
        all_goals
          go_wp2_with fail
          generalize hw5 : World.alloc (World.alloc w3 _) _ = w5 at *
          clear hw5
          have hg5 : w3.heap.size + 1 < w5.heap.size := HW5.out.lt
          generalize w3.heap.size + 1 = nb at *
          go_loopw [15, 16, 17] (fun ov dv iv wr => ∃ (k : Nat) (o : List Se) (d : Bool), k ≤ n ∧ iv = .int .i64 (k : Int) ∧ dv = .bool d ∧ Own wr w5.heap.size 37 ov o ∧ Hid (Whole wr nb 37 #[.int .i64 c, .int .i64 q, .int .i64 a]) ∧ Hid (Below w5.heap.size w5 wr) ∧ Hid (Sm.rs X (c, q, a) l k o d)) (fun _ _ iv _ => n - (intOf iv).toNat)
          case atStart => exact ⟨0, [], false, Nat.zero_le _, rfl, rfl, Own.nil _ _ _, HW5, Lib.hid (Below.refl _ _), HZ⟩
          case round =>
            obtain ⟨k, o, d, hk, rfl, rfl, hown, HWr, HBr, hrs⟩ := hrel
            have hzr := HBr.out.size
            obtain ⟨k0, k1, k2⟩ := HWr.out.c3
            obtain ⟨Ao, co, rfl, hco, hmo⟩ := hown.sl.form
            have hol := hrs.out.2
            have hol : o.length ≤ k + 1 := by rcases d with _ | _ <;> simp at hol <;> omega
            have HOW := Lib.hid hown
            clear hown
            by_cases hlt : k < n
            · have hkl : k < l.length := by rw [HN.out]; exact hlt
              obtain ⟨b1, o1, rfl, -⟩ := (HV.out _ (Below.refl _ _)).sess k hkl
              have HENT : Hid (∀ W, Below w.heap.size w W → W.cell? ⟨b1, o1 + k * 3, none⟩ = some (.int .i64 (l[k]).1) ∧ W.cell? ⟨b1, o1 + k * 3 + 1, none⟩ = some (.int .i64 (l[k]).2.1) ∧ W.cell? ⟨b1, o1 + k * 3 + 2, none⟩ = some (.int .i64 (l[k]).2.2) ∧ Flat.wf l[k]) := fun W h => by
                obtain ⟨b, off, e, -, h0, h1, h2, h3⟩ := (HV.out W h).sess k hkl
                injection e with e
                injection e with e4 e5
                subst e4 e5
                exact ⟨h0, h1, h2, h3⟩
              have HBw := Lib.hid (HB5.out.trans (HBr.out.mono HB5.out.size))
              have hn1 := Lib.hid (fun (e : d = false) => @Sm.rs_in X (c, q, a) l k o (e ▸ hrs.out) hkl)
              have hn2 := Lib.hid (fun (e : d = false) => @Sm.rs_in2 X (c, q, a) l k o (e ▸ hrs.out) hkl)
              have hn3 := Lib.hid (fun (e : d = false) => @Sm.rs_on X (c, q, a) l k o (e ▸ hrs.out) hkl)
              have hn4 := Lib.hid (fun (e : d = true) => @Sm.rs_go X (c, q, a) l k o (e ▸ hrs.out) hkl)
              have hn5 := Lib.hid (fun (e : d = true) => @Sm.rs_by X (c, q, a) l k o (e ▸ hrs.out) hkl)
              clear hrs
              generalize l[k] = y at *
              have HWY := Lib.hid (HENT.out w (Below.refl _ _)).2.2.2
              obtain ⟨p0, p1, p2, -⟩ := HENT.out _ HBw.out
              obtain ⟨t0, t1, t2⟩ := y
              dsimp only at *
              clear hkl
              have i1 : (0 : Int) ≤ (k : Int) := by omega
              have i2 : (k : Int) < (n : Int) := by omega
              generalize hlo : o.length = lo at *
              have HLO := Lib.hid hlo
              clear hlo
              have HS1 := Lib.hid (Sl.new1 (α := Se) wr 37 (c, q, a) (sc (c, q, a)) HWF.out rfl)
              have HOA := Lib.hid (HOW.out.alloc (.cells (sc (c, q, a)) 37))
              have HBA := Lib.hid (HBr.out.alloc hzr (.cells (sc (c, q, a)) 37))
              have HS2 := Lib.hid (Sl.new1 (α := Se) wr 37 (t0, t1, t2) (sc (t0, t1, t2)) HWY.out rfl)
              have HOB := Lib.hid (HOW.out.alloc (.cells (sc (t0, t1, t2)) 37))
              have HBB := Lib.hid (HBr.out.alloc hzr (.cells (sc (t0, t1, t2)) 37))
              rcases d with _ | _
              · by_cases c1 : c ≤ t0
                · by_cases c2 : t0 = c
                  · have HX := Lib.hid (hn2.out rfl c1 c2)
                    have e2 : (t0 != c) = false := by simpa using c2
                    clear hn1 hn2 hn3 hn4 hn5 c2 HS2 HOB HBB
                    go_wp2_with (at_builtin; refine wpList_append_sl rfl (.tmp 62) (.tmp 64) rfl rowS w5.heap.size _ o rfl HOA.out (wr.heap.size + 1) _ [(c, q, a)] rfl HS1.out (by rw [HLO.out]; unfold maxLen; simp; omega) (by rw [HLO.out]; simp; omega) (by simp; omega) ?_; intro v6 w6 hown6 hg6 hat6; have hb6 := below_of_own HBA.out HOA.out hg6 (by simp; omega); have HO6 := Lib.hid hown6; have HB6 := Lib.hid hb6; have HW6 := Lib.hid (HW5.out.below hb6 hg5); obtain ⟨p3, p4, p5, -⟩ := HENT.out w6 (HB5.out.trans (hb6.mono HB5.out.size)); clear hown6 hg6 hat6 hb6)
                    go_roundw
                    case rel => exact ⟨k + 1, o ++ [(c, q, a)], true, by omega, by go_num, rfl, HO6.out, HW6, HB6, HX⟩
                    case measure => simp [intOf]; omega
                  · have HX := Lib.hid (hn1.out rfl c1 c2)
                    have e2 : (t0 != c) = true := by simpa using c2
                    clear hn1 hn2 hn3 hn4 hn5 c2 HS2 HOB HBB
                    go_wp2_with (first
                      | (at_builtin; refine wpList_append_sl rfl (.tmp 62) (.tmp 64) rfl rowS w5.heap.size _ o rfl HOA.out (wr.heap.size + 1) _ [(c, q, a)] rfl HS1.out (by rw [HLO.out]; unfold maxLen; simp; omega) (by rw [HLO.out]; simp; omega) (by simp; omega) ?_; intro v6 w6 hown6 hg6 hat6; have hb6 := below_of_own HBA.out HOA.out hg6 (by simp; omega); have hz6 := hb6.size; have HOC := Lib.hid (hown6.alloc (.cells (sc (t0, t1, t2)) 37)); have HS3 := Lib.hid (Sl.new1 (α := Se) w6 37 (t0, t1, t2) (sc (t0, t1, t2)) HWY.out rfl); have HBC := Lib.hid (hb6.alloc hz6 (.cells (sc (t0, t1, t2)) 37)); obtain ⟨p3, p4, p5, -⟩ := HENT.out w6 (HB5.out.trans (hb6.mono HB5.out.size)); clear hown6 hg6 hat6 hb6)
                      | (at_builtin; refine wpList_append_sl rfl (.tmp 73) (.tmp 78) rfl rowS w5.heap.size _ (o ++ [(c, q, a)]) rfl HOC.out (w6.heap.size + 1) _ [(t0, t1, t2)] rfl HS3.out (by rw [List.length_append, HLO.out]; unfold maxLen; simp; omega) (by rw [List.length_append, HLO.out]; simp; omega) (by simp; omega) ?_; intro v7 w7 hown7 hg7 hat7; have hb7 := below_of_own HBC.out HOC.out hg7 (by simp; omega); have HO7 := Lib.hid hown7; have HB7 := Lib.hid hb7; have HW7 := Lib.hid (HW5.out.below hb7 hg5); clear hown7 hg7 hat7 hb7))
                    go_roundw
                    case rel => exact ⟨k + 1, o ++ [(c, q, a)] ++ [(t0, t1, t2)], true, by omega, by go_num, rfl, HO7.out, HW7, HB7, HX⟩
                    case measure => simp [intOf]; omega
                · have HX := Lib.hid (hn3.out rfl c1)
                  have d1 : decide (c ≤ t0) = false := by simpa using c1
                  have e2 : (t0 != c) = true := by simp; omega
                  clear hn1 hn2 hn3 hn4 hn5 c1 HS1 HOA HBA
                  go_wp2_with (at_builtin; refine wpList_append_sl rfl (.tmp 73) (.tmp 78) rfl rowS w5.heap.size _ o rfl HOB.out (wr.heap.size + 1) _ [(t0, t1, t2)] rfl HS2.out (by rw [HLO.out]; unfold maxLen; simp; omega) (by rw [HLO.out]; simp; omega) (by simp; omega) ?_; intro v6 w6 hown6 hg6 hat6; have hb6 := below_of_own HBB.out HOB.out hg6 (by simp; omega); have HO6 := Lib.hid hown6; have HB6 := Lib.hid hb6; have HW6 := Lib.hid (HW5.out.below hb6 hg5); clear hown6 hg6 hat6 hb6)
                  go_roundw
                  case rel => exact ⟨k + 1, o ++ [(t0, t1, t2)], false, by omega, by go_num, rfl, HO6.out, HW6, HB6, HX⟩
                  case measure => simp [intOf]; omega
              · by_cases c2 : t0 = c
                · have HX := Lib.hid (hn5.out rfl c2)
                  have e2 : (t0 != c) = false := by simpa using c2
                  clear hn1 hn2 hn3 hn4 hn5 c2 HS2 HOB HBB HS1 HOA HBA
                  go_wp2_with fail
                  go_roundw
                  case rel => exact ⟨k + 1, o, true, by omega, by go_num, rfl, HOW.out, HWr, HBr, HX⟩
                  case measure => simp [intOf]; omega
                · have HX := Lib.hid (hn4.out rfl c2)
                  have e2 : (t0 != c) = true := by simpa using c2
                  clear hn1 hn2 hn3 hn4 hn5 c2 HS1 HOA HBA
                  go_wp2_with (at_builtin; refine wpList_append_sl rfl (.tmp 73) (.tmp 78) rfl rowS w5.heap.size _ o rfl HOB.out (wr.heap.size + 1) _ [(t0, t1, t2)] rfl HS2.out (by rw [HLO.out]; unfold maxLen; simp; omega) (by rw [HLO.out]; simp; omega) (by simp; omega) ?_; intro v6 w6 hown6 hg6 hat6; have hb6 := below_of_own HBB.out HOB.out hg6 (by simp; omega); have HO6 := Lib.hid hown6; have HB6 := Lib.hid hb6; have HW6 := Lib.hid (HW5.out.below hb6 hg5); clear hown6 hg6 hat6 hb6)
                  go_roundw
                  case rel => exact ⟨k + 1, o ++ [(t0, t1, t2)], true, by omega, by go_num, rfl, HO6.out, HW6, HB6, HX⟩
                  case measure => simp [intOf]; omega
            · have hE := Sm.rest_stop hrs.out (by rw [HN.out]; omega)
              have HE := Lib.hid hE
              clear hE hrs
              generalize hlo : o.length = lo at *
              have HLO := Lib.hid hlo
              clear hlo
              rcases d with _ | _
              · have HS1 := Lib.hid (Sl.new1 (α := Se) wr 37 (c, q, a) (sc (c, q, a)) HWF.out rfl)
                have HOA := Lib.hid (HOW.out.alloc (.cells (sc (c, q, a)) 37))
                have HBA := Lib.hid (HBr.out.alloc hzr (.cells (sc (c, q, a)) 37))
                go_wp2_with (at_builtin; refine wpList_append_sl rfl (.tmp 82) (.tmp 84) rfl rowS w5.heap.size _ o rfl HOA.out (wr.heap.size + 1) _ [(c, q, a)] rfl HS1.out (by rw [HLO.out]; unfold maxLen; simp; omega) (by rw [HLO.out]; simp; omega) (by simp; omega) ?_; intro v6 w6 hown6 hg6 hat6; have hb6 := below_of_own HBA.out HOA.out hg6 (by simp; omega); obtain ⟨A6, c6, rfl, -, -⟩ := hown6.sl.form; have hl6 : (o ++ [((c, q, a) : Se)]).length = lo + 1 := (by rw [List.length_append, HLO.out]; rfl); have HL6 := Lib.hid hl6; rw [hl6] at hown6 ⊢; have HO6 := Lib.hid hown6; have HB6 := Lib.hid hb6; clear hown6 hg6 hat6 hb6 hl6)
                go_ret2
                exact putOut_ok (by rw [HE.out]; rfl) HL6.out.symm (HO6.out.down HB5.out.size) (HB5.out.trans (HB6.out.mono HB5.out.size))
              · go_wp2_with fail
                go_ret2
                exact putOut_ok (by rw [HE.out]; simp) HLO.out.symm (HOW.out.down HB5.out.size) (HB5.out.trans (HBr.out.mono HB5.out.size))
    · obtain rfl := he2.out rfl rfl
      clear he1 he2 he3 he4 HF hok
      go_wp2_with fail
      go_ret2
      exact putOut_err HB2.out
  · obtain rfl := he1.out h3
    have d3 : (x3 != 0) = true := by simpa using h3
    clear he1 he2 he3 he4 HF hok
    go_wp2_with fail
    go_ret2
    exact putOut_err HB2.out
end Go.Proofs.Ytpfhigcfpchkkaa
