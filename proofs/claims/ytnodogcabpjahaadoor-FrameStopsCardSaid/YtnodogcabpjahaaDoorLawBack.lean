/-
  A frame that was put is got, whatever is behind it; frames one behind the other are run: what the law's text comes to.
-/
import Derived.Test.YtnodogcabpjahaaDoorAwk
import Derived.Test.YtnodogcabpjahaaDoorFsame
import Derived.Test.YtnodogcabpjahaaDoorLawGets
import Derived.Test.YtnodogcabpjahaaDoorGrow
namespace Go.Proofs.YtnodogcabpjahaaDoor
open Go.RowKit

theorem encs_take_succ (l : List Frm.F) (k : Nat) (h : k < l.length) : Frm.encs (l.take (k + 1)) = Frm.encs (l.take k) ++ Frm.enc l[k] := by
  rw [List.take_succ_eq_append_getElem h, Frm.encs_snoc]
theorem encs_len (l : List Frm.F) (h : ∀ f ∈ l, Frm.ok f) : (Frm.encs l).length ≤ l.length * 4104 := by
  induction l with
  | nil => simp [Frm.encs]
  | cons f l ih =>
    have h1 := (h f (by simp)).2.2
    have h2 := ih (fun g hg => h g (by simp [hg]))
    rw [Frm.encs_cons, List.length_append, Frm.enc_length, List.length_cons, Nat.add_mul]
    omega
/-- The first k frames have an encoding. -/
def OkTo (l : List Frm.F) (k : Nat) : Prop := ∀ i (hi : i < l.length), i < k → Frm.ok l[i]
theorem okTo_zero (l : List Frm.F) : OkTo l 0 := fun _ _ h => absurd h (by omega)
theorem okTo_succ {l : List Frm.F} {k : Nat} (h : OkTo l k) (hk : k < l.length) (hm : Frm.ok l[k]) : OkTo l (k + 1) := fun i hi hik => by
  by_cases e : i = k
  · subst e; exact hm
  · exact h i hi (by omega)
theorem okTo_all {l : List Frm.F} {k : Nat} (h : OkTo l k) (hk : l.length ≤ k) : ∀ f ∈ l, Frm.ok f := fun f hf => by
  obtain ⟨i, hi, rfl⟩ := List.getElem_of_mem hf
  exact h i hi (by omega)
theorem okTo_take {l : List Frm.F} {k : Nat} (h : OkTo l k) : ∀ f ∈ l.take k, Frm.ok f := fun f hf => by
  obtain ⟨i, hi, rfl⟩ := List.getElem_of_mem hf
  rw [List.length_take] at hi
  rw [List.getElem_take]
  exact h i (by omega) (by omega)
theorem take_one_drop {α : Type} (l : List α) (k : Nat) (h : k < l.length) : (l.drop k).take 1 = [l[k]] := by
  rw [List.drop_eq_getElem_cons h]; rfl
/-- A piece of one element. -/
theorem Sl.piece {α : Type} [Rep α] {w : World} {B n c b off : Nat} {l : List α} (h : Sl w B (.slice (some ⟨b, off, none⟩) n c) l) (k : Nat) (hk : k < l.length) : Sl w B (.slice (some ⟨b, off + k * Rep.sz α, none⟩) 1 (c - k)) [l[k]] := by
  have hr := h.room
  have h1 := (h.drop k (by omega)).take 1 (c - k) (by omega) (by omega) (by omega)
  rw [if_neg (by omega), Option.map_some, add_at, take_one_drop l k hk] at h1
  exact h1

set_option maxRecDepth 100000 in
set_option maxHeartbeats 2000000 in
theorem back_law (w : World) (hT : Tab w) (v1 v2 : Value) (l : List Frm.F) (mo : List UInt8) (h1 : Sl w w.heap.size v1 l) (h2 : Sl w w.heap.size v2 mo) :
    Calls Tryd.prog 5 #[v1, v2] w fun e w' => e = .returned (.bool true) ∧ Below w.heap.size w w' := by
  obtain ⟨A, c, rfl, hc, hm⟩ := h1.form
  obtain ⟨A2, c2, rfl, hc2, hm2⟩ := h2.form
  unfold maxLen at hm hm2
  have hpos := hT.pos
  have HK := Lib.hid (awake_any w hT)
  by_cases hout : 10 < l.length ∨ 100 < mo.length
  · clear h1 h2 hT
    generalize l.length = n at *
    generalize mo.length = m at *
    rcases (show 10 < n ∨ (n ≤ 10 ∧ 100 < m) by omega) with h | ⟨h, h'⟩
    all_goals
      clear hout
      go_enter Tryd.func5, Tryd.ntmps5
      go_wp2_with fail
      refine HK.out.mono ?_
      rintro e w1 ⟨rfl, hb1⟩
      go_wp2_with fail
      go_ret
      exact ⟨rfl, hb1⟩
  · have HL := Lib.hid (fun W (h : Below w.heap.size w W) => h1.below h)
    have HM := Lib.hid (fun W (h : Below w.heap.size w W) => h2.below h)
    have HT := Lib.hid (fun W (h : Below w.heap.size w W) => hT.below h hpos)
    have hn10 : l.length ≤ 10 := by omega
    have hm100 : mo.length ≤ 100 := by omega
    clear h1 h2 hT hout
    generalize hnl : l.length = n at *
    have HN := Lib.hid hnl
    generalize hml : mo.length = m at *
    have HML := Lib.hid hml
    clear hnl hml
    go_enter Tryd.func5, Tryd.ntmps5
    go_wp2_with fail
    refine HK.out.mono ?_
    rintro e w1 ⟨rfl, hb1⟩
    go_wp2_with fail
    go_loopw [6, 7] (fun x i wr => ∃ k : Nat, k ≤ n ∧ i = .int .i64 (k : Int) ∧ OkTo l k ∧ Own wr w.heap.size 5 x (Frm.encs (l.take k)) ∧ Below w.heap.size w wr) (fun _ i _ => n - (intOf i).toNat)
    case atStart => exact ⟨0, Nat.zero_le _, rfl, okTo_zero l, Own.nil _ _ _, hb1⟩
    case round =>
      obtain ⟨k, hk, rfl, hok, hown, hb⟩ := hrel
      by_cases hlt : k < n
      · have hkl : k < l.length := by rw [HN.out]; exact hlt
        have hs := HL.out wr hb
        obtain ⟨b, off, Ab, cb, rfl, hbB, g0, g1, sb⟩ := hs.frame k hkl
        have hpc := Lib.hid (fun W (h : Below w.heap.size w W) => (HL.out W h).piece k hkl)
        have hP := Lib.hid (put_any (l[k]).1 _ (l[k]).2 wr w.heap.size hb.size sb (HT.out wr hb))
        have HOK := Lib.hid (fun h => okTo_succ hok hkl h)
        have hts := Lib.hid (encs_take_succ l k hkl)
        have hle := encs_len (l.take k) (okTo_take hok)
        rw [List.length_take] at hle
        have hle2 : (Frm.encs (l.take k)).length ≤ 41040 := by omega
        obtain ⟨Aa, ca, rfl, _, _⟩ := hown.sl.form
        have HLE := Lib.hid hle2
        have HOWN := Lib.hid hown
        generalize hxl0 : (Frm.encs (l.take k)).length = xl at *
        have HXL := Lib.hid hxl0
        clear hxl0
        have HB := Lib.hid hb
        have i1 : (0 : Int) ≤ (k : Int) := by omega
        have i2 : (k : Int) < (n : Int) := by omega
        have hput := @Frm.put_ok l[k]
        have hbad := @Frm.put_err l[k]
        have hget := @Frm.get_enc l[k]
        have hel := Frm.enc_length l[k]
        clear hs sb hok hle hle2 hown hb
        generalize l[k] = f at *
        obtain ⟨fk, fb⟩ := f
        simp only at g0 g1 hP hget hel
        clear hkl
        by_cases h5 : 5000 < fb.length
        · clear hput hbad hget hel
          generalize fb.length = fl at *
          go_wp2_with fail
          go_ret
          exact ⟨rfl, HB.out⟩
        · by_cases ho : Frm.ok (fk, fb)
          · have hfb := ho.2.2
            rw [hput ho] at hP
            have hG := Lib.hid (fun W v (h : Sl W W.heap.size v (Frm.enc (fk, fb) ++ mo)) (hT : Tab W) => get_any v (Frm.enc (fk, fb) ++ mo) (by rw [List.length_append, hel, HML.out]; simp only at hfb ⊢; omega) W W.heap.size (Nat.le_refl _) h hT)
            rw [hget ho mo] at hG
            have hkd : -9223372036854775808 ≤ fk ∧ fk ≤ 9223372036854775807 := by have := ho.1; have := ho.2.1; simp only at *; omega
            have HOK2 := Lib.hid (HOK.out ho)
            have HP := hP
            clear hput hbad hget HOK ho hP
            simp only at hfb hel
            have HSM := Lib.hid (fun W v1 v2 (h1 : Sl W W.heap.size v1 [((fk, fb) : Frm.F)]) (h2 : Sl W W.heap.size v2 [((fk, fb) : Frm.F)]) => fsame_any v1 v2 [(fk, fb)] (by simp) W W.heap.size (Nat.le_refl _) h1 h2)
            generalize Frm.enc (fk, fb) = p at *
            have hpl : p.length ≤ 4104 := by omega
            have HEL := Lib.hid hel
            clear hel
            generalize hpln : p.length = pl at *
            have HPLN := Lib.hid hpln
            clear hpln
            generalize hflen : fb.length = fl at *
            have HFL := Lib.hid hflen
            clear hflen
            go_wp2_with fail
            with_reducible refine HP.out.mono ?_
            rintro e w3 ⟨A3, c3, rfl, ho3, hb3⟩
            dsimp only at ho3 ⊢
            rw [HPLN.out] at ho3 ⊢
            have HB3 := Lib.hid (HB.out.trans (hb3.mono HB.out.size))
            have HO3 := Lib.hid ho3
            have HOWN3 := Lib.hid (HOWN.out.below hb3)
            have hz3 := HB3.out.size
            have tok : True := trivial
            clear ho3
            go_wp2_with (first
              | (at_builtin; have _t := tok; refine wpList_append_sl rfl _ (.tmp 59) rfl rowB w3.heap.size _ [] rfl (Own.nil _ _ _) w3.heap.size _ p rfl HO3.out.sl (by rw [HPLN.out]; unfold maxLen; simp; omega) (by rw [HPLN.out]; simp; omega) (Nat.le_refl _) ?_; intro v4 w4 hown4 hg4 hat4; rw [List.nil_append] at hown4; have HB4 := Lib.hid (below_of_own (Below.refl w3.heap.size w3) (Own.nil w3 w3.heap.size 5 (α := UInt8)) hg4 (Nat.le_refl _)); have HO4 := Lib.hid hown4; clear hg4 hat4 hown4 tok)
              | (at_builtin; refine wpList_append_sl rfl (.tmp 60) (.tmp 61) rfl rowB w3.heap.size _ p rfl HO4.out w.heap.size _ mo rfl (HM.out _ (HB3.out.trans (HB4.out.mono hz3))) (by rw [HPLN.out, HML.out]; unfold maxLen; simp; omega) (by rw [HPLN.out, HML.out]; simp; omega) HB4.out.size ?_; intro v5 w5 hown5 hg5 hat5; have HB5 := Lib.hid (below_of_own HB4.out HO4.out hg5 HB4.out.size); have HO5 := Lib.hid hown5; clear hg5 hat5 hown5))
            have HB5' := Lib.hid (HB3.out.trans (HB5.out.mono hz3))
            with_reducible refine (hG.out _ _ HO5.out.sl (HT.out _ HB5'.out)).mono ?_
            rintro e w6 ⟨A6, c6, rfl, ho6, hb6⟩
            dsimp only at ho6 ⊢
            rw [HFL.out] at ho6 ⊢
            have hz5 := HB5.out.size
            have hx7 : Below w6.heap.size w6 (w6.alloc (.cells #[.int .i64 fk, .slice A6 fl c6] 24)) := (Below.refl _ _).alloc (Nat.le_refl _) _
            have hW7 := Whole.new w6 24 #[.int .i64 fk, .slice A6 fl c6]
            have hs7 := (ho6.sl.below hx7).here
            have HB37 := Lib.hid ((HB5.out.trans (hb6.mono hz5)).trans (hx7.mono (Nat.le_trans hz5 hb6.size)))
            have HB7 := Lib.hid (HB3.out.trans (HB37.out.mono hz3))
            have HW7 := Lib.hid hW7
            have HS7 := Lib.hid hs7
            clear ho6 hx7 hW7 hs7
            have HX7 : Hid (w6.heap.size < (w6.alloc (.cells #[.int .i64 fk, .slice A6 fl c6] 24)).heap.size) := by show _ < _; rw [World.size_alloc]; exact Nat.lt_succ_self _
            go_wp2_with fail
            generalize w6.alloc (.cells #[.int .i64 fk, .slice A6 fl c6] 24) = w7 at *
            have hK0 : Hid (∀ W, Below w7.drew.heap.size w7.drew W → W.cell? ⟨w6.heap.size, 0, none⟩ = some (.int .i64 fk)) := fun W h => (HW7.out.below ((Below.refl w7.heap.size w7).drew.trans h) HX7.out).cell 0
            have hK1 : Hid (∀ W, Below w7.drew.heap.size w7.drew W → W.cell? ⟨w6.heap.size, 1, none⟩ = some (.slice A6 fl c6)) := fun W h => (HW7.out.below ((Below.refl w7.heap.size w7).drew.trans h) HX7.out).cell 1
            have HC : Hid (Calls Tryd.prog 17 #[.slice (some ⟨w7.heap.size, 0, none⟩) 1 1, .slice (some ⟨b, off + k * 2, none⟩) 1 (c - k)] (w7.alloc (.cells #[.int .i64 fk, .slice A6 fl c6] 24)).drew (fun e w8 => e = .returned (.bool true) ∧ Below w7.heap.size w7 w8 ∧ Below (w7.alloc (.cells #[.int .i64 fk, .slice A6 fl c6] 24)).drew.heap.size (w7.alloc (.cells #[.int .i64 fk, .slice A6 fl c6] 24)).drew w8)) := by
              have hbx : Below w7.heap.size w7 (w7.alloc (.cells #[.int .i64 fk, .slice A6 fl c6] 24)).drew := ((Below.refl _ _).alloc (Nat.le_refl _) _).drew
              have o1 : Sl (w7.alloc (.cells #[.int .i64 fk, .slice A6 fl c6] 24)).drew (w7.alloc (.cells #[.int .i64 fk, .slice A6 fl c6] 24)).drew.heap.size (.slice (some ⟨w7.heap.size, 0, none⟩) 1 1) [((fk, fb) : Frm.F)] := (one_frame hkd HS7.out).drew.here
              have o2 : Sl (w7.alloc (.cells #[.int .i64 fk, .slice A6 fl c6] 24)).drew (w7.alloc (.cells #[.int .i64 fk, .slice A6 fl c6] 24)).drew.heap.size (.slice (some ⟨b, off + k * 2, none⟩) 1 (c - k)) [((fk, fb) : Frm.F)] := (hpc.out _ (HB7.out.trans (hbx.mono HB7.out.size))).here
              exact (HSM.out _ _ _ o1 o2).mono fun e w8 ⟨he, hb⟩ => ⟨he, hbx.trans (hb.mono hbx.size), hb⟩
            have i3 : (k : Int) ≤ (k : Int) + 1 := by omega
            have i4 : (k : Int) + 1 ≤ (c : Int) := by omega
            have i5 : ((k : Int) + 1).toNat = k + 1 := by omega
            have i6 : ¬ c = k := by omega
            have i7 : IntKind.i64.wrap ((k : Int) + 1) = (k : Int) + 1 := by rw [IntKind.wrap_i64]; omega
            have i8 : k + 1 - k = 1 := by omega
            refine g_start (by kernel_rfl) ?_
            refine g_take (i := 0) (v := ?_) rfl (by kernel_rfl) (by kernel_rfl) (by kernel_rfl) (fun _ _ _ h => h) (by rfl) ?_ ?_
            rotate_left
            · intro W hW
              have q := And.intro (hK0.out W hW) (hK1.out W hW)
              go_simp
              first | done | rfl
            simp only [Act.put, List.setIfInBounds_toArray, List.set_cons_zero, List.set_cons_succ, List.getElem_toArray, List.getElem_cons_zero]
            refine g_take (i := 2) (v := ?_) rfl (by kernel_rfl) (by kernel_rfl) (by kernel_rfl) (fun _ _ _ h => h) (by rfl) ?_ ?_
            rotate_left
            · intro W hW
              go_simp
              first | done | rfl
            simp only [Act.put, List.setIfInBounds_toArray, List.set_cons_zero, List.set_cons_succ, List.getElem_toArray, List.getElem_cons_zero, List.getElem_cons_succ]
            refine g_take (i := 3) (v := ?_) rfl (by kernel_rfl) (by kernel_rfl) (by kernel_rfl) (fun _ _ _ h => h) (by rfl) ?_ ?_
            rotate_left
            · intro W hW
              go_simp
              first | done | rfl
            simp only [Act.put, List.setIfInBounds_toArray, List.set_cons_zero, List.set_cons_succ, List.getElem_toArray, List.getElem_cons_zero, List.getElem_cons_succ]
            refine g_take (i := 4) (v := ?_) rfl (by kernel_rfl) (by kernel_rfl) (by kernel_rfl) (fun _ _ _ h => h) (by rfl) ?_ ?_
            rotate_left
            · intro W hW
              go_simp
              first | done | rfl
            simp only [Act.put, List.setIfInBounds_toArray, List.set_cons_zero, List.set_cons_succ, List.getElem_toArray, List.getElem_cons_zero, List.getElem_cons_succ]
            refine g_take (i := 5) (v := ?_) rfl (by kernel_rfl) (by kernel_rfl) (by kernel_rfl) (fun _ _ _ h => h) (by rfl) ?_ ?_
            rotate_left
            · intro W hW
              go_simp
              first | done | rfl
            simp only [Act.put, List.setIfInBounds_toArray, List.set_cons_zero, List.set_cons_succ, List.getElem_toArray, List.getElem_cons_zero, List.getElem_cons_succ]
            refine g_take (i := 6) (v := ?_) rfl (by kernel_rfl) (by kernel_rfl) (by kernel_rfl) (fun _ _ _ h => h) (by rfl) ?_ ?_
            rotate_left
            · intro W hW
              go_simp
              first | done | rfl
            simp only [Act.put, List.setIfInBounds_toArray, List.set_cons_zero, List.set_cons_succ, List.getElem_toArray, List.getElem_cons_zero, List.getElem_cons_succ]
            refine g_make (i := 1) (v := ?_) (w' := ?_) rfl (by kernel_rfl) (by rfl) ?_ ?_ ?_
            rotate_left 2
            · go_simp
              first | done | (constructor <;> rfl)
            · exact (show Below w7.drew.heap.size w7.drew (w7.drew.alloc _) from (Below.refl _ _).alloc (Nat.le_refl _) _)
            simp only [Act.put, List.setIfInBounds_toArray, List.set_cons_zero, List.set_cons_succ, List.getElem_toArray, List.getElem_cons_zero, List.getElem_cons_succ]
            refine g_call (i := 7) (f := 17) (args := #[.slice (some ⟨w7.heap.size, 0, none⟩) 1 1, .slice (some ⟨b, off + k * 2, none⟩) 1 (c - k)]) rfl (by kernel_rfl) (by rfl) (by go_simp) ?_
            refine (HC.out).mono ?_
            rintro e w8 ⟨he8, hb8⟩
            refine ⟨_, he8, hb8.2, ?_⟩
            simp only [Act.put, List.setIfInBounds_toArray, List.set_cons_zero, List.set_cons_succ, List.getElem_toArray, List.getElem_cons_zero, List.getElem_cons_succ]
            refine g_take (i := 8) (v := ?_) rfl (by kernel_rfl) (by kernel_rfl) (by kernel_rfl) (fun _ _ _ h => h) (by rfl) ?_ ?_
            rotate_left
            · intro W hW
              go_simp
              first | done | rfl
            simp only [Act.put, List.setIfInBounds_toArray, List.set_cons_zero, List.set_cons_succ, List.getElem_toArray, List.getElem_cons_zero, List.getElem_cons_succ]
            refine g_done (by kernel_rfl) ?_
            clear i3 i4 i5 i6 i7 i8
            have HB38 := Lib.hid (HB37.out.trans (hb8.1.mono (Nat.le_trans hz5 (Nat.le_trans hb6.size (Nat.le_of_lt HX7.out)))))
            have HB8 := Lib.hid (HB3.out.trans (HB38.out.mono hz3))
            have HOWN8 := Lib.hid (HOWN3.out.below HB38.out)
            have HS8 := Lib.hid (HO3.out.sl.below HB38.out)
            have hxl := HLE.out
            have hnn : ((fl : Int) + 8 != (pl : Int)) = false := by have := HEL.out; simp; omega
            go_wp2_with (at_builtin; refine wpList_append_sl rfl (.tmp 87) (.tmp 88) rfl rowB w.heap.size _ _ rfl HOWN8.out w3.heap.size _ p rfl HS8.out (by rw [HPLN.out, HXL.out]; unfold maxLen; omega) (by rw [HPLN.out, HXL.out]; omega) HB8.out.size ?_; intro v9 w9 hown9 hg9 hat9; have HB9 := Lib.hid (below_of_own HB8.out HOWN8.out hg9 HB8.out.size); have HO9 := Lib.hid hown9; clear hg9 hat9 hown9)
            go_roundw
            case rel => exact ⟨k + 1, hlt, by go_num, HOK2.out, by rw [hts.out]; exact HO9.out, HB9.out⟩
            case measure => simp [intOf]; omega
          · obtain ⟨hb1, hb2⟩ := hbad ho
            generalize Frm.put (fk, fb) = p at *
            obtain ⟨p1, p2⟩ := p
            simp only at hb1 hb2
            subst hb1
            have hne : (p2 != 0) = true := by simpa using hb2
            have HP := hP
            clear hput hget hel hbad ho hb2 HOK hP
            generalize fb.length = fl at *
            go_wp2_with fail
            with_reducible refine HP.out.mono ?_
            rintro e w3 ⟨A3, c3, rfl, ho3, hb3⟩
            simp only [List.length_nil]
            have hb4 := HB.out.trans (hb3.mono HB.out.size)
            clear ho3
            go_wp2_with fail
            go_ret
            exact ⟨rfl, hb4⟩
      · have hall := okTo_all hok (by rw [HN.out]; omega)
        have hkl : l.take k = l := List.take_of_length_le (by rw [HN.out]; omega)
        rw [hkl] at hown
        have hle := encs_len l hall
        rw [HN.out] at hle
        have hrun := Frm.run_encs l [] hall
        rw [List.append_nil, Frm.run_nil] at hrun
        simp only [List.append_nil, Int.add_zero] at hrun
        have HR := Lib.hid (run_any _ (Frm.encs l) (by omega) wr wr.heap.size (Nat.le_refl _) hown.sl (HT.out wr hb))
        rw [hrun] at HR
        have HSM := Lib.hid (fun W v1 v2 (h1 : Sl W W.heap.size v1 l) (h2 : Sl W W.heap.size v2 l) => fsame_any v1 v2 l (by rw [HN.out]; omega) W W.heap.size (Nat.le_refl _) h1 h2)
        obtain ⟨Aa, ca, rfl, _, _⟩ := hown.sl.form
        have HB := Lib.hid hb
        clear hown hrun hkl hall hok hle hb
        generalize (Frm.encs l).length = xl at *
        have hd : ((xl : Int) == (xl : Int)) = true := by simp
        go_wp2_with fail
        with_reducible refine HR.out.mono ?_
        rintro e w2 ⟨A3, c3, rfl, ho3, hb2⟩
        dsimp only at ho3 ⊢
        rw [HN.out] at ho3 ⊢
        have hb3 := HB.out.trans (hb2.mono HB.out.size)
        have HS := Lib.hid (HSM.out w2 _ _ ho3 (HL.out w2 hb3).here)
        have HB3 := Lib.hid hb3
        clear ho3
        go_wp2_with fail
        with_reducible refine HS.out.mono ?_
        rintro e w4 ⟨rfl, hb4⟩
        have hb5 := HB3.out.trans (hb4.mono HB3.out.size)
        go_wp2_with fail
        go_ret
        exact ⟨rfl, hb5⟩
end Go.Proofs.YtnodogcabpjahaaDoor
