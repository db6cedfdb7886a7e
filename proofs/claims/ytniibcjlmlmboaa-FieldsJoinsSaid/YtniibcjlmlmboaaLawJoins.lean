/-
  Fields one behind the other are cut off one by one: what the law's text comes to.
-/
import Derived.Test.YtniibcjlmlmboaaAwk
import Derived.Test.YtniibcjlmlmboaaOuts
import Derived.StillTailTactics
namespace Go.Proofs.Ytniibcjlmlmboaa
open Go.RowKit

abbrev FD := List Int × List UInt8
theorem Sl.fields {w : World} {B n c : Nat} {A : Option Addr} {L : List FD} (h : Sl w B (.slice A n c) L) (k : Nat) (hk : k < L.length) :
    ∃ b off A1 c1 A2 c2, A = some ⟨b, off, none⟩ ∧ b < B ∧ w.cell? ⟨b, off + k * 2, none⟩ = some (.slice A1 (L[k].1).length c1) ∧ w.cell? ⟨b, off + k * 2 + 1, none⟩ = some (.slice A2 (L[k].2).length c2) ∧ Sl w B (.slice A1 (L[k].1).length c1) L[k].1 ∧ Sl w B (.slice A2 (L[k].2).length c2) L[k].2 := by
  have hr := h.room
  obtain ⟨b, off, ds, e, hb, ⟨d1, d2, rfl, ⟨v1, rfl, h1⟩, ⟨v2, rfl, h2⟩⟩, h3⟩ := h.at_ k (by omega) hk
  obtain ⟨A1, c1, rfl, _, _⟩ := h1.form
  obtain ⟨A2, c2, rfl, _, _⟩ := h2.form
  refine ⟨b, off, A1, c1, A2, c2, e, hb, ?_, ?_, h1, h2⟩
  · have := h3 0 _ rfl
    rwa [show Rep.sz FD = 2 from rfl, Nat.add_zero] at this
  · have := h3 1 _ rfl
    rwa [show Rep.sz FD = 2 from rfl] at this

def joined (L : List FD) : List UInt8 := L.flatMap fun f => Fm.bytes f.1 f.2
/-- Fields that the law lets through. -/
def good (f : FD) : Prop := Fm.pack f.1 f.2 = (Fm.bytes f.1 f.2, 0) ∧ f.1.length ≤ 20 ∧ f.2.length ≤ 200 ∧ ∀ n ∈ f.1, Fm.may n
theorem good_len {f : FD} (h : good f) : (Fm.bytes f.1 f.2).length ≤ 363 := by
  obtain ⟨_, h1, h2, h3⟩ := h
  have := Fm.sum_le h3
  rw [Fm.bytes_length]
  omega
theorem joined_len : ∀ {L : List FD}, (∀ f ∈ L, good f) → (joined L).length ≤ 363 * L.length
  | [], _ => by simp [joined]
  | f :: L, h => by
    have h1 := good_len (h f (by simp))
    have h2 := joined_len (L := L) (fun g hg => h g (by simp [hg]))
    have e : joined (f :: L) = Fm.bytes f.1 f.2 ++ joined L := rfl
    rw [e, List.length_append, List.length_cons]
    omega
theorem joined_snoc (L : List FD) (f : FD) : joined (L ++ [f]) = joined L ++ Fm.bytes f.1 f.2 := by simp [joined]
/-- The first k are let through. -/
def GoodTo (L : List FD) (k : Nat) : Prop := ∀ f ∈ L.take k, good f
theorem goodTo_zero (L : List FD) : GoodTo L 0 := fun f h => by simp at h
theorem goodTo_succ {L : List FD} {k : Nat} (h : GoodTo L k) (hk : k < L.length) (hg : good L[k]) : GoodTo L (k + 1) := fun f hf => by
  rw [List.take_succ_eq_append_getElem hk] at hf
  rcases List.mem_append.1 hf with h1 | h1
  · exact h f h1
  · rw [List.mem_singleton.1 h1]; exact hg
theorem goodTo_len {L : List FD} {k : Nat} (h : GoodTo L k) : (joined (L.take k)).length ≤ 363 * k := by
  have := joined_len h
  have h2 : (L.take k).length ≤ k := List.length_take_le _ _
  omega
theorem joined_take_succ (L : List FD) (k : Nat) (h : k < L.length) : joined (L.take (k + 1)) = joined (L.take k) ++ Fm.bytes L[k].1 L[k].2 := by
  rw [List.take_succ_eq_append_getElem h, joined_snoc]
theorem joined_drop (L : List FD) (k : Nat) (h : k < L.length) : joined (L.drop k) = Fm.bytes L[k].1 L[k].2 ++ joined (L.drop (k + 1)) := by
  rw [List.drop_eq_getElem_cons h]; rfl

set_option maxRecDepth 100000 in
theorem joins_law (w : World) (v : Value) (L : List FD) (hv : Sl w w.heap.size v L) :
    Calls Try.prog 9 #[v] w fun e w' => e = .returned (.bool true) ∧ Below w.heap.size w w' := by
  obtain ⟨A, c, rfl, _, hm⟩ := hv.form
  unfold maxLen at hm
  have HK := Lib.hid (awake_any w)
  by_cases hout : 10 < L.length
  · clear hv
    generalize L.length = n at *
    go_enter Try.func9, Try.ntmps9
    go_wp2_with fail
    refine HK.out.mono ?_
    rintro e w1 ⟨rfl, hb1⟩
    go_wp2_with fail
    go_ret
    exact ⟨rfl, hb1⟩
  · have HV := Lib.hid (fun W (hb : Below w.heap.size w W) => hv.below hb)
    clear hv
    generalize hn : L.length = n at *
    have HNL := Lib.hid hn
    clear hn
    go_enter Try.func9, Try.ntmps9
    go_wp2_with fail
    refine HK.out.mono ?_
    rintro e w1 ⟨rfl, hb1⟩
    go_wp2_with fail
    go_loopw [4, 5] (fun x i wr => ∃ k : Nat, k ≤ n ∧ i = .int .i64 (k : Int) ∧ GoodTo L k ∧ Own wr w.heap.size 5 x (joined (L.take k)) ∧ Below w.heap.size w wr) (fun _ i _ => n - (intOf i).toNat)
    case atStart => exact ⟨0, Nat.zero_le _, rfl, goodTo_zero L, Own.nil _ _ _, hb1⟩
    case round =>
      obtain ⟨k, hk, rfl, hgood, hown, hb⟩ := hrel
      have hjl := goodTo_len hgood
      by_cases hlt : k < n
      · have hkl : k < L.length := by have := HNL.out; omega
        obtain ⟨b, off, A1, c1, A2, c2, rfl, hbb, g1, g2, s1, s2⟩ := (HV.out wr hb).fields k hkl
        have HP := Lib.hid (pack_any _ _ L[k].1 L[k].2 wr w.heap.size hb.size s1 s2)
        have hpl := Fm.pack_le L[k].1 L[k].2
        have i1 : (0 : Int) ≤ (k : Int) := by omega
        have i2 : (k : Int) < (n : Int) := by omega
        have HT := Lib.hid (joined_take_succ L k hkl)
        have HG := Lib.hid (fun h => goodTo_succ hgood hkl h)
        have hm1 := s1.room.2
        have hm2 := s2.room.2
        have hok : (Fm.pack L[k].1 L[k].2).2 = 0 → (Fm.pack L[k].1 L[k].2).1 = Fm.bytes L[k].1 L[k].2 ∧ ∀ n ∈ L[k].1, Fm.may n := by
          intro h
          obtain ⟨e, _, _, h3⟩ := Fm.pack_ok (b := (Fm.pack L[k].1 L[k].2).1) (by rw [← h])
          exact ⟨e, h3⟩
        have hgd : Hid ((Fm.pack L[k].1 L[k].2).2 = 0 → L[k].1.length ≤ 20 → L[k].2.length ≤ 200 → good L[k]) := fun h a b => by
          obtain ⟨e, h3⟩ := hok h
          refine ⟨?_, a, b, h3⟩
          rw [← e, ← h]
        have HOK := Lib.hid hok
        clear s1 s2 hgood hok
        unfold maxLen at hm1 hm2
        generalize L[k].1 = N1 at *
        generalize L[k].2 = D1 at *
        generalize Fm.pack N1 D1 = p at *
        obtain ⟨bs, er⟩ := p
        simp only at hpl HOK hgd HP
        generalize hn1 : N1.length = n1 at *
        generalize hn2 : D1.length = n2 at *
        generalize hbl : bs.length = bl at *
        have HBL := Lib.hid hbl
        clear hbl hn1 hn2
        have hm3 : n1 ≤ 9223372036854775807 := by omega
        have hm4 : n2 ≤ 9223372036854775807 := by omega
        have HOW := Lib.hid hown
        have HGC := Lib.hid (fun W (h : Below wr.heap.size wr W) => And.intro ((h.cell (p := ⟨b, off + k * 2, none⟩) (Nat.lt_of_lt_of_le hbb hb.size)).trans g1) ((h.cell (p := ⟨b, off + k * 2 + 1, none⟩) (Nat.lt_of_lt_of_le hbb hb.size)).trans g2))
        clear hown
        by_cases her : er = 0
        · subst her
          obtain ⟨rfl, _⟩ := HOK.out rfl
          rcases (show 20 < n1 ∨ (n1 ≤ 20 ∧ 200 < n2) ∨ (n1 ≤ 20 ∧ n2 ≤ 200) by omega) with h1 | ⟨h1, h2⟩ | ⟨h1, h2⟩
          · go_wp2_with fail
            with_reducible refine HP.out.mono ?_
            rintro e w2 ⟨A3, c3, rfl, ho3, hb2⟩
            simp only [HBL.out] at ho3 ⊢
            obtain ⟨gg1, gg2⟩ := HGC.out w2 hb2
            clear ho3
            go_wp2_with fail
            go_ret
            exact ⟨rfl, hb.trans (hb2.mono hb.size)⟩
          · go_wp2_with fail
            with_reducible refine HP.out.mono ?_
            rintro e w2 ⟨A3, c3, rfl, ho3, hb2⟩
            simp only [HBL.out] at ho3 ⊢
            obtain ⟨gg1, gg2⟩ := HGC.out w2 hb2
            clear ho3
            go_wp2_with fail
            go_ret
            exact ⟨rfl, hb.trans (hb2.mono hb.size)⟩
          · go_wp2_with fail
            with_reducible refine HP.out.mono ?_
            rintro e w2 ⟨A3, c3, rfl, ho3, hb2⟩
            simp only [HBL.out] at ho3 ⊢
            obtain ⟨gg1, gg2⟩ := HGC.out w2 hb2
            have hbw2 := hb.trans (hb2.mono hb.size)
            have HO2 := Lib.hid (HOW.out.below hb2)
            have HS3 := Lib.hid ho3.sl
            have hzz := hbw2.size
            have hjn : 363 * k ≤ 3630 := by omega
            clear ho3
            go_wp2_with (at_builtin; refine wpList_append_sl rfl _ (.tmp 57) rfl rowB w.heap.size _ _ rfl HO2.out w2.heap.size _ _ rfl HS3.out (by rw [HBL.out]; unfold maxLen; omega) (by rw [HBL.out]; omega) hzz ?_; intro v3 w3 hown3 hg3 hat3; have hb3 := below_of_own hbw2 HO2.out hg3 hzz; clear hg3 hat3)
            go_roundw
            case rel => exact ⟨k + 1, by omega, by go_num, HG.out (hgd.out (by first | rfl | trivial) h1 h2), by rw [HT.out]; exact hown3, hb3⟩
            case measure => simp [intOf]; omega
        · have hne : (er != 0) = true := by simpa using her
          go_wp2_with fail
          with_reducible refine HP.out.mono ?_
          rintro e w2 ⟨A3, c3, rfl, ho3, hb2⟩
          simp only [HBL.out] at ho3 ⊢
          clear ho3
          go_wp2_with fail
          go_ret
          exact ⟨rfl, hb.trans (hb2.mono hb.size)⟩
      · obtain rfl : k = n := by omega
        have hall : ∀ f ∈ L, good f := fun f hf => hgood f (by rw [List.take_of_length_le (by have := HNL.out; omega)]; exact hf)
        rw [List.take_of_length_le (by have := HNL.out; omega)] at hown
        have HALL := Lib.hid hall
        have hsl0 := hown.sl
        obtain ⟨A4, c4, rfl, _, _⟩ := hsl0.form
        have HSL := Lib.hid hsl0
        clear hown hall hgood hsl0
        have hlj : (joined L).length ≤ 3630 := by
          have h1 := joined_len (L := L) HALL.out
          have h2 := HNL.out
          omega
        clear hlj
        generalize hjl0 : (joined L).length = jl at *
        clear hjl0
        have HB := Lib.hid hb
        go_wp2_with fail
        obtain ⟨wo, hwo⟩ : ∃ wo : World, wo = wr := ⟨_, rfl⟩
        subst hwo
        go_loopw [4, 8] (fun x i wr => ∃ j : Nat, j ≤ k ∧ i = .int .i64 (j : Int) ∧ Sl wr wr.heap.size x (joined (L.drop j)) ∧ Below w.heap.size w wr) (fun _ i _ => k - (intOf i).toNat)
        case atStart => exact ⟨0, Nat.zero_le _, rfl, by rw [List.drop_zero]; exact HSL.out, HB.out⟩
        case round =>
          obtain ⟨j, hj, rfl, hsl, hb⟩ := hrel
          by_cases hlt2 : j < k
          · have hjL : j < L.length := by have := HNL.out; omega
            have hg := HALL.out _ (List.getElem_mem hjL)
            obtain ⟨b, off, A1, c1, A2, c2, rfl, hbb, g1, g2, s1, s2⟩ := (HV.out wr hb).fields j hjL
            have hjd := joined_drop L j hjL
            have hjle : (joined (L.drop j)).length ≤ 3630 := by
              have h1 := joined_len (L := L.drop j) (fun f hf => HALL.out f (List.mem_of_mem_drop hf))
              have h2 : (L.drop j).length ≤ 10 := by rw [List.length_drop, HNL.out]; omega
              omega
            obtain ⟨hpk, hl1, hl2, hmay⟩ := hg
            have hct := Fm.cut_bytes (N := L[j].1) (D := L[j].2) (by omega) (by omega) hmay (joined (L.drop (j + 1)))
            rw [← hjd] at hct
            have hC := (cut_any _ _ (by omega) wr wr.heap.size (Nat.le_refl _) hsl).mono fun _ _ => cutOut_res
            rw [hct] at hC
            have hus : usedI (joined (L.drop j)) (.ok (L[j].1, L[j].2) (joined (L.drop (j + 1)))) = ((Fm.bytes L[j].1 L[j].2).length : Int) := by
              show ((joined (L.drop j)).length : Int) - ((joined (L.drop (j + 1))).length : Int) = _
              rw [hjd, List.length_append]; omega
            rw [hus] at hC
            simp only [Fm.Got.N, Fm.Got.e] at hC
            have hroom := hsl.form
            obtain ⟨Aa, ca, rfl, hca, hcm⟩ := hsl.form
            have hbl : (Fm.bytes L[j].1 L[j].2).length ≤ (joined (L.drop j)).length := by rw [hjd, List.length_append]; omega
            have hdr := hsl.drop (Fm.bytes L[j].1 L[j].2).length hbl
            have hdd : (joined (L.drop j)).drop (Fm.bytes L[j].1 L[j].2).length = joined (L.drop (j + 1)) := by rw [hjd]; simp
            rw [hdd, show Rep.sz UInt8 = 1 from rfl, Nat.mul_one] at hdr
            have i1 : (0 : Int) ≤ (j : Int) := by omega
            have i2 : (j : Int) < (k : Int) := by omega
            have HC := Lib.hid hC
            have HDR := Lib.hid hdr
            have HS1 := Lib.hid s1
            have HS2 := Lib.hid s2
            have HG1 := Lib.hid g1
            have HG2 := Lib.hid g2
            clear hC hdr s1 s2 hpk hl1 hl2 hmay hct hus hjd hdd hroom hsl HSL g1 g2
            unfold maxLen at hcm
            generalize (Fm.bytes L[j].1 L[j].2).length = bl at *
            generalize (joined (L.drop j)).length = jl2 at *
            generalize L[j].1 = N1 at *
            generalize L[j].2 = D1 at *
            generalize hn1 : N1.length = n1 at *
            generalize hn2 : D1.length = n2 at *
            have HN1 := Lib.hid hn1
            have HN2 := Lib.hid hn2
            clear hn1 hn2
            have hd1 : decide ((jl2 : Int) < (bl : Int)) = false := by simp; omega
            go_wp2_with fail
            with_reducible refine HC.out.mono ?_
            rintro e w2 ⟨A3, c3, A5, c5, rfl, hN3, hD3, hb2⟩
            rw [HN1.out] at hN3 ⊢
            rw [HN2.out] at hD3 ⊢
            have hb22 : Below w2.heap.size w2 (w2.alloc (.cells #[.slice A3 n1 c3, .slice A5 n2 c5] 25)) := (Below.refl _ _).alloc (Nat.le_refl _) _
            have hbr2 := hb2.trans (hb22.mono hb2.size)
            have hbw2 := hb.trans (hbr2.mono hb.size)
            have HX := Lib.hid (hN3.below hb22)
            have HY := Lib.hid (hD3.below hb22)
            have HX2 := Lib.hid (HS1.out.below (hbr2.mono hb.size))
            have HY2 := Lib.hid (HS2.out.below (hbr2.mono hb.size))
            have HDR2 := Lib.hid (HDR.out.below hbr2)
            have HWN := Lib.hid (Whole.new w2 25 #[.slice A3 n1 c3, .slice A5 n2 c5])
            have gg1 := (hbr2.cell (p := ⟨b, off + j * 2, none⟩) (Nat.lt_of_lt_of_le hbb hb.size)).trans HG1.out
            have gg2 := (hbr2.cell (p := ⟨b, off + j * 2 + 1, none⟩) (Nat.lt_of_lt_of_le hbb hb.size)).trans HG2.out
            have hzr := hbr2.size
            clear hN3 hD3 hb2 hb22 HS1 HS2 HDR HG1 HG2 HC
            have hx0 : (w2.alloc (.cells #[.slice A3 n1 c3, .slice A5 n2 c5] 25)).cell? ⟨w2.heap.size, 0, none⟩ = some (.slice A3 n1 c3) := HWN.out.cell 0
            have hx1 : (w2.alloc (.cells #[.slice A3 n1 c3, .slice A5 n2 c5] 25)).cell? ⟨w2.heap.size, 1, none⟩ = some (.slice A5 n2 c5) := HWN.out.cell 1
            have hz22 : w2.heap.size ≤ (w2.alloc (.cells #[.slice A3 n1 c3, .slice A5 n2 c5] 25)).heap.size := by simp
            go_wp2_with fail
            generalize w2.alloc (.cells #[.slice A3 n1 c3, .slice A5 n2 c5] 25) = w3 at *
            generalize w2.heap.size = g at *
            go_still_tail 5, (by kernel_rfl)
            change wpList _ _ _ _ _ w3.drew
            have hb3d := hbw2.drew
            have hbrd := hbr2.drew
            have S1 := Lib.hid (same_any _ _ _ _ N1 D1 w3.drew w3.heap.size (Nat.le_refl _) ((HX.out.below (Below.refl _ _).drew).mono hz22) ((HY.out.below (Below.refl _ _).drew).mono hz22) ((HX2.out.below (Below.refl _ _).drew).mono hbw2.size) ((HY2.out.below (Below.refl _ _).drew).mono hbw2.size))
            have HDR3 := Lib.hid (HDR2.out.below (Below.refl _ _).drew)
            have hzd : w3.heap.size = w3.drew.heap.size := rfl
            rw [hzd] at hzr hz22
            clear hzd hbw2 hbr2 HX HY HX2 HY2 HDR2 HWN hx0 hx1 gg1 gg2
            generalize w3.drew = w4 at *
            go_wp2_with fail
            with_reducible refine S1.out.mono ?_
            rintro e w5 ⟨rfl, hb5⟩
            have hbr5 := hbrd.trans (hb5.mono hzr)
            have hbw5 := hb3d.trans (hb5.mono hb3d.size)
            have HDR5 := Lib.hid ((HDR3.out.below (hb5.mono hzr)).mono hbr5.size)
            by_cases hcb : ca = bl
            · subst hcb
              have hd5 := HDR5.out
              rw [if_pos rfl] at hd5
              have hjb : jl2 = ca := by omega
              subst hjb
              rw [Nat.sub_self] at hd5
              have HD6 := Lib.hid hd5
              clear hd5 HDR5 HDR3
              go_wp2_with fail
              go_roundw
              case rel => exact ⟨j + 1, by omega, by go_num, HD6.out, hbw5⟩
              case measure => simp [intOf]; omega
            · have hd5 := HDR5.out
              rw [if_neg hcb] at hd5
              have HD6 := Lib.hid hd5
              clear hd5 HDR5 HDR3
              go_wp2_with fail
              go_roundw
              case rel => exact ⟨j + 1, by omega, by go_num, HD6.out, hbw5⟩
              case measure => simp [intOf]; omega
          · have hjk : j = k := by omega
            subst hjk
            rw [List.drop_of_length_le (by rw [HNL.out]; exact Nat.le_refl _)] at hsl
            obtain ⟨Aa, ca, rfl, _, _⟩ := hsl.form
            clear hsl
            go_wp2_with fail
            go_ret
            exact ⟨rfl, hb⟩
end Go.Proofs.Ytniibcjlmlmboaa
