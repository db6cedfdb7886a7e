/-
  What cutNumbers answers.
-/
import Derived.Test.YtniibcjlmlmboaaFrom
import Derived.WalkMore
import Derived.Test.YtniibcjlmlmboaaGoto
namespace Go.Proofs.Ytniibcjlmlmboaa
open Go.RowKit

/-- The length of a slice's value. -/
def lenOf : Value → Nat
  | .slice _ n _ => n
  | _ => 0
def NumsOut (w : World) (B : Nat) : Fm.Got (List Int) → Ending → World → Prop
  | .err er, e, w' => e = .returned (.tuple #[.slice none 0 0, .slice none 0 0, .int .i64 er]) ∧ Below w.heap.size w w'
  | .ok N r, e, w' => ∃ sN A c, e = .returned (.tuple #[sN, .slice A r.length c, .int .i64 0]) ∧ Own w' w.heap.size 3 sN N ∧ Sl w' B (.slice A r.length c) r ∧ Below w.heap.size w w'

set_option maxRecDepth 100000 in
theorem cutNumbers_any (v : Value) (l : List UInt8) (hl : l.length ≤ 1000000) (w : World) (B : Nat) (hB : B ≤ w.heap.size) (hv : Sl w B v l) :
    Calls Try.prog 24 #[v] w (NumsOut w B (Fm.cutH l)) := by
  match l with
  | [] =>
    have h := cutBytes_short v [] 1 (by simp) w B hv
    have H := Lib.hid h
    clear h hv
    go_enter Try.func24, Try.ntmps24
    go_wp2_with fail
    go_step3
    go_wp2_with fail
    refine H.out.mono ?_
    rintro e w' ⟨rfl, rfl⟩
    go_wp2_with fail
    first | rw [Exit.noGoto_ret] | skip
    go_ret3
    exact ⟨rfl, Below.refl _ _⟩
  | k :: r =>
    have h := cutBytes_any v (k :: r) 1 (by simp) w B hv
    have H := Lib.hid h
    clear h hv
    have hd := Lib.hid (fun W A c (h : Sl W B (.slice A 1 c) [k]) => fromDigits_any _ [k] (by simp) W B h)
    have hk : k.toNat < 256 := k.toNat_lt
    have hkv : Fm.val [k] = k.toNat := by simp [Fm.val]
    have HK := Lib.hid hkv
    clear hkv
    have hlr : r.length ≤ 1000000 := by simp at hl; omega
    have hnum := Lib.hid (fun W v rr (h : Sl W B v rr) (hrr : rr.length ≤ 1000000) => cutNumber_any v rr hrr W B h)
    show Calls Try.prog 24 #[v] w (NumsOut w B (Fm.cutNs k.toNat r))
    generalize k.toNat = kk at *
    go_enter Try.func24, Try.ntmps24
    go_wp2_with fail
    refine wp_scope_goto 0 (fun a' w' => ∃ (N : List Int) (rr : List UInt8) (sN : Value) (A : Option Addr) (c : Nat), N.length ≤ kk ∧ Fm.cutNs N.length r = .ok N rr ∧ Own w' w.heap.size 3 sN N ∧ Sl w' B (.slice A rr.length c) rr ∧ rr.length ≤ r.length ∧ Below w.heap.size w w' ∧ ∃ (u0 u1 u5 u7 u10 u11 u12 u13 u14 u15 u16 u17 u18 u19 u20 u21 u22 u23 u24 u25 u26 u27 u28 u29 u30 u31 u32 u33 u34 u35 u36 u37 u38 u39 u40 : Value), a' = { tmps := #[u0, u1, .slice none 0 0, .slice none 0 0, .int .i64 0, u5, .slice A rr.length c, u7, .int .i64 (kk : Int), sN, u10, u11, u12, u13, u14, u15, u16, u17, u18, u19, u20, u21, u22, u23, u24, u25, u26, u27, u28, u29, u30, u31, u32, u33, u34, u35, u36, u37, u38, u39, u40], defers := [] }) (fun a' _ => lenOf (a'.tmps.getD 6 undef)) rfl ?_ ?_
    · have hBw : B ≤ w.heap.size := hB
      rintro a' w' ⟨N, rr, sN, A, c, hN, hcut, hown, hsl, hrl, hb, u0, u1, u5, u7, u10, u11, u12, u13, u14, u15, u16, u17, u18, u19, u20, u21, u22, u23, u24, u25, u26, u27, u28, u29, u30, u31, u32, u33, u34, u35, u36, u37, u38, u39, u40, rfl⟩
      obtain ⟨As, cs, rfl, _, _⟩ := hown.sl.form
      have hz := hb.size
      have HCUT := Lib.hid hcut
      have HRR := Lib.hid hrl
      clear hcut hrl
      have hrr : rr.length ≤ 1000000 := by have := HRR.out; omega
      have HN := Lib.hid (hnum.out w' _ rr hsl hrr)
      by_cases hlt : N.length < kk
      · have he : ((N.length : Int) == (kk : Int)) = false := by rw [beq_eq_false_iff_ne]; omega
        have HOWN := Lib.hid hown
        clear hown hsl
        generalize hnl : N.length = j at *
        have HNL := Lib.hid hnl
        clear hnl
        cases hc : Fm.cutN rr with
        | err er =>
          have hfin : Fm.cutNs kk r = .err er := Fm.cutNs_stop HCUT.out hc hlt
          have her := Fm.cutN_err hc
          rw [hc] at HN
          have HF := Lib.hid hfin
          clear hfin hc
          rcases her with rfl | rfl
          all_goals
            go_wp2_with fail
            refine HN.out.mono ?_
            rintro e w2 ⟨rfl, n, rfl⟩
            go_wp2_with fail
            simp only [Exit.jump]
            go_ret3
            rw [HF.out]
            exact ⟨rfl, below_drewN hb n⟩
        | ok n r2 =>
          have hsn := Fm.cutNs_snoc HCUT.out
          rw [hc] at HN hsn
          have hmay := (Fm.cutN_ok hc).1
          have hr2 := Fm.cutN_rest hc
          have HS := Lib.hid hsn
          clear hsn hc
          unfold Fm.may at hmay
          go_wp2_with fail
          refine HN.out.mono ?_
          rintro e w2 ⟨A2, c2, rfl, hs2, n2, rfl⟩
          have hs2' := Lib.hid (sl_drewN hs2 n2)
          have ho2 := Lib.hid (HOWN.out.drewN n2)
          have hb2 := below_drewN hb n2
          have hz2 : w.heap.size ≤ (w'.drewN n2).heap.size := hz
          have hB2 : B ≤ (w'.drewN n2).heap.size := Nat.le_trans hB hz
          clear hs2 hb hz HN HOWN hB
          generalize w'.drewN n2 = w1 at *
          generalize hd2 : r2.length = d2 at *
          have HD2 := Lib.hid hd2
          clear hd2
          go_wp2_with (at_builtin; refine wpList_append_sl rfl _ (.tmp 39) rfl rowI w.heap.size _ N rfl (ho2.out.alloc _) (w1.heap.size + 1) _ [n] rfl (Sl.new1 w1 _ n _ ⟨by omega, by omega⟩ rfl) (by rw [HNL.out]; unfold maxLen; simp; omega) (by rw [HNL.out]; simp; omega) (by simp; omega) ?_; intro v3 w3 hown3 hg3 hat3; have hb3 := below_of_own (hb2.alloc hz2 _) (ho2.out.alloc _) hg3 (by simp; omega); have hs3 := hs2'.out.below (((Below.refl _ _).alloc hB2 _).grown hg3 (by simp; omega) (fun k hk => Nat.le_trans hBw ((ho2.out.lt k hk).1))); clear hg3 hat3)
          go_step3
          have h := HD2.out
          subst h
          exact ⟨rfl, ⟨N ++ [n], r2, _, _, _, by rw [List.length_append, HNL.out]; exact hlt, by rw [List.length_append, HNL.out]; exact HS.out, hown3, hs3, by have := HRR.out; omega, hb3, _, _, _, _, _, _, _, _, _, _, _, _, _, _, _, _, _, _, _, _, _, _, _, _, _, _, _, _, _, _, _, _, _, _, _, rfl⟩, hr2⟩
      · have hj : N.length = kk := by omega
        subst hj
        have hcut := HCUT.out
        generalize hd2 : rr.length = d2 at *
        have HD2 := Lib.hid hd2
        clear hd2
        have he : ((N.length : Int) == (N.length : Int)) = true := beq_self_eq_true _
        have HC2 := Lib.hid hcut
        clear hcut HCUT
        go_wp2_with fail
        simp only [Exit.jump]
        go_ret3
        rw [HC2.out]
        have h := HD2.out
        subst h
        exact ⟨_, _, _, rfl, hown, hsl, hb⟩
    · intro hgo
      go_wp2_with fail
      refine H.out.mono ?_
      rintro e w' ⟨A1, c1, A2, m, c2, hmk, rfl, h1, h2, n, rfl⟩
      have H1 := Lib.hid (sl_drewN h1 n)
      obtain rfl : m = r.length := by simp at hmk; omega
      have H2 : Hid (Sl w B (.slice A2 r.length c2) r) := h2
      clear h1 h2 H hmk
      go_wp2_with fail
      refine (hd.out _ _ _ H1.out).mono ?_
      rintro e w' ⟨rfl, rfl⟩
      rw [HK.out]
      go_wp2_with fail
      go_step3
      go_simp
      refine (by assumption : ∀ (a : Act) (w : World), _ → _) _ _ (hgo _ _ ?_)
      exact ⟨[], r, _, _, _, Nat.zero_le _, rfl, Own.nil _ _ _, sl_drewN H2.out n, Nat.le_refl _, below_drewN (Below.refl _ _) n, _, _, _, _, _, _, _, _, _, _, _, _, _, _, _, _, _, _, _, _, _, _, _, _, _, _, _, _, _, _, _, _, _, _, _, rfl⟩
end Go.Proofs.Ytniibcjlmlmboaa
