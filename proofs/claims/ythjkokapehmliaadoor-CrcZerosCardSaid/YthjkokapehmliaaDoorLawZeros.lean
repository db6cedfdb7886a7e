/-
  One byte that is another one changes the sum: what the law's text comes to.
-/
import Derived.Test.YthjkokapehmliaaDoorAwake
import Derived.Test.YthjkokapehmliaaDoorBurst
import Derived.Test.YthjkokapehmliaaDoorFrame
namespace Go.Proofs.YthjkokapehmliaaDoor
open Go.RowKit

set_option maxRecDepth 100000 in
theorem zeros_out (A : Option Addr) (c : Nat) (l : List UInt8) (j x : Int) (w : World) (hT : Tab w)
    (hout : 2000 < l.length ∨ (l.length ≤ 2000 ∧ j < 0) ∨ (l.length ≤ 2000 ∧ 0 ≤ j ∧ (l.length : Int) ≤ j) ∨ (l.length ≤ 2000 ∧ 0 ≤ j ∧ j < (l.length : Int) ∧ x = 0)) :
    Calls Tryd.prog 9 #[.slice A l.length c, .int .i64 j, .int .u8 x] w fun e w' => e = .returned (.bool true) ∧ Below w.heap.size w w' := by
  have K1 := Lib.hid (awake_any w hT)
  clear hT
  rcases hout with h | ⟨h, h1⟩ | ⟨h, h1, h2⟩ | ⟨h, h1, h2, rfl⟩
  all_goals
    go_enter Tryd.func9, Tryd.ntmps9
    go_wp2_with (go_at_call 11; refine K1.out.mono ?_; rintro e w1 ⟨rfl, hb1⟩)
    go_ret
    exact ⟨rfl, hb1⟩

set_option maxRecDepth 100000 in
theorem zeros_in (A : Option Addr) (c : Nat) (l : List UInt8) (j x : Nat) (w : World) (hT : Tab w) (hv : Rd w w.heap.size (.slice A l.length c) l) (hl : l.length ≤ 2000) (hj : j < l.length) (hx : x < 256) (hx0 : x ≠ 0) :
    Calls Tryd.prog 9 #[.slice A l.length c, .int .i64 (j : Int), .int .u8 (x : Int)] w fun e w' => e = .returned (.bool true) ∧ Below w.heap.size w w' := by
  have K1 := Lib.hid (awake_any w hT)
  have hpos := hT.pos
  have HT := Lib.hid hT
  have HV := Lib.hid hv
  clear hT hv
  have hxb : ((x : Int) == 0) = false := by simp; omega
  have hby : (l[j]).toNat < 256 := (l[j]).toNat_lt
  have hxor := u8_xor_nat (l[j]).toNat x hby hx
  have hlt : (l[j]).toNat ^^^ x < 256 := Nat.xor_lt_two_pow (n := 8) hby hx
  have hun : (UInt8.ofNat ((l[j]).toNat ^^^ x)).toNat = (l[j]).toNat ^^^ x := UInt8.toNat_ofNat_of_lt' hlt
  have hne1 := csum_set l j x hj hx hx0
  have hs : Crc.csum (nums l) < 4294967296 := Crc.more_lt _ (by omega) (nums_lt _)
  have hne2 := more_one (Crc.csum (nums l)) x hx hx0
  have hstore : Hid (∀ (W : World) (base g cap : Nat), OwnB W base (.slice (some ⟨g, 0, none⟩) l.length cap) l → OwnB (W.setCell ⟨g, j, none⟩ (.int .u8 (((l[j]).toNat ^^^ x : Nat) : Int))) base (.slice (some ⟨g, 0, none⟩) l.length cap) (l.set j (UInt8.ofNat ((l[j]).toNat ^^^ x)))) :=
    Lib.hid fun W base g cap h => by have := h.store j (UInt8.ofNat ((l[j]).toNat ^^^ x)); rwa [hun] at this
  have hcell : Hid (∀ (W : World) (base g cap : Nat), OwnB W base (.slice (some ⟨g, 0, none⟩) l.length cap) l → W.cell? ⟨g, j, none⟩ = some (.int .u8 ((l[j]).toNat : Int))) :=
    Lib.hid fun W base g cap h => h.cell j hj
  clear hun
  have hlen2 : (l.set j (UInt8.ofNat ((l[j]).toNat ^^^ x))).length = l.length := by simp
  generalize UInt8.ofNat ((l[j]).toNat ^^^ x) = u at *
  generalize (l[j]).toNat ^^^ x = y at *
  generalize (l[j]).toNat = z at *
  generalize l.set j u = m at *
  have HL := Lib.hid hlen2
  clear hlen2
  have hsum : Hid (∀ (W : World) (B : Nat) (v : Value), Rd W B v l → Tab W → Calls Tryd.prog 14 #[v] W fun e w' => e = .returned (.int .u32 ((Crc.csum (nums l) : Nat) : Int)) ∧ W = w') :=
    Lib.hid fun W B v h hT => sum_any v l (by omega) W B h hT
  have hsum2 : Hid (∀ (W : World) (B : Nat) (v : Value), Rd W B v m → Tab W → Calls Tryd.prog 14 #[v] W fun e w' => e = .returned (.int .u32 ((Crc.csum (nums m) : Nat) : Int)) ∧ W = w') :=
    Lib.hid fun W B v h hT => sum_any v m (by rw [HL.out]; omega) W B h hT
  generalize Crc.csum (nums l) = s at *
  generalize Crc.csum (nums m) = s2 at *
  have hm1 : Hid (∀ (W : World), Tab W → Calls Tryd.prog 16 #[.int .u32 (s : Int), .slice (some ⟨W.heap.size, 0, none⟩) 1 1] (W.alloc (.cells #[.int .u8 (x : Int)] 5)) fun e w' => e = .returned (.int .u32 ((Crc.more s [x] : Nat) : Int)) ∧ W.alloc (.cells #[.int .u8 (x : Int)] 5) = w') :=
    Lib.hid fun W hT => by
      have e : (UInt8.ofNat x).toNat = x := UInt8.toNat_ofNat_of_lt' hx
      have h := more_any s hs (.slice (some ⟨W.heap.size, 0, none⟩) 1 1) [UInt8.ofNat x] (by simp) (W.alloc (.cells #[.int .u8 (x : Int)] 5)) (W.heap.size + 1)
        (Rd.block (l := [UInt8.ofNat x]) (heap_alloc_new W _) (by simp [bv, e]) (Nat.lt_succ_self _) (Nat.le_refl _)) (hT.below ((Below.refl W.heap.size W).alloc (Nat.le_refl _) _) hT.pos)
      simp only [nums, List.map_cons, List.map_nil, e] at h
      exact h
  have hm2 : Hid (∀ (W : World), Tab W → Calls Tryd.prog 16 #[.int .u32 (s : Int), .slice (some ⟨W.heap.size, 0, none⟩) 1 1] (W.alloc (.cells #[.int .u8 0] 5)) fun e w' => e = .returned (.int .u32 ((Crc.more s [0] : Nat) : Int)) ∧ W.alloc (.cells #[.int .u8 0] 5) = w') :=
    Lib.hid fun W hT => by
      have h := more_any s hs (.slice (some ⟨W.heap.size, 0, none⟩) 1 1) [0] (by decide) (W.alloc (.cells #[.int .u8 0] 5)) (W.heap.size + 1)
        (Rd.block (l := [0]) (heap_alloc_new W _) rfl (Nat.lt_succ_self _) (Nat.le_refl _)) (hT.below ((Below.refl W.heap.size W).alloc (Nat.le_refl _) _) hT.pos)
      exact h
  generalize Crc.more s [x] = p at *
  generalize Crc.more s [0] = q at *
  have hb1' : ((s2 : Int) != (s : Int)) = true := by simp; omega
  have hb2' : ((p : Int) != (q : Int)) = true := by simp; omega
  clear hne1 hne2
  go_enter Tryd.func9, Tryd.ntmps9
  go_wp2_with fail
  refine K1.out.mono ?_
  rintro e w1 ⟨rfl, hb1⟩
  have HT1 := Lib.hid (HT.out.below hb1 hpos)
  have hz1 := hb1.size
  go_wp2_with (at_builtin; refine wpList_append_rd rfl _ (.tmp 33) rfl w1.heap.size _ [] rfl (OwnB.nil _ _) w.heap.size _ l rfl (HV.out.below hb1) (by simp; omega) (Nat.le_refl _) ?_; intro v2 w2 hown2 hg2 hob2; rw [List.nil_append] at hown2; have hb2 := hb1.grown hg2 (by omega) (by intro k h; cases h); obtain ⟨g, cap, rfl, hgb, hgs⟩ := hown2.form (by omega); have hc2 := hcell.out _ _ _ _ hown2; have hf2 := hown2.free j; have hz2 := hb2.size; clear hg2 hob2)
  have hb3 : Below w.heap.size w (w2.setCell ⟨g, j, none⟩ (.int .u8 (y : Int))) := hb2.setCell (p := ⟨g, j, none⟩) (by show _ ≤ g; omega) _
  have hown3 := hstore.out _ _ _ _ hown2
  clear hown2 hc2 hf2 hcell hstore
  generalize w2.setCell ⟨g, j, none⟩ (.int .u8 (y : Int)) = w3 at *
  have HT3 := Lib.hid (HT.out.below hb3 hpos)
  refine (hsum.out w3 w.heap.size _ (HV.out.below hb3) HT3.out).mono ?_
  rintro e w' ⟨rfl, hw⟩
  subst hw
  go_wp2_with fail
  refine (hsum2.out w3 w3.heap.size _ hown3.rd HT3.out).mono ?_
  rintro e w' ⟨rfl, hw⟩
  subst hw
  go_wp2_with fail
  refine (hm1.out w3 HT3.out).mono ?_
  rintro e w' ⟨rfl, hw⟩
  subst hw
  have k2 := hm2.out (w3.alloc (.cells #[.int .u8 (x : Int)] 5)) (HT3.out.below ((Below.refl w3.heap.size w3).alloc (Nat.le_refl _) _) HT3.out.pos)
  rw [World.size_alloc] at k2
  have K5 := Lib.hid k2
  clear k2
  go_wp2_with fail
  refine K5.out.mono ?_
  rintro e w' ⟨rfl, hw⟩
  subst hw
  go_wp2_with fail
  go_ret
  exact ⟨rfl, (hb3.alloc hb3.size _).alloc (by have := hb3.size; simp; omega) _⟩

theorem zeros_law (w : World) (hT : Tab w) (A : Option Addr) (c : Nat) (l : List UInt8) (hv : Rd w w.heap.size (.slice A l.length c) l) (j : Int) (_ : (Lit.int .i64 j).wf = true) (x : Int) (hx : (Lit.int .u8 x).wf = true) :
    Calls Tryd.prog 9 #[.slice A l.length c, .int .i64 j, .int .u8 x] w fun e w' => e = .returned (.bool true) ∧ Below w.heap.size w w' := by
  obtain ⟨x0, x1⟩ := wf_u8 hx
  by_cases h : l.length ≤ 2000 ∧ 0 ≤ j ∧ j < (l.length : Int) ∧ x ≠ 0
  · obtain ⟨h1, h2, h3, h4⟩ := h
    obtain ⟨n, rfl⟩ := Int.eq_ofNat_of_zero_le h2
    obtain ⟨m, rfl⟩ := Int.eq_ofNat_of_zero_le x0
    exact zeros_in A c l n m w hT hv h1 (by omega) (by omega) (by omega)
  · exact zeros_out A c l j x w hT (by omega)
end Go.Proofs.YthjkokapehmliaaDoor
