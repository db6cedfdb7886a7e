/-
  Parts that the statement rests on, joined: RefOpen.
-/
import Derived.Test.YtcacebkbfnnjbaaDoorV5
import Derived.Test.YtcacebkbfnnjbaaDoorV8
import Derived.Deep.DeepCutAuto
import Derived.Deep.QuietTactic
import Derived.BigQuiet
import Derived.Deep.RegionWith
/-
  What the reference's Open gives.
-/






namespace Go.Proofs.YtcacebkbfnnjbaaDoor
open Go.RowKit

theorem conv_rd {w : World} {B n c : Nat} {A : Option Addr} {l : List UInt8} (h : Rd w B (.slice A n c) l) : (convert 28 9 (.slice A n c)).run Tryd.prog w = .ok (.string (strOf l)) w := by
  obtain ⟨A', c', e, _, hx⟩ := h.form
  obtain ⟨e1, e2, e3⟩ := Value.slice.inj e
  subst e1 e2 e3
  rcases A with _ | ad
  · have hl : l = [] := by
      rcases Nat.eq_zero_or_pos l.length with h0 | h0
      · exact List.eq_nil_of_length_eq_zero h0
      · obtain ⟨b, off, h, _⟩ := hx h0
        cases h
    subst hl
    rw [run_convert_bytes_nil w 28 5 Tryd.underlying28 Tryd.underlying5 _ _ 9 Tryd.underlying9]
    rfl
  · have hcells : ∀ j x, (bvb l)[j]? = some x → w.cell? (ad.add j) = some x := by
      intro j x hj
      have hjl : j < l.length := by
        rcases Nat.lt_or_ge j l.length with h | h
        · exact h
        · rw [List.getElem?_eq_none (by rw [bv_length]; exact h)] at hj; cases hj
      obtain ⟨b, off, e, _, hk⟩ := hx (by omega)
      obtain rfl : ad = ⟨b, off, none⟩ := Option.some.inj e
      rw [add_at, hk j hjl]
      rw [bv_get l j hjl] at hj
      exact hj
    have hload := run_loadCells_list (P := Tryd.prog) w ad (bvb l) hcells
    rw [bv_length] at hload
    have hbv : bvb l = (l.map fun b => (b.toNat : Int)).map (Value.int .u8) := by simp [bvb]
    rw [hbv] at hload
    rw [run_convert_bytes_string w 28 9 5 _ _ _ Tryd.underlying28 Tryd.underlying5 Tryd.underlying9, run_bytesToString w ad l.length c _ hload, foldl_push_bytes]
    have e : (l.map fun b => (b.toNat : Int)).map (fun n => UInt8.ofNat n.toNat) = l := by
      rw [List.map_map]
      conv => rhs; rw [← List.map_id l]
      apply List.map_congr_left
      intro a _
      simp
    rw [e]
    simp [strOf, ByteArray.empty, ByteArray.emptyWithCapacity]
    rfl

set_option maxRecDepth 100000 in
theorem refOpen_short (v : Value) (l : List UInt8) (hl : l.length < 4) (w : World) (B : Nat) (hv : Rd w B v l) :
    Calls Tryd.prog 50 #[v] w fun e w' => e = .returned (.tuple #[.slice none 0 0, .bool false]) ∧ Below w.heap.size w w' := by
  obtain ⟨A, c, rfl, hx⟩ := hv.form
  clear hv hx
  generalize l.length = n at *
  have hd : decide ((n : Int) < 4) = true := by simp; omega
  have hd2 : decide ((n : Int) - 4 < 0) = true := by simp; omega
  go_enter Tryd.func50, Tryd.ntmps50
  go_wp2
  go_quiet (fail)
  go_wp2
  go_returns
  exact ⟨rfl, below_drewN (Below.refl _ _) _⟩

/-- What the reference's Open leaves of bytes l with four more behind them, all of them m. -/
def RefOpened (w : World) (l m : List UInt8) (e : Ending) (w' : World) : Prop :=
  (seal_ l = m → ∃ u, e = .returned (.tuple #[u, .bool true]) ∧ OwnB w' w.heap.size u l) ∧ (seal_ l ≠ m → e = .returned (.tuple #[.slice none 0 0, .bool false])) ∧ Below w.heap.size w w'

set_option maxRecDepth 100000 in
set_option maxHeartbeats 800000 in
theorem refOpen_walk (l m : List UInt8) (b off c : Nat) (hl : l.length ≤ 10000) (w : World) (B : Nat) (hB : B ≤ w.heap.size) (hm : Rd w B (.slice (some ⟨b, off, none⟩) (l.length + 4) c) m) (hr : Rd w B (.slice (some ⟨b, off, none⟩) l.length c) l) (hc : l.length + 4 ≤ c) :
    Calls Tryd.prog 50 #[.slice (some ⟨b, off, none⟩) (l.length + 4) c] w (RefOpened w l m) := by
  obtain ⟨bq, hbq⟩ : ∃ bq : Bool, ((strOf (seal_ l)).toList == (strOf m).toList) = bq := ⟨_, rfl⟩
  have HI : Hid (bq = true ↔ seal_ l = m) := by
    rw [Hid, ← hbq, strOf_toList, strOf_toList]; simp
  have hseal := Lib.hid (fun W (h : Below w.heap.size w W) => refSeal_rd _ l (by omega) W w.heap.size ((hr.mono hB).below h))
  have hconv := Lib.hid (fun W (h : Below w.heap.size w W) => conv_rd ((hm.mono hB).below h))
  have hconv2 := Lib.hid (fun (W : World) (A : Option Addr) (n c : Nat) (h : Rd W W.heap.size (.slice A n c) (seal_ l)) => conv_rd h)
  have HR := Lib.hid hr
  clear hm hr
  generalize strOf (seal_ l) = s1 at *
  generalize strOf m = s2 at *
  generalize hn : l.length = n at *
  have HN := Lib.hid hn
  clear hn
  have hd : decide ((n : Int) < 0) = false := by simp
  have hcn : ¬ c = n := by omega
  go_enter Tryd.func50, Tryd.ntmps50
  go_upto_region 2 with (fail)
  go_cut [19] (fun x wx => x = .bool (!bq) ∧ Below w.heap.size w wx)
  case first =>
    have i2 : (n : Int) ≤ (c : Int) := by omega
    have i4 : n ≤ c := by omega
    have hcw : (convert 28 9 (.slice (some ⟨b, off, none⟩) (n + 4) c)).run Tryd.prog w.drew = .ok (.string s2) w.drew := hconv.out w.drew (Below.refl _ _).drew
    go_region_with (go_at_call 58; refine (hseal.out w.drew (Below.refl _ _).drew).mono ?_; rintro e w2 ⟨A2, c2, rfl, hr2, hb2⟩; have hb3 := ((Below.refl w.heap.size w).drew).trans hb2; have hc2 := hconv2.out _ _ _ _ hr2; have hc3 := hconv.out w2 hb3)
    all_goals (go_wp2_with fail; go_meet)
    all_goals exact ⟨rfl, hb3⟩
  case rest =>
    obtain ⟨rfl, hbc⟩ := hcut
    have i4 : n ≤ c := by omega
    have hz := hbc.size
    clear hbq
    cases bq with
    | true =>
      have hte := Lib.hid (HI.out.1 rfl)
      go_wp2_with (at_builtin; refine wpList_append_rd rfl _ (.tmp 22) rfl w.heap.size _ [] rfl (OwnB.nil _ _) B _ l rfl (HR.out.below (hbc.mono hB)) (by rw [HN.out]; simp; omega) hz ?_; intro v2 w2 hown2 hg2 hob2; rw [List.nil_append] at hown2; have hb2 := hbc.grown hg2 hz (by intro k h; cases h); clear hg2 hob2)
      go_returns
      exact ⟨fun _ => ⟨_, rfl, hown2⟩, fun h => absurd hte.out h, hb2⟩
    | false =>
      have hte : Hid (seal_ l ≠ m) := fun h => by have := HI.out.2 h; cases this
      go_wp2
      go_returns
      exact ⟨fun h => absurd h hte.out, fun _ => rfl, hbc⟩

theorem refOpen_sealed (v : Value) (l : List UInt8) (hl : l.length ≤ 10000) (w : World) (B : Nat) (hB : B ≤ w.heap.size) (hv : Rd w B v (seal_ l)) :
    Calls Tryd.prog 50 #[v] w fun e w' => ∃ A c, e = .returned (.tuple #[.slice A l.length c, .bool true]) ∧ Rd w' w'.heap.size (.slice A l.length c) l ∧ Below w.heap.size w w' := by
  obtain ⟨A, c, rfl, hc, hx⟩ := hv.form
  obtain ⟨b, off, rfl, _⟩ := hx (by rw [seal_length]; omega)
  have hr : Rd w B (.slice (some ⟨b, off, none⟩) l.length c) l := rd_take hv
  rw [seal_length] at hc hv ⊢
  refine (refOpen_walk l (seal_ l) b off c hl w B hB hv hr hc).mono fun e w' ⟨h1, _, h3⟩ => ?_
  obtain ⟨u, he, ho⟩ := h1 rfl
  have hr := ho.rd
  obtain ⟨A, c, hu, _⟩ := hr.form
  subst hu
  exact ⟨A, c, he, hr, h3⟩
theorem refOpen_other (v : Value) (m : List UInt8) (hm : m.length ≤ 10000) (hno : ∀ l, m ≠ seal_ l) (w : World) (B : Nat) (hB : B ≤ w.heap.size) (hv : Rd w B v m) :
    Calls Tryd.prog 50 #[v] w fun e w' => e = .returned (.tuple #[.slice none 0 0, .bool false]) ∧ Below w.heap.size w w' := by
  by_cases h4 : m.length < 4
  · exact refOpen_short v m h4 w B hv
  · obtain ⟨l, t, rfl, ht⟩ : ∃ l t, m = l ++ t ∧ t.length = 4 := ⟨m.take (m.length - 4), m.drop (m.length - 4), (List.take_append_drop _ _).symm, by simp; omega⟩
    obtain ⟨A, c, rfl, hc, hx⟩ := hv.form
    have hl : (l ++ t).length = l.length + 4 := by simp; omega
    obtain ⟨b, off, rfl, _⟩ := hx (by omega)
    have hr := rd_take hv
    rw [hl] at hc hv ⊢
    exact (refOpen_walk l (l ++ t) b off c (by omega) w B hB hv hr hc).mono fun e w' ⟨_, h2, h3⟩ => ⟨h2 fun e => hno l e.symm, h3⟩
theorem refOpen_own (v : Value) (l : List UInt8) (hl : l.length ≤ 10000) (w : World) (B : Nat) (hB : B ≤ w.heap.size) (hv : Rd w B v (seal_ l)) :
    Calls Tryd.prog 50 #[v] w fun e w' => ∃ u, e = .returned (.tuple #[u, .bool true]) ∧ OwnB w' w.heap.size u l ∧ Below w.heap.size w w' := by
  obtain ⟨A, c, rfl, hc, hx⟩ := hv.form
  obtain ⟨b, off, rfl, _⟩ := hx (by rw [seal_length]; omega)
  have hr : Rd w B (.slice (some ⟨b, off, none⟩) l.length c) l := rd_take hv
  rw [seal_length] at hc hv ⊢
  exact (refOpen_walk l (seal_ l) b off c hl w B hB hv hr hc).mono fun e w' ⟨h1, _, h3⟩ => by
    obtain ⟨u, he, ho⟩ := h1 rfl
    exact ⟨u, he, ho, h3⟩
end Go.Proofs.YtcacebkbfnnjbaaDoor
