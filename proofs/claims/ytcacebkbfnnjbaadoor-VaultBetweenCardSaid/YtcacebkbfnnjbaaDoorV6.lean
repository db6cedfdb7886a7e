/-
  Parts that the statement rests on, joined: Open.
-/
import Derived.Test.YtcacebkbfnnjbaaDoorV5
import Derived.Deep.DeepCutAuto
import Derived.Deep.QuietTactic
import Derived.BigQuiet
import Derived.Lib.QuietBelow
import Derived.ChangeKeysEq
/-
  What Open gives.
-/






namespace Go.Proofs.YtcacebkbfnnjbaaDoor
open Go.RowKit
open Go.Sort (grow)

set_option maxRecDepth 100000 in
theorem open_short (v : Value) (l : List UInt8) (hl : l.length < 4) (w : World) (B : Nat) (hv : Rd w B v l) :
    Calls Tryd.prog 60 #[v] w fun e w' => e = .returned (.tuple #[.slice none 0 0, .bool false]) ∧ Below w.heap.size w w' := by
  obtain ⟨A, c, rfl, hx⟩ := hv.form
  clear hv hx
  generalize l.length = n at *
  have hd : decide ((n : Int) < 4) = true := by simp; omega
  have hd2 : decide ((n : Int) - 4 < 0) = true := by simp; omega
  go_enter Tryd.func60, Tryd.ntmps60
  go_wp2
  go_quiet (fail)
  go_wp2
  go_returns
  exact ⟨rfl, below_drewN (Below.refl _ _) _⟩

theorem bv_four {t : List UInt8} (h : t.length = 4) : ∃ a0 a1 a2 a3 : Nat, bvb t = [.int .u8 (a0 : Int), .int .u8 (a1 : Int), .int .u8 (a2 : Int), .int .u8 (a3 : Int)] := by
  match t, h with
  | [a, b, c, d], _ => exact ⟨_, _, _, _, rfl⟩

theorem cells5 : Tryd.prog.cellsOf 5 = 1 := by kernel_rfl
theorem eq_four (W : World) (a0 a1 a2 a3 b0 b1 b2 b3 : Int) :
    (Op.equalIn 10000 110 (.agg #[.int .u8 a0, .int .u8 a1, .int .u8 a2, .int .u8 a3]) (.agg #[.int .u8 b0, .int .u8 b1, .int .u8 b2, .int .u8 b3])).run Tryd.prog W = .ok (a0 == b0 && (a1 == b1 && (a2 == b2 && a3 == b3))) W := by
  obtain ⟨i, hi, hz, hsz, hby⟩ := info_parts info5
  have hp : ∀ (xs : Array Value) (k : Nat) (n : Int) (W : World), xs[k]? = some (.int .u8 n) → (part 5 xs k).run Tryd.prog W = .ok (.int .u8 n) W := by
    intro xs k n W h
    simp [part, h]
  rw [show (10000 : Nat) = 9999 + 1 from rfl, run_equalIn_array W 9999 _ _ Tryd.underlying110 hi, cells5, show List.range 4 = [0, 1, 2, 3] from rfl]
  have he : ∀ (n m : Int) (W : World), (Op.equalIn 9999 5 (.int .u8 n) (.int .u8 m)).run Tryd.prog W = .ok (n == m) W := fun n m W => run_equalIn_int W 9998 5 .u8 .u8 n m Tryd.underlying5
  have p0 := fun W => hp #[.int .u8 a0, .int .u8 a1, .int .u8 a2, .int .u8 a3] 0 a0 W rfl
  have q0 := fun W => hp #[.int .u8 b0, .int .u8 b1, .int .u8 b2, .int .u8 b3] 0 b0 W rfl
  have p1 := fun W => hp #[.int .u8 a0, .int .u8 a1, .int .u8 a2, .int .u8 a3] 1 a1 W rfl
  have q1 := fun W => hp #[.int .u8 b0, .int .u8 b1, .int .u8 b2, .int .u8 b3] 1 b1 W rfl
  have p2 := fun W => hp #[.int .u8 a0, .int .u8 a1, .int .u8 a2, .int .u8 a3] 2 a2 W rfl
  have q2 := fun W => hp #[.int .u8 b0, .int .u8 b1, .int .u8 b2, .int .u8 b3] 2 b2 W rfl
  have p3 := fun W => hp #[.int .u8 a0, .int .u8 a1, .int .u8 a2, .int .u8 a3] 3 a3 W rfl
  have q3 := fun W => hp #[.int .u8 b0, .int .u8 b1, .int .u8 b2, .int .u8 b3] 3 b3 W rfl
  simp only [Op.eqItems, Sem.run_bind, Nat.mul_one, p0, q0, he, Result.andThen_ok]
  cases a0 == b0 with
  | false => simp
  | true =>
    simp only [Bool.not_true, Bool.false_eq_true, if_false, Sem.run_bind, p1, q1, he, Result.andThen_ok]
    cases a1 == b1 with
    | false => simp
    | true =>
      simp only [Bool.not_true, Bool.false_eq_true, if_false, Sem.run_bind, p2, q2, he, Result.andThen_ok]
      cases a2 == b2 with
      | false => simp
      | true =>
        simp only [Bool.not_true, Bool.false_eq_true, if_false, Sem.run_bind, p3, q3, he, Result.andThen_ok]
        cases a3 == b3 <;> simp

theorem bv_inj {l m : List UInt8} (h : bvb l = bvb m) : l = m := by
  induction l generalizing m with
  | nil => cases m with
    | nil => rfl
    | cons b m => simp [bvb] at h
  | cons a l ih => cases m with
    | nil => simp [bvb] at h
    | cons b m =>
      simp only [bvb, List.map_cons, List.cons.injEq, Value.int.injEq, true_and] at h
      rw [ih (m := m) h.2, UInt8.toNat_inj.1 (show a.toNat = b.toNat by omega)]
theorem four_iff {l m : List UInt8} {a0 a1 a2 a3 : Nat} {t0 t1 t2 t3 : Int} (hl : bvb l = [.int .u8 (a0 : Int), .int .u8 (a1 : Int), .int .u8 (a2 : Int), .int .u8 (a3 : Int)]) (hm : bvb m = [.int .u8 t0, .int .u8 t1, .int .u8 t2, .int .u8 t3]) :
    ((a0 : Int) == t0 && ((a1 : Int) == t1 && ((a2 : Int) == t2 && (a3 : Int) == t3))) = true ↔ l = m := by
  constructor
  · intro h
    simp only [Bool.and_eq_true, beq_iff_eq] at h
    obtain ⟨rfl, rfl, rfl, rfl⟩ := h
    exact bv_inj (hl.trans hm.symm)
  · rintro rfl
    rw [hl] at hm
    simp only [List.cons.injEq, Value.int.injEq, true_and, and_true] at hm
    obtain ⟨rfl, rfl, rfl, rfl⟩ := hm
    simp

theorem rd_drop {w : World} {B b off c : Nat} {l t : List UInt8} (h : Rd w B (.slice (some ⟨b, off, none⟩) (l ++ t).length c) (l ++ t)) (k : Nat) (hk : k < t.length) : w.cell? ⟨b, off + l.length + k, none⟩ = some (.int .u8 ((t[k]).toNat : Int)) := by
  obtain ⟨b', off', e, _, hc⟩ := h.at_ rfl (l.length + k) (by simp; omega)
  injection e with e
  injection e with e1 e2
  subst e1 e2
  rw [Nat.add_assoc, hc]
  have hkl : l.length + k < (l ++ t).length := by simp; omega
  simp [List.getD, hk]

/-- What Open leaves of bytes l with four bytes t behind them; s is the sum of l. -/
def Opened (w : World) (l t : List UInt8) (s : Nat) (e : Ending) (w' : World) : Prop :=
  (t = tail s → ∃ u, e = .returned (.tuple #[u, .bool true]) ∧ OwnB w' w.heap.size u l) ∧ (t ≠ tail s → e = .returned (.tuple #[.slice none 0 0, .bool false])) ∧ Below w.heap.size w w'

set_option maxRecDepth 100000 in
theorem open_walk (l t : List UInt8) (ht : t.length = 4) (b off c : Nat) (hl : l.length ≤ 10000) (w : World) (B : Nat) (hB : B ≤ w.heap.size) (hv : Rd w B (.slice (some ⟨b, off, none⟩) (l ++ t).length c) (l ++ t)) (hT : Tab w) :
    Calls Tryd.prog 60 #[.slice (some ⟨b, off, none⟩) (l.length + 4) c] w (Opened w l t (Crc.csum (nums l))) := by
  obtain ⟨a0, a1, a2, a3, hat⟩ := bv_four ht
  have hs : Crc.csum (nums l) < 4294967296 := Crc.more_lt _ (by omega) (nums_lt _)
  obtain ⟨t0, t1, t2, t3, htl, hsb⟩ := sumBytes_any (Crc.csum (nums l)) hs
  have HSB := Lib.hid hsb
  clear hsb
  have hrd := rd_take hv
  have hsum := Lib.hid (fun W (h : Below w.heap.size w W) => sum_any _ l (by omega) W B (hrd.below (h.mono hB)) (hT.below h hT.pos))
  have hiff := four_iff hat htl
  have g0 := bv_get t 0 (by omega)
  have g1 := bv_get t 1 (by omega)
  have g2 := bv_get t 2 (by omega)
  have g3 := bv_get t 3 (by omega)
  rw [hat] at g0 g1 g2 g3
  have c0 : w.cell? ⟨b, off + l.length, none⟩ = some (.int .u8 (a0 : Int)) := (rd_drop hv 0 (by omega)).trans g0.symm
  have c1 : w.cell? ⟨b, off + l.length + 1, none⟩ = some (.int .u8 (a1 : Int)) := (rd_drop hv 1 (by omega)).trans g1.symm
  have c2 : w.cell? ⟨b, off + l.length + 2, none⟩ = some (.int .u8 (a2 : Int)) := (rd_drop hv 2 (by omega)).trans g2.symm
  have c3 : w.cell? ⟨b, off + l.length + 3, none⟩ = some (.int .u8 (a3 : Int)) := (rd_drop hv 3 (by omega)).trans g3.symm
  have hc : l.length + 4 ≤ c := by
    obtain ⟨A, c', e, h, _⟩ := hv.form
    injection e with _ _ e3
    simp at h
    omega
  have hq := fun (W : World) => eq_four W a0 a1 a2 a3 t0 t1 t2 t3
  generalize ((a0 : Int) == t0 && ((a1 : Int) == t1 && ((a2 : Int) == t2 && (a3 : Int) == t3))) = bq at hq hiff
  have HI := Lib.hid hiff
  have HQ := Lib.hid hq
  have HR := Lib.hid hrd
  clear htl hat hv g0 g1 g2 g3 hiff hq hrd hT ht
  generalize Crc.csum (nums l) = s at *
  have hle : Hid (l.length ≤ 10000) := hl
  generalize hn : l.length = n at *
  have HN := Lib.hid hn
  clear hn
  have hd : decide ((n : Int) < 0) = false := by simp
  have hcn : ¬ c = n := by omega
  go_enter Tryd.func60, Tryd.ntmps60
  go_upto_region 2 with (fail)
  go_cut [22] (fun x wx => x = .bool (!bq) ∧ Below w.heap.size w wx)
  case first =>
    have k0 := cell_regrown c0
    have k1 := cell_regrown c1
    have k2 := cell_regrown c2
    have k3 := cell_regrown c3
    have cS : ∀ d os, Calls Tryd.prog 68 #[.slice (some ⟨b, off, none⟩) n c] (grow (redrawn w d) os) fun e w'' => e = .returned (.int .u32 (s : Int)) ∧ ∃ p : Regrown, w'' = grow (redrawn w p.d) p.os :=
      fun d os => (hsum.out _ (below_regrown w d os)).mono fun _ _ ⟨h1, h2⟩ => ⟨h1, ⟨d, os⟩, h2.symm⟩
    have cB : ∀ d os, Calls Tryd.prog 67 #[.int .u32 (s : Int)] (grow (redrawn w d) os) fun e w'' => e = .returned (.agg #[.int .u8 t0, .int .u8 t1, .int .u8 t2, .int .u8 t3]) ∧ ∃ p : Regrown, w'' = grow (redrawn w p.d) p.os :=
      fun d os => Calls.regrown_of (HSB.out _)
    clear c0 c1 c2 c3
    have i1 : (n : Int) ≤ (n : Int) + 4 := by omega
    have i2 : (n : Int) ≤ (c : Int) := by omega
    have i3 : (0 : Int) ≤ (n : Int) := by omega
    have i4 : n ≤ c := by omega
    have hq := HQ.out
    have ha := fun (W : World) (a : Option Addr) (cap : Nat) => run_arrayAt (P := Tryd.prog) W 110 5 4 a 4 cap Tryd.underlying110 (Nat.le_refl _)
    go_wp2_with fail
    refine wp_region_quiet_below (by kernel_rfl) (by kernel_rfl) ?_
    repeat (quiet_step (first | exact cS _ _ | exact cB _ _))
    refine wpQuiet_nil ?_
    intro _ hw'
    obtain ⟨⟨dq, osq⟩, hw''⟩ := hw'
    subst hw''
    clear k0 k1 k2 k3 cS cB ha hq
    go_wp2_with fail
    go_meet
    case rel => exact ⟨rfl, below_regrown w dq osq⟩
  case rest =>
    obtain ⟨rfl, hbc⟩ := hcut
    have i4 : n ≤ c := by omega
    have hz := hbc.size
    cases bq with
    | true =>
      have hte := Lib.hid (HI.out.1 rfl)
      go_wp2_with (at_builtin; refine wpList_append_rd rfl _ (.tmp 25) rfl w.heap.size _ [] rfl (OwnB.nil _ _) B _ l rfl (HR.out.below (hbc.mono hB)) (by rw [HN.out]; simp; omega) hz ?_; intro v2 w2 hown2 hg2 hob2; rw [List.nil_append] at hown2; have hb2 := hbc.grown hg2 hz (by intro k h; cases h); clear hg2 hob2)
      go_returns
      exact ⟨fun _ => ⟨_, rfl, hown2⟩, fun h => absurd hte.out h, hb2⟩
    | false =>
      have hte : Hid (t ≠ tail s) := fun h => by have := HI.out.2 h; cases this
      go_wp2
      go_returns
      exact ⟨fun h => absurd h hte.out, fun _ => rfl, hbc⟩

/-- Sealed bytes are opened as they were. -/
theorem open_sealed (v : Value) (l : List UInt8) (hl : l.length ≤ 10000) (w : World) (B : Nat) (hB : B ≤ w.heap.size) (hv : Rd w B v (seal_ l)) (hT : Tab w) :
    Calls Tryd.prog 60 #[v] w fun e w' => ∃ A c, e = .returned (.tuple #[.slice A l.length c, .bool true]) ∧ Rd w' w'.heap.size (.slice A l.length c) l ∧ Below w.heap.size w w' := by
  obtain ⟨A, c, rfl, _, hx⟩ := hv.form
  obtain ⟨b, off, rfl, _⟩ := hx (by rw [seal_length]; omega)
  have h := open_walk l (tail (Crc.csum (nums l))) rfl b off c hl w B hB hv hT
  rw [seal_length]
  refine h.mono fun e w' ⟨h1, _, h3⟩ => ?_
  obtain ⟨u, he, ho⟩ := h1 rfl
  have hr := ho.rd
  obtain ⟨A, c, hu, _⟩ := hr.form
  subst hu
  exact ⟨A, c, he, hr, h3⟩
/-- Other bytes are not. -/
theorem open_other (v : Value) (m : List UInt8) (hm : m.length ≤ 10000) (hno : ∀ l, m ≠ seal_ l) (w : World) (B : Nat) (hB : B ≤ w.heap.size) (hv : Rd w B v m) (hT : Tab w) :
    Calls Tryd.prog 60 #[v] w fun e w' => e = .returned (.tuple #[.slice none 0 0, .bool false]) ∧ Below w.heap.size w w' := by
  by_cases h4 : m.length < 4
  · exact open_short v m h4 w B hv
  · obtain ⟨l, t, rfl, ht⟩ : ∃ l t, m = l ++ t ∧ t.length = 4 := ⟨m.take (m.length - 4), m.drop (m.length - 4), (List.take_append_drop _ _).symm, by simp; omega⟩
    obtain ⟨A, c, rfl, _, hx⟩ := hv.form
    have hl : (l ++ t).length = l.length + 4 := by simp; omega
    obtain ⟨b, off, rfl, _⟩ := hx (by omega)
    have h := open_walk l t ht b off c (by omega) w B hB hv hT
    rw [hl]
    refine h.mono fun e w' ⟨_, h2, h3⟩ => ⟨h2 fun e => hno l ?_, h3⟩
    rw [e]; rfl
theorem open_own (v : Value) (l : List UInt8) (hl : l.length ≤ 10000) (w : World) (B : Nat) (hB : B ≤ w.heap.size) (hv : Rd w B v (seal_ l)) (hT : Tab w) :
    Calls Tryd.prog 60 #[v] w fun e w' => ∃ u, e = .returned (.tuple #[u, .bool true]) ∧ OwnB w' w.heap.size u l ∧ Below w.heap.size w w' := by
  obtain ⟨A, c, rfl, _, hx⟩ := hv.form
  obtain ⟨b, off, rfl, _⟩ := hx (by rw [seal_length]; omega)
  have h := open_walk l (tail (Crc.csum (nums l))) rfl b off c hl w B hB hv hT
  rw [seal_length]
  exact h.mono fun e w' ⟨h1, _, h3⟩ => by
    obtain ⟨u, he, ho⟩ := h1 rfl
    exact ⟨u, he, ho, h3⟩
end Go.Proofs.YtcacebkbfnnjbaaDoor
