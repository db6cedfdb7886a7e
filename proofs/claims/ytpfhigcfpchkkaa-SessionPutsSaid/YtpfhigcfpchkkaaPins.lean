/-
  slices.Clone and slices.Insert of sessions: lists of the call's own.
-/
import Derived.Test.YtpfhigcfpchkkaaSe
import Derived.Test.YtpfhigcfpchkkaaCpy
import Derived.BigQuiet
import Derived.StillTailTactics
namespace Go.Proofs.Ytpfhigcfpchkkaa
open Go.RowKit

/-- A list of sessions of the call's own. -/
def ListOut (w : World) (l : List Se) (e : Ending) (w' : World) : Prop :=
  ∃ A c, e = .returned (.slice A l.length c) ∧ Own w' w.heap.size 37 (.slice A l.length c) l ∧ Below w.heap.size w w'
theorem listOut_of {w w' : World} {l : List Se} {v : Value} (h : Own w' w.heap.size 37 v l) (hb : Below w.heap.size w w') : ListOut w l (.returned v) w' := by
  obtain ⟨A, c, rfl, _, _⟩ := h.sl.form
  exact ⟨A, c, rfl, h, hb⟩

set_option maxRecDepth 100000 in
theorem clone_any (v : Value) (l : List Se) (hl : l.length ≤ 100000) (w : World) (B : Nat) (hB : B ≤ w.heap.size) (hv : Sl w B v l) :
    Calls Try.prog 22 #[v] w (ListOut w l) := by
  obtain ⟨A, c, rfl, hc, hm⟩ := hv.form
  have hnil := fun (w : World) (a : Option Addr) (n c : Nat) => Lib.run_eql_slice_nil (P := Try.prog) w 22 37 a n c 0 0 Try.underlying22
  rcases A with _ | ⟨g, o, s⟩
  · have hl0 : l = [] := by
      rcases l with _ | ⟨x, l⟩
      · rfl
      · obtain ⟨b, off, h, _⟩ := hv.sess 0 (by simp)
        cases h
    subst hl0
    go_enter Try.func22, Try.ntmps22
    go_wp2_with fail
    go_ret
    exact ⟨none, 0, rfl, Own.nil _ _ _, Below.refl _ _⟩
  · have hb1 : Below w.heap.size w (w.alloc (.cells #[] 37)) := (Below.refl _ _).alloc (Nat.le_refl _) _
    have HO := Lib.hid (Own.newL (α := Se) w w.heap.size 37 [] #[] (fun _ h => by simp at h) rfl (Nat.zero_le _) (Nat.le_refl _))
    have HV := Lib.hid (hv.below (hb1.mono hB))
    have HB := Lib.hid hb1
    clear hv hb1
    generalize hn : l.length = n at *
    have HN := Lib.hid hn
    clear hn
    go_enter Try.func22, Try.ntmps22
    go_wp2_with (at_builtin; refine wpList_append_sl rfl (.tmp 5) (.tmp 6) rfl rowS w.heap.size _ [] rfl HO.out B _ l rfl HV.out (by rw [HN.out]; unfold maxLen; simp; omega) (by rw [HN.out]; simp; omega) (by simp) ?_; intro v3 w3 hown3 hg3 hat3; rw [List.nil_append] at hown3; have hb3 := below_of_own HB.out HO.out hg3 (by simp); have HO3 := Lib.hid hown3; have HB3 := Lib.hid hb3; clear hown3 hg3 hat3 hb3)
    go_ret
    exact listOut_of HO3.out HB3.out

theorem size_s (w : World) : (sizeOf 37).run Try.prog w = .ok 3 w := by
  obtain ⟨i, hi, hz, hsz, hby⟩ := info_parts (show (Try.prog.info? 37).map (fun i => (i.zero, i.size, i.bytes)) = some (some (.agg #[.int .i64 0, .int .i64 0, .int .i64 0]), 3, 24) by kernel_rfl)
  simp [sizeOf, typeInfo, hi, hsz, Sem.run_bind]
theorem elem_s : Try.prog.elem 22 = 37 := by kernel_rfl
theorem under_s : Try.prog.underlying 22 = some (.slice (Try.prog.elem 22)) := by rw [elem_s]; exact Try.underlying22
/-- s[a:] -/
theorem run_from (A : Option Addr) (n c a : Nat) (i : Int) (hi : i = (a : Int)) (h : a ≤ n) (w : World) :
    (Instr.slice 22 (.slice A n c) (some (.int .i64 i)) none none).run Try.prog w = .ok (.slice (if c = a then A else A.map (·.add (a * 3))) (n - a) (c - a)) w := by
  subst hi
  rw [run_slice_l w _ A n c under_s .i64 (a : Int) (by omega) (by omega), elem_s, size_s]
  rfl
/-- .. of a row from its start on, where there are cells behind. -/
theorem run_from_g (g n c a : Nat) (i : Int) (hi : i = (a : Int)) (h : a ≤ n) (hc : a < c) (w : World) :
    (Instr.slice 22 (.slice (some ⟨g, 0, none⟩) n c) (some (.int .i64 i)) none none).run Try.prog w = .ok (.slice (some ⟨g, a * 3, none⟩) (n - a) (c - a)) w := by
  rw [run_from _ n c a i hi h w, if_neg (by omega), Option.map_some, add_at, Nat.zero_add]
/-- s[:a] -/
theorem run_upto_g (g n c a : Nat) (i : Int) (hi : i = (a : Int)) (h : a ≤ c) (w : World) :
    (Instr.slice 22 (.slice (some ⟨g, 0, none⟩) n c) none (some (.int .i64 i)) none).run Try.prog w = .ok (.slice (some ⟨g, 0, none⟩) a c) w := by
  subst hi
  rw [run_slice_h w _ _ n c under_s .i64 (a : Int) (by omega) (by omega), elem_s, size_s]
  by_cases h0 : c = 0
  · subst h0; rfl
  · show Result.ok (Value.slice (if c = 0 then _ else _) _ _) w = _
    rw [if_neg h0]
    simp [add_at]

/-- The answer: the list with an element laid in, of the call's own. -/
def InsOut (w : World) (base : Nat) (l : List Se) (e : Ending) (w' : World) : Prop :=
  ∃ A c, e = .returned (.slice A l.length c) ∧ Own w' base 37 (.slice A l.length c) l ∧ Below base w w'
theorem insOut_of {w w' : World} {base : Nat} {l : List Se} {v : Value} (h : Own w' base 37 v l) (hb : Below base w w') : InsOut w base l (.returned v) w' := by
  obtain ⟨A, c, rfl, _, _⟩ := h.sl.form
  exact ⟨A, c, rfl, h, hb⟩

set_option maxRecDepth 100000 in
/-- Behind the last one: append. -/
theorem insert_end (v : Value) (l : List Se) (base : Nat) (w : World) (hbase : base ≤ w.heap.size) (hown : Own w base 37 v l) (hlen : l.length ≤ 100000) (z : Se) (hz : Flat.wf z) (vb : Nat) (hvb : Whole w vb 37 (sc z)) :
    Calls Try.prog 23 #[v, .int .i64 l.length, .slice (some ⟨vb, 0, none⟩) 1 1] w (InsOut w base (l ++ [z])) := by
  obtain ⟨A, c, rfl, hc, hm⟩ := hown.sl.form
  unfold maxLen at hm
  have hs := fun W => run_from A l.length c l.length (l.length : Int) rfl (Nat.le_refl _) W
  have HS1 : Hid (Sl w (vb + 1) (.slice (some ⟨vb, 0, none⟩) 1 1) [z]) := Sl.block (l := [z]) hvb (by simp [cells]; exact sc_enc z) (by simpa using hz) (Nat.lt_succ_self _) (Nat.le_refl _) (by unfold maxLen; omega)
  have HO := Lib.hid hown
  clear hown
  generalize (if c = l.length then A else A.map (·.add (l.length * 3))) = A3 at *
  generalize hn : l.length = n at *
  have HN := Lib.hid hn
  clear hn hvb
  have e1 : ((n : Int) == (n : Int)) = true := by simp
  go_enter Try.func23, Try.ntmps23
  go_wp2_with (at_builtin; refine wpList_append_sl rfl _ (.tmp 24) rfl rowS base _ l rfl HO.out (vb + 1) _ [z] rfl HS1.out (by rw [HN.out]; unfold maxLen; simp; omega) (by rw [HN.out]; simp; omega) hbase ?_; intro v3 w3 hown3 hg3 hat3; have hb3 := below_of_own (Below.refl base w) HO.out hg3 hbase; have HO3 := Lib.hid hown3; have HB3 := Lib.hid hb3; clear hown3 hg3 hat3 hb3)
  go_ret
  exact insOut_of HO3.out HB3.out
end Go.Proofs.Ytpfhigcfpchkkaa
