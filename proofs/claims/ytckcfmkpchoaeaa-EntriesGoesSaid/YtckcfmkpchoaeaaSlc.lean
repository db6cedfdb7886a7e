/-
  Slices of entries that are cut, in one form for every start: the steps, and what they read as.
-/
import Derived.Test.YtckcfmkpchoaeaaEnt
namespace Go.Proofs.Ytckcfmkpchoaeaa
open Go.RowKit

theorem size_e (w : World) : (sizeOf 44).run Try.prog w = .ok 7 w := by
  obtain ⟨i, hi, hz, hsz, hby⟩ := info_parts (show (Try.prog.info? 44).map (fun i => (i.zero, i.size, i.bytes)) = some (some (.agg #[.int .i64 0, .int .i64 0, .int .i64 0, .int .i64 0, .int .i64 0, .int .i64 0, .int .i64 0]), 7, 56) by kernel_rfl)
  simp [sizeOf, typeInfo, hi, hsz, Sem.run_bind]
theorem elem_e : Try.prog.elem 22 = 44 := by kernel_rfl
theorem under_e : Try.prog.underlying 22 = some (.slice (Try.prog.elem 22)) := by rw [elem_e]; exact Try.underlying22
/-- s[a:] -/
theorem run_from (A : Option Addr) (n c a : Nat) (i : Int) (hi : i = (a : Int)) (h : a ≤ n) (w : World) :
    (Instr.slice 22 (.slice A n c) (some (.int .i64 i)) none none).run Try.prog w = .ok (.slice (if c = a then A else A.map (·.add (a * 7))) (n - a) (c - a)) w := by
  subst hi
  rw [run_slice_l w _ A n c under_e .i64 (a : Int) (by omega) (by omega), elem_e, size_e]
  rfl
/-- s[:a] -/
theorem run_upto (A : Option Addr) (n c a : Nat) (i : Int) (hi : i = (a : Int)) (h : a ≤ c) (w : World) :
    (Instr.slice 22 (.slice A n c) none (some (.int .i64 i)) none).run Try.prog w = .ok (.slice (if c = 0 then A else A.map (·.add (0 * 7))) a c) w := by
  subst hi
  rw [run_slice_h w _ A n c under_e .i64 (a : Int) (by omega) (by omega), elem_e, size_e]
  rfl
theorem Sl.upto {w : World} {B n c : Nat} {A : Option Addr} {l : List E} (h : Sl w B (.slice A n c) l) (k : Nat) (hk : k ≤ n) : Sl w B (.slice (if c = 0 then A else A.map (·.add (0 * 7))) k c) (l.take k) := by
  have hr := h.room
  have h1 := h.take k c hk (by omega) hr.2.2
  have hl : (l.take k).length = k := by rw [List.length_take]; omega
  rcases Nat.eq_zero_or_pos k with h0 | h0
  · subst h0
    rw [List.take_zero]
    exact ⟨_, c, rfl, by simp, hr.2.2, fun h => absurd h (by simp)⟩
  · obtain ⟨b, off, rfl, _⟩ := h1.entry 0 (by omega)
    rw [if_neg (by omega), Option.map_some, add_at, Nat.zero_mul, Nat.add_zero]
    exact h1
end Go.Proofs.Ytckcfmkpchoaeaa
