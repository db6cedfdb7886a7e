/-
  Parts that the statement rests on, joined: Slb.
-/
import Derived.Test.YtcacebkbfnnjbaaDoorV8
import Derived.Test.YtcacebkbfnnjbaaDoorV14
/-
  Slices of bytes that are cut, in one form for every start.
-/


namespace Go.Proofs.YtcacebkbfnnjbaaDoor
open Go.RowKit

theorem size_b (w : World) : (sizeOf 5).run Tryd.prog w = .ok 1 w := by
  obtain ⟨i, hi, hz, hsz, hby⟩ := info_parts (show (Tryd.prog.info? 5).map (fun i => (i.zero, i.size, i.bytes)) = some (some (.int .u8 0), 1, 1) by kernel_rfl)
  simp [sizeOf, typeInfo, hi, hsz, Sem.run_bind]
theorem elem_b : Tryd.prog.elem 28 = 5 := by kernel_rfl
theorem under_b : Tryd.prog.underlying 28 = some (.slice (Tryd.prog.elem 28)) := by rw [elem_b]; exact Tryd.underlying28
/-- s[a:] -/
theorem run_fromB (A : Option Addr) (n c a : Nat) (i : Int) (hi : i = (a : Int)) (h : a ≤ n) (w : World) :
    (Instr.slice 28 (.slice A n c) (some (.int .i64 i)) none none).run Tryd.prog w = .ok (.slice (if c = a then A else A.map (·.add (a * 1))) (n - a) (c - a)) w := by
  subst hi
  rw [run_slice_l w _ A n c under_b .i64 (a : Int) (by omega) (by omega), elem_b, size_b]
  rfl
/-- s[:a] -/
theorem run_uptoB (A : Option Addr) (n c a : Nat) (i : Int) (hi : i = (a : Int)) (h : a ≤ c) (w : World) :
    (Instr.slice 28 (.slice A n c) none (some (.int .i64 i)) none).run Tryd.prog w = .ok (.slice (if c = 0 then A else A.map (·.add (0 * 1))) a c) w := by
  subst hi
  rw [run_slice_h w _ A n c under_b .i64 (a : Int) (by omega) (by omega), elem_b, size_b]
  rfl
theorem add_zero1 {w : World} {base : Nat} {e : TypeId} {A : Option Addr} {n c : Nat} {l : List UInt8} (h : Own w base e (.slice A n c) l) : (if c = 0 then A else A.map (·.add (0 * 1))) = A := by
  rcases h.1.2 with ⟨h1, _⟩ | ⟨g, cap, cur, h1, -⟩
  · obtain ⟨rfl, rfl, rfl⟩ := Value.slice.inj h1
    rfl
  · obtain ⟨rfl, rfl, rfl⟩ := Value.slice.inj h1
    split
    · rfl
    · simp [add_at]
end Go.Proofs.YtcacebkbfnnjbaaDoor
