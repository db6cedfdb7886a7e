/-
  What Held answers.
-/
import Derived.Test.YtdgfopiagfibkaaInts
import Derived.Test.YtdgfopiagfibkaaQr
import Derived.LoopTactic
namespace Go.Proofs.Ytdgfopiagfibkaa
open Go.RowKit

set_option maxRecDepth 100000 in
theorem held_any (v : Value) (l : List Int) (i : Int) (w : World) (B : Nat) (hB : B ≤ w.heap.size) (hv : Sl w B v l) :
    Calls Try.prog 10 #[v, .int .i64 i] w fun e w' => e = .returned (.int .i64 (Qr.held l i : Int)) ∧ w = w' := by
  obtain ⟨A, c, rfl, hc, hm⟩ := hv.form
  unfold maxLen at hm
  have H := Lib.hid hv
  have HE := Lib.hid (show Qr.held (l.take l.length) i = Qr.held l i by rw [List.take_length])
  have HLE := Lib.hid (fun k => Qr.held_le (l.take k) i)
  clear hv
  generalize Qr.held l i = r at *
  generalize hn : l.length = n at *
  have HN := Lib.hid hn
  clear hn
  have HTK := Lib.hid (fun k (h : k < l.length) => Qr.held_take h i)
  go_enter Try.func10, Try.ntmps10
  go_wp2_with fail
  go_loopw [5, 10] (fun a i' wr => ∃ k : Nat, k ≤ n ∧ i' = .int .i64 (k : Int) ∧ a = .int .i64 (Qr.held (l.take k) i : Int) ∧ w = wr) (fun _ i' _ => n - (intOf i').toNat)
  case atStart => exact ⟨0, Nat.zero_le _, rfl, rfl, rfl⟩
  case round =>
    obtain ⟨k, hk, rfl, rfl, rfl⟩ := hrel
    by_cases hlt : k < n
    · have hkl : k < l.length := by rw [HN.out]; exact hlt
      obtain ⟨b1, o1, rfl, hbB, g0, -⟩ := H.out.int k hkl
      have hst := HTK.out k hkl
      have hle := HLE.out k
      rw [List.length_take] at hle
      generalize hh : Qr.held (l.take k) i = h at *
      generalize l[k] = x at *
      by_cases hx : i ≤ x
      · rw [if_pos hx] at hst
        go_wp2_with fail
        go_roundw
        case rel => exact ⟨k + 1, by omega, by go_num, by rw [hst]; go_num, trivial⟩
        case measure => simp [intOf]; omega
      · rw [if_neg hx] at hst
        go_wp2_with fail
        go_roundw
        case rel => exact ⟨k + 1, by omega, by go_num, by rw [hst]; go_num, trivial⟩
        case measure => simp [intOf]; omega
    · obtain rfl : k = n := by omega
      rw [HE.out]
      go_wp2_with fail
      go_ret
      exact ⟨rfl, rfl⟩
end Go.Proofs.Ytdgfopiagfibkaa
