/-
  Entries of some terms.
-/
import Derived.Test.YtckcfmkpchoaeaaClone
import Derived.LoopTactic
namespace Go.Proofs.Ytckcfmkpchoaeaa
open Go.RowKit

abbrev ent (n : Int) : E := (n, 0, 0, 0, 0, 0, 0)
theorem zero_wf : Flat.wf (0 : Int) := ⟨by decide, by decide⟩
theorem ent_wf {x : Int} (h1 : -9223372036854775808 ≤ x) (h2 : x ≤ 9223372036854775807) : Flat.wf (ent x) := ⟨⟨h1, h2⟩, zero_wf, zero_wf, zero_wf, zero_wf, zero_wf, zero_wf⟩
theorem take_map_succ {l : List Int} {k : Nat} (h : k < l.length) : (l.take (k + 1)).map ent = (l.take k).map ent ++ [ent l[k]] := by
  rw [List.take_succ_eq_append_getElem h, List.map_append]; rfl

set_option maxRecDepth 100000 in
theorem of_any (v : Value) (l : List Int) (hl : l.length ≤ 1000) (w : World) (B : Nat) (hB : B ≤ w.heap.size) (hv : Sl w B v l) :
    Calls Try.prog 27 #[v] w (ListOut w (l.map ent)) := by
  obtain ⟨A, c, rfl, hc, hm⟩ := hv.form
  unfold maxLen at hm
  have HV := Lib.hid (fun W (h : Below w.heap.size w W) => hv.below (h.mono hB))
  clear hv
  generalize hn : l.length = n at *
  have HN := Lib.hid hn
  clear hn
  go_enter Try.func27, Try.ntmps27
  go_wp2_with fail
  go_loopw [3, 4] (fun o i wr => ∃ k : Nat, k ≤ n ∧ i = .int .i64 (k : Int) ∧ Own wr w.heap.size 44 o ((l.take k).map ent) ∧ Below w.heap.size w wr) (fun _ i _ => n - (intOf i).toNat)
  case atStart => exact ⟨0, Nat.zero_le _, rfl, Own.nil _ _ _, Below.refl _ _⟩
  case round =>
    obtain ⟨k, hk, rfl, hown, hb⟩ := hrel
    obtain ⟨Ao, co, rfl, -, -⟩ := hown.sl.form
    have hz := hb.size
    by_cases hlt : k < n
    · have hkl : k < l.length := by rw [HN.out]; exact hlt
      obtain ⟨b1, o1, rfl, -, g0, hx1, hx2⟩ := (HV.out wr hb).int k hkl
      have htk := take_map_succ hkl
      have htl : ((l.take k).map ent).length = k := by rw [List.length_map, List.length_take]; omega
      rw [htl]
      rw [htl] at hown
      have HTK := Lib.hid htk
      have HTL := Lib.hid htl
      generalize l[k] = x at *
      generalize (l.take k).map ent = Q at *
      have HN8 := Lib.hid (Sl.new1 (α := E) wr 44 (ent x) (ec (ent x)) (ent_wf hx1 hx2) rfl)
      have HOA := Lib.hid (hown.alloc (.cells (ec (ent x)) 44))
      have HBA := Lib.hid (hb.alloc hz (.cells (ec (ent x)) 44))
      clear hown hb htk htl hkl
      have i1 : (0 : Int) ≤ (k : Int) := by omega
      go_wp2_with (at_builtin; refine wpList_append_sl rfl (.tmp 11) (.tmp 17) rfl rowE w.heap.size _ Q (by rfl) HOA.out (wr.heap.size + 1) _ [ent x] (by rfl) HN8.out (by rw [HTL.out]; unfold maxLen; simp; omega) (by rw [HTL.out]; simp; omega) (by simp; omega) ?_; intro v9 w9 hown9 hg9 hat9; have HB9 := Lib.hid (below_of_own HBA.out HOA.out hg9 (by simp; omega)); rw [← HTK.out] at hown9; have HO9 := Lib.hid hown9; clear hg9 hat9 hown9)
      go_roundw
      case rel => exact ⟨k + 1, by omega, by go_num, HO9.out, HB9.out⟩
      case measure => simp [intOf]; omega
    · have hkn : l.take k = l := List.take_of_length_le (by rw [HN.out]; omega)
      rw [hkn] at hown ⊢
      have HO := Lib.hid hown
      clear hown hkn
      generalize (l.map ent) = Q at *
      go_wp2_with fail
      go_ret
      exact listOut_of HO.out hb
end Go.Proofs.Ytckcfmkpchoaeaa
