/-
  What the reference's Most answers.
-/
import Derived.Test.YtdgfopiagfibkaaRheld
import Derived.Test.YtdgfopiagfibkaaRmaj
namespace Go.Proofs.Ytdgfopiagfibkaa
open Go.RowKit

set_option maxRecDepth 100000 in
theorem rmost_any (v : Value) (l : List Int) (hl : l.length ≤ 100000) (w : World) (B : Nat) (hB : B ≤ w.heap.size) (hv : Sl w B v l) :
    Calls Try.prog 13 #[v] w fun e w' => e = .returned (.int .i64 (Qr.most l)) ∧ w = w' := by
  obtain ⟨A, c, rfl, hc, hm⟩ := hv.form
  unfold maxLen at hm
  have H := Lib.hid hv
  have HH := Lib.hid (fun i => rheld_any _ l i w B hB hv)
  have HM := Lib.hid (fun (h : 0 < l.length) => show Calls Try.prog 9 #[.int .i64 (l.length : Int)] w fun e w' => e = .returned (.int .i64 ((l.length / 2 + 1 : Nat) : Int)) ∧ w = w' by rw [← Qr.maj_nat h]; exact rmaj_any (l.length : Int) (by omega) w)
  have HX := Lib.hid (fun (h : 0 < l.length) (i : Int) => Qr.held_most h i)
  have hse : ∀ b f, Qr.seen (Qr.most l) l l.length b f → b = Qr.most l := fun b f h => Qr.seen_end h
  have HSE := Lib.hid hse
  have HS0 := Lib.hid (Qr.seen_zero (Qr.most l) l)
  clear hv hse
  generalize Qr.most l = r at *
  generalize hn : l.length = n at *
  have HN := Lib.hid hn
  clear hn
  go_enter Try.func13, Try.ntmps13
  go_wp2_with fail
  go_loopw [3, 4, 5] (fun b f i wr => ∃ (k : Nat) (x : Int) (y : Bool), k ≤ n ∧ i = .int .i64 (k : Int) ∧ b = .int .i64 x ∧ f = .bool y ∧ Hid (Qr.seen r l k x y) ∧ w = wr) (fun _ _ i _ => n - (intOf i).toNat)
  case atStart => exact ⟨0, 0, false, Nat.zero_le _, rfl, rfl, rfl, HS0, rfl⟩
  case round =>
    obtain ⟨k, x, y, hk, rfl, rfl, rfl, hs, rfl⟩ := hrel
    by_cases hlt : k < n
    · have hkl : k < l.length := by rw [HN.out]; exact hlt
      obtain ⟨b1, o1, rfl, hbB, g0, -⟩ := H.out.int k hkl
      have hx := HX.out (by omega) l[k]
      have HOFF := Lib.hid (Qr.seen_off hs.out hkl)
      have HTAKE := Lib.hid (Qr.seen_take hs.out hkl)
      have HKEEP := Lib.hid (fun (h : y = true) => Qr.seen_keep (h ▸ hs.out) hkl)
      have HMM := Lib.hid (HM.out (by omega))
      have HHK := Lib.hid (HH.out l[k])
      have hle := Qr.held_le l l[k]
      rw [HN.out] at hle
      clear hs
      generalize Qr.held l l[k] = h at *
      generalize l[k] = z at *
      clear hkl
      go_wp2_with fail
      with_reducible refine HHK.out.mono ?_
      rintro e w1 ⟨rfl, rfl⟩
      go_wp2_with fail
      with_reducible refine HMM.out.mono ?_
      rintro e w1 ⟨rfl, rfl⟩
      have hq : n / 2 + 1 ≤ n := by omega
      generalize n / 2 + 1 = q at *
      by_cases hz : z ≤ r
      · have h1 := hx.2 hz
        have d1 : decide (q ≤ h) = true := by simpa using h1
        rcases y with _ | _
        · have HT := Lib.hid (HTAKE.out hz (fun h => by cases h))
          clear hx HOFF HTAKE HKEEP HHK HMM
          go_wp2_with fail
          go_roundw
          case rel => exact ⟨k + 1, z, true, by omega, by go_num, rfl, rfl, HT, trivial⟩
          case measure => simp [intOf]; omega
        · by_cases hxz : x < z
          · have HT := Lib.hid (HTAKE.out hz (fun _ => hxz))
            clear hx HOFF HTAKE HKEEP HHK HMM
            go_wp2_with fail
            go_roundw
            case rel => exact ⟨k + 1, z, true, by omega, by go_num, rfl, rfl, HT, trivial⟩
            case measure => simp [intOf]; omega
          · have HT := Lib.hid (HKEEP.out rfl (by omega))
            have d2 : decide (x < z) = false := by simpa using hxz
            clear hx HOFF HTAKE HKEEP HHK HMM
            go_wp2_with fail
            go_roundw
            case rel => exact ⟨k + 1, x, true, by omega, by go_num, rfl, rfl, HT, trivial⟩
            case measure => simp [intOf]; omega
      · have h1 : ¬ q ≤ h := fun hh => hz (hx.1 hh)
        have d1 : decide (q ≤ h) = false := by simpa using h1
        have hof := HOFF.out (by omega)
        have HOF := Lib.hid hof
        clear hx hof HOFF HTAKE HKEEP HHK HMM
        go_wp2_with fail
        go_roundw
        case rel => exact ⟨k + 1, x, y, by omega, by go_num, rfl, rfl, HOF, trivial⟩
        case measure => simp [intOf]; omega
    · obtain rfl : k = n := by omega
      obtain rfl := HSE.out _ _ hs.out
      go_wp2_with fail
      go_ret
      exact ⟨rfl, rfl⟩
end Go.Proofs.Ytdgfopiagfibkaa
