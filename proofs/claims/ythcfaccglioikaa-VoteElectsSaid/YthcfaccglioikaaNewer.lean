/-
  What Newer answers.
-/
import Derived.Test.YthcfaccglioikaaEnt
import Derived.Test.YthcfaccglioikaaLg
namespace Go.Proofs.Ythcfaccglioikaa
open Go.RowKit

set_option maxRecDepth 100000 in
theorem newer_any (i t j u : Int) (w : World) :
    Calls Try.prog 18 #[.int .i64 i, .int .i64 t, .int .i64 j, .int .i64 u] w fun e w' => e = .returned (.bool (Lg.newer i t j u)) ∧ w = w' := by
  unfold Lg.newer
  go_enter Try.func18, Try.ntmps18
  by_cases h1 : u < t
  · go_wp2_with fail
    go_ret
    exact ⟨ret_bool (by simp [h1]), rfl⟩
  · by_cases h2 : t = u
    · subst h2
      have hx : (t == t) = true := by simp
      go_wp2_with fail
      go_ret
      exact ⟨ret_bool (by simp), rfl⟩
    · have hx : (t == u) = false := by simpa using h2
      go_wp2_with fail
      go_ret
      exact ⟨ret_bool (by simp [h1]), rfl⟩
end Go.Proofs.Ythcfaccglioikaa
