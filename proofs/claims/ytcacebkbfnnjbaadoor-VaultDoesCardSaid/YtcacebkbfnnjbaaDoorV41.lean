/-
  Parts that the statement rests on, joined: Vr.
-/
import Derived.Test.YtcacebkbfnnjbaaDoorV32
import Derived.Test.YtcacebkbfnnjbaaDoorV36
import Derived.Test.YtcacebkbfnnjbaaDoorV40
/-
  The program's vault and the reference's, side by side.
-/



namespace Go.Proofs.YtcacebkbfnnjbaaDoor
open Go.RowKit

/-- The program's vault at g, the reference's at g2, both from block B0 on. -/
def VR (B0 g g2 : Nat) (w : World) (u v : Vl.V) : Prop :=
  ∃ A c A2 c2 B d B2 d2, VMem g w u A c A2 c2 ∧ RVMem g2 (fun b => b ≠ g2 ∧ ¬ Vof g A A2 b) w v B d B2 d2 ∧ ¬ Vof g A A2 g2 ∧ (∀ b, Vof g A A2 b → B0 ≤ b) ∧ B0 ≤ g2 ∧ B0 ≤ w.heap.size
theorem belowD {B0 : Nat} {w w' : World} (h : Below B0 w w') : Kept (fun b => B0 ≤ b) w w' := ⟨h.os, h.tape, h.output, h.size, fun b _ hb => h.block b (by omega)⟩
section
variable {B0 g g2 : Nat} {w w' : World} {u v u' v' : Vl.V}
theorem VR.drew (h : VR B0 g g2 w u v) : VR B0 g g2 w.drew u v := by
  obtain ⟨A, c, A2, c2, B, d, B2, d2, h1, h2, h3, h4, h5, h6⟩ := h
  exact ⟨A, c, A2, c2, B, d, B2, d2, h1.drew, ⟨h2.st, h2.d.stay (fun _ _ _ => rfl), h2.l.stay (fun _ _ _ => rfl), h2.off⟩, h3, h4, h5, h6⟩
theorem VR.stay (h : VR B0 g g2 w u v) (hb : Below w.heap.size w w') : VR B0 g g2 w' u v := by
  obtain ⟨A, c, A2, c2, B, d, B2, d2, h1, h2, h3, h4, h5, h6⟩ := h
  exact ⟨A, c, A2, c2, B, d, B2, d2, h1.stay hb, h2.stay hb, h3, h4, h5, Nat.le_trans h6 hb.size⟩
theorem vr_new {w w1 : World} (h1 : VMem w.heap.size w1 Vl.new none 0 none 0) (hb : Below w.heap.size w w1) (hB : B0 ≤ w.heap.size) :
    VR B0 w.heap.size w1.heap.size (w1.alloc (.cells #[.slice none 0 0, .int .i64 0, .int .i64 0, .int .i64 0, .slice none 0 0] 35)) Vl.new Vl.new := by
  have hlt := h1.st.lt
  have hal := (Below.refl w1.heap.size w1).alloc (Nat.le_refl _) (.cells #[.slice none 0 0, .int .i64 0, .int .i64 0, .int .i64 0, .slice none 0 0] 35)
  refine ⟨none, 0, none, 0, none, 0, none, 0, h1.stay hal, ⟨Whole.new w1 _ _, SlS.nil _ _, SlS.nil _ _, fun h => h.1 rfl⟩, ?_, ?_, Nat.le_trans hB hb.size, Nat.le_trans hB (Nat.le_trans hb.size hal.size)⟩
  · rintro (h | h | h)
    · omega
    all_goals cases h
  · rintro b (rfl | h | h)
    · exact hB
    all_goals cases h
theorem vr_one {A A2 : Option Addr} {B B2 : Option Addr} {d d2 : Nat} (h2 : RVMem g2 (fun b => b ≠ g2 ∧ ¬ Vof g A A2 b) w v B d B2 d2) (h3 : ¬ Vof g A A2 g2) (h4 : ∀ b, Vof g A A2 b → B0 ≤ b) (h5 : B0 ≤ g2) (h6 : B0 ≤ w.heap.size) (ht : VTo g A A2 w u' w') :
    VR B0 g g2 w' u' v ∧ Below B0 w w' := by
  obtain ⟨C, e, C2, e2, k1, k2, k3⟩ := ht
  have hg2 := h2.glt
  have hs1 : RVMem g2 (fun b => (b ≠ g2 ∧ ¬ Vof g A A2 b) ∧ b < w.heap.size) w v B d B2 d2 := h2.wide (fun b hb hlt => ⟨hb, hlt⟩) (fun h => h.1.1 rfl)
  have hs2 := hs1.keep k3 h3 (fun b hb => hb.1.2)
  refine ⟨⟨C, e, C2, e2, B, d, B2, d2, k1, hs2.wide (fun b hb _ => ⟨hb.1.1, fun hv => ?_⟩) (fun h => h.1 rfl), fun hv => ?_, fun b hb => (k2 b hb).elim (h4 b) (fun e => Nat.le_trans h6 e), h5, Nat.le_trans h6 k3.size⟩, k3.below h4 h6⟩
  · rcases k2 b hv with hh | hh
    · exact hb.1.2 hh
    · have := hb.2
      omega
  · rcases k2 g2 hv with hh | hh
    · exact h3 hh
    · omega
theorem vr_two {A A2 : Option Addr} {c c2 : Nat} {S : Nat → Prop} (h1 : VMem g w u A c A2 c2) (h3 : ¬ Vof g A A2 g2) (h4 : ∀ b, Vof g A A2 b → B0 ≤ b) (h5 : B0 ≤ g2) (h6 : B0 ≤ w.heap.size) (hg2 : g2 < w.heap.size) (hS : ∀ b, S b → b ≠ g2 ∧ ¬ Vof g A A2 b) (ht : RVTo g2 S w v' w') :
    VR B0 g g2 w' u v' ∧ Below B0 w w' := by
  obtain ⟨B, d, B2, d2, k1, k2⟩ := ht
  have hgl := h1.glt
  refine ⟨⟨A, c, A2, c2, B, d, B2, d2, h1.keep k2 (fun b hb e => h3 (e ▸ hb)), k1.wide (fun b hb _ => ?_) (fun h => h.1 rfl), h3, h4, h5, Nat.le_trans h6 k2.size⟩, k2.below (fun b hb => by subst hb; exact h5) h6⟩
  rcases hb with hb | hb
  · exact hS b hb
  · refine ⟨by omega, fun hv => ?_⟩
    have := hgl b hv
    omega
theorem save_vr1 (h : VR B0 g g2 w u v) (hok : Vl.Ok u) (h0 : 0 < B0) (b1 b2 l1 l2 : Int) (vl : Value) (l : List E) (hL : Sl w B0 vl l) (hT : Tab w) :
    Calls Tryd.prog 12 #[.pointer (some ⟨g, 0, none⟩), bv b1 b2, lv l1 l2 vl] w fun e w' => e = .returned (.int .i64 (Vl.save u (b1, b2) (l1, l2, l)).2) ∧ VR B0 g g2 w' (Vl.save u (b1, b2) (l1, l2, l)).1 v ∧ Below B0 w w' := by
  obtain ⟨A, c, A2, c2, B, d, B2, d2, h1, h2, h3, h4, h5, h6⟩ := h
  refine (save_any g u hok A c A2 c2 b1 b2 l1 l2 vl l w h1 (SlS.wide hL fun b hb _ hv => ?_) hT (fun hv => ?_)).mono ?_
  · have := h4 b hv; omega
  · have := h4 0 hv; omega
  · rintro e w' ⟨he, ht⟩
    exact ⟨he, vr_one h2 h3 h4 h5 h6 ht⟩
theorem save_vr2 (h : VR B0 g g2 w u v) (hok : Vl.Ok v) (b1 b2 l1 l2 : Int) (vl : Value) (l : List E) (hll : l.length ≤ 100000) (hL : Sl w B0 vl l) :
    Calls Tryd.prog 13 #[.pointer (some ⟨g2, 0, none⟩), bv b1 b2, lv l1 l2 vl] w fun e w' => e = .returned (.int .i64 (Vl.save v (b1, b2) (l1, l2, l)).2) ∧ VR B0 g g2 w' u (Vl.save v (b1, b2) (l1, l2, l)).1 ∧ Below B0 w w' := by
  obtain ⟨A, c, A2, c2, B, d, B2, d2, h1, h2, h3, h4, h5, h6⟩ := h
  refine (rsave_any g2 _ (fun b => b < B0) v hok B d B2 d2 b1 b2 l1 l2 vl l hll w h2 hL (by omega)).mono ?_
  rintro e w' ⟨he, ht⟩
  refine ⟨he, vr_two h1 h3 h4 h5 h6 h2.glt (fun b hb => ?_) ht⟩
  rcases hb with hb | hb
  · exact hb
  · refine ⟨by omega, fun hv => ?_⟩
    have := h4 b hv
    omega
theorem crash_vr1 (h : VR B0 g g2 w u v) (hok : Vl.Ok u) (h0 : 0 < B0) (keep : Int) (hkr : -9223372036854775808 ≤ keep ∧ keep ≤ 9223372036854775807) (hT : Tab w) :
    Calls Tryd.prog 16 #[.pointer (some ⟨g, 0, none⟩), .int .i64 keep] w fun e w' => e = .returned (.tuple #[]) ∧ VR B0 g g2 w' (Vl.crash u keep) v ∧ Below B0 w w' := by
  obtain ⟨A, c, A2, c2, B, d, B2, d2, h1, h2, h3, h4, h5, h6⟩ := h
  refine (crash_any g u hok A c A2 c2 keep hkr w h1 hT (fun hv => by have := h4 0 hv; omega)).mono ?_
  rintro e w' ⟨he, ht⟩
  exact ⟨he, vr_one h2 h3 h4 h5 h6 ht⟩
theorem crash_vr2 (h : VR B0 g g2 w u v) (hok : Vl.Ok v) (keep : Int) (hkr : -9223372036854775808 ≤ keep ∧ keep ≤ 9223372036854775807) :
    Calls Tryd.prog 17 #[.pointer (some ⟨g2, 0, none⟩), .int .i64 keep] w fun e w' => e = .returned (.tuple #[]) ∧ VR B0 g g2 w' u (Vl.crash v keep) ∧ Below B0 w w' := by
  obtain ⟨A, c, A2, c2, B, d, B2, d2, h1, h2, h3, h4, h5, h6⟩ := h
  refine (rcrash_any g2 _ v hok B d B2 d2 keep hkr w h2).mono ?_
  rintro e w' ⟨he, ht⟩
  exact ⟨he, vr_two h1 h3 h4 h5 h6 h2.glt (fun b hb => hb) ht⟩
theorem sync_vr1 (h : VR B0 g g2 w u v) :
    Calls Tryd.prog 14 #[.pointer (some ⟨g, 0, none⟩)] w fun e w' => e = .returned (.tuple #[]) ∧ VR B0 g g2 w' (Vl.sync u) v ∧ Below B0 w w' := by
  obtain ⟨A, c, A2, c2, B, d, B2, d2, h1, h2, h3, h4, h5, h6⟩ := h
  refine (sync_any g u A c A2 c2 w h1).mono ?_
  rintro e w' ⟨he, hv, hk⟩
  exact ⟨he, vr_one h2 h3 h4 h5 h6 (vto_of hv (hk.mono fun b _ e => .inl e))⟩
theorem sync_vr2 (h : VR B0 g g2 w u v) :
    Calls Tryd.prog 15 #[.pointer (some ⟨g2, 0, none⟩)] w fun e w' => e = .returned (.tuple #[]) ∧ VR B0 g g2 w' u (Vl.sync v) ∧ Below B0 w w' := by
  obtain ⟨A, c, A2, c2, B, d, B2, d2, h1, h2, h3, h4, h5, h6⟩ := h
  refine (rsync_any g2 _ v B d B2 d2 w h2).mono ?_
  rintro e w' ⟨he, hv, hk⟩
  refine ⟨he, vr_two h1 h3 h4 h5 h6 h2.glt (fun b hb => hb) ⟨B, d, B2, d2, hv.wide (fun b hb _ => .inl hb) (fun e => e.elim (fun e => e.1 rfl) (fun e => ?_)), hk⟩⟩
  have := h2.glt
  omega
end
end Go.Proofs.YtcacebkbfnnjbaaDoor
