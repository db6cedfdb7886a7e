/-
  Parts that the statement rests on, joined: Side8, Awk8, Bx, Ev8.
-/
import Derived.Test.YtcacebkbfnnjbaaDoorV17
import Derived.Test.YtcacebkbfnnjbaaDoorV18
import Derived.Test.YtcacebkbfnnjbaaDoorV26
import Derived.Test.YtcacebkbfnnjbaaDoorV31
import Derived.Test.YtcacebkbfnnjbaaDoorV34
import Derived.LoopTactic
/-
  The words that the laws use: a vault whose blocks lie from a block on; two of them.
-/



namespace Go.Proofs.YtcacebkbfnnjbaaDoor
open Go.RowKit

/-- A vault in memory, all of its blocks from block B0 on. -/
def VIn (B0 g : Nat) (w : World) (v : Vl.V) : Prop := ∃ A c A2 c2, VMem g w v A c A2 c2 ∧ (∀ b, Vof g A A2 b → B0 ≤ b) ∧ B0 ≤ w.heap.size
section
variable {B0 g : Nat} {w w' : World} {v v' : Vl.V}
theorem VIn.stay (h : VIn B0 g w v) (hb : Below w.heap.size w w') : VIn B0 g w' v := by
  obtain ⟨A, c, A2, c2, h1, h2, h3⟩ := h
  exact ⟨A, c, A2, c2, h1.stay hb, h2, Nat.le_trans h3 hb.size⟩
theorem vin_new (w : World) (h : VMem w.heap.size w' Vl.new none 0 none 0) (hb : Below w.heap.size w w') : VIn w.heap.size w.heap.size w' Vl.new :=
  ⟨none, 0, none, 0, h, (fun b hb => by rcases hb with rfl | hb | hb; exact Nat.le_refl _; cases hb; cases hb), hb.size⟩
theorem vto_in {A A2 : Option Addr} (hin : ∀ b, Vof g A A2 b → B0 ≤ b) (hB : B0 ≤ w.heap.size) (h : VTo g A A2 w v' w') : VIn B0 g w' v' ∧ Below B0 w w' := by
  obtain ⟨B, c, B2, c2, h1, h2, h3⟩ := h
  exact ⟨⟨B, c, B2, c2, h1, fun b hb => (h2 b hb).elim (hin b) (fun e => Nat.le_trans hB e), Nat.le_trans hB h3.size⟩, h3.below hin hB⟩
theorem save_in (h : VIn B0 g w v) (hok : Vl.Ok v) (h0 : 0 < B0) (b1 b2 l1 l2 : Int) (vl : Value) (l : List E) (hL : Sl w B0 vl l) (hT : Tab w) :
    Calls Tryd.prog 12 #[.pointer (some ⟨g, 0, none⟩), bv b1 b2, lv l1 l2 vl] w fun e w' => e = .returned (.int .i64 (Vl.save v (b1, b2) (l1, l2, l)).2) ∧ VIn B0 g w' (Vl.save v (b1, b2) (l1, l2, l)).1 ∧ Below B0 w w' := by
  obtain ⟨A, c, A2, c2, h1, h2, h3⟩ := h
  refine (save_any g v hok A c A2 c2 b1 b2 l1 l2 vl l w h1 (SlS.wide hL fun b hb _ hv => ?_) hT (fun hv => ?_)).mono ?_
  · have := h2 b hv; omega
  · have := h2 0 hv; omega
  · rintro e w' ⟨he, ht⟩
    exact ⟨he, vto_in h2 h3 ht⟩
theorem crash_in (h : VIn B0 g w v) (hok : Vl.Ok v) (h0 : 0 < B0) (keep : Int) (hkr : -9223372036854775808 ≤ keep ∧ keep ≤ 9223372036854775807) (hT : Tab w) :
    Calls Tryd.prog 16 #[.pointer (some ⟨g, 0, none⟩), .int .i64 keep] w fun e w' => e = .returned (.tuple #[]) ∧ VIn B0 g w' (Vl.crash v keep) ∧ Below B0 w w' := by
  obtain ⟨A, c, A2, c2, h1, h2, h3⟩ := h
  refine (crash_any g v hok A c A2 c2 keep hkr w h1 hT (fun hv => by have := h2 0 hv; omega)).mono ?_
  rintro e w' ⟨he, ht⟩
  exact ⟨he, vto_in h2 h3 ht⟩
theorem sync_in (h : VIn B0 g w v) :
    Calls Tryd.prog 14 #[.pointer (some ⟨g, 0, none⟩)] w fun e w' => e = .returned (.tuple #[]) ∧ VIn B0 g w' (Vl.sync v) ∧ Below B0 w w' := by
  obtain ⟨A, c, A2, c2, h1, h2, h3⟩ := h
  refine (sync_any g v A c A2 c2 w h1).mono ?_
  rintro e w' ⟨he, hv, hk⟩
  exact ⟨he, vto_in h2 h3 (vto_of hv (hk.mono fun b _ e => .inl e))⟩
theorem load_in (h : VIn B0 g w v) (hok : Vl.Ok v) : Calls Tryd.prog 18 #[.pointer (some ⟨g, 0, none⟩)] w (LoadOut w v.s) := by
  obtain ⟨A, c, A2, c2, h1, -, -⟩ := h
  exact load_any g v hok.good.len A c A2 c2 w h1
theorem bytes_in (h : VIn B0 g w v) (hok : Vl.Ok v) : Calls Tryd.prog 20 #[.pointer (some ⟨g, 0, none⟩)] w (BytesOut w v.disk) := by
  obtain ⟨A, c, A2, c2, h1, -, -⟩ := h
  exact bytes_any g v hok.len A c A2 c2 w h1
end

/-- Two vaults apart. -/
def V2 (B0 g h : Nat) (w : World) (u v : Vl.V) : Prop :=
  ∃ A c A2 c2 C d C2 d2, VMem g w u A c A2 c2 ∧ VMem h w v C d C2 d2 ∧ (∀ b, Vof g A A2 b → ¬ Vof h C C2 b) ∧ (∀ b, Vof g A A2 b → B0 ≤ b) ∧ (∀ b, Vof h C C2 b → B0 ≤ b) ∧ B0 ≤ w.heap.size
section
variable {B0 g h : Nat} {w w' : World} {u v u' : Vl.V}
theorem V2.swap (x : V2 B0 g h w u v) : V2 B0 h g w v u := by
  obtain ⟨A, c, A2, c2, C, d, C2, d2, h1, h2, h3, h4, h5, h6⟩ := x
  exact ⟨C, d, C2, d2, A, c, A2, c2, h2, h1, fun b hb ha => h3 b ha hb, h5, h4, h6⟩
theorem V2.stay (x : V2 B0 g h w u v) (hb : Below w.heap.size w w') : V2 B0 g h w' u v := by
  obtain ⟨A, c, A2, c2, C, d, C2, d2, h1, h2, h3, h4, h5, h6⟩ := x
  exact ⟨A, c, A2, c2, C, d, C2, d2, h1.stay hb, h2.stay hb, h3, h4, h5, Nat.le_trans h6 hb.size⟩
theorem V2.one (x : V2 B0 g h w u v) : ∃ A c A2 c2, VMem g w u A c A2 c2 := by
  obtain ⟨A, c, A2, c2, C, d, C2, d2, h1, -⟩ := x
  exact ⟨A, c, A2, c2, h1⟩
theorem v2_new {w w1 w2 : World} (h1 : VMem w.heap.size w1 Vl.new none 0 none 0) (hb1 : Below w.heap.size w w1) (h2 : VMem w1.heap.size w2 Vl.new none 0 none 0) (hb2 : Below w1.heap.size w1 w2) : V2 w.heap.size w.heap.size w1.heap.size w2 Vl.new Vl.new := by
  have hlt := h1.st.lt
  refine ⟨none, 0, none, 0, none, 0, none, 0, h1.stay hb2, h2, ?_, ?_, ?_, Nat.le_trans hb1.size hb2.size⟩
  · rintro b (rfl | hb | hb) (hc | hc | hc)
    · omega
    all_goals first | cases hb | cases hc
  · rintro b (rfl | hb | hb)
    · exact Nat.le_refl _
    all_goals cases hb
  · rintro b (rfl | hb | hb)
    · exact hb1.size
    all_goals cases hb
theorem v2_to {A A2 : Option Addr} {c c2 : Nat} {C C2 : Option Addr} {d d2 : Nat} (_hu : VMem g w u A c A2 c2) (hv : VMem h w v C d C2 d2) (h3 : ∀ b, Vof g A A2 b → ¬ Vof h C C2 b) (h4 : ∀ b, Vof g A A2 b → B0 ≤ b) (h5 : ∀ b, Vof h C C2 b → B0 ≤ b) (h6 : B0 ≤ w.heap.size) (ht : VTo g A A2 w u' w') :
    V2 B0 g h w' u' v ∧ Below B0 w w' := by
  obtain ⟨B, e, B2, e2, k1, k2, k3⟩ := ht
  refine ⟨⟨B, e, B2, e2, C, d, C2, d2, k1, hv.keep k3 (fun b hb hd => h3 b hd hb), fun b hb hc => ?_, fun b hb => (k2 b hb).elim (h4 b) (fun x => Nat.le_trans h6 x), h5, Nat.le_trans h6 k3.size⟩, k3.below h4 h6⟩
  rcases k2 b hb with hh | hh
  · exact h3 b hh hc
  · have := hv.glt b hc
    omega
theorem save_v2 (x : V2 B0 g h w u v) (hok : Vl.Ok u) (h0 : 0 < B0) (b1 b2 l1 l2 : Int) (vl : Value) (l : List E) (hL : Sl w B0 vl l) (hT : Tab w) :
    Calls Tryd.prog 12 #[.pointer (some ⟨g, 0, none⟩), bv b1 b2, lv l1 l2 vl] w fun e w' => e = .returned (.int .i64 (Vl.save u (b1, b2) (l1, l2, l)).2) ∧ V2 B0 g h w' (Vl.save u (b1, b2) (l1, l2, l)).1 v ∧ Below B0 w w' := by
  obtain ⟨A, c, A2, c2, C, d, C2, d2, h1, h2, h3, h4, h5, h6⟩ := x
  refine (save_any g u hok A c A2 c2 b1 b2 l1 l2 vl l w h1 (SlS.wide hL fun b hb _ hv => ?_) hT (fun hv => ?_)).mono ?_
  · have := h4 b hv; omega
  · have := h4 0 hv; omega
  · rintro e w' ⟨he, ht⟩
    exact ⟨he, v2_to h1 h2 h3 h4 h5 h6 ht⟩
theorem crash_v2 (x : V2 B0 g h w u v) (hok : Vl.Ok u) (h0 : 0 < B0) (keep : Int) (hkr : -9223372036854775808 ≤ keep ∧ keep ≤ 9223372036854775807) (hT : Tab w) :
    Calls Tryd.prog 16 #[.pointer (some ⟨g, 0, none⟩), .int .i64 keep] w fun e w' => e = .returned (.tuple #[]) ∧ V2 B0 g h w' (Vl.crash u keep) v ∧ Below B0 w w' := by
  obtain ⟨A, c, A2, c2, C, d, C2, d2, h1, h2, h3, h4, h5, h6⟩ := x
  refine (crash_any g u hok A c A2 c2 keep hkr w h1 hT (fun hv => by have := h4 0 hv; omega)).mono ?_
  rintro e w' ⟨he, ht⟩
  exact ⟨he, v2_to h1 h2 h3 h4 h5 h6 ht⟩
theorem sync_v2 (x : V2 B0 g h w u v) :
    Calls Tryd.prog 14 #[.pointer (some ⟨g, 0, none⟩)] w fun e w' => e = .returned (.tuple #[]) ∧ V2 B0 g h w' (Vl.sync u) v ∧ Below B0 w w' := by
  obtain ⟨A, c, A2, c2, C, d, C2, d2, h1, h2, h3, h4, h5, h6⟩ := x
  refine (sync_any g u A c A2 c2 w h1).mono ?_
  rintro e w' ⟨he, hv, hk⟩
  exact ⟨he, v2_to h1 h2 h3 h4 h5 h6 (vto_of hv (hk.mono fun b _ e => .inl e))⟩
theorem load_v2 (x : V2 B0 g h w u v) (hok : Vl.Ok u) : Calls Tryd.prog 18 #[.pointer (some ⟨g, 0, none⟩)] w (LoadOut w u.s) := by
  obtain ⟨A, c, A2, c2, h1⟩ := x.one
  exact load_any g u hok.good.len A c A2 c2 w h1
end
end Go.Proofs.YtcacebkbfnnjbaaDoor

/-
  The chapter's examples hold: what every law asks first.
-/


namespace Go.Proofs.YtcacebkbfnnjbaaDoor
open Go.RowKit

theorem awk_may : Vl.mayS (1, 2) (0, 0, [(1, 0, 0, 0, 0, 0, 0)]) = true := by decide
theorem awk_save : Vl.save Vl.new (1, 2) (0, 0, [(1, 0, 0, 0, 0, 0, 0)]) = (⟨Vl.more Vl.new (1, 2) [(1, 0, 0, 0, 0, 0, 0)], 0, ((1, 2), [(1, 0, 0, 0, 0, 0, 0)])⟩, 0) := by
  have h := more_len (v := Vl.new) awk_may
  rw [save_yes awk_may (by simp only [Vl.new, List.length_nil] at h ⊢; omega)]
  rfl
theorem awk_crash : (Vl.crash (Vl.save Vl.new (1, 2) (0, 0, [(1, 0, 0, 0, 0, 0, 0)])).1 0).s = Vl.zero := by
  rw [awk_save]
  show (Vl.read (List.take (Vl.kept _ 0) _)).1 = Vl.zero
  have e : Vl.kept ⟨Vl.more Vl.new (1, 2) [(1, 0, 0, 0, 0, 0, 0)], 0, ((1, 2), [(1, 0, 0, 0, 0, 0, 0)])⟩ 0 = 0 := rfl
  rw [e, List.take_zero]
  rfl
theorem awk_synced : (Vl.crash (Vl.sync (Vl.save Vl.new (1, 2) (0, 0, [(1, 0, 0, 0, 0, 0, 0)])).1) 0).s = ((1, 2), [(1, 0, 0, 0, 0, 0, 0)]) := by
  rw [Vl.crash_synced (Vl.sync_ok (Vl.save_ok Vl.ok_new _ _)) rfl, awk_save]
  rfl

set_option maxRecDepth 100000 in
set_option maxHeartbeats 4000000 in
theorem awake_any (w : World) (hT : Tab w) :
    Calls Tryd.prog 9 #[] w fun e w' => e = .returned (.bool true) ∧ Below w.heap.size w w' := by
  have hpos := hT.pos
  have hb1 : Below w.heap.size w (w.alloc (.cells #[.int .i64 1, .int .i64 2] 30)) := (Below.refl _ _).alloc (Nat.le_refl _) _
  have hb2 := hb1.alloc hb1.size (.cells #[.int .i64 1, .int .i64 0, .int .i64 0, .int .i64 0, .int .i64 0, .int .i64 0, .int .i64 0] 57)
  have HB3 := Lib.hid (hb2.alloc hb2.size (.cells #[.int .i64 0, .int .i64 0, .slice (some ⟨w.heap.size + 1, 0, none⟩) 1 1] 38))
  have HG1 := Lib.hid (((Whole.new w 30 #[.int .i64 1, .int .i64 2]).alloc (.cells #[.int .i64 1, .int .i64 0, .int .i64 0, .int .i64 0, .int .i64 0, .int .i64 0, .int .i64 0] 57)).alloc (.cells #[.int .i64 0, .int .i64 0, .slice (some ⟨w.heap.size + 1, 0, none⟩) 1 1] 38))
  have hE := Sl.new1 (w.alloc (.cells #[.int .i64 1, .int .i64 2] 30)) 57 (α := E) (1, 0, 0, 0, 0, 0, 0) #[.int .i64 1, .int .i64 0, .int .i64 0, .int .i64 0, .int .i64 0, .int .i64 0, .int .i64 0] ⟨⟨by decide, by decide⟩, ⟨by decide, by decide⟩, ⟨by decide, by decide⟩, ⟨by decide, by decide⟩, ⟨by decide, by decide⟩, ⟨by decide, by decide⟩, ⟨by decide, by decide⟩⟩ rfl
  simp only [World.size_alloc] at hE
  have hE2 : Sl _ (w.heap.size + 3) _ _ := (hE.below ((Below.refl (w.heap.size + 1 + 1) ((w.alloc (.cells #[.int .i64 1, .int .i64 2] 30)).alloc (.cells #[.int .i64 1, .int .i64 0, .int .i64 0, .int .i64 0, .int .i64 0, .int .i64 0, .int .i64 0] 57))).alloc (by simp) (.cells #[.int .i64 0, .int .i64 0, .slice (some ⟨w.heap.size + 1, 0, none⟩) 1 1] 38))).mono (by omega)
  have hG2 := Whole.new ((w.alloc (.cells #[.int .i64 1, .int .i64 2] 30)).alloc (.cells #[.int .i64 1, .int .i64 0, .int .i64 0, .int .i64 0, .int .i64 0, .int .i64 0, .int .i64 0] 57)) 38 #[.int .i64 0, .int .i64 0, .slice (some ⟨w.heap.size + 1, 0, none⟩) 1 1]
  simp only [World.size_alloc, Nat.add_assoc, Nat.reduceAdd] at hG2
  have HG2 := Lib.hid hG2
  have HE := Lib.hid hE2
  have hs3 : (((w.alloc (.cells #[.int .i64 1, .int .i64 2] 30)).alloc (.cells #[.int .i64 1, .int .i64 0, .int .i64 0, .int .i64 0, .int .i64 0, .int .i64 0, .int .i64 0] 57)).alloc (.cells #[.int .i64 0, .int .i64 0, .slice (some ⟨w.heap.size + 1, 0, none⟩) 1 1] 38)).heap.size = w.heap.size + 3 := by simp
  have HS3 := Lib.hid hs3
  have HT := Lib.hid (fun W (h : Below w.heap.size w W) => hT.below h hT.pos)
  have HA := Lib.hid awk_save
  have HA1 := Lib.hid awk_crash
  have HA2 := Lib.hid awk_synced
  have HO1 := Lib.hid (Vl.save_ok Vl.ok_new (1, 2) (0, 0, [(1, 0, 0, 0, 0, 0, 0)]))
  have HO2 := Lib.hid (Vl.sync_ok (Vl.save_ok Vl.ok_new (1, 2) (0, 0, [(1, 0, 0, 0, 0, 0, 0)])))
  have HO3 := Lib.hid (Vl.crash_ok (Vl.save_ok Vl.ok_new (1, 2) (0, 0, [(1, 0, 0, 0, 0, 0, 0)])) 0)
  have HO4 := Lib.hid (Vl.crash_ok (Vl.sync_ok (Vl.save_ok Vl.ok_new (1, 2) (0, 0, [(1, 0, 0, 0, 0, 0, 0)]))) 0)
  have HSV := Lib.hid (fun B0 g h W u v (x : V2 B0 g h W u v) (hok : Vl.Ok u) (h0 : 0 < B0) (hL : Sl W B0 (.slice (some ⟨w.heap.size + 1, 0, none⟩) 1 1) [((1, 0, 0, 0, 0, 0, 0) : E)]) (hT : Tab W) => save_v2 x hok h0 1 2 0 0 _ _ hL hT)
  clear hT hb1 hb2 hE hE2 hG2 hs3
  go_enter Tryd.func9, Tryd.ntmps9
  go_wp2_with fail
  with_reducible refine (new_any _).mono ?_
  rintro e w1 ⟨rfl, hn1, hb⟩
  have HN1 := Lib.hid hn1
  have HBa := Lib.hid hb
  have HZ1 := Lib.hid hb.size
  clear hn1 hb
  go_wp2_with fail
  with_reducible refine (new_any _).mono ?_
  rintro e w2 ⟨rfl, hn2, hb⟩
  have hV := v2_new HN1.out HBa.out hn2 hb
  rw [HS3.out] at hV
  have hb03 : Below (w.heap.size + 3) (((w.alloc (.cells #[.int .i64 1, .int .i64 2] 30)).alloc (.cells #[.int .i64 1, .int .i64 0, .int .i64 0, .int .i64 0, .int .i64 0, .int .i64 0, .int .i64 0] 57)).alloc (.cells #[.int .i64 0, .int .i64 0, .slice (some ⟨w.heap.size + 1, 0, none⟩) 1 1] 38)) w2 := by
    have h := HBa.out.trans (hb.mono HBa.out.size)
    rw [HS3.out] at h
    exact h
  have HV := Lib.hid hV
  have hlow : w.heap.size + 3 ≤ w.heap.size + 3 := Nat.le_refl _
  have HBL := Lib.hid (HB3.out.trans (hb03.mono (by omega)))
  have HL1 := Lib.hid (HG1.out.below hb03 (by omega))
  have HL2 := Lib.hid (HG2.out.below hb03 (by omega))
  have HLE := Lib.hid (HE.out.below hb03)
  clear hn2 hb hV hb03 HN1 HBa HG1 HG2 HE HB3 HS3 HZ1
  generalize hgg2 : w1.heap.size = g2 at *
  clear hgg2
  have HS0 := Lib.hid (show (Vl.save Vl.new (1, 2) (0, 0, [(1, 0, 0, 0, 0, 0, 0)])).2 = 0 by rw [HA.out])
  clear HA
  have hw0 : 0 < w.heap.size + 3 := Nat.succ_pos _
  obtain ⟨p0, p1⟩ := HL1.out.c2
  obtain ⟨r0, r1, r2⟩ := HL2.out.c3
  go_wp2_with fail
  with_reducible refine (HSV.out _ _ _ _ _ _ HV.out Vl.ok_new hw0 HLE.out (HT.out _ HBL.out)).mono ?_
  rintro e w3 ⟨rfl, hv, hb⟩
  rw [HS0.out]
  replace HLE := Lib.hid (HLE.out.below hb)
  replace HL1 := Lib.hid (HL1.out.below hb (by omega))
  replace HL2 := Lib.hid (HL2.out.below hb (by omega))
  replace HBL := Lib.hid (HBL.out.trans (hb.mono (by omega)))
  replace HV := Lib.hid hv
  clear hv hb
  clear p0 p1 r0 r1 r2
  obtain ⟨p0, p1⟩ := HL1.out.c2
  obtain ⟨r0, r1, r2⟩ := HL2.out.c3
  go_wp2_with fail
  with_reducible refine (HSV.out _ _ _ _ _ _ HV.out.swap Vl.ok_new hw0 HLE.out (HT.out _ HBL.out)).mono ?_
  rintro e w4 ⟨rfl, hv, hb⟩
  replace HLE := Lib.hid (HLE.out.below hb)
  replace HL1 := Lib.hid (HL1.out.below hb (by omega))
  replace HL2 := Lib.hid (HL2.out.below hb (by omega))
  replace HBL := Lib.hid (HBL.out.trans (hb.mono (by omega)))
  replace HV := Lib.hid hv.swap
  clear hv hb
  clear p0 p1 r0 r1 r2
  obtain ⟨p0, p1⟩ := HL1.out.c2
  obtain ⟨r0, r1, r2⟩ := HL2.out.c3
  go_wp2_with fail
  with_reducible refine (sync_v2 HV.out.swap).mono ?_
  rintro e w5 ⟨rfl, hv, hb⟩
  replace HLE := Lib.hid (HLE.out.below hb)
  replace HL1 := Lib.hid (HL1.out.below hb (by omega))
  replace HL2 := Lib.hid (HL2.out.below hb (by omega))
  replace HBL := Lib.hid (HBL.out.trans (hb.mono (by omega)))
  replace HV := Lib.hid hv.swap
  clear hv hb
  clear p0 p1 r0 r1 r2
  obtain ⟨p0, p1⟩ := HL1.out.c2
  obtain ⟨r0, r1, r2⟩ := HL2.out.c3
  go_wp2_with fail
  with_reducible refine (crash_v2 HV.out HO1.out hw0 0 (by decide) (HT.out _ HBL.out)).mono ?_
  rintro e w6 ⟨rfl, hv, hb⟩
  replace HLE := Lib.hid (HLE.out.below hb)
  replace HL1 := Lib.hid (HL1.out.below hb (by omega))
  replace HL2 := Lib.hid (HL2.out.below hb (by omega))
  replace HBL := Lib.hid (HBL.out.trans (hb.mono (by omega)))
  replace HV := Lib.hid hv
  clear hv hb
  clear p0 p1 r0 r1 r2
  obtain ⟨p0, p1⟩ := HL1.out.c2
  obtain ⟨r0, r1, r2⟩ := HL2.out.c3
  go_wp2_with fail
  with_reducible refine (crash_v2 HV.out.swap HO2.out hw0 0 (by decide) (HT.out _ HBL.out)).mono ?_
  rintro e w7 ⟨rfl, hv, hb⟩
  replace HLE := Lib.hid (HLE.out.below hb)
  replace HL1 := Lib.hid (HL1.out.below hb (by omega))
  replace HL2 := Lib.hid (HL2.out.below hb (by omega))
  replace HBL := Lib.hid (HBL.out.trans (hb.mono (by omega)))
  replace HV := Lib.hid hv.swap
  clear hv hb
  clear p0 p1 r0 r1 r2
  obtain ⟨p0, p1⟩ := HL1.out.c2
  obtain ⟨r0, r1, r2⟩ := HL2.out.c3
  go_wp2_with fail
  have hl := load_v2 HV.out HO3.out
  rw [HA1.out] at hl
  with_reducible refine hl.mono ?_
  rintro e w8 ⟨A8, c8, rfl, ho, hb⟩
  have HX1 := Lib.hid (Whole.new w8 30 #[.int .i64 0, .int .i64 0] |>.alloc (.cells #[.int .i64 0, .int .i64 0, .slice A8 0 c8] 38))
  have HX2 := Lib.hid (Whole.new1 w8 (.cells #[.int .i64 0, .int .i64 0] 30) 38 #[.int .i64 0, .int .i64 0, .slice A8 0 c8])
  have hbx := (hb.alloc hb.size (.cells #[.int .i64 0, .int .i64 0] 30))
  replace hbx := hbx.alloc hbx.size (.cells #[.int .i64 0, .int .i64 0, .slice A8 0 c8] 38)
  replace HV := Lib.hid (HV.out.stay hbx)
  have hzz := HBL.out.size
  have hzl := HL2.out.lt
  have hbx3 := hbx.mono (show w.heap.size + 3 ≤ w7.heap.size by omega)
  replace HL1 := Lib.hid (HL1.out.below hbx3 (by omega))
  replace HL2 := Lib.hid (HL2.out.below hbx3 (by omega))
  replace HBL := Lib.hid (HBL.out.trans (hbx.mono hzz))
  clear hl ho hb hbx hbx3 HLE
  clear p0 p1 r0 r1 r2
  obtain ⟨p0, p1⟩ := HL1.out.c2
  obtain ⟨r0, r1, r2⟩ := HL2.out.c3
  simp only [Vl.zero, List.length_nil]
  go_wp2_with fail
  have hl := load_v2 HV.out.swap HO4.out
  rw [HA2.out] at hl
  with_reducible refine hl.mono ?_
  rintro e w9 ⟨A9, c9, rfl, ho, hb⟩
  simp only [List.length_cons, List.length_nil, Nat.zero_add] at ho ⊢
  obtain ⟨b9, o9, e9, -, m0, -⟩ := ho.sl.entry 0 (by simp)
  subst e9
  simp only [List.getElem_cons_zero, Nat.zero_mul, Nat.add_zero] at m0
  replace HX1 := Lib.hid (HX1.out.below hb HX1.out.lt)
  replace HX2 := Lib.hid (HX2.out.below hb HX2.out.lt)
  replace HL1 := Lib.hid (HL1.out.below hb HL1.out.lt)
  replace HBL := Lib.hid (HBL.out.trans (hb.mono HBL.out.size))
  clear hl ho hb p0 p1 r0 r1 r2
  have hal := ((Below.refl w9.heap.size w9).alloc (Nat.le_refl _) (.cells #[.int .i64 1, .int .i64 2] 30)).alloc (by simp) (.cells #[.int .i64 0, .int .i64 0, .slice (some ⟨b9, o9, none⟩) 1 c9] 38)
  have hb9 := lt_of_cell m0
  have hm0 := (hal.cell (p := ⟨b9, o9, none⟩) hb9).trans m0
  obtain ⟨x0, x1⟩ := (HX1.out.below hal HX1.out.lt).c2
  obtain ⟨y0, y1, y2⟩ := (HX2.out.below hal HX2.out.lt).c3
  obtain ⟨p0, p1⟩ := (HL1.out.below hal HL1.out.lt).c2
  have HBF := Lib.hid (HBL.out.trans (hal.mono HBL.out.size))
  clear hal m0 HX1 HX2 HL1 HL2 HBL HV
  go_wp2_with fail
  go_ret
  exact ⟨rfl, HBF.out⟩
end Go.Proofs.YtcacebkbfnnjbaaDoor

/-
  A ballot's and a log's boxes; a vault that is saved to.
-/


namespace Go.Proofs.YtcacebkbfnnjbaaDoor
open Go.RowKit

/-- A ballot's box and a log's. -/
structure Bx (p q : Nat) (b1 b2 l1 l2 : Int) (vl : Value) (W : World) : Prop where
  b : Whole W p 30 #[.int .i64 b1, .int .i64 b2]
  l : Whole W q 38 #[.int .i64 l1, .int .i64 l2, vl]
theorem Bx.below {p q : Nat} {b1 b2 l1 l2 : Int} {vl : Value} {W W' : World} {B : Nat} (h : Bx p q b1 b2 l1 l2 vl W) (hb : Below B W W') (hp : p < B) (hq : q < B) : Bx p q b1 b2 l1 l2 vl W' := ⟨h.b.below hb hp, h.l.below hb hq⟩
theorem bx_new (w : World) (b1 b2 l1 l2 : Int) (vl : Value) : Bx w.heap.size (w.heap.size + 1) b1 b2 l1 l2 vl ((w.alloc (.cells #[.int .i64 b1, .int .i64 b2] 30)).alloc (.cells #[.int .i64 l1, .int .i64 l2, vl] 38)) :=
  ⟨(Whole.new w 30 #[.int .i64 b1, .int .i64 b2]).alloc _, Whole.new1 w _ _ _⟩
/-- A log that was saved: base and its term are none. -/
theorem saved_zero {v : Vl.V} {b : Vt.B} {l1 l2 : Int} {l : List E} (h : (Vl.save v b (l1, l2, l)).2 = 0) : l1 = 0 ∧ l2 = 0 ∧ l.length ≤ 64 := by
  have h1 := (Vl.save_zero h).1
  rw [Vl.mayS_iff] at h1
  have h3 := h1.2.2.1
  have h2 := (Vl.may0 h1.2.1 h1.2.2.1).1
  have h4 := ((Lg.may_iff _).1 h1.2.1).2.2.2.2.2.1
  exact ⟨h3, h2, h4⟩
theorem saved_state {v : Vl.V} {b : Vt.B} {l : Lg.L} (h : (Vl.save v b l).2 = 0) : (Vl.save v b l).1.s = (b, l.2.2) := by rw [(Vl.save_zero h).2.2]
theorem load_of {w : World} {s t : Vl.S} {e : Ending} {w' : World} (h : LoadOut w s e w') (hs : s = t) : LoadOut w t e w' := hs ▸ h
theorem VIn.le {B0 g : Nat} {w : World} {v : Vl.V} (h : VIn B0 g w v) : B0 ≤ w.heap.size := by obtain ⟨_, _, _, _, _, _, h⟩ := h; exact h
theorem VIn.drew {B0 g : Nat} {w : World} {v : Vl.V} (h : VIn B0 g w v) : VIn B0 g w.drew v := by
  obtain ⟨A, c, A2, c2, h1, h2, h3⟩ := h
  exact ⟨A, c, A2, c2, h1.drew, h2, h3⟩
/-- A vault from block B0 on, and bytes of which none lie in its blocks. -/
def VK (B0 g : Nat) (w : World) (v : Vl.V) (x : Value) (d : List UInt8) : Prop := ∃ A c A2 c2, VMem g w v A c A2 c2 ∧ (∀ b, Vof g A A2 b → B0 ≤ b) ∧ B0 ≤ w.heap.size ∧ SlS w (fun b => ¬ Vof g A A2 b) x d
section
variable {B0 g : Nat} {w w' : World} {v v' : Vl.V} {x : Value} {d : List UInt8}
theorem VK.vin (h : VK B0 g w v x d) : VIn B0 g w v := by
  obtain ⟨A, c, A2, c2, h1, h2, h3, -⟩ := h
  exact ⟨A, c, A2, c2, h1, h2, h3⟩
theorem VK.here (h : VK B0 g w v x d) : Sl w w.heap.size x d := by
  obtain ⟨A, c, A2, c2, -, -, -, h⟩ := h
  exact h.here
theorem VK.stay (h : VK B0 g w v x d) (hb : Below w.heap.size w w') : VK B0 g w' v x d := by
  obtain ⟨A, c, A2, c2, h1, h2, h3, h4⟩ := h
  exact ⟨A, c, A2, c2, h1.stay hb, h2, Nat.le_trans h3 hb.size, h4.stay fun b _ hlt => hb.block b hlt⟩
theorem vk_of {A : Option Addr} {n c : Nat} (h : VIn B0 g w v) (hb : Below w.heap.size w w') (ho : Own w' w.heap.size 5 (.slice A n c) d) : VK B0 g w' v (.slice A n c) d := by
  obtain ⟨B, e, B2, e2, h1, h2, h3⟩ := h
  refine ⟨B, e, B2, e2, h1.stay hb, h2, Nat.le_trans h3 hb.size, SlS.wide ho.slS fun b hb _ hv => ?_⟩
  have := h1.glt b hv
  omega
theorem vk_to {A A2 : Option Addr} (hin : ∀ b, Vof g A A2 b → B0 ≤ b) (hB : B0 ≤ w.heap.size) (hs : SlS w (fun b => ¬ Vof g A A2 b) x d) (h : VTo g A A2 w v' w') : VK B0 g w' v' x d ∧ Below B0 w w' := by
  obtain ⟨B, c, B2, c2, h1, h2, h3⟩ := h
  have hs1 : SlS w (fun b => ¬ Vof g A A2 b ∧ b < w.heap.size) x d := SlS.wide hs fun b hb hlt => ⟨hb, hlt⟩
  refine ⟨⟨B, c, B2, c2, h1, fun b hb => (h2 b hb).elim (hin b) (fun e => Nat.le_trans hB e), Nat.le_trans hB h3.size, SlS.wide (h3.sl hs1 fun b hb => hb.1) fun b hb _ hv => ?_⟩, h3.below hin hB⟩
  rcases h2 b hv with hh | hh
  · exact hb.1 hh
  · have := hb.2
    omega
theorem save_vk (h : VK B0 g w v x d) (hok : Vl.Ok v) (h0 : 0 < B0) (b1 b2 l1 l2 : Int) (vl : Value) (l : List E) (hL : Sl w B0 vl l) (hT : Tab w) :
    Calls Tryd.prog 12 #[.pointer (some ⟨g, 0, none⟩), bv b1 b2, lv l1 l2 vl] w fun e w' => e = .returned (.int .i64 (Vl.save v (b1, b2) (l1, l2, l)).2) ∧ VK B0 g w' (Vl.save v (b1, b2) (l1, l2, l)).1 x d ∧ Below B0 w w' := by
  obtain ⟨A, c, A2, c2, h1, h2, h3, h4⟩ := h
  refine (save_any g v hok A c A2 c2 b1 b2 l1 l2 vl l w h1 (SlS.wide hL fun b hb _ hv => ?_) hT (fun hv => ?_)).mono ?_
  · have := h2 b hv; omega
  · have := h2 0 hv; omega
  · rintro e w' ⟨he, ht⟩
    exact ⟨he, vk_to h2 h3 h4 ht⟩
theorem crash_vk (h : VK B0 g w v x d) (hok : Vl.Ok v) (h0 : 0 < B0) (keep : Int) (hkr : -9223372036854775808 ≤ keep ∧ keep ≤ 9223372036854775807) (hT : Tab w) :
    Calls Tryd.prog 16 #[.pointer (some ⟨g, 0, none⟩), .int .i64 keep] w fun e w' => e = .returned (.tuple #[]) ∧ VK B0 g w' (Vl.crash v keep) x d ∧ Below B0 w w' := by
  obtain ⟨A, c, A2, c2, h1, h2, h3, h4⟩ := h
  refine (crash_any g v hok A c A2 c2 keep hkr w h1 hT (fun hv => by have := h2 0 hv; omega)).mono ?_
  rintro e w' ⟨he, ht⟩
  exact ⟨he, vk_to h2 h3 h4 ht⟩
theorem sync_vk (h : VK B0 g w v x d) :
    Calls Tryd.prog 14 #[.pointer (some ⟨g, 0, none⟩)] w fun e w' => e = .returned (.tuple #[]) ∧ VK B0 g w' (Vl.sync v) x d ∧ Below B0 w w' := by
  obtain ⟨A, c, A2, c2, h1, h2, h3, h4⟩ := h
  refine (sync_any g v A c A2 c2 w h1).mono ?_
  rintro e w' ⟨he, hv, hk⟩
  exact ⟨he, vk_to h2 h3 h4 (vto_of hv (hk.mono fun b _ e => .inl e))⟩
end
end Go.Proofs.YtcacebkbfnnjbaaDoor

/-
  What happens to a vault: how its cells read; what few answers.
-/


namespace Go.Proofs.YtcacebkbfnnjbaaDoor
open Go.RowKit

/-- What happens: its kind, a ballot, a log, a number. -/
abbrev Ev8 := Int × (Int × Int) × (Int × Int × List E) × Int
theorem Sl.ev8 {w : World} {B n c : Nat} {A : Option Addr} {l : List Ev8} (h : Sl w B (.slice A n c) l) (k : Nat) (hk : k < l.length) :
    ∃ b off A2 c2, A = some ⟨b, off, none⟩ ∧ b < B ∧ w.cell? ⟨b, off + k * 7, none⟩ = some (.int .i64 (l[k]).1) ∧ w.cell? ⟨b, off + k * 7 + 1, none⟩ = some (.int .i64 (l[k]).2.1.1) ∧ w.cell? ⟨b, off + k * 7 + 2, none⟩ = some (.int .i64 (l[k]).2.1.2) ∧
      w.cell? ⟨b, off + k * 7 + 3, none⟩ = some (.int .i64 (l[k]).2.2.1.1) ∧ w.cell? ⟨b, off + k * 7 + 4, none⟩ = some (.int .i64 (l[k]).2.2.1.2.1) ∧ w.cell? ⟨b, off + k * 7 + 5, none⟩ = some (.slice A2 (l[k]).2.2.1.2.2.length c2) ∧ w.cell? ⟨b, off + k * 7 + 6, none⟩ = some (.int .i64 (l[k]).2.2.2) ∧
      Sl w B (.slice A2 (l[k]).2.2.1.2.2.length c2) (l[k]).2.2.1.2.2 ∧ (-9223372036854775808 ≤ (l[k]).2.2.2 ∧ (l[k]).2.2.2 ≤ 9223372036854775807) := by
  have hr := h.room
  obtain ⟨b, off, ds, e, hb, h1, h2⟩ := h.at_ k (by omega) hk
  obtain ⟨d0, e0, rfl, ⟨rfl, _⟩, ⟨db, dr, rfl, ⟨d1, e1, rfl, ⟨rfl, _⟩, ⟨rfl, _⟩⟩, ⟨dl, dn, rfl, ⟨d3, e3, rfl, ⟨rfl, _⟩, ⟨d4, e4, rfl, ⟨rfl, _⟩, ⟨v, rfl, hs⟩⟩⟩, ⟨rfl, w6⟩⟩⟩⟩ := h1
  obtain ⟨A2, c2, rfl, _, _⟩ := hs.form
  refine ⟨b, off, A2, c2, e, hb, h2 0 _ rfl, h2 1 _ rfl, h2 2 _ rfl, h2 3 _ rfl, h2 4 _ rfl, h2 5 _ rfl, h2 6 _ rfl, hs, w6⟩
/-- Are its entries at most 70? -/
def Ev8.small (e : Ev8) : Bool := decide (e.2.2.1.2.2.length ≤ 70)
/-- At most 30, of at most 70 entries each. -/
def Ev8.few (l : List Ev8) : Bool := decide (l.length ≤ 30) && l.all Ev8.small
theorem Ev8.few_iff {l : List Ev8} : Ev8.few l = true ↔ l.length ≤ 30 ∧ ∀ e ∈ l, e.2.2.1.2.2.length ≤ 70 := by
  unfold Ev8.few Ev8.small
  simp [List.all_eq_true]
def small8 (r : Bool) (l : List Ev8) (j : Nat) : Prop := r = (l.drop j).all Ev8.small
theorem small8_zero (l : List Ev8) : small8 (l.all Ev8.small) l 0 := by unfold small8; simp
theorem small8_step {r : Bool} {l : List Ev8} {j : Nat} (h : small8 r l j) (hj : j < l.length) (he : (l[j]).2.2.1.2.2.length ≤ 70) : small8 r l (j + 1) := by
  unfold small8 at h ⊢
  rw [h, List.drop_eq_getElem_cons hj, List.all_cons]
  unfold Ev8.small
  simp [he]
theorem small8_stop {r : Bool} {l : List Ev8} {j : Nat} (h : small8 r l j) (hj : j < l.length) (he : 70 < (l[j]).2.2.1.2.2.length) : r = false := by
  unfold small8 at h
  rw [h, List.drop_eq_getElem_cons hj, List.all_cons]
  have : Ev8.small l[j] = false := by unfold Ev8.small; simp; omega
  simp [this]
theorem small8_end {r : Bool} {l : List Ev8} {j : Nat} (h : small8 r l j) (hj : l.length ≤ j) : r = true := by
  unfold small8 at h
  rw [h, List.drop_eq_nil_of_le hj]; rfl
set_option maxRecDepth 100000 in
theorem few8_any (v : Value) (l : List Ev8) (w : World) (B : Nat) (_hB : B ≤ w.heap.size) (hv : Sl w B v l) :
    Calls Tryd.prog 10 #[v] w fun e w' => e = .returned (.bool (Ev8.few l)) ∧ Below w.heap.size w w' := by
  obtain ⟨A, c, rfl, hc, hm⟩ := hv.form
  unfold maxLen at hm
  have HV := Lib.hid hv
  have H0 := Lib.hid (small8_zero l)
  have hfw : Ev8.few l = (decide (l.length ≤ 30) && l.all Ev8.small) := rfl
  rw [hfw]
  clear hv hfw
  generalize l.all Ev8.small = r at *
  generalize hn : l.length = n at *
  have HN := Lib.hid hn
  clear hn
  go_enter Tryd.func10, Tryd.ntmps10
  by_cases h60 : 30 < n
  · have d : decide ((30 : Int) < (n : Int)) = true := by simp; omega
    have d2 : decide (n ≤ 30) = false := by simp; omega
    rw [d2]
    go_wp2_with fail
    go_ret
    exact ⟨by simp, Below.refl _ _⟩
  have d : decide ((30 : Int) < (n : Int)) = false := by simp; omega
  have d2 : decide (n ≤ 30) = true := by simp; omega
  rw [d2]
  clear d2
  go_wp2_with fail
  go_loopw [3] (fun iv wr => ∃ j : Nat, j ≤ n ∧ iv = .int .i64 (j : Int) ∧ Hid (small8 r l j) ∧ Hid (Below w.heap.size w wr)) (fun iv _ => n - (intOf iv).toNat)
  case atStart => exact ⟨0, Nat.zero_le _, rfl, H0, Lib.hid (Below.refl _ _)⟩
  case round =>
    obtain ⟨j, hj, rfl, hf, hb⟩ := hrel
    clear H0
    by_cases hlt : j < n
    · have hjl : j < l.length := by rw [HN.out]; exact hlt
      obtain ⟨b1, o1, X1, d1, rfl, hb1, -, -, -, -, -, g9, -, -, -⟩ := (HV.out.below (hb.out.mono _hB)).ev8 j hjl
      have HST := Lib.hid (small8_step hf.out hjl)
      have HSP := Lib.hid (small8_stop hf.out hjl)
      generalize (l[j]).2.2.1.2.2.length = m at *
      clear hjl hf
      by_cases h1 : 70 < m
      · obtain rfl := HSP.out h1
        have e1 : decide ((70 : Int) < (m : Int)) = true := by simp; omega
        clear HST HSP
        go_wp2_with fail
        go_ret
        exact ⟨by simp, hb.out⟩
      · have HS := Lib.hid (HST.out (by omega))
        have e1 : decide ((70 : Int) < (m : Int)) = false := by simp; omega
        clear HST HSP
        go_wp2_with fail
        go_roundw
        case rel => exact ⟨j + 1, by omega, by go_num, HS, hb⟩
        case measure => simp [intOf]; omega
    · obtain rfl := small8_end hf.out (by rw [HN.out]; omega)
      go_wp2_with fail
      go_ret
      exact ⟨by simp, hb.out⟩
end Go.Proofs.YtcacebkbfnnjbaaDoor
