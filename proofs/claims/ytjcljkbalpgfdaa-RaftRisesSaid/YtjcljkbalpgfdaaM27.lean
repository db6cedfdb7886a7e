/-
  Parts that the statement rests on, joined: Pside, Pdid, Solo, Awk7.
-/
import Derived.Test.YtjcljkbalpgfdaaM4
import Derived.Test.YtjcljkbalpgfdaaM11
import Derived.Test.YtjcljkbalpgfdaaM20
import Derived.Test.YtjcljkbalpgfdaaM22
import Derived.Test.YtjcljkbalpgfdaaM23
import Derived.Test.YtjcljkbalpgfdaaM25
import Derived.Test.YtjcljkbalpgfdaaM26
/-
  The program's side of stage 7: a member in memory, and what each of its methods answers and leaves.
-/






namespace Go.Proofs.Ytjcljkbalpgfdaa
open Go.RowKit

/-- A member of the program: G are its own blocks, its log's among them; S others. -/
def PMem (n : Rf.Id) (G : Nat → Prop) (S : Nat → Prop) (w : World) (s : Rf.St) (p : Value) : Prop :=
  ∃ F A c, p = .pointer (some ⟨F.g, 0, none⟩) ∧ QMem n F w s A c ∧ (∀ b, G b ↔ Gof F A b) ∧ ∀ b, S b → ¬ G b
section
variable {n : Rf.Id} {G S : Nat → Prop} {w w' : World} {s : Rf.St} {p : Value}
theorem PMem.stay (h : PMem n G S w s p) (hb : Below w.heap.size w w') : PMem n G S w' s p := by
  obtain ⟨F, A, c, h1, h2, h3, h4⟩ := h
  exact ⟨F, A, c, h1, h2.stay hb, h3, h4⟩
theorem PMem.kept {D : Nat → Prop} (h : PMem n G S w s p) (hk : Kept D w w') (hG : ∀ b, G b → ¬ D b) (_hS : ∀ b, S b → ¬ D b) : PMem n G S w' s p := by
  obtain ⟨F, A, c, h1, h2, h3, h4⟩ := h
  exact ⟨F, A, c, h1, h2.kept hk fun b hb => hG b ((h3 b).2 hb), h3, h4⟩
theorem PMem.wide (h : PMem n G S w s p) {S' : Nat → Prop} (_hS : ∀ b, S b → b < w.heap.size → S' b) (hoff : ∀ b, S' b → ¬ G b) : PMem n G S' w s p := by
  obtain ⟨F, A, c, h1, h2, h3, h4⟩ := h
  exact ⟨F, A, c, h1, h2, h3, hoff⟩
theorem PMem.off (h : PMem n G S w s p) : ∀ b, S b → ¬ G b := by
  obtain ⟨F, A, c, h1, h2, h3, h4⟩ := h
  exact h4
theorem PMem.lt (h : PMem n G S w s p) : ∀ b, G b → b < w.heap.size := by
  obtain ⟨F, A, c, h1, h2, h3, h4⟩ := h
  exact fun b hb => h2.glt b ((h3 b).1 hb)
theorem PMem.ptr (h : PMem n G S w s p) : ∃ g, p = .pointer (some ⟨g, 0, none⟩) := by
  obtain ⟨F, A, c, h1, -⟩ := h
  exact ⟨_, h1⟩
end
/-- What a step of the program's member leaves. -/
def PStep (n : Rf.Id) (G : Nat → Prop) (S : Nat → Prop) (w : World) (s : Rf.St) (p : Value) (w' : World) : Prop :=
  ∃ G' : Nat → Prop, (∀ b, G' b → G b ∨ w.heap.size ≤ b) ∧ PMem n G' (fun b => (S b ∨ w.heap.size ≤ b) ∧ ¬ G' b) w' s p ∧ Kept G w w'
/-- What it says: new, or out of its log. -/
def PMsgs (S : Nat → Prop) (w : World) (l : List Rf.Msg) (v : Value) (w' : World) : Prop := SlS (α := M) w' (fun b => S b ∨ w.heap.size ≤ b) v l
def PNewOut (w : World) (S : Nat → Prop) (r : Option (Rf.Id × Rf.St)) (e : Ending) (w' : World) : Prop := match r with
  | none => e = .returned (.tuple #[.pointer none, .int .i64 1]) ∧ Below w.heap.size w w'
  | some (n, s) => ∃ G p, e = .returned (.tuple #[p, .int .i64 0]) ∧ (∀ b, G b → w.heap.size ≤ b) ∧ PMem n G (fun b => (S b ∨ w.heap.size ≤ b) ∧ ¬ G b) w' s p ∧ Below w.heap.size w w'
theorem pmsgs_of {S : Nat → Prop} {w w' : World} {l : List Rf.Msg} {v : Value} (h : MsgsOut w l v w') : PMsgs S w l v w' := SlS.wide h fun _ hb _ => .inr hb
theorem pstep_of {n : Rf.Id} {F : Foot} {A : Option Addr} {G S : Nat → Prop} {w w' : World} {s : Rf.St} (hG : ∀ b, G b ↔ Gof F A b) (h : PTo n F A w s w') : PStep n G S w s (.pointer (some ⟨F.g, 0, none⟩)) w' := by
  obtain ⟨A2, c2, h1, h2, h3⟩ := h
  refine ⟨Gof F A2, fun b hb => ?_, ⟨F, A2, c2, rfl, h1, fun _ => Iff.rfl, fun b hb => hb.2⟩, h3.mono fun b _ hb => (hG b).2 hb⟩
  rcases hb with hb | hb
  · exact .inl ((hG b).2 (.inl hb))
  · exact (h2 b hb).imp (fun h => (hG b).2 (.inr h)) id
theorem pstep_same {n : Rf.Id} {F : Foot} {A : Option Addr} {c : Nat} {G S : Nat → Prop} {w w' : World} {s : Rf.St} (hG : ∀ b, G b ↔ Gof F A b) (h : QMem n F w s A c) (hb : Below w.heap.size w w') : PStep n G S w s (.pointer (some ⟨F.g, 0, none⟩)) w' :=
  pstep_of hG (pto_of (h.stay hb) (Below.kept hb))
theorem pnew_any (id many b1 b2 l1 l2 : Int) (v : Value) (l : List E) (S : Nat → Prop) (w : World) (hL : SlS w S v l) (hl : l.length ≤ 100) :
    Calls Try.prog 10 #[.int .i64 id, .int .i64 many, bv b1 b2, lv l1 l2 v] w (PNewOut w S (Rf.new id many (b1, b2) (l1, l2, l))) := by
  refine (pnew_q id many b1 b2 l1 l2 v l (by omega) S w hL).mono fun e w' h => ?_
  generalize Rf.new id many (b1, b2) (l1, l2, l) = R at *
  rcases R with _ | ⟨n, s⟩
  · exact h
  · obtain ⟨F, A, c, h1, h2, h3, h4⟩ := h
    exact ⟨Gof F A, _, h1, h2, ⟨F, A, c, rfl, h3, fun _ => Iff.rfl, fun b hb => hb.2⟩, h4⟩
theorem prole_any (n : Rf.Id) (G S : Nat → Prop) (s : Rf.St) (hg : Rf.Good n s) (p : Value) (w : World) (h : PMem n G S w s p) : Calls Try.prog 13 #[p] w fun e w' => e = .returned (.int .i64 s.is) ∧ Below w.heap.size w w' := by
  obtain ⟨F, A, c, rfl, h2, h3, h4⟩ := h
  exact prole_q n F s hg A c w h2
theorem psettled_any (n : Rf.Id) (G S : Nat → Prop) (s : Rf.St) (hg : Rf.Good n s) (p : Value) (w : World) (h : PMem n G S w s p) : Calls Try.prog 12 #[p] w fun e w' => e = .returned (.int .i64 s.upto) ∧ Below w.heap.size w w' := by
  obtain ⟨F, A, c, rfl, h2, h3, h4⟩ := h
  exact psettled_q n F s hg A c w h2
theorem pballot_any (n : Rf.Id) (G S : Nat → Prop) (s : Rf.St) (hg : Rf.Good n s) (p : Value) (w : World) (h : PMem n G S w s p) : Calls Try.prog 11 #[p] w fun e w' => e = .returned (bv s.b.1 s.b.2) ∧ Below w.heap.size w w' := by
  obtain ⟨F, A, c, rfl, h2, h3, h4⟩ := h
  exact pballot_q n F s hg A c w h2
theorem plog_any (n : Rf.Id) (G S : Nat → Prop) (s : Rf.St) (hg : Rf.Good n s) (p : Value) (w : World) (h : PMem n G S w s p) : Calls Try.prog 14 #[p] w fun e w' => ∃ v, e = .returned (lv 0 0 v) ∧ SlS w' (fun b => S b ∨ w.heap.size ≤ b) v s.l ∧ Below w.heap.size w w' := by
  obtain ⟨F, A, c, rfl, h2, h3, h4⟩ := h
  exact (plog_q n F s hg A c w h2).mono fun e w' ⟨v, h5, h6, h7⟩ => ⟨v, h5, SlS.wide h6 fun _ hb _ => .inr hb, h7⟩
theorem ptimeout_any (n : Rf.Id) (G S : Nat → Prop) (s : Rf.St) (hg : Rf.Good n s) (p : Value) (w : World) (h : PMem n G S w s p) : Calls Try.prog 19 #[p] w fun e w' => ∃ v, e = .returned v ∧ PMsgs S w (Rf.timeout n s).2 v w' ∧ PStep n G S w (Rf.timeout n s).1 p w' := by
  obtain ⟨F, A, c, rfl, h2, h3, h4⟩ := h
  exact (ptimeout_q n F s hg A c w h2).mono fun e w' ⟨v, h5, h6, h7⟩ => ⟨v, h5, pmsgs_of h6, pstep_of h3 h7⟩
theorem pbeat_any (n : Rf.Id) (G S : Nat → Prop) (s : Rf.St) (hg : Rf.Good n s) (p : Value) (w : World) (h : PMem n G S w s p) : Calls Try.prog 25 #[p] w fun e w' => ∃ v, e = .returned v ∧ PMsgs S w (Rf.beat n s).2 v w' ∧ PStep n G S w (Rf.beat n s).1 p w' := by
  obtain ⟨F, A, c, rfl, h2, h3, h4⟩ := h
  have hs : (Rf.beat n s).1 = s := by unfold Rf.beat; split <;> rfl
  rw [hs]
  exact (pbeat_q n F s hg A c w h2).mono fun e w' ⟨v, h5, h6, h7⟩ => ⟨v, h5, pmsgs_of h6, pstep_same h3 h2 h7⟩
theorem ppropose_any (n : Rf.Id) (G S : Nat → Prop) (s : Rf.St) (hg : Rf.Good n s) (p : Value) (w : World) (h : PMem n G S w s p) (c1 c2 c3 c4 c5 c6 : Int) (hcf : CmdFit (c1, c2, c3, c4, c5, c6)) :
    Calls Try.prog 20 #[p, .agg #[.int .i64 c1, .int .i64 c2, .int .i64 c3, .int .i64 c4, .int .i64 c5, .int .i64 c6]] w fun e w' => ∃ v, e = .returned (.tuple #[.int .i64 (Rf.propose n s (c1, c2, c3, c4, c5, c6)).2.1, v, .int .i64 (Rf.propose n s (c1, c2, c3, c4, c5, c6)).2.2.2]) ∧
      PMsgs S w (Rf.propose n s (c1, c2, c3, c4, c5, c6)).2.2.1 v w' ∧ PStep n G S w (Rf.propose n s (c1, c2, c3, c4, c5, c6)).1 p w' := by
  obtain ⟨F, A, c, rfl, h2, h3, h4⟩ := h
  exact (ppropose_q n F s hg A c w h2 c1 c2 c3 c4 c5 c6 hcf).mono fun e w' ⟨v, h5, h6, h7⟩ => ⟨v, h5, pmsgs_of h6, pstep_of h3 h7⟩
/-- As Hear's, of a message that asks to add: what is answered lies in none of the member's own blocks. -/
theorem phear_apart (n : Rf.Id) (G S : Nat → Prop) (s : Rf.St) (hg : Rf.Good n s) (p : Value) (w : World) (h : PMem n G S w s p) (f o t i u cm : Int) (y : Bool) (L : List E) (A2 : Option Addr) (n2 c2 : Nat) (hii : -9223372036854775808 ≤ i ∧ i ≤ 9223372036854775807) (hLl : Rf.mine n (2, f, o, t, i, u, cm, y, L) → L.length ≤ 100000) (hL : SlS w S (.slice A2 n2 c2) L) :
    Calls Try.prog 17 #[p, .agg (mc 2 f o t i u cm y (.slice A2 n2 c2))] w fun e w' => ∃ v, e = .returned v ∧ ∃ G' : Nat → Prop, (∀ b, G' b → G b ∨ w.heap.size ≤ b) ∧ PMem n G' (fun b => (S b ∨ w.heap.size ≤ b) ∧ ¬ G' b) w' (Rf.hear n s (2, f, o, t, i, u, cm, y, L)).1 p ∧ Kept G w w' ∧ SlS (α := M) w' (fun b => w.heap.size ≤ b ∧ ¬ G' b) v (Rf.hear n s (2, f, o, t, i, u, cm, y, L)).2 := by
  obtain ⟨F, A, c, rfl, h2, h3, h4⟩ := h
  have hlt := h2.flt
  refine (phear_q n F s hg A c w h2 2 f o t i u cm y L A2 n2 c2 hii hLl S (fun b hb hf => h4 b hb ((h3 b).2 (.inl hf))) hL).mono fun e w' ⟨v, h5, h6, A3, c3, g1, g2, g3, g4⟩ => ⟨v, h5, Gof F A3, fun b hb => ?_, ⟨F, A3, c3, rfl, g1, fun _ => Iff.rfl, fun b hb => hb.2⟩, g3.mono fun b _ hb => (h3 b).2 hb, SlS.wide (g4 rfl) fun b hb _ => ⟨hb.1, fun hh => hh.elim (fun hf => by have := hlt b hf; have := hb.1; omega) hb.2⟩⟩
  rcases hb with hb | hb
  · exact .inl ((h3 b).2 (.inl hb))
  · exact (g2 b hb).imp (fun h => (h3 b).2 (.inr h)) id
theorem phear_any (n : Rf.Id) (G S : Nat → Prop) (s : Rf.St) (hg : Rf.Good n s) (p : Value) (w : World) (h : PMem n G S w s p) (k f o t i u cm : Int) (y : Bool) (L : List E) (A2 : Option Addr) (n2 c2 : Nat) (hii : -9223372036854775808 ≤ i ∧ i ≤ 9223372036854775807) (hLl : Rf.mine n (k, f, o, t, i, u, cm, y, L) → L.length ≤ 100000) (hL : SlS w S (.slice A2 n2 c2) L) :
    Calls Try.prog 17 #[p, .agg (mc k f o t i u cm y (.slice A2 n2 c2))] w fun e w' => ∃ v, e = .returned v ∧ PMsgs S w (Rf.hear n s (k, f, o, t, i, u, cm, y, L)).2 v w' ∧ PStep n G S w (Rf.hear n s (k, f, o, t, i, u, cm, y, L)).1 p w' :=
  by
  obtain ⟨F, A, c, rfl, h2, h3, h4⟩ := h
  exact (phear_q n F s hg A c w h2 k f o t i u cm y L A2 n2 c2 hii hLl S (fun b hb hf => h4 b hb ((h3 b).2 (.inl hf))) hL).mono fun e w' ⟨v, h5, h6, h7⟩ => ⟨v, h5, pmsgs_of h6, pstep_of h3 h7.to⟩
end Go.Proofs.Ytjcljkbalpgfdaa

/-
  What the program does with what happens.
-/


namespace Go.Proofs.Ytjcljkbalpgfdaa
open Go.RowKit

theorem PStep.from_ {n : Rf.Id} {G S S2 : Nat → Prop} {w w2 w' : World} {s : Rf.St} {p : Value} (h : PStep n G S2 w2 s p w') (hk : Kept G w w2) (hS : ∀ b, S2 b → S b) : PStep n G S w s p w' := by
  obtain ⟨G', h2, h3, h4⟩ := h
  have hz := hk.size
  exact ⟨G', fun b hb => (h2 b hb).imp id (fun h => Nat.le_trans hz h), h3.wide (fun b hb _ => ⟨hb.1.imp (hS b) (fun h => Nat.le_trans hz h), hb.2⟩) (fun b hb => hb.2), hk.trans h4⟩
set_option maxRecDepth 100000 in
set_option maxHeartbeats 1600000 in
theorem pdid_any (n : Rf.Id) (G S : Nat → Prop) (s : Rf.St) (hg : Rf.Good n s) (p : Value) (w : World) (h : PMem n G S w s p) (ek k f o t i u cm : Int) (y : Bool) (L : List E) (A2 : Option Addr) (c2 : Nat) (c1 c2_ c3 c4 c5 c6 : Int)
    (hii : -9223372036854775808 ≤ i ∧ i ≤ 9223372036854775807) (hcf : CmdFit (c1, c2_, c3, c4, c5, c6)) (hLl : L.length ≤ 100000) (hL : SlS w S (.slice A2 L.length c2) L) :
    Calls Try.prog 15 #[p, .agg (evc ek (k, f, o, t, i, u, cm, y, L) (.slice A2 L.length c2) (c1, c2_, c3, c4, c5, c6))] w fun e w' => ∃ v, e = .returned (.tuple #[.int .i64 (Rf.did n s (ek, (k, f, o, t, i, u, cm, y, L), (c1, c2_, c3, c4, c5, c6))).2.1, v, .int .i64 (Rf.did n s (ek, (k, f, o, t, i, u, cm, y, L), (c1, c2_, c3, c4, c5, c6))).2.2.2]) ∧ PMsgs S w (Rf.did n s (ek, (k, f, o, t, i, u, cm, y, L), (c1, c2_, c3, c4, c5, c6))).2.2.1 v w' ∧ PStep n G S w (Rf.did n s (ek, (k, f, o, t, i, u, cm, y, L), (c1, c2_, c3, c4, c5, c6))).1 p w' := by
  have HB := Lib.hid ((Below.refl w.heap.size w).alloc (Nat.le_refl _) (.cells (evc ek (k, f, o, t, i, u, cm, y, L) (.slice A2 L.length c2) (c1, c2_, c3, c4, c5, c6)) 45))
  have HX := Lib.hid (Whole.new w 45 (evc ek (k, f, o, t, i, u, cm, y, L) (.slice A2 L.length c2) (c1, c2_, c3, c4, c5, c6)))
  have hz := HB.out.size
  have HK := Lib.hid (show Kept G w _ from Below.kept HB.out)
  have HLS := Lib.hid (show SlS (w.alloc (.cells (evc ek (k, f, o, t, i, u, cm, y, L) (.slice A2 L.length c2) (c1, c2_, c3, c4, c5, c6)) 45)) S (.slice A2 L.length c2) L from hL.stay (fun b _ hlt => HB.out.block b hlt))
  have HR := Lib.hid (h.stay HB.out)
  have HG := Lib.hid hg
  have HOFF := Lib.hid h.off
  have hFlt := h.lt
  have HLL := Lib.hid hLl
  have HCF := Lib.hid hcf
  have HII := Lib.hid hii
  clear h hL hg hLl hcf hii
  obtain ⟨r0, r1, r2, r3, r4, r5, r6, r7, r8, r9, r10, r11, r12, r13, r14, r15⟩ := HX.out.c16
  clear HX
  go_enter Try.func15, Try.ntmps15
  by_cases h0 : ek = 0
  · subst h0
    have hres : Rf.did n s (0, (k, f, o, t, i, u, cm, y, L), (c1, c2_, c3, c4, c5, c6)) = ((Rf.hear n s (k, f, o, t, i, u, cm, y, L)).1, 0, (Rf.hear n s (k, f, o, t, i, u, cm, y, L)).2, 0) := rfl
    have HRES := Lib.hid hres
    have HH := Lib.hid (phear_any n G S s HG.out p _ HR.out k f o t i u cm y L A2 _ c2 HII.out (fun _ => HLL.out) HLS.out)
    clear hres
    go_wp2_with fail
    refine HH.out.mono ?_
    rintro e w9 ⟨v9, rfl, hv9, hs9⟩
    have HV9 := Lib.hid hv9
    have HS9 := Lib.hid hs9
    clear hv9 hs9 HH
    go_wp2_with fail
    go_ret3
    rw [HRES.out]
    exact ⟨v9, rfl, SlS.wide HV9.out (fun b hb _ => hb.imp id (fun h => Nat.le_trans hz h)), HS9.out.from_ HK.out (fun b hb => hb)⟩
  have e0 : (ek == 0) = false := by simpa using h0
  by_cases h1 : ek = 1
  · have hres : Rf.did n s (ek, (k, f, o, t, i, u, cm, y, L), (c1, c2_, c3, c4, c5, c6)) = ((Rf.timeout n s).1, 0, (Rf.timeout n s).2, 0) := by unfold Rf.did; simp only; rw [if_neg h0, if_pos h1]
    have HRES := Lib.hid hres
    have HH := Lib.hid (ptimeout_any n G S s HG.out p _ HR.out)
    have e1 : (ek == 1) = true := by simpa using h1
    clear hres h0 h1
    go_wp2_with fail
    refine HH.out.mono ?_
    rintro e w9 ⟨v9, rfl, hv9, hs9⟩
    have HV9 := Lib.hid hv9
    have HS9 := Lib.hid hs9
    clear hv9 hs9 HH
    go_wp2_with fail
    go_ret3
    rw [HRES.out]
    exact ⟨v9, rfl, SlS.wide HV9.out (fun b hb _ => hb.imp id (fun h => Nat.le_trans hz h)), HS9.out.from_ HK.out (fun b hb => hb)⟩
  have e1 : (ek == 1) = false := by simpa using h1
  by_cases h2 : ek = 2
  · have hres : Rf.did n s (ek, (k, f, o, t, i, u, cm, y, L), (c1, c2_, c3, c4, c5, c6)) = ((Rf.beat n s).1, 0, (Rf.beat n s).2, 0) := by unfold Rf.did; simp only; rw [if_neg h0, if_neg h1, if_pos h2]
    have HRES := Lib.hid hres
    have HH := Lib.hid (pbeat_any n G S s HG.out p _ HR.out)
    have e2 : (ek == 2) = true := by simpa using h2
    clear hres h0 h1 h2
    go_wp2_with fail
    refine HH.out.mono ?_
    rintro e w9 ⟨v9, rfl, hv9, hs9⟩
    have HV9 := Lib.hid hv9
    have HS9 := Lib.hid hs9
    clear hv9 hs9 HH
    go_wp2_with fail
    go_ret3
    rw [HRES.out]
    exact ⟨v9, rfl, SlS.wide HV9.out (fun b hb _ => hb.imp id (fun h => Nat.le_trans hz h)), HS9.out.from_ HK.out (fun b hb => hb)⟩
  have e2 : (ek == 2) = false := by simpa using h2
  have hres : Rf.did n s (ek, (k, f, o, t, i, u, cm, y, L), (c1, c2_, c3, c4, c5, c6)) = Rf.propose n s (c1, c2_, c3, c4, c5, c6) := by unfold Rf.did; simp only; rw [if_neg h0, if_neg h1, if_neg h2]
  have HRES := Lib.hid hres
  have HH := Lib.hid (ppropose_any n G S s HG.out p _ HR.out c1 c2_ c3 c4 c5 c6 HCF.out)
  clear hres h0 h1 h2
  rw [HRES.out]
  clear HRES
  go_wp2_with fail
  refine HH.out.mono ?_
  rintro e w9 ⟨v9, rfl, hv9, hs9⟩
  have HV9 := Lib.hid hv9
  have HS9 := Lib.hid hs9
  clear hv9 hs9 HH
  go_wp2_with fail
  go_ret3
  exact ⟨v9, rfl, SlS.wide HV9.out (fun b hb _ => hb.imp id (fun h => Nat.le_trans hz h)), HS9.out.from_ HK.out (fun b hb => hb)⟩
end Go.Proofs.Ytjcljkbalpgfdaa

/-
  A member of the program alone in memory.
-/

namespace Go.Proofs.Ytjcljkbalpgfdaa
open Go.RowKit

structure Solo (B : Nat) (n : Rf.Id) (G : Nat → Prop) (s : Rf.St) (p : Value) (w : World) : Prop where
  p : PMem n G (fun b => ¬ G b) w s p
  g : ∀ b, G b → B ≤ b
section
variable {B : Nat} {n : Rf.Id} {G : Nat → Prop} {s s' : Rf.St} {p : Value} {w w' : World}
theorem Solo.stay (h : Solo B n G s p w) (hb : Below w.heap.size w w') : Solo B n G s p w' := ⟨h.p.stay hb, h.g⟩
theorem Solo.does (h : Solo B n G s p w) (hB : B ≤ w.heap.size) (st : PStep n G (fun b => ¬ G b) w s' p w') : ∃ G', Solo B n G' s' p w' ∧ Below B w w' ∧ Kept G w w' := by
  obtain ⟨G', h1, h2, hk⟩ := st
  exact ⟨G', ⟨h2.wide (fun b hb _ => hb.2) (fun b hb => hb), fun b hb => (h1 b hb).elim (h.g b) (fun hge => by omega)⟩, hk.below h.g hB, hk⟩
theorem Solo.old {α : Type} [Rep α] (h : Solo B n G s p w) {v : Value} {l : List α} (hs : Sl w B v l) : SlS w (fun b => ¬ G b) v l := SlS.wide hs fun b hb _ hg => by have := h.g b hg; omega
/-- Behind New. -/
theorem Solo.new {S : Nat → Prop} (h : PMem n G (fun b => (S b ∨ w.heap.size ≤ b) ∧ ¬ G b) w' s p) (hG : ∀ b, G b → w.heap.size ≤ b) (hB : B ≤ w.heap.size) : Solo B n G s p w' := ⟨h.wide (fun _b hb _ => hb.2) (fun _b hb => hb), fun b hb => Nat.le_trans hB (hG b hb)⟩
/-- What is none of its own outlasts a step. -/
theorem Solo.lasts {α : Type} [Rep α] {wa wb : World} (h : Solo B n G s p w) {v : Value} {l : List α} (hs : SlS wa (fun b => ¬ G b ∨ w.heap.size ≤ b) v l) (hk : Kept G wa wb) : SlS wb (fun b => ¬ G b ∨ w.heap.size ≤ b) v l :=
  hk.sl hs fun b hb hg => hb.elim (fun hn => hn hg) (fun hge => by have := h.p.lt b hg; omega)
end
end Go.Proofs.Ytjcljkbalpgfdaa

/-
  The example of stage 7's laws is true.
-/



namespace Go.Proofs.Ytjcljkbalpgfdaa
open Go.RowKit

namespace Rf
/-- One alone, new. -/
def lone : St := { b := (0, 0), l := [], is := 0, upto := 0, votes := [false], mt := [0], nx := [0] }
theorem new_lone : new 1 1 (0, 0) (0, 0, []) = some (one, lone) := if_neg (by decide)
theorem good_lone : Good one lone := (Good.new new_lone).1
theorem lone_timeout : (timeout one lone).2 = [] ∧ (timeout one lone).1.is = 2 ∧ (timeout one lone).1.b = (1, 1) ∧ (timeout one lone).1.l.length = 1 ∧ (timeout one lone).1.upto = 1 := by
  obtain ⟨h1, h2, h3, _, h5, _⟩ := one_timeout good_lone rfl rfl (by decide)
  obtain ⟨h6, h7⟩ := h5 (by decide)
  exact ⟨h1, h2, h3, by rw [h6]; rfl, h7⟩
end Rf

/-- What is new. -/
theorem Rf.new_is {id many : Int} {b : Int × Int} {l : Lg.L} {n : Rf.Id} {s : Rf.St} (h : Rf.new id many b l = some (n, s)) :
    Rf.Good n s ∧ id = n.id ∧ many = n.many ∧ s.b = b ∧ s.l = l.2.2 ∧ s.is = 0 ∧ s.upto = 0 ∧ l.1 = 0 ∧ l.2.1 = 0 := by
  obtain ⟨h1, h2, h3, h4⟩ := Rf.Good.new h
  unfold Rf.new at h
  split at h
  · cases h
  · obtain ⟨e1, e2⟩ := Prod.mk.inj (Option.some.inj h)
    subst e2
    refine ⟨h1, h2, h3, rfl, rfl, rfl, rfl, ?_, ?_⟩
    · rw [h4]; rfl
    · rw [h4]; rfl
set_option maxRecDepth 100000 in
set_option maxHeartbeats 1600000 in
theorem awake7_any (w : World) : Calls Try.prog 8 #[] w fun e w' => e = .returned (.bool true) ∧ Below w.heap.size w w' := by
  have hn := pnew_any 1 1 0 0 0 0 (.slice none 0 0) [] (fun _ => False) w (SlS.nil _ _) (by simp)
  rw [Rf.new_lone] at hn
  unfold PNewOut at hn
  have HN := Lib.hid hn
  clear hn
  go_enter Try.func8, Try.ntmps8
  go_wp2_with fail
  refine HN.out.mono ?_
  rintro e w1 ⟨G, p, rfl, hG, hp, hb⟩
  obtain ⟨pg, rfl⟩ := hp.ptr
  have HT := Lib.hid (ptimeout_any Rf.one G _ Rf.lone Rf.good_lone _ w1 hp)
  have HB := Lib.hid hb
  have hz := hb.size
  have HGE := Lib.hid hG
  clear hb hp HN hG
  go_wp2_with fail
  refine HT.out.mono ?_
  rintro e w2 ⟨v, rfl, hm, hs⟩
  obtain ⟨h1, h2, h3, h4, h5⟩ := Rf.lone_timeout
  have hgt := Rf.good_lone.timeout
  rw [h1] at hm
  generalize Rf.timeout Rf.one Rf.lone = r at *
  obtain ⟨t, ms⟩ := r
  simp only at h2 h3 h4 h5 hgt hs
  obtain ⟨A, c, rfl, -, -⟩ := SlS.form hm
  obtain ⟨G2, hG2, hp, hk⟩ := hs
  have HB2 := Lib.hid (HB.out.trans (hk.below HGE.out hz))
  have hz2 := HB2.out.size
  have HRO := Lib.hid (fun W (hb : Below w2.heap.size w2 W) => prole_any Rf.one G2 _ t hgt _ W (hp.stay hb))
  have HBA := Lib.hid (fun W (hb : Below w2.heap.size w2 W) => pballot_any Rf.one G2 _ t hgt _ W (hp.stay hb))
  have HSE := Lib.hid (fun W (hb : Below w2.heap.size w2 W) => psettled_any Rf.one G2 _ t hgt _ W (hp.stay hb))
  have HLG := Lib.hid (fun W (hb : Below w2.heap.size w2 W) => plog_any Rf.one G2 _ t hgt _ W (hp.stay hb))
  rw [h2] at HRO
  rw [h3] at HBA
  rw [h5] at HSE
  clear hm hp hk HT HB HGE hG2 h1 h2 h3 h5 hgt
  have h0 : ([] : List Rf.Msg).length = 0 := rfl
  rw [h0]
  clear h0
  go_wp2_with fail
  with_reducible refine (HRO.out _ (Below.refl _ _)).mono ?_
  rintro e w3 ⟨rfl, hb3⟩
  have H3 := Lib.hid hb3
  clear hb3
  go_wp2_with fail
  with_reducible refine (HSE.out _ H3.out).mono ?_
  rintro e w4 ⟨rfl, hb4⟩
  have H4 := Lib.hid (H3.out.trans (hb4.mono H3.out.size))
  clear hb4 H3
  go_wp2_with fail
  refine (HLG.out _ H4.out).mono ?_
  rintro e w5 ⟨v5, rfl, hs5, hb5⟩
  obtain ⟨A5, c5, rfl, -, -⟩ := SlS.form hs5
  have H5 := Lib.hid (H4.out.trans (hb5.mono H4.out.size))
  clear hb5 H4 hs5
  rw [h4]
  clear h4
  have hfl := fld_log 0 0 (.slice A5 1 c5)
  have hfb := fld_bal0 1 1
  go_wp2_with fail
  with_reducible refine (HBA.out _ H5.out).mono ?_
  rintro e w6 ⟨rfl, hb6⟩
  have H6 := Lib.hid (HB2.out.trans ((H5.out.trans (hb6.mono H5.out.size)).mono hz2))
  clear hb6 H5
  go_wp2_with fail
  go_ret
  exact ⟨rfl, H6.out⟩
end Go.Proofs.Ytjcljkbalpgfdaa
