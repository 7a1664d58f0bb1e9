/- A call on the program's pool and on the document's: the answers are alike. -/
import Derived.Test.YtfkmmjfahdpfcaaPRef8
namespace Go.Proofs.Ytfkmmjfahdpfcaa
open Go.ChangeShapes Go.WideShapes Go.ChangeAt Go.RowKit
/-- Blocks beside the pool from b on, and none of E. -/
def ApO (E : Nat → Prop) (w : World) (b g : Nat) : Prop := b + 2 ≤ g ∧ idleBlk w b ≠ some g ∧ ¬ E g
theorem RfAt.turns {E : Nat → Prop} {w w' : World} {b : Nat} {p : RfV} {x : St} (h : RfAt (ApO E w b) w p x) (t : Turns b w w') : RfAt (ApO E w' b) w' p x := by
  have h1 : RfAt (fun g => ApO E w b g ∧ g < w.heap.size) w p x := h.mono fun g hg ho => ⟨ho, hg⟩
  have h2 := h1.of_block (w' := w') fun g ho _ => t.block g ho.2 (by have := ho.1.1; omega) (by have := ho.1.1; omega) ho.1.2.1
  refine h2.mono fun g _ ho => ⟨ho.1.1, ?_, ho.1.2.2⟩
  rcases t.idle with e | ⟨q, e, hq⟩
  · rw [e]; exact ho.1.2.1
  · rw [e]; intro e2; simp at e2; have := ho.2; omega
theorem In.set {w : World} {b : Nat} {x : St} (h : In w b x) {k : Nat} (hk : b + 2 ≤ k) (hi : idleBlk w b ≠ some k) (t : Nat) (v : Value) : In (w.setCell ⟨k, t, none⟩ v) b x ∧ idleBlk (w.setCell ⟨k, t, none⟩ v) b = idleBlk w b :=
  h.grown (grownBy_set (grownBy_refl w (some k)) t v) fun g hg => by
    simp at hg
    subst hg
    exact ⟨hk, hi⟩
theorem Turns.setNew {b : Nat} {w w' : World} (h : Turns b w w') {k : Nat} (hk : w.heap.size ≤ k) (hb : b + 1 < w.heap.size) (t : Nat) (v : Value) : Turns b w (w'.setCell ⟨k, t, none⟩ v) := by
  refine ⟨h.below.setCell (by show b ≤ k; omega) _, fun j hj h1 h2 h3 => ?_, ?_⟩
  · rw [Below.heap_setCell _ _ _ _ (by show j ≠ k; omega)]; exact h.block j hj h1 h2 h3
  · rw [idleBlk_same (w := w') (Below.heap_setCell _ _ _ _ (by show b + 1 ≠ k; omega))]; exact h.idle
/-- Blocks beside the pool, and not the three that a call lays first. -/
def Ap3 (E : Nat → Prop) (w : World) (b n g : Nat) : Prop := ApO E w b g ∧ g ≠ n ∧ g ≠ n + 1 ∧ g ≠ n + 2
theorem RfAt.ap3 {O E : Nat → Prop} {w : World} {b n : Nat} {p : RfV} {x : St} (h : RfAt (ApO E w b) w p x) (hg : RfAt O w p x) (ho : ∀ g, O g → g ≠ n ∧ g ≠ n + 1 ∧ g ≠ n + 2) : RfAt (Ap3 E w b n) w p x := by
  refine ⟨h.pages, ⟨h.og, ho _ hg.og⟩, fun hn => ?_, h.nil, h.few, h.few2, h.some'⟩
  obtain ⟨g, e, h1, hc⟩ := h.idle hn
  obtain ⟨g', e', h1', _⟩ := hg.idle hn
  rw [e] at e'
  simp only [Option.some.injEq, Addr.mk.injEq, and_true] at e'
  subst e'
  exact ⟨g, e, ⟨h1, ho _ h1'⟩, hc⟩
theorem ap3_new {E : Nat → Prop} {w : World} {b n : Nat} {x : St} (h : In w b x) (hs : n + 3 ≤ w.heap.size) (hE : ∀ g, E g → g < w.heap.size) : ∀ g, w.heap.size ≤ g → Ap3 E w b n g := fun g hg => by
  have hl := h.lt
  refine ⟨⟨by omega, fun e => ?_, fun e => by have := hE g e; omega⟩, by omega, by omega, by omega⟩
  have := (h.idle_lt g e).2
  omega
/-- What stands where a call on both is over: the pool, the document's value, in a result that was stored. -/
theorem does_end {E : Nat → Prop} {w w2 w3 : World} {b n : Nat} {p' : RfV} {y : St} (I2 : In w2 b y) (R3 : RfAt (Ap3 E w2 b n) w3 p' y) (B3 : Below w2.heap.size w2 w3) (T2 : Turns b w w2) (hn : w.heap.size ≤ n) (hb : b + 1 < w.heap.size) (hi0 : idleBlk w2 b ≠ some n) (hi2 : idleBlk w2 b ≠ some (n + 2)) (a c d e : Value) :
    In ((((w3.setCell ⟨n, 0, none⟩ a).setCell ⟨n, 1, none⟩ c).setCell ⟨n + 2, 0, none⟩ d).setCell ⟨n + 2, 1, none⟩ e) b y ∧ RfAt (ApO E ((((w3.setCell ⟨n, 0, none⟩ a).setCell ⟨n, 1, none⟩ c).setCell ⟨n + 2, 0, none⟩ d).setCell ⟨n + 2, 1, none⟩ e) b) ((((w3.setCell ⟨n, 0, none⟩ a).setCell ⟨n, 1, none⟩ c).setCell ⟨n + 2, 0, none⟩ d).setCell ⟨n + 2, 1, none⟩ e) p' y ∧ Turns b w ((((w3.setCell ⟨n, 0, none⟩ a).setCell ⟨n, 1, none⟩ c).setCell ⟨n + 2, 0, none⟩ d).setCell ⟨n + 2, 1, none⟩ e) := by
  have I3 := I2.below B3
  have l2 := I2.lt
  have e3 : idleBlk w3 b = idleBlk w2 b := idleBlk_same (B3.block _ l2)
  have k0 : b + 2 ≤ n := by omega
  have k2 : b + 2 ≤ n + 2 := by omega
  obtain ⟨I4, e4⟩ := I3.set k0 (by rw [e3]; exact hi0) 0 a
  obtain ⟨I5, e5⟩ := I4.set k0 (by rw [e4, e3]; exact hi0) 1 c
  obtain ⟨I6, e6⟩ := I5.set k2 (by rw [e5, e4, e3]; exact hi2) 0 d
  obtain ⟨I7, e7⟩ := I6.set k2 (by rw [e6, e5, e4, e3]; exact hi2) 1 e
  refine ⟨I7, ?_, ?_⟩
  · have h1 := R3.of_block (w' := (((w3.setCell ⟨n, 0, none⟩ a).setCell ⟨n, 1, none⟩ c).setCell ⟨n + 2, 0, none⟩ d).setCell ⟨n + 2, 1, none⟩ e) fun g hg _ => by
      rw [Below.heap_setCell _ _ _ _ hg.2.2.2, Below.heap_setCell _ _ _ _ hg.2.2.2, Below.heap_setCell _ _ _ _ hg.2.1, Below.heap_setCell _ _ _ _ hg.2.1]
    refine h1.mono fun g _ ho => ⟨ho.1.1, ?_, ho.1.2.2⟩
    rw [e7, e6, e5, e4, e3]; exact ho.1.2.1
  · have T3 := T2.trans (Turns.of_below B3 l2)
    exact (((T3.setNew hn hb _ _).setNew hn hb _ _).setNew (by omega) hb _ _).setNew (by omega) hb _ _
/-- The same, where nothing was stored but the result. -/
theorem does_end0 {E : Nat → Prop} {w w2 w3 : World} {b n : Nat} {p' : RfV} {y : St} (I2 : In w2 b y) (R3 : RfAt (Ap3 E w2 b n) w3 p' y) (B3 : Below w2.heap.size w2 w3) (T2 : Turns b w w2) (hn : w.heap.size ≤ n) (hb : b + 1 < w.heap.size) (hi2 : idleBlk w2 b ≠ some (n + 2)) (d e : Value) :
    In ((w3.setCell ⟨n + 2, 0, none⟩ d).setCell ⟨n + 2, 1, none⟩ e) b y ∧ RfAt (ApO E ((w3.setCell ⟨n + 2, 0, none⟩ d).setCell ⟨n + 2, 1, none⟩ e) b) ((w3.setCell ⟨n + 2, 0, none⟩ d).setCell ⟨n + 2, 1, none⟩ e) p' y ∧ Turns b w ((w3.setCell ⟨n + 2, 0, none⟩ d).setCell ⟨n + 2, 1, none⟩ e) := by
  have I3 := I2.below B3
  have l2 := I2.lt
  have e3 : idleBlk w3 b = idleBlk w2 b := idleBlk_same (B3.block _ l2)
  have k2 : b + 2 ≤ n + 2 := by omega
  obtain ⟨I6, e6⟩ := I3.set k2 (by rw [e3]; exact hi2) 0 d
  obtain ⟨I7, e7⟩ := I6.set k2 (by rw [e6, e3]; exact hi2) 1 e
  refine ⟨I7, ?_, ?_⟩
  · have h1 := R3.of_block (w' := (w3.setCell ⟨n + 2, 0, none⟩ d).setCell ⟨n + 2, 1, none⟩ e) fun g hg _ => by
      rw [Below.heap_setCell _ _ _ _ hg.2.2.2, Below.heap_setCell _ _ _ _ hg.2.2.2]
    refine h1.mono fun g _ ho => ⟨ho.1.1, ?_, ho.1.2.2⟩
    rw [e7, e6, e3]; exact ho.1.2.1
  · have T3 := T2.trans (Turns.of_below B3 l2)
    exact (T3.setNew (by omega) hb _ _).setNew (by omega) hb _ _
theorem act_cases (z : Act3) (y : St) : (z.kind = 1 ∧ Hid ((takeR y).x = actR z y)) ∨ (z.kind = 2 ∧ Hid ((holdR y z.i).x = actR z y)) ∨ (z.kind = 3 ∧ Hid ((sealR y z.i z.key).x = actR z y)) ∨ (z.kind = 4 ∧ Hid ((dropR y z.i).x = actR z y)) ∨ (z.kind = 5 ∧ Hid ((forgetR y z.i).x = actR z y)) ∨ ((¬ z.kind = 1 ∧ ¬ z.kind = 2 ∧ ¬ z.kind = 3 ∧ ¬ z.kind = 4 ∧ ¬ z.kind = 5) ∧ Hid (y = actR z y)) := by
  by_cases e1 : z.kind = 1
  · exact Or.inl ⟨e1, by show _ = _; unfold actR; rw [if_pos e1]⟩
  by_cases e2 : z.kind = 2
  · exact Or.inr (Or.inl ⟨e2, by show _ = _; unfold actR; rw [if_neg e1, if_pos e2]⟩)
  by_cases e3 : z.kind = 3
  · exact Or.inr (Or.inr (Or.inl ⟨e3, by show _ = _; unfold actR; rw [if_neg e1, if_neg e2, if_pos e3]⟩))
  by_cases e4 : z.kind = 4
  · exact Or.inr (Or.inr (Or.inr (Or.inl ⟨e4, by show _ = _; unfold actR; rw [if_neg e1, if_neg e2, if_neg e3, if_pos e4]⟩)))
  by_cases e5 : z.kind = 5
  · exact Or.inr (Or.inr (Or.inr (Or.inr (Or.inl ⟨e5, by show _ = _; unfold actR; rw [if_neg e1, if_neg e2, if_neg e3, if_neg e4, if_pos e5]⟩))))
  · exact Or.inr (Or.inr (Or.inr (Or.inr (Or.inr ⟨⟨e1, e2, e3, e4, e5⟩, by show _ = _; unfold actR; rw [if_neg e1, if_neg e2, if_neg e3, if_neg e4, if_neg e5]⟩))))
set_option maxHeartbeats 16000000 in
set_option maxRecDepth 100000 in
theorem does_any (E : Nat → Prop) (b : Nat) (p : RfV) (x : St) (z : Act3) (w : World) (hI : In w b x) (hR : RfAt (ApO E w b) w p x) (hE : ∀ g, E g → g < w.heap.size) (b2 : -9223372036854775808 ≤ z.i ∧ z.i ≤ 9223372036854775807) :
   Calls Try.prog 10 #[.pointer (some ⟨b + 1, 0, none⟩), p.val x, .agg #[.int .i64 z.kind, .int .i64 z.i, .int .i64 z.key]] w fun e w' => ∃ p', e = .returned (.tuple #[p'.val (actR z x), .bool true]) ∧ In w' b (actR z x) ∧ RfAt (ApO E w' b) w' p' (actR z x) ∧ Turns b w w' := by
  have hl := hI.lt
  have X0 := rbox w p x
  have hcase := act_cases z x
  have B0 : Below w.heap.size w (w.alloc (.cells #[.slice (some ⟨p.g, 0, none⟩) x.L.length p.cP, .slice p.aI x.I.length p.cI] 31)) := (Below.refl _ _).alloc (Nat.le_refl _) _
  generalize hw0 : w.alloc (.cells #[.slice (some ⟨p.g, 0, none⟩) x.L.length p.cP, .slice p.aI x.I.length p.cI] 31) = w0 at *
  have s0 : w0.heap.size = w.heap.size + 1 := by rw [← hw0]; simp
  have X1 := blk_new w0 35 #[.int .i64 z.kind, .int .i64 z.i, .int .i64 z.key]
  have B1 : Below w0.heap.size w0 (w0.alloc (.cells #[.int .i64 z.kind, .int .i64 z.i, .int .i64 z.key] 35)) := (Below.refl _ _).alloc (Nat.le_refl _) _
  generalize hw1 : w0.alloc (.cells #[.int .i64 z.kind, .int .i64 z.i, .int .i64 z.key] 35) = w1 at *
  have s1 : w1.heap.size = w.heap.size + 2 := by rw [← hw1]; simp; omega
  have X2 := blk_new w1 31 #[.slice none 0 0, .slice none 0 0]
  have B2 : Below w1.heap.size w1 (w1.alloc (.cells #[.slice none 0 0, .slice none 0 0] 31)) := (Below.refl _ _).alloc (Nat.le_refl _) _
  generalize hw9 : w1.alloc (.cells #[.slice none 0 0, .slice none 0 0] 31) = w9 at *
  have s9 : w9.heap.size = w.heap.size + 3 := by rw [← hw9]; simp; omega
  rw [s0] at X1
  rw [s1] at X2
  have D9 := below_then (below_then B0 B1) B2
  replace X0 := X0.below (below_then B1 B2) (by omega)
  replace X1 := X1.below B2 (by omega)
  have I9 := hI.below D9
  have T1 := Turns.of_below D9 hl
  have hid : ∀ k, w.heap.size ≤ k → idleBlk w9 b ≠ some k := fun k hk e => by
    rw [idleBlk_same (D9.block _ hl)] at e
    have := (hI.idle_lt k e).2
    omega
  have HX0 : Hid (∀ v, Turns b w9 v → Blk v w.heap.size 31 #[.slice (some ⟨p.g, 0, none⟩) x.L.length p.cP, .slice p.aI x.I.length p.cI]) := fun v t => X0.of_block (t.block _ X0.lt (by omega) (by omega) (hid _ (by omega)))
  have HX1 : Hid (∀ v, Turns b w9 v → Blk v (w.heap.size + 1) 35 #[.int .i64 z.kind, .int .i64 z.i, .int .i64 z.key]) := fun v t => X1.of_block (t.block _ X1.lt (by omega) (by omega) (hid _ (by omega)))
  have HX2 : Hid (∀ v, Turns b w9 v → Blk v (w.heap.size + 2) 31 #[.slice none 0 0, .slice none 0 0]) := fun v t => X2.of_block (t.block _ X2.lt (by omega) (by omega) (hid _ (by omega)))
  have HI : Hid (∀ v, Turns b w9 v → ∀ k, w.heap.size ≤ k → k < w.heap.size + 3 → idleBlk v b ≠ some k) := fun v t k h1 h2 => by
    rcases t.idle with e | ⟨q, e, hq⟩
    · rw [e]; exact hid k h1
    · rw [e]; intro e2; simp at e2; omega
  have HR : Hid (∀ v, Turns b w9 v → RfAt (Ap3 E v b w.heap.size) v p x) := fun v t => by
    have h1 := hR.turns (T1.trans t)
    have h2 : RfAt (fun g => ApO E w b g ∧ g < w.heap.size) w p x := hR.mono fun g hg ho => ⟨ho, hg⟩
    have h3 := h2.of_block (w' := v) fun g ho _ => (T1.trans t).block g ho.2 (by have := ho.1.1; omega) (by have := ho.1.1; omega) ho.1.2.1
    exact h1.ap3 h3 fun g ho => by have := ho.2; omega
  have c0 := X1.cell 0 (v := .int .i64 z.kind) rfl
  have c1 := X1.cell 1 (v := .int .i64 z.i) rfl
  have c2 := X1.cell 2 (v := .int .i64 z.key) rfl
  have hwf := hI.wf
  clear B0 B1 B2 hid hI
  simp only [RfV.val]
  generalize actR z x = y at *
  generalize z.kind = kd at *
  generalize z.i = ki at *
  generalize z.key = kk at *
  rcases hcase with ⟨rfl, hy⟩ | hcase
  · have CS := take_step b x w9 I9
    go_enter Try.func10, Try.ntmps10
    go_wp2_with first
      | (go_at_call 12; refine CS.mono ?_; rintro e w2 ⟨rfl, I2, T2⟩; have Y0 := HX0.out _ T2; have Y2 := HX2.out _ T2; have u0 := Y0.cell 0 (v := .slice (some ⟨p.g, 0, none⟩) x.L.length p.cP) rfl; have u1 := Y0.cell 1 (v := .slice p.aI x.I.length p.cI) rfl; have t2 := T1.trans T2; have RR := HR.out _ T2; have h2 := ap3_new (E := E) (n := w.heap.size) I2 (by have := Y2.lt; omega) (fun g hg => by have := hE g hg; have := Y2.lt; omega); have CR := take_ref _ p x w2 RR h2 (fun i hi => ((hwf.mem i).1 hi).1); simp only [RfV.val] at CR)
      | (go_at_call 21; refine CR.mono ?_; rintro e w3 ⟨p', rfl, R3, B3⟩; obtain ⟨w4, hw4⟩ : ∃ w4, w3.alloc (.cells #[.slice (some ⟨p'.g, 0, none⟩) (takeR x).x.L.length p'.cP, .slice p'.aI (takeR x).x.I.length p'.cI] 31) = w4 := ⟨_, rfl⟩; have B4 : Below w3.heap.size w3 w4 := (by rw [← hw4]; exact (Below.refl _ _).alloc (Nat.le_refl _) _); have X4 : Blk w4 w3.heap.size 31 #[.slice (some ⟨p'.g, 0, none⟩) (takeR x).x.L.length p'.cP, .slice p'.aI (takeR x).x.I.length p'.cI] := (by rw [← hw4]; exact blk_new _ _ _); have M2 := (Y2.below B3 Y2.lt).below B4 (Y2.below B3 Y2.lt).lt; have m0 := X4.cell 0 rfl; have m1 := X4.cell 1 rfl; have m4 := M2.cell 0 (v := .slice none 0 0) rfl; have m5 := M2.cell 1 (v := .slice none 0 0) rfl; have m6 := M2.frozen 0; have m7 := M2.frozen 1)
    refine bodyPost_ret (results_blk2 rfl _ _ (w.heap.size + 2) _ rfl (load_r (put_r M2) rfl)) rfl ?_
    obtain ⟨z1, z2, z3⟩ := does_end0 I2 (R3.below B4) (below_then B3 B4) t2 (Nat.le_refl _) hl (HI.out _ T2 _ (by omega) (by omega)) (.slice (some ⟨p'.g, 0, none⟩) (takeR x).x.L.length p'.cP) (.slice p'.aI (takeR x).x.I.length p'.cI)
    exact ⟨p', by rw [← hy.out]; rfl, by rw [← hy.out]; exact z1, by rw [← hy.out]; exact z2, z3⟩
  · rcases hcase with ⟨rfl, hy⟩ | ⟨rfl, hy⟩ | ⟨rfl, hy⟩ | ⟨rfl, hy⟩ | ⟨⟨n1, n2, n3, n4, n5⟩, hy⟩
    · have CS := hold_step b ki x w9 I9 b2
      go_enter Try.func10, Try.ntmps10
      go_wp2_with first
        | (go_at_call 13; refine CS.mono ?_; rintro e w2 ⟨rfl, I2, T2⟩; have Y0 := HX0.out _ T2; have Y1 := HX1.out _ T2; have Y2 := HX2.out _ T2; have u0 := Y0.cell 0 (v := .slice (some ⟨p.g, 0, none⟩) x.L.length p.cP) rfl; have u1 := Y0.cell 1 (v := .slice p.aI x.I.length p.cI) rfl; have u2 := Y1.cell 1 (v := .int .i64 ki) rfl; have u3 := Y1.cell 2 (v := .int .i64 kk) rfl; have t2 := T1.trans T2; have RR := HR.out _ T2; have h2 := ap3_new (E := E) (n := w.heap.size) I2 (by have := Y2.lt; omega) (fun g hg => by have := hE g hg; have := Y2.lt; omega); have CR := hold_ref _ p x ki w2 RR h2 hwf.refs; simp only [RfV.val] at CR)
        | (go_at_call 22; refine CR.mono ?_; rintro e w3 ⟨p', rfl, R3, B3⟩; have M0 := Y0.below B3 Y0.lt; have M2 := Y2.below B3 Y2.lt; have m0 := M0.cell 0 (v := .slice (some ⟨p.g, 0, none⟩) x.L.length p.cP) rfl; have m1 := M0.cell 1 (v := .slice p.aI x.I.length p.cI) rfl; have m2 := M0.frozen 0; have m3 := M0.frozen 1; have m4 := M2.cell 0 (v := .slice none 0 0) rfl; have m5 := M2.cell 1 (v := .slice none 0 0) rfl; have m6 := M2.frozen 0; have m7 := M2.frozen 1)
      have a0 : w.heap.size + 2 ≠ w.heap.size := by omega
      have M3 := (M2.other (a := ⟨w.heap.size, 0, none⟩) a0 (.slice (some ⟨p'.g, 0, none⟩) (holdR x ki).x.L.length p'.cP)).other (a := ⟨w.heap.size, 1, none⟩) a0 (.slice p'.aI (holdR x ki).x.I.length p'.cI)
      refine bodyPost_ret (results_blk2 rfl _ _ (w.heap.size + 2) _ rfl (load_r (put_r M3) rfl)) rfl ?_
      obtain ⟨z1, z2, z3⟩ := does_end I2 R3 B3 t2 (Nat.le_refl _) hl (HI.out _ T2 _ (by omega) (by omega)) (HI.out _ T2 _ (by omega) (by omega)) (.slice (some ⟨p'.g, 0, none⟩) (holdR x ki).x.L.length p'.cP) (.slice p'.aI (holdR x ki).x.I.length p'.cI) (.slice (some ⟨p'.g, 0, none⟩) (holdR x ki).x.L.length p'.cP) (.slice p'.aI (holdR x ki).x.I.length p'.cI)
      exact ⟨p', by rw [← hy.out]; rfl, by rw [← hy.out]; exact z1, by rw [← hy.out]; exact z2, z3⟩
    · have CS := seal_step b ki kk x w9 I9 b2
      go_enter Try.func10, Try.ntmps10
      go_wp2_with first
        | (go_at_call 14; refine CS.mono ?_; rintro e w2 ⟨rfl, I2, T2⟩; have Y0 := HX0.out _ T2; have Y1 := HX1.out _ T2; have Y2 := HX2.out _ T2; have u0 := Y0.cell 0 (v := .slice (some ⟨p.g, 0, none⟩) x.L.length p.cP) rfl; have u1 := Y0.cell 1 (v := .slice p.aI x.I.length p.cI) rfl; have u2 := Y1.cell 1 (v := .int .i64 ki) rfl; have u3 := Y1.cell 2 (v := .int .i64 kk) rfl; have t2 := T1.trans T2; have RR := HR.out _ T2; have h2 := ap3_new (E := E) (n := w.heap.size) I2 (by have := Y2.lt; omega) (fun g hg => by have := hE g hg; have := Y2.lt; omega); have CR := seal_ref _ p x ki kk w2 RR h2; simp only [RfV.val] at CR)
        | (go_at_call 23; refine CR.mono ?_; rintro e w3 ⟨p', rfl, R3, B3⟩; have M0 := Y0.below B3 Y0.lt; have M2 := Y2.below B3 Y2.lt; have m0 := M0.cell 0 (v := .slice (some ⟨p.g, 0, none⟩) x.L.length p.cP) rfl; have m1 := M0.cell 1 (v := .slice p.aI x.I.length p.cI) rfl; have m2 := M0.frozen 0; have m3 := M0.frozen 1; have m4 := M2.cell 0 (v := .slice none 0 0) rfl; have m5 := M2.cell 1 (v := .slice none 0 0) rfl; have m6 := M2.frozen 0; have m7 := M2.frozen 1)
      have a0 : w.heap.size + 2 ≠ w.heap.size := by omega
      have M3 := (M2.other (a := ⟨w.heap.size, 0, none⟩) a0 (.slice (some ⟨p'.g, 0, none⟩) (sealR x ki kk).x.L.length p'.cP)).other (a := ⟨w.heap.size, 1, none⟩) a0 (.slice p'.aI (sealR x ki kk).x.I.length p'.cI)
      refine bodyPost_ret (results_blk2 rfl _ _ (w.heap.size + 2) _ rfl (load_r (put_r M3) rfl)) rfl ?_
      obtain ⟨z1, z2, z3⟩ := does_end I2 R3 B3 t2 (Nat.le_refl _) hl (HI.out _ T2 _ (by omega) (by omega)) (HI.out _ T2 _ (by omega) (by omega)) (.slice (some ⟨p'.g, 0, none⟩) (sealR x ki kk).x.L.length p'.cP) (.slice p'.aI (sealR x ki kk).x.I.length p'.cI) (.slice (some ⟨p'.g, 0, none⟩) (sealR x ki kk).x.L.length p'.cP) (.slice p'.aI (sealR x ki kk).x.I.length p'.cI)
      exact ⟨p', by rw [← hy.out]; rfl, by rw [← hy.out]; exact z1, by rw [← hy.out]; exact z2, z3⟩
    · have CS := drop_step b ki x w9 I9 b2
      go_enter Try.func10, Try.ntmps10
      go_wp2_with first
        | (go_at_call 15; refine CS.mono ?_; rintro e w2 ⟨rfl, I2, T2⟩; have Y0 := HX0.out _ T2; have Y1 := HX1.out _ T2; have Y2 := HX2.out _ T2; have u0 := Y0.cell 0 (v := .slice (some ⟨p.g, 0, none⟩) x.L.length p.cP) rfl; have u1 := Y0.cell 1 (v := .slice p.aI x.I.length p.cI) rfl; have u2 := Y1.cell 1 (v := .int .i64 ki) rfl; have u3 := Y1.cell 2 (v := .int .i64 kk) rfl; have t2 := T1.trans T2; have RR := HR.out _ T2; have h2 := ap3_new (E := E) (n := w.heap.size) I2 (by have := Y2.lt; omega) (fun g hg => by have := hE g hg; have := Y2.lt; omega); have CR := drop_ref _ p x ki w2 RR h2 hwf.refs; simp only [RfV.val] at CR)
        | (go_at_call 24; refine CR.mono ?_; rintro e w3 ⟨p', rfl, R3', B3⟩; have R3 := R3' I2.few2; have M0 := Y0.below B3 Y0.lt; have M2 := Y2.below B3 Y2.lt; have m0 := M0.cell 0 (v := .slice (some ⟨p.g, 0, none⟩) x.L.length p.cP) rfl; have m1 := M0.cell 1 (v := .slice p.aI x.I.length p.cI) rfl; have m2 := M0.frozen 0; have m3 := M0.frozen 1; have m4 := M2.cell 0 (v := .slice none 0 0) rfl; have m5 := M2.cell 1 (v := .slice none 0 0) rfl; have m6 := M2.frozen 0; have m7 := M2.frozen 1)
      have a0 : w.heap.size + 2 ≠ w.heap.size := by omega
      have M3 := (M2.other (a := ⟨w.heap.size, 0, none⟩) a0 (.slice (some ⟨p'.g, 0, none⟩) (dropR x ki).x.L.length p'.cP)).other (a := ⟨w.heap.size, 1, none⟩) a0 (.slice p'.aI (dropR x ki).x.I.length p'.cI)
      refine bodyPost_ret (results_blk2 rfl _ _ (w.heap.size + 2) _ rfl (load_r (put_r M3) rfl)) rfl ?_
      obtain ⟨z1, z2, z3⟩ := does_end I2 R3 B3 t2 (Nat.le_refl _) hl (HI.out _ T2 _ (by omega) (by omega)) (HI.out _ T2 _ (by omega) (by omega)) (.slice (some ⟨p'.g, 0, none⟩) (dropR x ki).x.L.length p'.cP) (.slice p'.aI (dropR x ki).x.I.length p'.cI) (.slice (some ⟨p'.g, 0, none⟩) (dropR x ki).x.L.length p'.cP) (.slice p'.aI (dropR x ki).x.I.length p'.cI)
      exact ⟨p', by rw [← hy.out]; rfl, by rw [← hy.out]; exact z1, by rw [← hy.out]; exact z2, z3⟩
    · have CS := forget_step b ki x w9 I9 b2
      go_enter Try.func10, Try.ntmps10
      go_wp2_with first
        | (go_at_call 16; refine CS.mono ?_; rintro e w2 ⟨rfl, I2, T2⟩; have Y0 := HX0.out _ T2; have Y1 := HX1.out _ T2; have Y2 := HX2.out _ T2; have u0 := Y0.cell 0 (v := .slice (some ⟨p.g, 0, none⟩) x.L.length p.cP) rfl; have u1 := Y0.cell 1 (v := .slice p.aI x.I.length p.cI) rfl; have u2 := Y1.cell 1 (v := .int .i64 ki) rfl; have u3 := Y1.cell 2 (v := .int .i64 kk) rfl; have t2 := T1.trans T2; have RR := HR.out _ T2; have h2 := ap3_new (E := E) (n := w.heap.size) I2 (by have := Y2.lt; omega) (fun g hg => by have := hE g hg; have := Y2.lt; omega); have CR := forget_ref _ p x ki w2 RR h2 hwf; simp only [RfV.val] at CR)
        | (go_at_call 25; refine CR.mono ?_; rintro e w3 ⟨p', rfl, R3, B3⟩; have M0 := Y0.below B3 Y0.lt; have M2 := Y2.below B3 Y2.lt; have m0 := M0.cell 0 (v := .slice (some ⟨p.g, 0, none⟩) x.L.length p.cP) rfl; have m1 := M0.cell 1 (v := .slice p.aI x.I.length p.cI) rfl; have m2 := M0.frozen 0; have m3 := M0.frozen 1; have m4 := M2.cell 0 (v := .slice none 0 0) rfl; have m5 := M2.cell 1 (v := .slice none 0 0) rfl; have m6 := M2.frozen 0; have m7 := M2.frozen 1)
      have a0 : w.heap.size + 2 ≠ w.heap.size := by omega
      have M3 := (M2.other (a := ⟨w.heap.size, 0, none⟩) a0 (.slice (some ⟨p'.g, 0, none⟩) (forgetR x ki).x.L.length p'.cP)).other (a := ⟨w.heap.size, 1, none⟩) a0 (.slice p'.aI (forgetR x ki).x.I.length p'.cI)
      refine bodyPost_ret (results_blk2 rfl _ _ (w.heap.size + 2) _ rfl (load_r (put_r M3) rfl)) rfl ?_
      obtain ⟨z1, z2, z3⟩ := does_end I2 R3 B3 t2 (Nat.le_refl _) hl (HI.out _ T2 _ (by omega) (by omega)) (HI.out _ T2 _ (by omega) (by omega)) (.slice (some ⟨p'.g, 0, none⟩) (forgetR x ki).x.L.length p'.cP) (.slice p'.aI (forgetR x ki).x.I.length p'.cI) (.slice (some ⟨p'.g, 0, none⟩) (forgetR x ki).x.L.length p'.cP) (.slice p'.aI (forgetR x ki).x.I.length p'.cI)
      exact ⟨p', by rw [← hy.out]; rfl, by rw [← hy.out]; exact z1, by rw [← hy.out]; exact z2, z3⟩
    · have T2 : Turns b w9 w9 := Turns.of_below (Below.refl _ _) (by omega)
      have u0 := X0.cell 0 (v := .slice (some ⟨p.g, 0, none⟩) x.L.length p.cP) rfl
      have u1 := X0.cell 1 (v := .slice p.aI x.I.length p.cI) rfl
      have m4 := X2.cell 0 (v := .slice none 0 0) rfl
      have m5 := X2.cell 1 (v := .slice none 0 0) rfl
      have m6 := X2.frozen 0
      have m7 := X2.frozen 1
      go_enter Try.func10, Try.ntmps10
      go_wp2_with fail
      refine bodyPost_ret (results_blk2 rfl _ _ (w.heap.size + 2) _ rfl (load_r (put_r X2) rfl)) rfl ?_
      obtain ⟨z1, z2, z3⟩ := does_end0 I9 (HR.out _ T2) (Below.refl _ _) T1 (Nat.le_refl _) hl (HI.out _ T2 _ (by omega) (by omega)) (.slice (some ⟨p.g, 0, none⟩) x.L.length p.cP) (.slice p.aI x.I.length p.cI)
      exact ⟨p, by rw [← hy.out]; rfl, by rw [← hy.out]; exact z1, by rw [← hy.out]; exact z2, z3⟩
end Go.Proofs.Ytfkmmjfahdpfcaa
