/- Each call of a pool as one step: what it answers, and the pool behind it. -/
import Derived.Test.YtfkmmjfahdpfcaaPWF
namespace Go.Proofs.Ytfkmmjfahdpfcaa
open Go.ChangeShapes Go.WideShapes Go.ChangeAt Go.RowKit
/-- A pool's state: its pages, the row of idle ones. -/
structure St where
  L : List Pg
  I : List Nat
/-- In w the pool from b on is in state x, which keeps to what pools keep to. -/
structure In (w : World) (b : Nat) (x : St) : Prop where
  at' : PoolAt w b x.L x.I
  wf : WF x.L x.I
  few : x.L.length ≤ 64
theorem In.below {w w' : World} {b : Nat} {x : St} (h : In w b x) (hb : Below w.heap.size w w') : In w' b x := ⟨h.at'.below hb, h.wf, h.few⟩
theorem In.few2 {w : World} {b : Nat} {x : St} (h : In w b x) : x.I.length ≤ 64 := Nat.le_trans h.wf.few h.few
theorem In.lt {w : World} {b : Nat} {x : St} (h : In w b x) : b + 1 < w.heap.size := by have := h.at'.size; omega
structure TakeR where
  x : St
  i : Nat
  k : Int
  did : Bool
  e : Int
def takeR (x : St) : TakeR := if x.L.findIdx Pg.free < x.L.length then ⟨⟨x.L.set (x.L.findIdx Pg.free) one, x.I⟩, x.L.findIdx Pg.free, 0, false, 0⟩ else
  match x.I with
  | [] => ⟨x, 0, 0, false, 10⟩
  | i :: _ => ⟨⟨x.L.set i one, less x.I i⟩, i, (pg x.L i).k, true, 0⟩
theorem idxN_pos {α : Type} {f : α → Bool} {L : List α} (h : L.findIdx f < L.length) : idxN f L = (L.findIdx f : Int) := by unfold idxN; rw [if_pos h]
theorem idxN_neg {α : Type} {f : α → Bool} {L : List α} (h : ¬ L.findIdx f < L.length) : idxN f L = -1 := by unfold idxN; rw [if_neg h]
theorem free_not_idle {p : Pg} (h : p.free = true) : p.idle = false := by
  obtain ⟨r, s, k⟩ := p
  unfold Pg.free Pg.idle at *
  cases s <;> simp at *
theorem take_step (b : Nat) (x : St) (w : World) (h : In w b x) :
   Calls Try.prog 12 #[.pointer (some ⟨b + 1, 0, none⟩)] w fun e w' => e = .returned (.tuple #[.int .i64 ((takeR x).i : Int), .int .i64 (takeR x).k, .bool (takeR x).did, .int .i64 (takeR x).e]) ∧ In w' b (takeR x).x ∧ Turns b w w' := by
  obtain ⟨L, I⟩ := x
  unfold takeR
  by_cases hf : L.findIdx Pg.free < L.length
  · simp only [hf, if_true]
    have e1 := idxN_pos hf
    have hfr : (pg L (L.findIdx Pg.free)).free = true := by rw [← pg_get hf]; exact List.findIdx_getElem
    refine (take_free b _ L I w h.at' h.few hf e1).mono fun e w' ⟨he, hp, ht⟩ => ⟨he, ⟨hp, h.wf.keep hf (by rw [free_not_idle hfr]; rfl) (by decide), by rw [List.length_set]; exact h.few⟩, ht⟩
  · simp only [hf, if_false]
    have e1 := idxN_neg hf
    cases I with
    | nil => exact (take_full b L w h.at' h.few e1).mono fun e w' ⟨he, hb⟩ => ⟨he, h.below hb, Turns.of_below hb h.lt⟩
    | cons i R =>
      have hi := ((h.wf.mem i).1 (by simp)).1
      exact (take_idle b i L R w h.at' h.few h.few2 hi e1).mono fun e w' ⟨he, hp, ht⟩ => ⟨he, ⟨hp, h.wf.less hi rfl (by decide), by rw [List.length_set]; exact h.few⟩, ht⟩
structure Res where
  x : St
  e : Int
def holdR (x : St) (i : Int) : Res := if (atN x.L i).free then ⟨x, 8⟩ else if 1000 ≤ (atN x.L i).r then ⟨x, 2⟩ else ⟨⟨x.L.set i.toNat { atN x.L i with r := (atN x.L i).r + 1 }, less x.I i.toNat⟩, 0⟩
theorem default_free : (default : Pg).free = true := rfl
theorem atN_in {L : List Pg} {i : Int} (h : (atN L i).free = false) : ∃ j : Nat, i = j ∧ j < L.length ∧ atN L i = pg L j := by
  rcases atN_or L i with e | e
  · rw [e] at h; cases h
  · exact e
theorem hold_step (b : Nat) (i : Int) (x : St) (w : World) (h : In w b x) (hi : -9223372036854775808 ≤ i ∧ i ≤ 9223372036854775807) :
   Calls Try.prog 13 #[.pointer (some ⟨b + 1, 0, none⟩), .int .i64 i] w fun e w' => e = .returned (.int .i64 (holdR x i).e) ∧ In w' b (holdR x i).x ∧ Turns b w w' := by
  unfold holdR
  cases hf : (atN x.L i).free with
  | true => exact (hold_none b i x.L x.I w h.at' hi hf).mono fun e w' ⟨he, hb⟩ => ⟨he, h.below hb, Turns.of_below hb h.lt⟩
  | false =>
    by_cases hr : 1000 ≤ (atN x.L i).r
    · simp only [hr, if_true, Bool.false_eq_true, if_false]
      exact (hold_big b i x.L x.I w h.at' hi hr).mono fun e w' ⟨he, hb⟩ => ⟨he, h.below hb, Turns.of_below hb h.lt⟩
    · simp only [hr, if_false, Bool.false_eq_true]
      obtain ⟨j, rfl, hj, e⟩ := atN_in hf
      rw [e] at hf hr ⊢
      rw [Int.toNat_natCast]
      exact (hold_ok b j x.L x.I w h.at' h.few2 h.few hj hf (by omega)).mono fun e w' ⟨he, hp, ht⟩ => ⟨he, ⟨hp, h.wf.less hj (by unfold Pg.idle; simp) (by show _ + 1 ≤ 1000; omega), by rw [List.length_set]; exact h.few⟩, ht⟩
def sealR (x : St) (i key : Int) : Res := if (atN x.L i).free then ⟨x, 8⟩ else if x.L.findIdx (Pg.hit key) < x.L.length ∨ (atN x.L i).s = true then ⟨x, 9⟩ else ⟨⟨x.L.set i.toNat ⟨(atN x.L i).r, true, key⟩, x.I⟩, 0⟩
theorem seal_step (b : Nat) (i key : Int) (x : St) (w : World) (h : In w b x) (hi : -9223372036854775808 ≤ i ∧ i ≤ 9223372036854775807) :
   Calls Try.prog 14 #[.pointer (some ⟨b + 1, 0, none⟩), .int .i64 i, .int .i64 key] w fun e w' => e = .returned (.int .i64 (sealR x i key).e) ∧ In w' b (sealR x i key).x ∧ Turns b w w' := by
  unfold sealR
  cases hf : (atN x.L i).free with
  | true => exact (seal_none b i key x.L x.I w h.at' hi hf).mono fun e w' ⟨he, hb⟩ => ⟨he, h.below hb, Turns.of_below hb h.lt⟩
  | false =>
    by_cases hr : x.L.findIdx (Pg.hit key) < x.L.length ∨ (atN x.L i).s = true
    · simp only [hr, if_true, Bool.false_eq_true, if_false]
      exact (seal_there b i key x.L x.I w h.at' h.few hi hf (hr.imp_left fun h => by rw [idxN_pos h]; omega)).mono fun e w' ⟨he, hb⟩ => ⟨he, h.below hb, Turns.of_below hb h.lt⟩
    · simp only [hr, if_false, Bool.false_eq_true]
      obtain ⟨j, rfl, hj, e⟩ := atN_in hf
      rw [e] at hf hr ⊢
      rw [Int.toNat_natCast]
      have hs : (pg x.L j).s = false := by
        cases hq : (pg x.L j).s with
        | false => rfl
        | true => exact absurd (Or.inr hq) hr
      have hr0 : (pg x.L j).r ≠ 0 := fun e => by unfold Pg.free at hf; rw [e, hs] at hf; cases hf
      have hid : (pg x.L j).idle = false := by unfold Pg.idle; rw [hs]; simp
      exact (seal_ok b j key x.L x.I w h.at' h.few hj hf hs (idxN_neg fun h => hr (Or.inl h))).mono fun e w' ⟨he, hp, ht⟩ => ⟨he, ⟨hp, h.wf.keep hj (by rw [hid]; unfold Pg.idle; simp [hr0]) (h.wf.refs j), by rw [List.length_set]; exact h.few⟩, ht⟩
def dropR (x : St) (i : Int) : Res := if (atN x.L i).r = 0 then ⟨x, 8⟩ else ⟨⟨x.L.set i.toNat { atN x.L i with r := (atN x.L i).r - 1 }, if ({ atN x.L i with r := (atN x.L i).r - 1 } : Pg).idle then x.I ++ [i.toNat] else x.I⟩, 0⟩
theorem drop_step (b : Nat) (i : Int) (x : St) (w : World) (h : In w b x) (hi : -9223372036854775808 ≤ i ∧ i ≤ 9223372036854775807) :
   Calls Try.prog 15 #[.pointer (some ⟨b + 1, 0, none⟩), .int .i64 i] w fun e w' => e = .returned (.int .i64 (dropR x i).e) ∧ In w' b (dropR x i).x ∧ Turns b w w' := by
  unfold dropR
  by_cases hr : (atN x.L i).r = 0
  · simp only [hr, if_true]
    exact (drop_none b i x.L x.I w h.at' hi hr).mono fun e w' ⟨he, hb⟩ => ⟨he, h.below hb, Turns.of_below hb h.lt⟩
  · simp only [hr, if_false]
    have hnf : (atN x.L i).free = false := by unfold Pg.free; simp [hr]
    obtain ⟨j, rfl, hj, e⟩ := atN_in hnf
    rw [e] at hr ⊢
    rw [Int.toNat_natCast]
    have hid : (pg x.L j).idle = false := by unfold Pg.idle; simp [hr]
    have h1000 := h.wf.refs j
    cases hd : ({ pg x.L j with r := (pg x.L j).r - 1 } : Pg).idle with
    | false =>
      simp only [Bool.false_eq_true, if_false]
      exact (drop_stay b j x.L x.I w h.at' h.few hj (by omega) h1000 hd).mono fun e w' ⟨he, hp, ht⟩ => ⟨he, ⟨hp, h.wf.keep hj (by rw [hid]; exact hd) (by show _ - 1 ≤ 1000; omega), by rw [List.length_set]; exact h.few⟩, ht⟩
    | true =>
      simp only [if_true]
      have h1 : (pg x.L j).r = 1 := by unfold Pg.idle at hd; simp at hd; omega
      have h2 : (pg x.L j).s = true := by unfold Pg.idle at hd; simp at hd; exact hd.2
      have e0 : (pg x.L j).r - 1 = 0 := by omega
      rw [e0] at hd ⊢
      exact (drop_idle b j x.L x.I w h.at' h.few h.few2 hj h1 h2).mono fun e w' ⟨he, hp, ht⟩ => ⟨he, ⟨hp, h.wf.add hj hid hd (Nat.zero_le _), by rw [List.length_set]; exact h.few⟩, ht⟩
def forgetR (x : St) (i : Int) : Res := if (atN x.L i).idle then ⟨⟨x.L.set i.toNat default, less x.I i.toNat⟩, 0⟩ else ⟨x, 8⟩
theorem forget_step (b : Nat) (i : Int) (x : St) (w : World) (h : In w b x) (hi : -9223372036854775808 ≤ i ∧ i ≤ 9223372036854775807) :
   Calls Try.prog 16 #[.pointer (some ⟨b + 1, 0, none⟩), .int .i64 i] w fun e w' => e = .returned (.int .i64 (forgetR x i).e) ∧ In w' b (forgetR x i).x ∧ Turns b w w' := by
  unfold forgetR
  cases hr : (atN x.L i).idle with
  | false =>
    simp only [Bool.false_eq_true, if_false]
    exact (forget_none b i x.L x.I w h.at' hi hr).mono fun e w' ⟨he, hb⟩ => ⟨he, h.below hb, Turns.of_below hb h.lt⟩
  | true =>
    simp only [if_true]
    rcases atN_or x.L i with e | ⟨j, rfl, hj, e⟩
    · rw [e] at hr; cases hr
    rw [e] at hr
    rw [Int.toNat_natCast]
    exact (forget_ok b j x.L x.I w h.at' h.few2 h.few hj hr).mono fun e w' ⟨he, hp, ht⟩ => ⟨he, ⟨hp, h.wf.less hj rfl (Nat.zero_le _), by rw [List.length_set]; exact h.few⟩, ht⟩
end Go.Proofs.Ytfkmmjfahdpfcaa
