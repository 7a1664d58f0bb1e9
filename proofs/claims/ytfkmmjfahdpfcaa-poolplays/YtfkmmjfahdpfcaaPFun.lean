/- The pool's small functions: pages that are free or idle, found by their keys. -/
import Derived.Test.YtfkmmjfahdpfcaaPBase
import Derived.Shelf.Abstract
namespace Go.Proofs.Ytfkmmjfahdpfcaa
open Go.ChangeShapes Go.WideShapes Go.ChangeAt Go.RowKit
/-- A page as a value. -/
def Pg.val (p : Pg) : Value := .agg #[.int .i64 (p.r : Int), .bool p.s, .int .i64 p.k]
def Pg.free (p : Pg) : Bool := decide (p.r = 0) && !p.s
def Pg.idle (p : Pg) : Bool := decide (p.r = 0) && p.s
def Pg.hit (key : Int) (p : Pg) : Bool := p.s && decide (p.k = key)
theorem isFree_any (p : Pg) (w : World) : Calls Try.prog 29 #[p.val] w fun e w' => e = .returned (.bool p.free) ∧ Below w.heap.size w w' := by
  obtain ⟨r, s, k⟩ := p
  unfold Pg.val Pg.free
  by_cases h : r = 0 <;> cases s <;>
  · have h' := h
    go_enter Try.func29, Try.ntmps29
    go_wp2
    go_ret
    exact ⟨by simp [h'], (Below.refl _ _).alloc (Nat.le_refl _) _⟩
theorem isIdle_any (p : Pg) (w : World) : Calls Try.prog 32 #[p.val] w fun e w' => e = .returned (.bool p.idle) ∧ Below w.heap.size w w' := by
  obtain ⟨r, s, k⟩ := p
  unfold Pg.val Pg.idle
  by_cases h : r = 0 <;> cases s <;>
  · have h' := h
    go_enter Try.func32, Try.ntmps32
    go_wp2
    go_ret
    exact ⟨by simp [h'], (Below.refl _ _).alloc (Nat.le_refl _) _⟩
theorem findHit_any (p : Pg) (key : Int) (c : Nat) (w : World) (hc : w.cell? ⟨c, 0, none⟩ = some (.int .i64 key)) : Calls Try.prog 33 #[p.val, .pointer (some ⟨c, 0, none⟩)] w fun e w' => e = .returned (.bool (p.hit key)) ∧ Below w.heap.size w w' := by
  obtain ⟨r, s, k⟩ := p
  have hl := World.block_lt_of_cell? w _ hc
  have hc2 := World.cell?_alloc_past (w := w) (.cells #[.int .i64 (r : Int), .bool s, .int .i64 k] 64) c 0 hl
  rw [hc] at hc2
  unfold Pg.val Pg.hit
  by_cases h : k = key <;> cases s <;>
  · have h' := h
    go_enter Try.func33, Try.ntmps33
    go_wp2
    go_ret
    exact ⟨by simp [h'], (Below.refl _ _).alloc (Nat.le_refl _) _⟩
theorem leaveHit_any (x i : Nat) (c : Nat) (w : World) (hc : w.cell? ⟨c, 0, none⟩ = some (.int .i64 (i : Int))) : Calls Try.prog 39 #[.int .i64 (x : Int), .pointer (some ⟨c, 0, none⟩)] w fun e w' => e = .returned (.bool (decide (x = i))) ∧ w' = w := by
  by_cases h : x = i <;>
  · have h' := h
    go_enter Try.func39, Try.ntmps39
    go_wp2
    go_ret
    exact ⟨by first | (simp [h']; done) | (simp [h']; omega), rfl⟩
/-- The first place at which p holds; none: -1. -/
def idxN {α : Type} (p : α → Bool) (L : List α) : Int := if L.findIdx p < L.length then (L.findIdx p : Int) else -1
theorem idxN_hit (p : Pg → Bool) (L : List Pg) (k : Nat) (hk : k < L.length) (h : p (pg L k) = true) (hb : ∀ j, j < k → p (pg L j) = false) : idxN p L = k := by
  have e : L.findIdx p = k := by
    rw [List.findIdx_eq hk]
    exact ⟨by rw [pg_get hk]; exact h, fun j hj => by rw [pg_get (by omega)]; exact hb j hj⟩
  unfold idxN
  rw [e, if_pos hk]
theorem idxN_miss (p : Pg → Bool) (L : List Pg) (hb : ∀ j, j < L.length → p (pg L j) = false) : idxN p L = -1 := by
  unfold idxN
  rw [if_neg]
  rw [List.findIdx_lt_length]
  rintro ⟨x, hx, h⟩
  obtain ⟨j, hj, rfl⟩ := List.getElem_of_mem hx
  rw [pg_get hj, hb j hj] at h
  cases h
set_option maxHeartbeats 1000000 in
theorem pidx_any (fn : Nat) (lb : Array Value) (p : Pg → Bool) (b : Nat) (L : List Pg) (w : World) (hP : Pgs w b L) (hl : L.length ≤ 64)
   (eg : ∀ args w, (callFunc fn args).run Try.prog w = .ok (.enter fn args) w)
   (hf : ∀ (W : World) (x : Pg), Below w.heap.size w W → Calls Try.prog fn (#[x.val] ++ lb) W fun e w' => e = .returned (.bool (p x)) ∧ Below W.heap.size W w') :
   Calls Try.prog 28 #[.slice (some ⟨b, 0, none⟩) L.length L.length, .func (.func fn) #[] lb] w fun e w' => e = .returned (.int .i64 (idxN p L)) ∧ Below w.heap.size w w' := by
  have HF : Hid _ := hf
  clear hf
  generalize hn : L.length = n at *
  go_enter Try.func28, Try.ntmps28
  go_wp2
  go_loopg [5, 8] n (fun gg _ s8 wr => ∃ k : Nat, k ≤ n ∧ gg = n - k ∧ s8 = .int .i64 k ∧ Below w.heap.size w wr ∧ Hid (∀ j, j < k → p (pg L j) = false))
  case atStart => exact ⟨0, by omega, by omega, rfl, Below.refl _ _, fun j hj => by omega⟩
  case round =>
    obtain ⟨k, hk, rfl, rfl, BW, A⟩ := hrel
    have P1 := hP.below BW hP.lt
    by_cases hlt : k < n
    · have c0 := P1.c0 (i := k) (by omega)
      have c1 := P1.c1 (i := k) (by omega)
      have c2 := P1.c2 (i := k) (by omega)
      have hcall := HF.out wr (pg L k) BW
      clear P1 hP
      generalize hz : pg L k = z at *
      obtain ⟨zr, zs, zk⟩ := z
      unfold Pg.val at hcall
      simp only at c0 c1 c2 hcall
      cases hq : p ⟨zr, zs, zk⟩ with
      | true =>
        rw [hq] at hcall
        go_wp2_with (go_at_fn fn; refine hcall.mono ?_; rintro e w' ⟨rfl, hb'⟩)
        go_ret
        exact ⟨by rw [idxN_hit p L k (by omega) (by rw [hz]; exact hq) A.out]; rfl, below_then BW hb'⟩
      | false =>
        rw [hq] at hcall
        go_wp2_with (go_at_fn fn; refine hcall.mono ?_; rintro e w' ⟨rfl, hb'⟩)
        go_roundg (n - (k + 1))
        case measure => omega
        case rel =>
          refine ⟨k + 1, by omega, rfl, by go_num, below_then BW hb', fun j hj => ?_⟩
          by_cases e : j = k
          · rw [e, hz]; exact hq
          · exact A.out j (by omega)
    · obtain rfl : k = n := by omega
      go_wp2
      go_ret
      exact ⟨by rw [idxN_miss p L (by rw [hn]; exact A.out)]; rfl, BW⟩
end Go.Proofs.Ytfkmmjfahdpfcaa
