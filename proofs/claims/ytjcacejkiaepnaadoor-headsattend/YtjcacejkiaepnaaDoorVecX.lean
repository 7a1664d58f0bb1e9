/- More of what the laws of layer 3 call: dot products of any two rows; small numbers; the document's greatest place; rows that are overwritten. -/
import Derived.Test.YtjcacejkiaepnaaDoorVecL
import Derived.Test.YtjcacejkiaepnaaDoorVNum
namespace Go.Proofs.YtjcacejkiaepnaaDoor
open Go.ChangeShapes Go.WideShapes Go.ChangeAt Go.RowKit
theorem dot_all (ao bo : Option Addr) (n m ca cb : Nat) (A B : List Int) (w : World) (hA : RowAt w ao n A) (hB : RowAt w bo m B) :
   Calls Tryd.prog 25 #[.slice ao n ca, .slice bo m cb] w fun e w' => e = .returned (.tuple #[.int .i32 (dotV A B n m), .int .i64 (fitN n m)]) ∧ ∃ m, w' = w.drewN m := by
  by_cases hf : fitN n m = 0
  · obtain ⟨rfl, h4⟩ := fit_zero hf
    have e : dotV A B n n = dotN A B n := by unfold dotV; rw [if_pos hf]
    rw [e, hf]
    exact dot_any ao bo n ca cb A B w hA hB h4
  · have e : dotV A B n m = 0 := by unfold dotV; rw [if_neg hf]
    rw [e]
    exact (dot_bad ao bo n m ca cb w hA.max hB.max hf).mono fun e w' ⟨h1, h2⟩ => ⟨h1, 0, h2⟩
/-- Of what was there, only blocks among gs may have turned. -/
structure Kept (gs : List Nat) (w w' : World) : Prop where
  os : w'.os = w.os
  tape : w'.tape = w.tape
  output : w'.output = w.output
  size : w.heap.size ≤ w'.heap.size
  block : ∀ k, k < w.heap.size → k ∉ gs → w'.heap[k]? = w.heap[k]?
theorem Kept.refl (gs : List Nat) (w : World) : Kept gs w w := ⟨rfl, rfl, rfl, Nat.le_refl _, fun _ _ _ => rfl⟩
theorem Kept.set {gs : List Nat} {w w' : World} (h : Kept gs w w') {a : Addr} (ha : a.block ∈ gs) (v : Value) : Kept gs w (w'.setCell a v) :=
  ⟨h.os, h.tape, h.output, by simpa [World.setCell] using h.size, fun k hk hn => by
    have hne : k ≠ a.block := fun e => hn (by rw [e]; exact ha)
    rw [Below.heap_setCell _ _ _ _ hne]; exact h.block k hk hn⟩
theorem Kept.below {gs : List Nat} {w w' : World} (h : Kept gs w w') {B : Nat} (hB : B ≤ w.heap.size) (hg : ∀ g ∈ gs, B ≤ g) : Below B w w' :=
  ⟨h.os, h.tape, h.output, h.size, fun k hk => h.block k (by omega) (fun hm => by have := hg k hm; omega)⟩
theorem Fresh.kept {w w' : World} {B g n cap : Nat} {A : List Int} {gs : List Nat} (h : Fresh w B g n cap A) (hk : Kept gs w w') (hg : g ∉ gs) : Fresh w' B g n cap A := h.of_block (hk.block g h.lt hg)
set_option maxHeartbeats 800000 in
theorem refArgmax_any (ao : Option Addr) (n ca : Nat) (A : List Int) (w : World) (hA : RowAt w ao n A) :
   Calls Tryd.prog 35 #[.slice ao n ca] w fun e w' => e = .returned (.int .i64 (amax A n)) ∧ ∃ m, w' = w.drewN m := by
  have hn := hA.max
  go_enter Tryd.func35, Tryd.ntmps35
  go_wp2
  go_loopg [3, 7] n (fun r s i wr => ∃ k : Nat, k ≤ n ∧ r = n - k ∧ i = .int .i64 k ∧ s = .int .i64 (amax A k) ∧ ∃ m, wr = w.drewN m)
  case atStart => exact ⟨0, by omega, by omega, rfl, rfl, 0, rfl⟩
  case round =>
    obtain ⟨k, hk, rfl, rfl, rfl, m0, hw0⟩ := hrel
    replace hA : RowAt wr ao n A := hw0 ▸ hA.drewN m0
    have HW : Hid (wr = w.drewN m0) := hw0
    clear hw0
    by_cases hlt : k < n
    · obtain ⟨b, o, rfl, hc⟩ := hA.cells (by omega)
      have c1 := hc k hlt
      have b1 := amax_bd A k
      by_cases hneg : amax A k < 0
      · have HS : Hid (amax A (k + 1) = k) := by show _ = _; unfold amax; rw [if_pos (Or.inl hneg)]
        clear hA hc
        go_wp2_with fail
        go_quiet (fail)
        go_wp2
        go_roundg (n - (k + 1))
        case measure => omega
        case rel => exact ⟨k + 1, by omega, rfl, by go_num, by rw [HS.out], m0 + nq, by rw [HW.out, World.drewN_drewN]⟩
      · have c2 := hc (amax A k).toNat (by omega)
        have hnn : 0 ≤ amax A k := by omega
        by_cases hgt : el A (amax A k).toNat < el A k
        · have HS : Hid (amax A (k + 1) = k) := by show _ = _; unfold amax; rw [if_pos (Or.inr hgt)]
          clear hA hc
          obtain ⟨q, hq, hqt⟩ : ∃ q : Nat, amax A k = q ∧ (amax A k).toNat = q := ⟨(amax A k).toNat, by omega, rfl⟩
          have hqn : q < n := by omega
          have hq0 : decide ((q : Int) < 0) = false := by simp
          rw [hqt] at c2 hgt
          rw [hq]
          clear hneg hnn hq hqt b1
          go_wp2_with fail
          go_quiet (fail)
          go_wp2
          go_roundg (n - (k + 1))
          case measure => omega
          case rel => exact ⟨k + 1, by omega, rfl, by go_num, by rw [HS.out], m0 + nq, by rw [HW.out, World.drewN_drewN]⟩
        · have HS : Hid (amax A (k + 1) = amax A k) := by
            show _ = _
            conv => lhs; unfold amax
            rw [if_neg (by omega)]
          have hle : el A k ≤ el A (amax A k).toNat := by omega
          clear hgt
          clear hA hc
          obtain ⟨q, hq, hqt⟩ : ∃ q : Nat, amax A k = q ∧ (amax A k).toNat = q := ⟨(amax A k).toNat, by omega, rfl⟩
          have hqn : q < n := by omega
          have hq0 : decide ((q : Int) < 0) = false := by simp
          rw [hqt] at c2 hle
          rw [hq] at HS ⊢
          clear hneg hnn hq hqt b1
          go_wp2_with fail
          go_quiet (fail)
          go_wp2
          go_roundg (n - (k + 1))
          case measure => omega
          case rel => exact ⟨k + 1, by omega, rfl, by go_num, by rw [HS.out], m0 + nq, by rw [HW.out, World.drewN_drewN]⟩
    · obtain rfl : k = n := by omega
      go_wp2
      go_ret
      exact ⟨rfl, m0, HW.out⟩
end Go.Proofs.YtjcacejkiaepnaaDoor
