/- A new pool; a page of it; a number's place in the row of idle ones. -/
import Derived.Test.YtfkmmjfahdpfcaaPFun
import Derived.Laws.ResultCell
namespace Go.Proofs.Ytfkmmjfahdpfcaa
open Go.ChangeShapes Go.WideShapes Go.ChangeAt Go.RowKit
/-- The page at any number: a free one where there is none. -/
def atN (L : List Pg) (i : Int) : Pg := if 0 ≤ i then pg L i.toNat else default
theorem atN_nat (L : List Pg) (i : Nat) : atN L (i : Int) = pg L i := by unfold atN; rw [if_pos (by omega)]; simp
theorem atN_out (L : List Pg) (i : Int) (h : i < 0 ∨ (L.length : Int) ≤ i) : atN L i = default := by
  unfold atN
  by_cases h0 : 0 ≤ i
  · rw [if_pos h0]
    unfold pg
    rw [List.getD_eq_getElem?_getD, List.getElem?_eq_none (by omega)]
    rfl
  · rw [if_neg h0]
/-- A number's first place in a row; none: -1. -/
def idxI (A : List Nat) (i : Nat) : Int := if A.idxOf i < A.length then (A.idxOf i : Int) else -1
theorem getD_get {A : List Nat} {j : Nat} (h : j < A.length) : A[j] = A.getD j 0 := by simp [List.getD_eq_getElem?_getD, List.getElem?_eq_getElem h]
theorem idxI_hit {A : List Nat} {i k : Nat} (hk : k < A.length) (h : A.getD k 0 = i) (hb : ∀ j, j < k → A.getD j 0 ≠ i) : idxI A i = k := by
  have e : A.idxOf i = k := by
    rw [List.idxOf, List.findIdx_eq hk]
    refine ⟨?_, fun j hj => ?_⟩
    · rw [getD_get hk, h]; simp
    · rw [getD_get (by omega)]; simpa using hb j hj
  unfold idxI
  rw [e, if_pos hk]
theorem idxI_miss {A : List Nat} {i : Nat} (hb : ∀ j, j < A.length → A.getD j 0 ≠ i) : idxI A i = -1 := by
  unfold idxI
  rw [if_neg]
  rw [List.idxOf_lt_length_iff]
  intro hm
  obtain ⟨j, hj, e⟩ := List.getElem_of_mem hm
  refine hb j hj ?_
  rw [← e, getD_get hj]
theorem iidx_any (c i b cap : Nat) (cs : Array Value) (A : List Nat) (w : World) (hB : Blk w b 3 cs) (hl : A.length ≤ 64) (hcs : ∀ t, t < A.length → cs[t]? = some (.int .i64 ((A.getD t 0 : Nat) : Int))) (hc : w.cell? ⟨c, 0, none⟩ = some (.int .i64 (i : Int))) :
   Calls Try.prog 40 #[.slice (some ⟨b, 0, none⟩) A.length cap, .func (.func 39) #[] #[.pointer (some ⟨c, 0, none⟩)]] w fun e w' => e = .returned (.int .i64 (idxI A i)) ∧ w' = w := by
  have HC : Hid _ := hcs
  clear hcs
  generalize hn : A.length = n at *
  go_enter Try.func40, Try.ntmps40
  go_wp2
  go_loopg [5, 8] n (fun gg _ s8 wr => ∃ k : Nat, k ≤ n ∧ gg = n - k ∧ s8 = .int .i64 k ∧ wr = w ∧ Hid (∀ j, j < k → A.getD j 0 ≠ i))
  case atStart => exact ⟨0, by omega, by omega, rfl, rfl, fun j hj => by omega⟩
  case round =>
    obtain ⟨k, hk, rfl, rfl, rfl, H⟩ := hrel
    by_cases hlt : k < n
    · have c0 := hB.cell _ (HC.out k hlt)
      have hcall := leaveHit_any (A.getD k 0) i c wr hc
      clear hB
      generalize hz : A.getD k 0 = z at c0 hcall
      by_cases hq : z = i
      · rw [decide_eq_true hq] at hcall
        have HQ : Hid (z = i) := hq
        clear hq
        go_wp2_with (go_at_call 39; refine hcall.mono ?_; rintro e w' ⟨rfl, rfl⟩)
        go_ret
        exact ⟨by rw [idxI_hit (by omega) (hz.trans HQ.out) H.out]; rfl, rfl⟩
      · rw [decide_eq_false hq] at hcall
        have HQ : Hid (¬ z = i) := hq
        clear hq
        go_wp2_with (go_at_call 39; refine hcall.mono ?_; rintro e w' ⟨rfl, rfl⟩)
        go_roundg (n - (k + 1))
        case measure => omega
        case rel =>
          refine ⟨k + 1, by omega, rfl, by go_num, rfl, fun j hj => ?_⟩
          by_cases e : j = k
          · rw [e, hz]; exact HQ.out
          · exact H.out j (by omega)
    · obtain rfl : k = n := by omega
      go_wp2
      go_ret
      exact ⟨by rw [idxI_miss (by rw [hn]; exact H.out)]; rfl, rfl⟩
end Go.Proofs.Ytfkmmjfahdpfcaa
