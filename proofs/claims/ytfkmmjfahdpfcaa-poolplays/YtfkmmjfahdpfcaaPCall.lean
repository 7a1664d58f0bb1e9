/- The pool's calls: Find, Open, Refs, Take. -/
import Derived.Test.YtfkmmjfahdpfcaaPPool
namespace Go.Proofs.Ytfkmmjfahdpfcaa
open Go.ChangeShapes Go.WideShapes Go.ChangeAt Go.RowKit
theorem results_tmp4 {fn : Func} {t u v x : Tmp} (h : fn.results = #[.tmp t, .tmp u, .tmp v, .tmp x]) (tmps : Array Value) (P : Program) (w : World) :
    (results fn tmps).run P w = .ok (.tuple #[tmps.getD t undef, tmps.getD u undef, tmps.getD v undef, tmps.getD x undef]) w := by
  simp [results, h]
theorem PoolAt.set0 {w : World} {b : Nat} {L : List Pg} {I : List Nat} (h : PoolAt w b L I) {i : Nat} (hi : i < L.length) (r : Nat) : PoolAt (w.setCell ⟨b, i * 3, none⟩ (.int .i64 (r : Int))) b (L.set i { pg L i with r := r }) I := by
  obtain ⟨vi, h1, h2⟩ := h.box
  refine ⟨h.pages.set0 hi r, vi, ?_, h2.other (by show b < b + 2; omega) _⟩
  rw [List.length_set]
  exact h1.other (by show b + 1 ≠ b; omega) _
theorem PoolAt.set1 {w : World} {b : Nat} {L : List Pg} {I : List Nat} (h : PoolAt w b L I) {i : Nat} (hi : i < L.length) (r : Bool) : PoolAt (w.setCell ⟨b, i * 3 + 1, none⟩ (.bool r)) b (L.set i { pg L i with s := r }) I := by
  obtain ⟨vi, h1, h2⟩ := h.box
  refine ⟨h.pages.set1 hi r, vi, ?_, h2.other (by show b < b + 2; omega) _⟩
  rw [List.length_set]
  exact h1.other (by show b + 1 ≠ b; omega) _
theorem PoolAt.set2 {w : World} {b : Nat} {L : List Pg} {I : List Nat} (h : PoolAt w b L I) {i : Nat} (hi : i < L.length) (r : Int) : PoolAt (w.setCell ⟨b, i * 3 + 2, none⟩ (.int .i64 r)) b (L.set i { pg L i with k := r }) I := by
  obtain ⟨vi, h1, h2⟩ := h.box
  refine ⟨h.pages.set2 hi r, vi, ?_, h2.other (by show b < b + 2; omega) _⟩
  rw [List.length_set]
  exact h1.other (by show b + 1 ≠ b; omega) _
theorem PoolAt.put {w : World} {b : Nat} {L : List Pg} {I : List Nat} (h : PoolAt w b L I) {i : Nat} (hi : i < L.length) (p : Pg) :
    PoolAt (((w.setCell ⟨b, i * 3, none⟩ (.int .i64 (p.r : Int))).setCell ⟨b, i * 3 + 1, none⟩ (.bool p.s)).setCell ⟨b, i * 3 + 2, none⟩ (.int .i64 p.k)) b (L.set i p) I := by
  obtain ⟨vi, h1, h2⟩ := h.box
  have k : b < b + 2 := by omega
  have k' : b + 1 ≠ b := by omega
  refine ⟨h.pages.put hi p, vi, ?_, ((h2.other k _).other k _).other k _⟩
  rw [List.length_set]
  exact ((h1.other k' _).other k' _).other k' _
theorem below_put {B b i : Nat} {w w' : World} (h : Below B w w') (hB : B ≤ b) (v0 v1 v2 : Value) : Below B w (((w'.setCell ⟨b, i * 3, none⟩ v0).setCell ⟨b, i * 3 + 1, none⟩ v1).setCell ⟨b, i * 3 + 2, none⟩ v2) := ((h.setCell hB _).setCell hB _).setCell hB _
theorem Try.fieldRefs (r : Nat) (s : Bool) (k : Int) (w : World) : (Instr.field 64 (.agg #[.int .i64 (r : Int), .bool s, .int .i64 k]) 0).run Try.prog w = .ok (.int .i64 (r : Int)) w := by
  simp [Instr.field, asAgg, go_sem]
theorem refs_any (b : Nat) (i : Int) (L : List Pg) (I : List Nat) (w : World) (h : PoolAt w b L I) (hi : -9223372036854775808 ≤ i ∧ i ≤ 9223372036854775807) :
   Calls Try.prog 20 #[.pointer (some ⟨b + 1, 0, none⟩), .int .i64 i] w fun e w' => e = .returned (.int .i64 ((atN L i).r : Int)) ∧ Below w.heap.size w w' := by
  have C := at_any b i L I w h hi
  generalize atN L i = p at *
  obtain ⟨r, s, k⟩ := p
  unfold Pg.val at C
  have hfd := Try.fieldRefs r s k
  clear h
  go_enter Try.func20, Try.ntmps20
  go_wp2_with (go_at_call 31; refine C.mono ?_; rintro e w2 ⟨rfl, B2⟩)
  go_ret
  exact ⟨rfl, B2⟩
def Pg.open (p : Pg) : Bool := decide (0 < p.r) && !p.s
theorem open_any (b : Nat) (i : Int) (L : List Pg) (I : List Nat) (w : World) (h : PoolAt w b L I) (hi : -9223372036854775808 ≤ i ∧ i ≤ 9223372036854775807) :
   Calls Try.prog 19 #[.pointer (some ⟨b + 1, 0, none⟩), .int .i64 i] w fun e w' => e = .returned (.bool (atN L i).open) ∧ Below w.heap.size w w' := by
  have C := at_any b i L I w h hi
  generalize atN L i = p at *
  obtain ⟨r, s, k⟩ := p
  unfold Pg.val at C
  unfold Pg.open
  clear h
  by_cases hr : 0 < r <;> cases s <;>
  · have hr' := hr
    go_enter Try.func19, Try.ntmps19
    go_wp2_with (go_at_call 31; refine C.mono ?_; rintro e w2 ⟨rfl, B2⟩)
    go_ret
    exact ⟨by simp [hr'], below_then B2 ((Below.refl _ _).alloc (Nat.le_refl _) _)⟩
theorem idxN_cases (p : Pg → Bool) (L : List Pg) : (idxN p L = -1 ∧ ∀ j, j < L.length → p (pg L j) = false) ∨ ∃ k, k < L.length ∧ idxN p L = k ∧ p (pg L k) = true ∧ ∀ j, j < k → p (pg L j) = false := by
  unfold idxN
  by_cases h : L.findIdx p < L.length
  · refine Or.inr ⟨_, h, if_pos h, ?_, fun j hj => ?_⟩
    · rw [← pg_get h]; exact List.findIdx_getElem
    · rw [← pg_get (by omega)]
      have := List.not_of_lt_findIdx hj
      simpa using this
  · refine Or.inl ⟨if_neg h, fun j hj => ?_⟩
    cases hp : p (pg L j) with
    | false => rfl
    | true =>
      exact absurd (List.findIdx_lt_length_of_exists ⟨L[j], List.getElem_mem _, by rw [pg_get hj]; exact hp⟩) h
set_option maxHeartbeats 800000 in
theorem find_any (b : Nat) (key : Int) (L : List Pg) (I : List Nat) (w : World) (h : PoolAt w b L I) (hl : L.length ≤ 64) :
   Calls Try.prog 18 #[.pointer (some ⟨b + 1, 0, none⟩), .int .i64 key] w fun e w' => e = .returned (.tuple #[.int .i64 (max (idxN (Pg.hit key) L) 0), .bool (decide (0 ≤ idxN (Pg.hit key) L))]) ∧ Below w.heap.size w w' := by
  have X0 := blk_new w 3 #[.int .i64 key]
  have B0 : Below w.heap.size w (w.alloc (.cells #[.int .i64 key] 3)) := (Below.refl _ _).alloc (Nat.le_refl _) _
  have h' := h.below B0
  have c0 := h'.box0
  have C := pidx_any 33 #[.pointer (some ⟨w.heap.size, 0, none⟩)] (Pg.hit key) b L _ h'.pages hl (enters_of Try.func33 (by kernel_rfl) rfl) (fun W x hb => findHit_any x key w.heap.size W (by rw [hb.cell (by exact X0.lt)]; exact X0.cell 0 rfl))
  generalize hw0 : w.alloc (.cells #[.int .i64 key] 3) = w0 at *
  clear X0 h h'
  rcases idxN_cases (Pg.hit key) L with ⟨e1, _⟩ | ⟨k, hk, e1, _⟩
  · rw [e1] at C
    have E1 : Hid (idxN (Pg.hit key) L = -1) := e1
    clear e1
    go_enter Try.func18, Try.ntmps18
    go_wp2_with (go_at_call 28; refine C.mono ?_; rintro e w2 ⟨rfl, B2⟩)
    go_ret2
    exact ⟨by rw [E1.out]; rfl, below_then B0 B2⟩
  · rw [e1] at C
    have E1 : Hid (idxN (Pg.hit key) L = k) := e1
    clear e1
    go_enter Try.func18, Try.ntmps18
    go_wp2_with (go_at_call 28; refine C.mono ?_; rintro e w2 ⟨rfl, B2⟩)
    go_ret2
    exact ⟨by rw [E1.out]; simp, below_then B0 B2⟩
end Go.Proofs.Ytfkmmjfahdpfcaa
