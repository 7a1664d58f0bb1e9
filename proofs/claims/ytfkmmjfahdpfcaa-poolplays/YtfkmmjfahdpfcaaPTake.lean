/- The pool's calls: Take, Hold, Forget. -/
import Derived.Test.YtfkmmjfahdpfcaaPCall
namespace Go.Proofs.Ytfkmmjfahdpfcaa
open Go.ChangeShapes Go.WideShapes Go.ChangeAt Go.RowKit
/-- A page that was just taken. -/
def one : Pg := ⟨1, false, 0⟩
theorem free_idx (b : Nat) (L : List Pg) (I : List Nat) (w : World) (h : PoolAt w b L I) (hl : L.length ≤ 64) :
   Calls Try.prog 28 #[.slice (some ⟨b, 0, none⟩) L.length L.length, .func (.func 29) #[] #[]] w fun e w' => e = .returned (.int .i64 (idxN Pg.free L)) ∧ Below w.heap.size w w' :=
  pidx_any 29 #[] Pg.free b L w h.pages hl (enters_of Try.func29 (by kernel_rfl) rfl) (fun W x _ => isFree_any x W)
set_option maxHeartbeats 1000000 in
theorem take_free (b k : Nat) (L : List Pg) (I : List Nat) (w : World) (h : PoolAt w b L I) (hl : L.length ≤ 64) (hk : k < L.length) (e1 : idxN Pg.free L = k) :
   Calls Try.prog 12 #[.pointer (some ⟨b + 1, 0, none⟩)] w fun e w' => e = .returned (.tuple #[.int .i64 (k : Int), .int .i64 0, .bool false, .int .i64 0]) ∧ PoolAt w' b (L.set k one) I ∧ Turns b w w' := by
  have C := free_idx b L I w h hl
  rw [e1] at C
  have c0 := h.box0
  have hs := h.size
  have HH : Hid _ := h
  clear h e1
  go_enter Try.func12, Try.ntmps12
  go_wp2_with (go_at_call 28; refine C.mono ?_; rintro e w2 ⟨rfl, B2⟩; have h2 := HH.out.below B2; have d0 := h2.box0; have p0 := h2.pages.c0 hk; have p1 := h2.pages.c1 hk; have p2 := h2.pages.c2 hk; have f0 := h2.pages.frozen (k * 3); have f1 := h2.pages.frozen (k * 3 + 1); have f2 := h2.pages.frozen (k * 3 + 2))
  refine bodyPost_ret (results_tmp4 rfl _ _ _) rfl ?_
  exact ⟨rfl, h2.put hk one, (Turns.of_below B2 (by omega)).put _ _ _⟩
set_option maxHeartbeats 1000000 in
theorem take_full (b : Nat) (L : List Pg) (w : World) (h : PoolAt w b L []) (hl : L.length ≤ 64) (e1 : idxN Pg.free L = -1) :
   Calls Try.prog 12 #[.pointer (some ⟨b + 1, 0, none⟩)] w fun e w' => e = .returned (.tuple #[.int .i64 0, .int .i64 0, .bool false, .int .i64 10]) ∧ Below w.heap.size w w' := by
  have C := free_idx b L [] w h hl
  rw [e1] at C
  have c0 := h.box0
  obtain ⟨vi, K1, K2, K3⟩ := h.idle
  obtain ⟨ao, cc, rfl⟩ := K2.slice
  rw [List.length_nil] at K1
  have HK : Hid (Blk w (b + 1) _ _) := K1
  clear h e1 K1 K2 K3
  go_enter Try.func12, Try.ntmps12
  go_wp2_with (go_at_call 28; refine C.mono ?_; rintro e w2 ⟨rfl, B2⟩; have k1 := HK.out.below B2 HK.out.lt; have d0 := k1.cell 1 (v := .slice ao 0 cc) rfl)
  refine bodyPost_ret (results_tmp4 rfl _ _ _) rfl ?_
  exact ⟨rfl, B2⟩
set_option maxHeartbeats 1000000 in
theorem take_idle (b i : Nat) (L : List Pg) (R : List Nat) (w : World) (h : PoolAt w b L (i :: R)) (hl : L.length ≤ 64) (hr : (i :: R).length ≤ 64) (hi : i < L.length) (e1 : idxN Pg.free L = -1) :
   Calls Try.prog 12 #[.pointer (some ⟨b + 1, 0, none⟩)] w fun e w' => e = .returned (.tuple #[.int .i64 (i : Int), .int .i64 (pg L i).k, .bool true, .int .i64 0]) ∧ PoolAt w' b (L.set i one) (less (i :: R) i) ∧ Turns b w w' := by
  have C := free_idx b L (i :: R) w h hl
  rw [e1] at C
  have c0 := h.box0
  have hs := h.size
  obtain ⟨vi, K1, K2, K3⟩ := h.idle
  rcases K2.cases with ⟨_, h0⟩ | ⟨g, cap, cs, rfl, h4, h5, h6, h7, h8, h9⟩
  · cases h0
  have q0 := h9 0 (by simp)
  simp only [List.getD_cons_zero] at q0
  have hlen : (0 : Int) < ((i :: R).length : Int) := by simp
  have HK : Hid (Blk w (b + 1) _ _) := K1
  have HG : Hid (Blk w g _ _) := h5
  have HH : Hid _ := h
  have hne : ((i :: R).length : Int) ≠ 0 := by omega
  clear h e1 K1 K2 K3 h5 h9
  generalize hz : (i :: R).length = z at *
  have HZ : Hid ((i :: R).length = z) := hz
  clear hz
  go_enter Try.func12, Try.ntmps12
  go_wp2_with first
    | (go_at_call 28; refine C.mono ?_; rintro e w2 ⟨rfl, B2⟩; have k1 := HK.out.below B2 HK.out.lt; have d1 := k1.cell 1 (v := .slice (some ⟨g, 0, none⟩) z cap) rfl; have d2 := (HG.out.below B2 HG.out.lt).cell 0 q0; have h2 := HH.out.below B2; have d0 := h2.box0; have p2 := h2.pages.c2 hi; have C2 := leave_any b i L (i :: R) w2 h2 (by rw [HZ.out]; omega); clear HK HG k1)
    | (go_at_call 30; refine C2.mono ?_; rintro e w3 ⟨rfl, h3, B3⟩; have x0 := h3.box0; have y0 := h3.pages.c0 hi; have y1 := h3.pages.c1 hi; have y2 := h3.pages.c2 hi; have f0 := h3.pages.frozen (i * 3); have f1 := h3.pages.frozen (i * 3 + 1); have f2 := h3.pages.frozen (i * 3 + 2))
  refine bodyPost_ret (results_tmp4 rfl _ _ _) rfl ?_
  exact ⟨rfl, h3.put hi one, ((Turns.of_below B2 (by omega)).trans B3).put _ _ _⟩
end Go.Proofs.Ytfkmmjfahdpfcaa
