/- Package heads: how well a row goes with keys, parts of rows, what one head makes. -/
import Derived.Test.YtjcacejkiaepnaaDoorSoftM
import Derived.Test.YtjcacejkiaepnaaDoorSoftW
import Derived.Laws.MakeOwn
namespace Go.Proofs.YtjcacejkiaepnaaDoor
open Go.ChangeShapes Go.WideShapes Go.ChangeAt Go.RowKit
/-- A part of a row. -/
def partOf (A : List Int) (i m : Nat) : List Int := (A.drop i).take m
theorem el_part {A : List Int} {i m k : Nat} (h : k < m) : el (partOf A i m) k = el A (i + k) := by unfold partOf; rw [el_take h, el_drop]
theorem len_part {A : List Int} {i m : Nat} (h : i + m ≤ A.length) : (partOf A i m).length = m := by unfold partOf; simp; omega
/-- By what a score is brought to its size. -/
def scoreK (n : Nat) : Int := invN (sat (clip n * 65536))
theorem scoreK_bd (n : Nat) : 0 ≤ scoreK n ∧ scoreK n ≤ 2147483647 := invN_bd _
/-- How well a row goes with a key. -/
def scoreN (Q K : List Int) (n : Nat) : Int := mulN (dotN Q K n) (scoreK n)
theorem scoreN_bd (Q K : List Int) (n : Nat) : -2147483647 ≤ scoreN Q K n ∧ scoreN Q K n ≤ 2147483647 := mulN_bd _ _
theorem Tryd.infoRow : (Tryd.prog.info? 22).map (fun i => (i.zero, i.size, i.bytes)) = some (some (.slice none 0 0), 1, 24) := by kernel_rfl
theorem run_make_room' {P : Program} (t e : TypeId) (z : Value) (bytes : Nat) (ht : P.underlying t = some (.slice e)) (hinfo : (P.info? e).map (fun i => (i.zero, i.size, i.bytes)) = some (some z, 1, bytes)) (hz1 : z.cells = #[z])
    (kl kc : IntKind) (n : Nat) (hbytes : bytes * n ≤ 281474976710656) (h63 : n ≤ 9223372036854775807) (w : World) :
    (Instr.makeSlice t (.int kl 0) (.int kc (n : Int))).run P w = .ok (.slice (some ⟨w.heap.size, 0, none⟩) 0 n) (w.alloc (.cells (madeCells #[z] n) e)) := by
  obtain ⟨i, hi, hzz⟩ := Option.map_eq_some_iff.1 hinfo
  simp only [Prod.mk.injEq] at hzz
  obtain ⟨hz, hs, hb⟩ := hzz
  have hb' : (i.bytes : Int) * (n : Int) ≤ 281474976710656 := by
    rw [hb]
    have h : ((bytes * n : Nat) : Int) ≤ 281474976710656 := by omega
    rwa [Int.natCast_mul] at h
  have hr := run_make (P := P) w t e i z ht hi hz kl kc 0 n (Int.le_refl _) (by omega) hb' (by omega)
  simp only [Int.toNat_zero, Int.toNat_natCast, hs, Nat.mul_one, hz1] at hr
  exact hr
theorem fresh_room (w : World) (n : Nat) (hn : n ≤ 9223372036854775807) : Fresh (w.alloc (.cells (madeCells #[.int .i32 0] n) 35)) w.heap.size w.heap.size 0 n [] := by
  obtain ⟨c, hb, hs, hc⟩ := World.rowIs_made w (.int .i32 0) n 35
  exact ⟨Nat.le_refl _, rfl, by omega, hn, small_nil, c, hb, hs, fun t ht => by omega⟩
set_option maxHeartbeats 1600000 in
theorem scores_any (qo ko : Option Addr) (n m cq ck : Nat) (Q : List Int) (K : List (List Int)) (w : World) (hQ : RowAt w qo n Q) (hK : GridAt w ko m K) (hn : n ≤ 4096) (hm : m ≤ 4096) (hl : ∀ t, t < m → (rowOf K t).length = n) :
   Calls Tryd.prog 16 #[.slice qo n cq, .slice ko m ck] w fun e w' => ∃ g, e = .returned (.tuple #[.slice (some ⟨g, 0, none⟩) m m, .int .i64 0]) ∧ Fresh w' w.heap.size g m m (tab m fun i => scoreN Q (rowOf K i) n) ∧ Below w.heap.size w w' := by
  have hmk := run_make_row' (P := Tryd.prog) 22 35 (.int .i32 0) 4 Tryd.underlying22 Tryd.infoNum rfl .i64 .i64 m (by omega) (by omega)
  have F0 := fresh_made w m (by omega)
  have B0 : Below w.heap.size w (w.alloc (.cells (madeCells #[.int .i32 0] m) 35)) := (Below.refl _ _).alloc (Nat.le_refl _) _
  have HK : Hid (∀ wv, Below w.heap.size w wv → GridAt wv ko m K) := fun wv hb => hK.below hb
  have HQ : Hid (∀ wv, Below w.heap.size w wv → RowAt wv qo n Q) := fun wv hb => hQ.below hb
  have hk := scoreK_bd n
  have sb := sat_bd (clip n * 65536)
  have HE : Hid (invN (sat (clip n * 65536)) = scoreK n) := rfl
  go_enter Tryd.func16, Tryd.ntmps16
  go_wp2_with (first | (go_at_call 24; refine (of_any _ _ (by omega) (by omega)).mono ?_; rintro e w ⟨rfl, rfl⟩) | (go_at_call 23; refine (inv_any _ _ (by omega) (by omega)).mono ?_; rintro e w ⟨rfl, rfl⟩; rw [HE.out]))
  clear hmk hK hQ
  generalize w.alloc (.cells (madeCells #[.int .i32 0] m) 35) = w0 at *
  go_loopg [21] m (fun r i wr => ∃ j : Nat, j ≤ m ∧ r = m - j ∧ i = .int .i64 j ∧ Fresh wr w.heap.size w.heap.size m m (tab m fun i => if i < j then scoreN Q (rowOf K i) n else 0) ∧ Below w.heap.size w wr)
  case atStart => exact ⟨0, by omega, by omega, rfl, by rw [tab_start]; exact F0, B0⟩
  case round =>
    obtain ⟨j, hj, rfl, rfl, F1, B1⟩ := hrel
    clear F0 B0
    by_cases hlj : j < m
    · have R1 := HK.out _ B1
      have A1 := HQ.out _ B1
      obtain ⟨b, o, rfl, hc⟩ := R1.cells (by omega)
      obtain ⟨ro, m1, k1, q1, AR⟩ := hc j hlj
      have l1 := AR.row.len
      rw [hl j hlj] at l1
      subst l1
      have f1 := F1.frozen j
      have f2 := F1.cell hlj
      have d1 := dotN_bd Q (rowOf K j) n
      have HS : Hid (mulN (dotN Q (rowOf K j) n) (scoreK n) = scoreN Q (rowOf K j) n) := rfl
      have d2 := scoreN_bd Q (rowOf K j) n
      clear hc R1
      go_wp2_with (first | (go_at_call 25; refine (dot_any _ _ _ _ _ _ _ _ A1 AR.row hn).mono ?_; rintro e w1 ⟨rfl, n1, rfl⟩) | (go_at_call 26; refine (mul_any _ _ _ (by omega) (by omega) (by omega) (by omega)).mono ?_; rintro e w' ⟨rfl, n2, rfl⟩))
      go_roundg (m - (j + 1))
      case measure => omega
      case rel => exact ⟨j + 1, by omega, rfl, by go_num, (F1.drewN (n1 + n2)).step (f := fun i => scoreN Q (rowOf K i) n) (scoreN Q (rowOf K j) n) hlj rfl (by omega), (below_drewN B1 (n1 + n2)).setCell (Nat.le_refl _) _⟩
    · obtain rfl : j = m := by omega
      go_wp2
      go_ret2
      exact ⟨_, rfl, by rw [← tab_done]; exact F1, B1⟩
/-- Are the first k rows of that length? -/
def longs (R : List (List Int)) (s : Nat) : Nat → Bool
  | 0 => true
  | k + 1 => longs R s k && ((rowOf R k).length == s)
theorem longs_len {R : List (List Int)} {s n : Nat} (h : longs R s n = true) {t : Nat} (ht : t < n) : (rowOf R t).length = s := by
  induction n with
  | zero => omega
  | succ n ih =>
    unfold longs at h
    rw [Bool.and_eq_true] at h
    rcases Nat.lt_or_ge t n with h1 | h1
    · exact ih h.1 h1
    · obtain rfl : t = n := by omega
      simpa using h.2
theorem longs_not {R : List (List Int)} {s n t : Nat} (ht : t < n) (h : (rowOf R t).length ≠ s) : longs R s n = false := by
  cases e : longs R s n with
  | false => rfl
  | true => exact absurd (longs_len e ht) h
theorem longs_of {R : List (List Int)} {s n : Nat} (h : ∀ t, t < n → (rowOf R t).length = s) : longs R s n = true := by
  induction n with
  | zero => rfl
  | succ n ih => unfold longs; rw [ih fun t ht => h t (by omega), h n (by omega)]; simp
set_option maxHeartbeats 800000 in
theorem allLong_any (ao : Option Addr) (m ca s : Nat) (R : List (List Int)) (w : World) (hR : GridAt w ao m R) (hs : s ≤ 9223372036854775807) :
   Calls Tryd.prog 30 #[.slice ao m ca, .int .i64 s] w fun e w' => e = .returned (.bool (longs R s m)) ∧ w' = w := by
  have hm := hR.max
  go_enter Tryd.func30, Tryd.ntmps30
  go_wp2
  go_loopg [9] m (fun r i wr => ∃ k : Nat, k ≤ m ∧ r = m - k ∧ i = .int .i64 k ∧ longs R s k = true ∧ wr = w)
  case atStart => exact ⟨0, by omega, by omega, rfl, rfl, rfl⟩
  case round =>
    obtain ⟨k, hk, rfl, rfl, hal, rfl⟩ := hrel
    by_cases hlt : k < m
    · obtain ⟨b, o, rfl, hc⟩ := hR.cells (by omega)
      obtain ⟨r1, m1, k1, q1, A1⟩ := hc k hlt
      have l1 := A1.row.len
      have x1 := A1.row.max
      rcases Decidable.em (m1 = s) with rfl | hne
      · have HA : Hid (longs R m1 (k + 1) = true) := by show _ = _; unfold longs; rw [hal, l1]; simp
        clear hR hc A1 hal l1
        go_wp2
        go_roundg (m - (k + 1))
        case measure => omega
        case rel => exact ⟨k + 1, by omega, rfl, by go_num, HA.out, rfl⟩
      · have HA : Hid (longs R s m = false) := longs_not hlt (by omega)
        have z3 : ((m1 : Int) == (s : Int)) = false := by simp; omega
        clear hR hc A1 hal l1
        go_wp2
        go_ret
        exact ⟨by rw [HA.out]; rfl, rfl⟩
    · obtain rfl : k = m := by omega
      have HA : Hid (longs R s k = true) := hal
      clear hR hal
      go_wp2
      go_ret
      exact ⟨by rw [HA.out]; rfl, rfl⟩
/-- Rows of rows of a block of the call's own, of which the first k are laid: each a row that lay in w0. -/
structure CutTo (w0 w : World) (g m k : Nat) (R : List (List Int)) : Prop where
  row : ∃ cur : Array Value, w.heap[g]? = some (.cells cur 22 (0, 0)) ∧ cur.size = m ∧ ∀ t, t < k → ∃ ro n c, cur[t]? = some (.slice ro n c) ∧ Arg w0 ro n c (rowOf R t)
theorem CutTo.frozen {w0 w : World} {g m k : Nat} {R : List (List Int)} (h : CutTo w0 w g m k R) (t : Nat) : w.frozen? ⟨g, t, none⟩ = false := by
  obtain ⟨c, hb, _, _⟩ := h.row
  simp [World.frozen?, hb]
theorem CutTo.cell {w0 w : World} {g m k : Nat} {R : List (List Int)} (h : CutTo w0 w g m k R) {t : Nat} (ht : t < m) : ∃ v, w.cell? ⟨g, t, none⟩ = some v := by
  obtain ⟨c, hb, hs, _⟩ := h.row
  refine ⟨c[t]'(by omega), ?_⟩
  simp [World.cell?, hb]
theorem CutTo.step {w0 w : World} {g m k : Nat} {R : List (List Int)} (h : CutTo w0 w g m k R) (hk : k < m) {ro : Option Addr} {n c : Nat} (hA : Arg w0 ro n c (rowOf R k)) : CutTo w0 (w.setCell ⟨g, k, none⟩ (.slice ro n c)) g m (k + 1) R := by
  obtain ⟨cur, hb, hs, hc⟩ := h.row
  refine ⟨cur.setIfInBounds k (.slice ro n c), ?_, by simpa using hs, fun t ht => ?_⟩
  · simp [World.setCell, Array.getElem?_modify, hb]
  · rw [Array.getElem?_setIfInBounds]
    by_cases e : k = t
    · subst e; rw [if_pos rfl, if_pos (by omega)]; exact ⟨_, _, _, rfl, hA⟩
    · rw [if_neg e]; exact hc t (by omega)
theorem CutTo.grid {w0 w : World} {g m : Nat} {R : List (List Int)} (h : CutTo w0 w g m m R) (hl : R.length = m) (hm : m ≤ 9223372036854775807) (hb : Below w0.heap.size w0 w) : GridAt w (some ⟨g, 0, none⟩) m R := by
  obtain ⟨cur, hh, hs, hc⟩ := h.row
  refine ⟨hl, hm, fun _ => ⟨g, 0, rfl, fun t ht => ?_⟩⟩
  obtain ⟨ro, n, c, e, A⟩ := hc t ht
  refine ⟨ro, n, c, ?_, A.below hb⟩
  simp [World.cell?, hh, e]
theorem cutTo_made (w : World) (m : Nat) (R : List (List Int)) : CutTo w (w.alloc (.cells (madeCells #[.slice none 0 0] m) 22)) w.heap.size m 0 R := by
  obtain ⟨c, hb, hs, hc⟩ := World.rowIs_made w (.slice none 0 0) m 22
  exact ⟨c, hb, hs, fun t ht => by omega⟩
theorem Arg.part {w : World} {b o n ca : Nat} {A : List Int} (h : Arg w (some ⟨b, o, none⟩) n ca A) (i m : Nat) (him : i + m ≤ n) : Arg w (some ⟨b, o + i, none⟩) m (ca - i) (partOf A i m) :=
  ⟨h.row.part i m him, by have := h.fit; omega, by have := h.max; omega, fun h => by cases h⟩
/-- The same part of each row. -/
def partsOf (R : List (List Int)) (i m : Nat) : List (List Int) := R.map fun r => partOf r i m
theorem rowOf_parts {R : List (List Int)} {i m t : Nat} (ht : t < R.length) : rowOf (partsOf R i m) t = partOf (rowOf R t) i m := by
  unfold rowOf partsOf
  simp [List.getD_eq_getElem?_getD, ht]
set_option maxHeartbeats 800000 in
theorem cut_any (ao : Option Addr) (m ca f s n : Nat) (R : List (List Int)) (w : World) (hR : GridAt w ao m R) (hm : m ≤ 1048576) (hl : ∀ t, t < m → (rowOf R t).length = n) (hs : 1 ≤ s) (hn : f + s ≤ n) (hn4 : n ≤ 4096) :
   Calls Tryd.prog 20 #[.slice ao m ca, .int .i64 f, .int .i64 s] w fun e w' => ∃ g, e = .returned (.slice (some ⟨g, 0, none⟩) m m) ∧ GridAt w' (some ⟨g, 0, none⟩) m (partsOf R f s) ∧ Below w.heap.size w w' := by
  have hmk := run_make_row' (P := Tryd.prog) 23 22 (.slice none 0 0) 24 Tryd.underlying23 Tryd.infoRow rfl .i64 .i64 m (by omega) (by omega)
  have F0 := cutTo_made w m (partsOf R f s)
  have B0 : Below w.heap.size w (w.alloc (.cells (madeCells #[.slice none 0 0] m) 22)) := (Below.refl _ _).alloc (Nat.le_refl _) _
  have hll : (partsOf R f s).length = m := by unfold partsOf; rw [List.length_map]; exact hR.len
  have hrl := hR.len
  go_enter Tryd.func20, Tryd.ntmps20
  go_wp2
  clear hmk
  generalize w.alloc (.cells (madeCells #[.slice none 0 0] m) 22) = w0 at *
  go_loopg [15] m (fun r i wr => ∃ k : Nat, k ≤ m ∧ r = m - k ∧ i = .int .i64 k ∧ CutTo w wr w.heap.size m k (partsOf R f s) ∧ Below w.heap.size w wr)
  case atStart => exact ⟨0, by omega, by omega, rfl, F0, B0⟩
  case round =>
    obtain ⟨k, hk, rfl, rfl, F1, B1⟩ := hrel
    clear F0 B0
    by_cases hlt : k < m
    · obtain ⟨b0, o0, e0, hc0⟩ := hR.cells (by omega)
      obtain ⟨r0, m0, k0, q0, A0⟩ := hc0 k hlt
      subst e0
      have q1 := (B1.cell (p := ⟨b0, o0 + k, none⟩) (by simpa using World.block_lt_of_cell? w _ q0)).trans q0
      have l1 := A0.row.len
      rw [hl k hlt] at l1
      subst l1
      obtain ⟨b3, o3, rfl, hc3⟩ := A0.row.cells (by omega)
      have A1 := A0.part f s hn
      rw [← rowOf_parts (R := R) (by omega)] at A1
      have x1 := A0.fit
      have x2 := A0.max
      have f1 := F1.frozen k
      obtain ⟨v0, f2⟩ := F1.cell hlt
      have F2 := F1.step hlt A1
      have B2 := B1.setCell (p := ⟨w.heap.size, k, none⟩) (Nat.le_refl _) (.slice (some ⟨b3, o3 + f, none⟩) s (k0 - f))
      clear hc0 hc3 q0 A0 A1 F1
      go_wp2
      go_roundg (m - (k + 1))
      case measure => omega
      case rel => exact ⟨k + 1, by omega, rfl, by go_num, F2, B2⟩
    · obtain rfl : k = m := by omega
      go_wp2
      go_ret
      exact ⟨_, rfl, F1.grid hll (by omega) B1, B1⟩
end Go.Proofs.YtjcacejkiaepnaaDoor
