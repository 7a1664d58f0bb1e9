/- PoolForgets: an idle page that is forgotten is free, and isn't found. -/
import Derived.Test.YtfkmmjfahdpfcaaPAwake
namespace Go.Proofs.Ytfkmmjfahdpfcaa
open Go.ChangeShapes Go.WideShapes Go.ChangeAt Go.RowKit
/-- The first k pages are taken, the others free. -/
def upto (n k : Nat) : List Pg := List.replicate k one ++ List.replicate (n - k) default
theorem upto_len {n k : Nat} (h : k ≤ n) : (upto n k).length = n := by unfold upto; simp; omega
theorem upto_pg {n k : Nat} (j : Nat) : pg (upto n k) j = if j < k then one else default := by
  unfold upto pg
  rw [List.getD_eq_getElem?_getD, List.getElem?_append]
  by_cases h : j < k
  · simp [h]
  · simp only [List.length_replicate, h, if_false]
    rw [List.getElem?_replicate]
    split <;> rfl
theorem upto_idx {n k : Nat} (h : k < n) : idxN Pg.free (upto n k) = k :=
  idxN_hit _ _ k (by rw [upto_len (by omega)]; exact h) (by rw [upto_pg, if_neg (by omega)]; rfl) (fun j hj => by rw [upto_pg, if_pos hj]; rfl)
theorem upto_set {n k : Nat} (h : k < n) : (upto n k).set k one = upto n (k + 1) := by
  apply List.ext_getElem
  · rw [List.length_set, upto_len (by omega), upto_len (by omega)]
  · intro i h1 h2
    rw [pg_get h1, pg_get h2, pg_set (by rw [upto_len (by omega)]; exact h), upto_pg, upto_pg]
    by_cases e : i = k
    · rw [if_pos e, if_pos (by omega)]
    · rw [if_neg e]
      by_cases e2 : i < k
      · rw [if_pos e2, if_pos (by omega)]
      · rw [if_neg e2, if_neg (by omega)]
/-- All pages are taken; page a is p. -/
def but (n a : Nat) (p : Pg) : List Pg := (upto n n).set a p
theorem but_len (n a : Nat) (p : Pg) : (but n a p).length = n := by unfold but; rw [List.length_set, upto_len (Nat.le_refl _)]
theorem but_set (n a : Nat) (p q : Pg) : (but n a p).set a q = but n a q := by unfold but; rw [List.set_set]
theorem but_pg {n a : Nat} (h : a < n) (p : Pg) (j : Nat) : pg (but n a p) j = if j = a then p else if j < n then one else default := by
  unfold but
  rw [pg_set (by rw [upto_len (Nat.le_refl _)]; exact h), upto_pg]
theorem but_one {n a : Nat} (h : a < n) : but n a one = upto n n := by
  unfold but
  apply List.ext_getElem
  · simp
  · intro i h1 h2
    rw [pg_get h1, pg_get h2, pg_set (by rw [upto_len (Nat.le_refl _)]; exact h), upto_pg]
    have : i < n := by rw [upto_len (Nat.le_refl _)] at h2; exact h2
    by_cases e : i = a
    · rw [if_pos e, if_pos this]
    · rw [if_neg e]
theorem but_idx {n a : Nat} (h : a < n) (p : Pg) (f : Pg → Bool) (h1 : f one = false) : idxN f (but n a p) = if f p then (a : Int) else -1 := by
  by_cases hp : f p = true
  · rw [if_pos hp]
    exact idxN_hit _ _ a (by rw [but_len]; exact h) (by rw [but_pg h, if_pos rfl]; exact hp) (fun j hj => by rw [but_pg h, if_neg (by omega), if_pos (by omega)]; exact h1)
  · rw [if_neg hp]
    refine idxN_miss _ _ fun j hj => ?_
    rw [but_len] at hj
    rw [but_pg h]
    by_cases e : j = a
    · rw [if_pos e]; simpa using hp
    · rw [if_neg e, if_pos hj]; exact h1
theorem need_upto (n k : Nat) : need (upto n k) = k := by unfold need upto; simp [List.filter_append, one, show (default : Pg).r = 0 from rfl]
theorem need_but {n a : Nat} (h : a < n) (p : Pg) (hp : p.r = 0) : need (but n a p) = n - 1 := by
  have e : but n a p = List.replicate a one ++ p :: List.replicate (n - a - 1) one := by
    apply List.ext_getElem
    · rw [but_len]; simp; omega
    · intro i h1 h2
      rw [pg_get h1, but_pg h, List.getElem_append]
      rw [but_len] at h1
      by_cases e : i < a
      · rw [if_neg (by omega), if_pos h1, dif_pos (by simpa using e)]; simp
      · rw [dif_neg (by simpa using e)]
        simp only [List.length_replicate]
        by_cases e2 : i = a
        · subst e2; simp
        · obtain ⟨q, hq⟩ : ∃ q, i - a = q + 1 := ⟨i - a - 1, by omega⟩
          rw [if_neg e2, if_pos h1]
          simp [hq]
  rw [e]
  unfold need
  simp [List.filter_append, one, hp]
  omega
set_option maxHeartbeats 4000000 in
set_option maxRecDepth 100000 in
theorem poolForgets_walk (x y key : Int) (w : World) (hx : -9223372036854775808 ≤ x ∧ x ≤ 9223372036854775807) (hy : -9223372036854775808 ≤ y ∧ y ≤ 9223372036854775807) (_hk : -9223372036854775808 ≤ key ∧ key ≤ 9223372036854775807) :
   Calls Try.prog 7 #[.int .i64 x, .int .i64 y, .int .i64 key] w fun e w' => e = .returned (.bool true) ∧ Below w.heap.size w w' := by
  have A := pawake_any w
  by_cases h0 : x < 1
  · go_enter Try.func7, Try.ntmps7
    go_wp2_with (go_at_call 9; refine A.mono ?_; rintro e w1 ⟨rfl, B1⟩)
    go_ret
    exact ⟨rfl, B1⟩
  by_cases h1 : 20 < x
  · go_enter Try.func7, Try.ntmps7
    go_wp2_with (go_at_call 9; refine A.mono ?_; rintro e w1 ⟨rfl, B1⟩)
    go_ret
    exact ⟨rfl, B1⟩
  by_cases h2 : y < 0
  · go_enter Try.func7, Try.ntmps7
    go_wp2_with (go_at_call 9; refine A.mono ?_; rintro e w1 ⟨rfl, B1⟩)
    go_ret
    exact ⟨rfl, B1⟩
  by_cases h3 : x ≤ y
  · go_enter Try.func7, Try.ntmps7
    go_wp2_with (go_at_call 9; refine A.mono ?_; rintro e w1 ⟨rfl, B1⟩)
    go_ret
    exact ⟨rfl, B1⟩
  obtain ⟨n, rfl⟩ : ∃ n : Nat, x = n := ⟨x.toNat, by omega⟩
  obtain ⟨a, rfl⟩ : ∃ a : Nat, y = a := ⟨y.toNat, by omega⟩
  have hn1 : 1 ≤ n := by omega
  have hn2 : n ≤ 20 := by omega
  have han : a < n := by omega
  have C := pnew_any n w hn1 (by omega)
  clear A hx hy
  have e0 : List.replicate n default = upto n 0 := by unfold upto; simp
  rw [e0] at C
  clear e0
  go_enter Try.func7, Try.ntmps7
  go_wp2_with (go_at_call 8; refine C.mono ?_; rintro e w1 ⟨rfl, p1, B1⟩; clear C)
  go_loopg [9] n (fun gg s9 wr => ∃ k : Nat, k ≤ n ∧ gg = n - k ∧ s9 = .int .i64 (k : Int) ∧ PoolAt wr w.heap.size (upto n k) [] ∧ Below w.heap.size w wr)
  case atStart => exact ⟨0, by omega, by omega, rfl, p1, B1⟩
  case round =>
    obtain ⟨k, hk, rfl, rfl, p2, B2⟩ := hrel
    clear p1 B1
    by_cases hlt : k < n
    · have C2 := take_free w.heap.size k (upto n k) [] wr p2 (by rw [upto_len hk]; omega) (by rw [upto_len hk]; exact hlt) (upto_idx hlt)
      rw [upto_set hlt] at C2
      go_wp2_with (go_at_call 12; refine C2.mono ?_; rintro e w3 ⟨rfl, p3, B3⟩)
      go_roundg (n - (k + 1))
      case measure => omega
      case rel => exact ⟨k + 1, by omega, rfl, by go_num, p3, B2.trans B3⟩
    · obtain rfl : k = n := by omega
      rw [← but_one han] at p2
      have l0 : ∀ p, (but k a p).length ≤ 64 := fun p => by rw [but_len]; omega
      have l1 : ∀ p, a < (but k a p).length := fun p => by rw [but_len]; exact han
      have q0 : ∀ p, pg (but k a p) a = p := fun p => by rw [but_pg han, if_pos rfl]
      have q1 : ∀ p, atN (but k a p) a = p := fun p => by rw [atN_nat, q0]
      have T1 := fun v (h : PoolAt v w.heap.size (but k a one) []) => forget_none w.heap.size a _ _ v h (by omega) (by rw [q1]; rfl)
      have T2 := fun v (h : PoolAt v w.heap.size (but k a one) []) => seal_ok w.heap.size a key _ _ v h (l0 _) (l1 _) (by rw [q0]; rfl) (by rw [q0]; rfl) (by rw [but_idx han _ _ rfl]; rfl)
      have T3 := fun v (h : PoolAt v w.heap.size (but k a ⟨1, true, key⟩) []) => forget_none w.heap.size a _ _ v h (by omega) (by rw [q1]; rfl)
      have T4 := fun v (h : PoolAt v w.heap.size (but k a ⟨1, true, key⟩) []) => drop_idle w.heap.size a _ _ v h (l0 _) (by simp) (l1 _) (by rw [q0]) (by rw [q0])
      have T5 := fun v (h : PoolAt v w.heap.size (but k a ⟨0, true, key⟩) [a]) => find_any w.heap.size key _ _ v h (l0 _)
      have T6 := fun v (h : PoolAt v w.heap.size (but k a ⟨0, true, key⟩) [a]) => forget_ok w.heap.size a _ _ v h (by simp) (l0 _) (l1 _) (by rw [q0]; rfl)
      have T7 := fun v (h : PoolAt v w.heap.size (but k a default) []) => forget_none w.heap.size a _ _ v h (by omega) (by rw [q1]; rfl)
      have T8 := fun v (h : PoolAt v w.heap.size (but k a default) []) => find_any w.heap.size key _ _ v h (l0 _)
      have T9 := fun v (h : PoolAt v w.heap.size (but k a default) []) => counts_any w.heap.size _ _ v h (l0 _) (by simp)
      have T10 := fun v (h : PoolAt v w.heap.size (but k a default) []) => take_free w.heap.size a _ _ v h (l0 _) (l1 _) (by rw [but_idx han _ _ rfl]; rfl)
      have T11 := fun v (h : PoolAt v w.heap.size (but k a one) []) => open_any w.heap.size a _ _ v h (by omega)
      simp only [q0, q1, but_set] at T1 T2 T3 T4 T6 T7 T10 T11
      have i5 : idxN (Pg.hit key) (but k a ⟨0, true, key⟩) = (a : Int) := by rw [but_idx han _ _ rfl, if_pos (by unfold Pg.hit; simp)]
      have i8 : idxN (Pg.hit key) (but k a default) = -1 := by rw [but_idx han _ _ rfl, if_neg (by simp [Pg.hit, show (default : Pg).s = false from rfl])]
      have m5 : max (a : Int) 0 = a := by omega
      have m8 : max (-1 : Int) 0 = 0 := by decide
      have d5 : decide (0 ≤ (a : Int)) = true := decide_eq_true (by omega)
      have d8 : decide (0 ≤ (-1 : Int)) = false := by decide
      have c9 : ((but k a default).length : Int) - (need (but k a default) : Int) - (([] : List Nat).length : Int) = 1 := by rw [but_len, need_but han _ rfl]; simp; omega
      have c9' : (need (but k a default) : Int) = (k : Int) - 1 := by rw [need_but han _ rfl]; omega
      have c9'' : ((([] : List Nat).length : Nat) : Int) = 0 := rfl
      have s4 : ([] : List Nat) ++ [a] = [a] := rfl
      have s6 : less [a] a = [] := by unfold less; simp
      have o11 : one.open = true := rfl
      have r2 : one.r = 1 := rfl
      simp only [i5, i8, m5, m8, d5, d8] at T5 T8
      simp only [c9] at T9
      simp only [c9', c9''] at T9
      simp only [s4] at T4
      simp only [s6] at T6
      simp only [o11] at T11
      simp only [r2] at T2
      clear i5 i8 m5 m8 d5 d8 c9 c9' c9'' s4 s6 o11 r2 q0 q1 l0 l1
      have G1 := T1 _ p2
      have hkk : (k : Int) ≤ 20 := by omega
      have hak : (a : Int) < (k : Int) := by omega
      clear hlt hn1 hn2 hk
      go_wp2_with first
        | (go_at_call 19; refine G11.mono ?_; rintro e w12 ⟨rfl, B12⟩)
        | (go_at_call 9; refine G0.mono ?_; rintro e w11 ⟨rfl, B11⟩; have p11 := p10.below B11; have G11 := T11 _ p11; have b11 := b10.trans (B11.mono b10.size))
        | (go_at_call 12; refine G10.mono ?_; rintro e w10 ⟨rfl, p10, B10⟩; have G0 := pawake_any w10; have b10 := b9.trans B10)
        | (go_at_call 17; refine G9.mono ?_; rintro e w9 ⟨rfl, B9⟩; have p9 := p8.below B9; have G10 := T10 _ p9; have b9 := b8.trans (B9.mono b8.size); clear G9)
        | (go_at_call 18; refine G8.mono ?_; rintro e w8 ⟨rfl, B8⟩; have p8 := p7.below B8; have G9 := T9 _ p8; have b8 := b7.trans (B8.mono b7.size); clear G8)
        | (go_at_call 16; refine G7.mono ?_; rintro e w7 ⟨rfl, B7⟩; have p7 := p6.below B7; have G8 := T8 _ p7; have b7 := b6.trans (B7.mono b6.size); clear G7)
        | (go_at_call 16; refine G6.mono ?_; rintro e w6 ⟨rfl, p6, B6⟩; have G7 := T7 _ p6; have b6 := b5.trans B6; clear G6)
        | (go_at_call 18; refine G5.mono ?_; rintro e w5 ⟨rfl, B5⟩; have p5 := p4.below B5; have G6 := T6 _ p5; have b5 := b4.trans (B5.mono b4.size); clear G5)
        | (go_at_call 15; refine G4.mono ?_; rintro e w4 ⟨rfl, p4, B4⟩; have G5 := T5 _ p4; have b4 := b3.trans B4; clear G4)
        | (go_at_call 16; refine G3.mono ?_; rintro e w3 ⟨rfl, B3⟩; have p3 := p22.below B3; have G4 := T4 _ p3; have b3 := b22.trans (B3.mono b22.size); clear G3)
        | (go_at_call 14; refine G2.mono ?_; rintro e w22 ⟨rfl, p22, B22⟩; have G3 := T3 _ p22; have b22 := b1.trans B22; clear G2)
        | (go_at_call 16; refine G1.mono ?_; rintro e w1' ⟨rfl, B1'⟩; have p1' := p2.below B1'; have G2 := T2 _ p1'; have b1 := B2.trans (B1'.mono B2.size); clear G1)
      go_ret
      exact ⟨rfl, b11.trans (B12.mono b11.size)⟩
end Go.Proofs.Ytfkmmjfahdpfcaa
