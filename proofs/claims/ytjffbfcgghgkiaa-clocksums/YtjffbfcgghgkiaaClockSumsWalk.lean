/- ClockSums: whatever clocks, ticks and rounds, it answers true. -/
import Derived.Test.YtjffbfcgghgkiaaCkCopy
import Derived.Test.YtjffbfcgghgkiaaRowA
namespace Go.Proofs.Ytjffbfcgghgkiaa
open Go.ChangeShapes Go.WideShapes Go.ChangeAt Go.RowKit
/-- The sum of what the first n clocks say. -/
def smC (H : List Nat) : Nat → Int
  | 0 => 0
  | n + 1 => smC H n + cnt H n
theorem smC_cons (t : Nat) (H : List Nat) : ∀ n, smC (t :: H) n = smC H n + if t < n then 1 else 0
  | 0 => by simp [smC]
  | n + 1 => by
    have h1 := smC_cons t H n
    have h2 := cnt_cons t H n
    simp only [smC]
    rw [h1, h2]
    by_cases e : n = t
    · subst e
      rw [if_neg (by omega), if_pos rfl, if_pos (by omega)]
      omega
    · rw [if_neg e]
      by_cases e2 : t < n
      · rw [if_pos e2, if_pos (by omega)]; omega
      · rw [if_neg e2, if_neg (by omega)]; omega
theorem smC_all (n : Nat) : ∀ H : List Nat, (∀ t ∈ H, t < n) → smC H n = (H.length : Int)
  | [], _ => by
    have : ∀ k, smC [] k = 0 := fun k => by
      induction k with
      | zero => rfl
      | succ k ih => simp only [smC, ih]; rfl
    rw [this]; rfl
  | t :: H, h => by
    rw [smC_cons, smC_all n H (fun x hx => h x (List.mem_cons_of_mem _ hx)), if_pos (h t List.mem_cons_self)]
    simp
theorem smC_bd (H : List Nat) : ∀ n, 0 ≤ smC H n ∧ smC H n ≤ (n : Int) * (H.length : Int)
  | 0 => by simp [smC]
  | n + 1 => by
    have h1 := smC_bd H n
    have h2 := cnt_bd H n
    have e : ((n + 1 : Nat) : Int) * (H.length : Int) = (n : Int) * (H.length : Int) + (H.length : Int) := by rw [Int.natCast_add, Int.add_mul]; simp
    simp only [smC]
    omega
/-- k clocks, one behind the other, the newest first; r rounds of n. -/
def rgH : Nat → List Nat
  | 0 => []
  | k + 1 => k :: rgH k
def evH (n : Nat) : Nat → List Nat
  | 0 => []
  | r + 1 => rgH n ++ evH n r
theorem rgH_count (i : Nat) : ∀ k, ((rgH k).count i : Int) = if i < k then 1 else 0
  | 0 => by simp [rgH]
  | k + 1 => by
    have h := rgH_count i k
    simp only [rgH, List.count_cons]
    by_cases e : k = i
    · subst e
      simp only [Nat.lt_irrefl, if_false] at h
      simp only [beq_self_eq_true, if_true]
      rw [if_pos (show k < k + 1 by omega)]
      omega
    · have e2 : (k == i) = false := by simpa using e
      rw [e2, if_neg (by simp)]
      by_cases e3 : i < k
      · rw [if_pos e3] at h; rw [if_pos (by omega)]; omega
      · rw [if_neg e3] at h; rw [if_neg (by omega)]; omega
theorem evH_count (n i : Nat) (h : i < n) : ∀ r, ((evH n r).count i : Int) = r
  | 0 => by simp [evH]
  | r + 1 => by
    have h1 := evH_count n i h r
    have h2 := rgH_count i n
    rw [if_pos h] at h2
    simp only [evH, List.count_append]
    omega
theorem even_part (n i : Nat) (hi : i < n) (r : Nat) (b1 : -1 ≤ low (evH n r) i) (b2 : hig (evH n r) i ≤ 0) : ∀ k, k ≤ n → -1 ≤ low (rgH k ++ evH n r) i ∧ hig (rgH k ++ evH n r) i ≤ 0
  | 0, _ => ⟨b1, b2⟩
  | k + 1, hk => by
    have h1 := even_part n i hi r b1 b2 k (by omega)
    have a1 := rgH_count i (k + 1)
    have a2 := rgH_count 0 (k + 1)
    have a3 := evH_count n i hi r
    have a4 := evH_count n 0 (by omega) r
    have e : ahd (rgH (k + 1) ++ evH n r) i = (if i < k + 1 then 1 else 0) - 1 := by
      unfold ahd cnt
      rw [List.count_append, List.count_append]
      rw [if_pos (by omega)] at a2
      omega
    have e2 : rgH (k + 1) ++ evH n r = k :: (rgH k ++ evH n r) := rfl
    rw [e2] at e ⊢
    simp only [low, hig]
    rw [e]
    split <;> omega
theorem even_all (n i : Nat) (hi : i < n) : ∀ r, -1 ≤ low (evH n r) i ∧ hig (evH n r) i ≤ 0
  | 0 => by simp [evH, low, hig]
  | r + 1 => by
    have h := even_all n i hi r
    exact even_part n i hi r h.1 h.2 n (Nat.le_refl _)
theorem even_wst (n r : Nat) : ∀ k, k ≤ n → wst (evH n r) k ≤ 1
  | 0, _ => by simp [wst]
  | k + 1, hk => by
    have h1 := even_wst n r k (by omega)
    have h2 := even_all n k (by omega) r
    simp only [wst]
    omega
/-- The same ticks as they stand in the row. -/
def evL (n r k : Nat) : List Int := ((rgH k ++ evH n r).reverse).map Int.ofNat
theorem evL_snoc (n r k : Nat) : evL n r k ++ [(k : Int)] = evL n r (k + 1) := by
  unfold evL
  simp [rgH]
theorem evL_next (n r : Nat) : evL n r n = evL n (r + 1) 0 := by
  unfold evL
  simp [rgH, evH]
theorem rgH_lt (k : Nat) : ∀ t ∈ rgH k, t < k := by
  induction k with
  | zero => intro t ht; cases ht
  | succ k ih =>
    intro t ht
    simp only [rgH, List.mem_cons] at ht
    rcases ht with rfl | ht
    · omega
    · have := ih t ht; omega
theorem evH_lt (n : Nat) : ∀ r, ∀ t ∈ evH n r, t < n
  | 0, t, ht => by cases ht
  | r + 1, t, ht => by
    simp only [evH, List.mem_append] at ht
    rcases ht with ht | ht
    · exact rgH_lt n t ht
    · exact evH_lt n r t ht
theorem evL_hst (n r : Nat) : hst n (evL n r 0) = evH n r := by
  unfold hst evL
  have h := evH_lt n r
  simp only [rgH, List.nil_append]
  generalize evH n r = H at *
  have e : (List.map Int.ofNat H.reverse).filter (okT n) = List.map Int.ofNat H.reverse := by
    rw [List.filter_eq_self]
    intro x hx
    rw [List.mem_map] at hx
    obtain ⟨t, ht, rfl⟩ := hx
    have := h t (List.mem_reverse.1 ht)
    unfold okT
    exact decide_eq_true (by constructor <;> simp <;> omega)
  rw [e, List.map_map]
  have : (Int.toNat ∘ Int.ofNat) = id := by funext t; rfl
  rw [this, List.map_id, List.reverse_reverse]
theorem rgH_len (k : Nat) : (rgH k).length = k := by
  induction k with
  | zero => rfl
  | succ k ih => simp [rgH, ih]
theorem evH_len (n r : Nat) : (evH n r).length = r * n := by
  induction r with
  | zero => simp [evH]
  | succ r ih => simp only [evH, List.length_append, ih, rgH_len, Nat.succ_mul]; omega
theorem evL_len (n r k : Nat) : (evL n r k).length = r * n + k := by
  unfold evL
  simp [rgH_len, evH_len]
theorem evL_small (n r k j : Nat) (hn : n ≤ 8) (hk : k ≤ n) : -9223372036854775808 ≤ el (evL n r k) j ∧ el (evL n r k) j ≤ 9223372036854775807 := by
  rcases Nat.lt_or_ge j (evL n r k).length with h | h
  · have : el (evL n r k) j ∈ evL n r k := by
      unfold el; rw [List.getD_eq_getElem?_getD, List.getElem?_eq_getElem h]; exact List.getElem_mem h
    generalize el (evL n r k) j = x at *
    unfold evL at this
    rw [List.mem_map] at this
    obtain ⟨t, ht, rfl⟩ := this
    rw [List.mem_reverse, List.mem_append] at ht
    have : t < 8 := by
      rcases ht with ht | ht
      · have := rgH_lt k t ht; omega
      · have := evH_lt n r t ht; omega
    simp
    omega
  · rw [el_over h]; omega
theorem low_zero : ∀ H : List Nat, low H 0 = 0
  | [] => rfl
  | t :: H => by simp only [low, ahd, low_zero H]; omega
theorem hig_zero : ∀ H : List Nat, hig H 0 = 0
  | [] => rfl
  | t :: H => by simp only [hig, ahd, hig_zero H]; omega
set_option maxHeartbeats 1000000 in
theorem sums_quick (n : Int) (ao : Option Addr) (m ca : Nat) (A : List Int) (r : Int) (w : World) (hA : IArg w ao m ca A) (h : n < 1 ∨ 8 < n) :
   Calls Try.prog 5 #[.int .i64 n, .slice ao m ca, .int .i64 r] w fun e w' => e = .returned (.bool true) ∧ Below w.heap.size w w' := by
  have F := few8_any ao m ca A 80 w hA (by omega)
  have C := cawake_any
  generalize (A.take 80).length = z at *
  clear hA
  by_cases h1 : n < 1
  · go_enter Try.func5, Try.ntmps5
    go_wp2_with (first | (go_at_call 6; refine F.mono ?_; rintro e w1 ⟨bz, cz, rfl, O1, B1⟩) | (go_at_call 9; refine (C _).mono ?_; rintro e w2 ⟨rfl, B2⟩))
    go_ret
    exact ⟨rfl, below_then B1 B2⟩
  have d1 : decide (n < 1) = false := decide_eq_false h1
  have h2 : 8 < n := by omega
  clear h
  go_enter Try.func5, Try.ntmps5
  go_wp2_with (first | (go_at_call 6; refine F.mono ?_; rintro e w1 ⟨bz, cz, rfl, O1, B1⟩) | (go_at_call 9; refine (C _).mono ?_; rintro e w2 ⟨rfl, B2⟩))
  go_ret
  exact ⟨rfl, below_then B1 B2⟩
set_option maxHeartbeats 4000000 in
set_option maxRecDepth 100000 in
theorem sums_main (n : Nat) (ao : Option Addr) (m ca : Nat) (A Z : List Int) (r : Int) (w : World) (hA : IArg w ao m ca A) (hZ : Z = A.take 80) (h1 : 1 ≤ n) (h2 : n ≤ 8) :
   Calls Try.prog 5 #[.int .i64 (n : Int), .slice ao m ca, .int .i64 r] w fun e w' => e = .returned (.bool true) ∧ Below w.heap.size w w' := by
  have F := few8_any ao m ca A 80 w hA (by omega)
  have hsm := hA.take_small 80
  rw [← hZ] at F hsm
  have hz : Z.length ≤ 80 := by rw [hZ, List.length_take]; omega
  obtain ⟨z, hzl⟩ : ∃ z, z = Z.length := ⟨_, rfl⟩
  rw [← hzl] at F hz
  have HZ : Hid (Z.length = z) := hzl.symm
  clear hA hZ hzl
  have C := cawake_any
  have d1 : ¬ ((n : Int) < 1) := by omega
  have d2 : ¬ (8 < (n : Int)) := by omega
  go_enter Try.func5, Try.ntmps5
  go_wp2_with (first
    | (go_at_call 6; refine F.mono ?_; rintro e w1 ⟨bz, cz, rfl, O1, B1⟩; obtain ⟨_, _, e1, R1⟩ := O1.arg hsm; injection e1 with e1 e2 e3; subst e1 e3; have T1 := cplay_ok n _ z cz _ w1 R1 h1 h2 (by omega); clear e2)
    | (go_at_call 7; refine T1.mono ?_; rintro e w2 ⟨rfl, K2, B2, s2⟩))
  have l1 := hst_len n Z
  rw [HZ.out] at l1
  have HT : Hid (∀ t ∈ hst n Z, t < n) := hst_lt n Z
  go_loopg [9, 11] n (fun gg s9 s11 wr => ∃ j : Nat, j ≤ n ∧ gg = n - j ∧ s9 = .int .i64 (smC (hst n Z) j) ∧ s11 = .int .i64 (j : Int) ∧ ∃ k, wr = w2.drewN k)
  case atStart => exact ⟨0, by omega, by omega, rfl, rfl, 0, rfl⟩
  case round =>
  obtain ⟨j, hj, rfl, rfl, rfl, k, rfl⟩ := hrel
  have KK := K2.drewN k
  rcases Nat.lt_or_ge j n with hlt | hge
  · have d3 : (j : Int) < (n : Int) := by omega
    have N1 := KK.now hlt
    have D2 := fun k => (K2.drewN k).drift hlt (by omega)
    have D3 := fun k => (K2.drewN k).worst h2 (by omega)
    have W1 := wst_le (hst n Z) hlt
    have W2 := low_bd (hst n Z) j
    have W3 := hig_bd (hst n Z) j
    have W4 := smC_bd (hst n Z) j
    have W5 := cnt_bd (hst n Z) j
    have E : Hid (smC (hst n Z) j + cnt (hst n Z) j = smC (hst n Z) (j + 1)) := rfl
    have W6 : (j : Int) * ((hst n Z).length : Int) ≤ 8 * 80 := Int.mul_le_mul (by omega) (by omega) (by omega) (by omega)
    have q : wrap64 (smC (hst n Z) j + cnt (hst n Z) j) = smC (hst n Z) j + cnt (hst n Z) j := by unfold wrap64; omega
    have W7 : ¬ (hig (hst n Z) j - low (hst n Z) j < 0) := by omega
    have W8 : ¬ (wst (hst n Z) n < hig (hst n Z) j - low (hst n Z) j) := by omega
    generalize hig (hst n Z) j - low (hst n Z) j = dd at *
    generalize wst (hst n Z) n = ww at *
    generalize cnt (hst n Z) j = cc at *
    generalize smC (hst n Z) j = ss at *
    clear W1 W2 W3 W4 W5 W6
    go_wp2_with (first
      | (go_at_call 12; refine N1.mono ?_; rintro e w3 ⟨rfl, rfl⟩)
      | (go_at_call 14; refine (D2 _).mono ?_; rintro e w3 ⟨rfl, k3, rfl⟩)
      | (go_at_call 15; refine (D3 _).mono ?_; rintro e w3 ⟨rfl, k3, rfl⟩))
    go_roundg (n - (j + 1))
    case measure => omega
    case rel => exact ⟨j + 1, by omega, rfl, by rw [← E.out], by go_num, _, rfl⟩
  · obtain rfl : j = n := by omega
    have E1 : Hid (smC (hst j Z) j = ((hst j Z).length : Int)) := smC_all j _ HT.out
    generalize smC (hst j Z) j = ss at *
    go_wp2_with fail
    have R2 := R1.below B2
    go_loopg [10, 64] z (fun gg s10 s64 wr => ∃ i : Nat, i ≤ z ∧ gg = z - i ∧ s10 = .int .i64 ((hst j (Z.take i)).length : Int) ∧ s64 = .int .i64 (i : Int) ∧ wr = w2.drewN k)
    case atStart => exact ⟨0, by omega, by omega, rfl, rfl, rfl⟩
    case round =>
    obtain ⟨i, hi, rfl, rfl, rfl, rfl⟩ := hrel
    rcases Nat.lt_or_ge i z with hlt | hge2
    · have d5 : (i : Int) < (z : Int) := by omega
      obtain ⟨ba, oa, e9, hc⟩ := (R2.row.below (below_drewN (Below.refl _ _) k)).cells (by omega)
      injection e9 with e9
      injection e9 with e9 e10
      subst e9 e10
      have c1 := hc i hlt
      rw [Nat.zero_add] at c1
      have E := take_snocI Z i (by rw [HZ.out]; omega)
      have hln := hst_len j (Z.take i)
      rw [List.length_take] at hln
      generalize el Z i = t at *
      by_cases ht : 0 ≤ t ∧ t < (j : Int)
      · obtain ⟨x, rfl⟩ : ∃ x : Nat, t = (x : Int) := ⟨t.toNat, by omega⟩
        have E2 : Hid (((hst j (Z.take i)).length : Int) + 1 = ((hst j (Z.take (i + 1))).length : Int)) := by show _ = _; rw [E, hst_ok j _ x (by omega)]; simp
        have ht2 := ht.2
        generalize (hst j (Z.take i)).length = y at *
        clear ht E hc
        have q : wrap64 ((y : Int) + 1) = (y : Int) + 1 := by unfold wrap64; omega
        go_wp2_with fail
        go_roundg (z - (i + 1))
        case measure => omega
        case rel => exact ⟨i + 1, by omega, rfl, by rw [← E2.out], by go_num, rfl⟩
      · have E2 : Hid (((hst j (Z.take i)).length : Int) = ((hst j (Z.take (i + 1))).length : Int)) := by show _ = _; rw [E, hst_no j _ t ht]
        generalize (hst j (Z.take i)).length = y at *
        clear E hc
        by_cases h0 : 0 ≤ t
        · have h3 : ¬ t < (j : Int) := fun h => ht ⟨h0, h⟩
          clear ht
          go_wp2_with fail
          go_roundg (z - (i + 1))
          case measure => omega
          case rel => exact ⟨i + 1, by omega, rfl, by rw [← E2.out], by go_num, rfl⟩
        · clear ht
          go_wp2_with fail
          go_roundg (z - (i + 1))
          case measure => omega
          case rel => exact ⟨i + 1, by omega, rfl, by rw [← E2.out], by go_num, rfl⟩
    · obtain rfl : i = z := by omega
      rw [show Z.take i = Z from List.take_of_length_le (by rw [HZ.out]; exact Nat.le_refl _)]
      generalize hyy : (hst j Z).length = y at *
      have E3 : Hid (ss = (y : Int)) := E1.out
      have K3 := K2.drewN k
      have O3 := iown_new (w2.drewN k)
      have B3 := below_alloc (w2.drewN k) (.cells #[] 3)
      have B2' : Below w.heap.size w (w2.drewN k) := below_drewN (below_then B1 B2) k
      clear K2 B2 R2 O1 R1 T1
      generalize w2.drewN k = w3 at *
      go_wp2_with fail
      have b3 := B3.size
      go_loopg [14, 15] 20 (fun gg s14 s15 wr => ∃ x : Nat, x ≤ 20 ∧ (0 < x → (x : Int) ≤ r) ∧ gg = 20 - x ∧ s15 = .int .i64 (x : Int) ∧ IOwn wr w3.heap.size s14 (x * j) (evL j x 0) ∧ Below w3.heap.size w3 wr)
      case atStart => exact ⟨0, by omega, by omega, by omega, rfl, by rw [Nat.zero_mul]; exact O3, B3⟩
      case round =>
      obtain ⟨x, hx, hxr, rfl, rfl, O4, B4⟩ := hrel
      have b4 := B4.size
      by_cases hgo : (x : Int) < r ∧ x < 20
      · have g1 := hgo.1
        have g2 : (x : Int) < 20 := by omega
        have g3 : x < 20 := hgo.2
        clear hgo hxr
        go_wp2_with fail
        go_loopg [14, 16] j (fun gg s14 s16 wr => ∃ y : Nat, y ≤ j ∧ gg = j - y ∧ s16 = .int .i64 (y : Int) ∧ IOwn wr w3.heap.size s14 (x * j + y) (evL j x y) ∧ Below w3.heap.size w3 wr)
        case atStart => exact ⟨0, by omega, by omega, rfl, O4, B4⟩
        case round =>
        obtain ⟨y, hy, rfl, rfl, O5, B5⟩ := hrel
        have b5 := B5.size
        rcases Nat.lt_or_ge y j with hlt | hge3
        · have g4 : (y : Int) < (j : Int) := by omega
          have O6 := O5.below (below_alloc wr (.cells #[.int .i64 (y : Int)] 3))
          have B6 := B5.alloc (by omega) (.cells #[.int .i64 (y : Int)] 3)
          have X6 : (wr.alloc (.cells #[.int .i64 (y : Int)] 3)).cell? ⟨wr.heap.size, 0, none⟩ = some (.int .i64 (y : Int)) := (blk_new wr _ _).cell 0 rfl
          have hxy : x * j + y ≤ 4096 := by
            have := Nat.mul_le_mul hx h2
            omega
          go_wp2_with (at_builtin; refine wpList_append_int rfl _ _ rfl w3.heap.size _ _ _ rfl O6 wr.heap.size (y : Int) rfl X6 hxy (by simp; omega) ?_; intro v' w7 O7 B7)
          go_roundg (j - (y + 1))
          case measure => omega
          case rel => exact ⟨y + 1, by omega, rfl, by go_num, by rw [evL_snoc] at O7; exact O7, B6.trans B7⟩
        · obtain rfl : y = j := by omega
          go_wp2_with fail
          go_roundg (20 - (x + 1))
          case measure => omega
          case rel => exact ⟨x + 1, by omega, by omega, rfl, by go_num, by rw [evL_next] at O5; rw [Nat.succ_mul]; exact O5, B5⟩
      · have O5 := O4.arg (fun k => evL_small j x 0 k h2 (by omega))
        obtain ⟨a5, c5, rfl, R5⟩ := O5
        have hxj : x * j ≤ 160 := Nat.mul_le_mul hx h2
        have T5 := cplay_ok j a5 (x * j) c5 _ wr R5 h1 h2 (by omega)
        rw [evL_hst] at T5
        have K5 := K3.below B4
        have E6 := even_wst j x j (Nat.le_refl _)
        have l6 := evH_len j x
        have z1 := low_zero (hst j Z)
        have z2 := hig_zero (hst j Z)
        have D6 := fun W (h : Below wr.heap.size wr W) => (K5.below h).drift (i := 0) (by omega) (by omega)
        rw [z1, z2] at D6
        have W6 := fun (W : World) (h : Clk W (wr.heap.size + 1) wr.heap.size j j (evH j x)) => h.worst h2 (by omega)
        clear z1 z2 R5 K5 K3 l6 hyy O4
        generalize wst (evH j x) j = ww at *
        rw [E3.out]
        by_cases hr1 : (x : Int) < r
        · have hr2 : ¬ (x : Int) < 20 := by omega
          clear hgo
          go_wp2_with (first
            | (go_at_call 7; refine T5.mono ?_; rintro e w6 ⟨rfl, K6, B6, s6⟩)
            | (go_at_call 9; refine (C _).mono ?_; rintro e w7 ⟨rfl, B7⟩; have K7 := K6.below B7; have B8 := below_then B6 B7)
            | (go_at_call 15; refine (W6 _ K7).mono ?_; rintro e w8 ⟨rfl, k8, rfl⟩)
            | (go_at_call 14; refine (D6 _ (by exact below_drewN B8 _)).mono ?_; rintro e w9 ⟨rfl, k9, rfl⟩))
          go_ret
          exact ⟨rfl, below_drewN (B2'.trans ((below_then B4 B8).mono B2'.size)) _⟩
        · clear hgo
          go_wp2_with (first
            | (go_at_call 7; refine T5.mono ?_; rintro e w6 ⟨rfl, K6, B6, s6⟩)
            | (go_at_call 9; refine (C _).mono ?_; rintro e w7 ⟨rfl, B7⟩; have K7 := K6.below B7; have B8 := below_then B6 B7)
            | (go_at_call 15; refine (W6 _ K7).mono ?_; rintro e w8 ⟨rfl, k8, rfl⟩)
            | (go_at_call 14; refine (D6 _ (by exact below_drewN B8 _)).mono ?_; rintro e w9 ⟨rfl, k9, rfl⟩))
          go_ret
          exact ⟨rfl, below_drewN (B2'.trans ((below_then B4 B8).mono B2'.size)) _⟩
theorem clockSums_walk (n : Int) (ao : Option Addr) (m ca : Nat) (A : List Int) (r : Int) (w : World) (_hn : -9223372036854775808 ≤ n ∧ n ≤ 9223372036854775807) (hA : IArg w ao m ca A) (_hr : -9223372036854775808 ≤ r ∧ r ≤ 9223372036854775807) :
   Calls Try.prog 5 #[.int .i64 n, .slice ao m ca, .int .i64 r] w fun e w' => e = .returned (.bool true) ∧ Below w.heap.size w w' := by
  by_cases h : n < 1 ∨ 8 < n
  · exact sums_quick n ao m ca A r w hA h
  · obtain ⟨k, rfl⟩ : ∃ k : Nat, n = k := ⟨n.toNat, by omega⟩
    exact sums_main k ao m ca A _ r w hA rfl (by omega) (by omega)
end Go.Proofs.Ytjffbfcgghgkiaa
