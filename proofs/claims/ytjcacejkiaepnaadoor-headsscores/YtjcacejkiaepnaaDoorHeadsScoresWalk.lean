/- The Go text of HeadsScores returns true at every input, where the table of steps lies as the program's text lays it. -/
import Derived.Test.YtjcacejkiaepnaaDoorHSwap
import Derived.Test.YtjcacejkiaepnaaDoorHRef
import Derived.Test.YtjcacejkiaepnaaDoorHAwake
namespace Go.Proofs.YtjcacejkiaepnaaDoor
open Go.ChangeShapes Go.WideShapes Go.ChangeAt Go.RowKit
theorem part_all {A : List Int} {n : Nat} (h : A.length = n) : partOf A 0 n = A := by unfold partOf; rw [List.drop_zero, List.take_of_length_le (by omega)]
theorem tab_snoc7 (n : Nat) (f : Nat → Int) : tab (n + 1) f = tab n f ++ [f n] := by unfold tab; rw [List.range_succ, List.map_append]; rfl
/-- The first row of another length, if there is one. -/
theorem first_bad (K : List (List Int)) (n : Nat) : ∀ m, (∀ t, t < m → (rowOf K t).length = n) ∨ ∃ p, p < m ∧ (∀ t, t < p → (rowOf K t).length = n) ∧ (rowOf K p).length ≠ n := by
  intro m
  induction m with
  | zero => exact Or.inl fun t ht => by omega
  | succ m ih =>
    rcases ih with h | ⟨p, hp, h1, h2⟩
    · by_cases e : (rowOf K m).length = n
      · refine Or.inl fun t ht => ?_
        rcases Nat.lt_or_ge t m with h3 | h3
        · exact h t h3
        · obtain rfl : t = m := by omega
          exact e
      · exact Or.inr ⟨m, by omega, h, e⟩
    · exact Or.inr ⟨p, by omega, h1, h2⟩
theorem refScore0 (b n cq b' ck : Nat) (Q Kr : List Int) (w : World) (hQ : Arg w (some ⟨b, 0, none⟩) n cq Q) (hK : Arg w (some ⟨b', 0, none⟩) n ck Kr) (h4 : n ≤ 4096) :
   Calls Tryd.prog 17 #[.slice (some ⟨b, 0, none⟩) n cq, .slice (some ⟨b', 0, none⟩) n ck, .int .i64 0, .int .i64 n] w fun e w' => e = .returned (.int .i32 (scoreN Q Kr n)) ∧ ∃ d, w' = w.drewN d := by
  have := refScore_any b 0 n cq b' 0 n ck 0 n Q Kr w hQ hK (by omega) (by omega) h4 (Or.inr rfl)
  rwa [part_all hQ.row.len, part_all hK.row.len] at this
set_option maxRecDepth 100000 in
set_option maxHeartbeats 3200000 in
theorem headsScores_walk (ao : Option Addr) (n0 ca : Nat) (Z : List Int) (ko : Option Addr) (nk ck : Nat) (Y : List (List Int)) (w : World) (hA : Arg w ao n0 ca Z) (hK : GridAt w ko nk Y) (hT : Tab w) :
    Calls Tryd.prog 4 #[.slice ao n0 ca, .slice ko nk ck] w fun e w' => e = .returned (.bool true) ∧ Below w.heap.size w w' := by
  go_enter Tryd.func4, Tryd.ntmps4
  go_wp2_with fail
  refine (few_any _ _ _ _ 40 _ _ rfl hA (by omega)).mono ?_
  rintro e w1 ⟨g, n, cap, rfl, hn, F1, B1⟩
  replace hK := hK.below B1
  have T0 := hT
  clear hA hT
  go_wp2_with fail
  refine (hrows_any _ _ _ _ 60 _ _ rfl hK (by omega)).mono ?_
  rintro e w2 ⟨gk, m, kk, rfl, hm, O2, B2⟩
  replace F1 := F1.below B2
  replace B2 := below_then B1 B2
  clear hK B1
  have R2 := O2.gr
  have hk40 := rowsN_len Y 60
  clear O2
  generalize Z.take 40 = Q at *
  generalize rowsN Y 60 = K at *
  have lQ := F1.len
  rcases first_bad K n m with hgood | ⟨p, hp, hgood, hbad⟩
  · go_wp2_with fail
    refine (scores_any _ _ _ _ _ _ _ _ _ F1.rowAt (R2.grid (by omega)) (by omega) (by omega) hgood).mono ?_
    rintro e w3 ⟨g3, rfl, F3, B3⟩
    replace F1 := F1.below B3
    replace R2 := R2.below B3
    replace B3 := below_then B2 B3
    clear B2
    have F4 := fresh_empty w3
    have B4 : Below w3.heap.size w3 (w3.alloc (.cells #[] 35)) := (Below.refl _ _).alloc (Nat.le_refl _) _
    have HR : Hid (∀ wv, Below w3.heap.size w3 wv → Gr wv gk m K) := fun wv hb => R2.below hb
    have HQ : Hid (∀ wv, Below w3.heap.size w3 wv → Fresh wv w.heap.size g n cap Q) := fun wv hb => F1.below hb
    go_wp2_with fail
    generalize w3.alloc (.cells #[] 35) = w4 at *
    clear F1 R2
    go_loopg [7, 23] m (fun r s0 i wr => ∃ (j g7 c7 : Nat), j ≤ m ∧ r = m - j ∧ i = .int .i64 j ∧ s0 = .slice (some ⟨g7, 0, none⟩) j c7 ∧ Fresh wr w3.heap.size g7 j c7 (tab j fun i => scoreN Q (rowOf K i) n) ∧ Below w3.heap.size w3 wr)
    case atStart => exact ⟨0, _, _, by omega, by omega, rfl, rfl, F4, B4⟩
    case round =>
      clear F4 B4
      obtain ⟨j, g7, c7, hj, rfl, rfl, rfl, F7, B7⟩ := hrel
      have R7 := HR.out _ B7
      have Q7 := HQ.out _ B7
      generalize wr = w7 at *
      by_cases hlt : j < m
      · obtain ⟨b, m1, c1, q1, FR⟩ := R7.cell (show j < m by omega)
        have l1 := FR.len
        rw [hgood j hlt] at l1
        subst l1
        have HX : Hid (tab (j + 1) (fun i => scoreN Q (rowOf K i) n) = tab j (fun i => scoreN Q (rowOf K i) n) ++ [scoreN Q (rowOf K j) n]) := tab_snoc7 j _
        have sb := scoreN_bd Q (rowOf K j) n
        have s7 := B7.size
        have CS := refScore0 g n cap b c1 Q (rowOf K j) w7 Q7.arg FR.arg (by omega)
        clear R7 Q7 FR
        generalize scoreN Q (rowOf K j) n = x at *
        go_wp2_with fail
        refine CS.mono ?_
        rintro e w8 ⟨rfl, d, hw8⟩
        have B8 : Below w7.heap.size w7 w8 := hw8 ▸ below_drewN (Below.refl _ _) d
        clear hw8 CS q1
        have RX := rowAt_one w8 x (by omega)
        have BX : Below w8.heap.size w8 (w8.alloc (.cells #[.int .i32 x] 35)) := (Below.refl _ _).alloc (Nat.le_refl _) _
        have F9 := (F7.below B8).below BX
        have s8 := B8.size
        have s9 := BX.size
        have B9 := below_then (below_then B7 B8) BX
        clear BX B8 F7 B7
        generalize hw9 : w8.alloc (.cells #[.int .i32 x] 35) = w9 at *
        go_wp2_with (at_builtin; refine wpList_append_row rfl _ _ rfl w3.heap.size g7 j c7 _ rfl (by exact F9) (some ⟨w8.heap.size, 0, none⟩) 1 1 [x] rfl (by exact RX) (fun h => by cases h) (by omega) (by omega) ?_; intro g10 c10 w10 F10 B10)
        go_roundg (m - (j + 1))
        case measure => omega
        case rel => exact ⟨j + 1, g10, c10, by omega, rfl, by go_num, rfl, by rw [HX.out]; exact F10, B9.trans B10⟩
      · obtain rfl : j = m := by omega
        have B7' := below_then B3 B7
        replace F3 := F3.below B7
        clear R7 Q7 HR HQ
        go_wp2_with fail
        refine (hawake_any _ (T0.next B7')).mono ?_
        rintro e w8 ⟨rfl, B8⟩
        replace F3 := F3.below B8
        replace F7 := F7.below B8
        replace B8 := below_then B7' B8
        go_wp2_with (go_at_call 14; refine (same_any _ _ _ _ _ _ _ (by exact F3.rowAt) (by exact F7.rowAt)).mono ?_; rintro e w11 ⟨rfl, m11, hw11⟩; have B11 : Below w.heap.size w w11 := hw11 ▸ below_drewN B8 m11; clear hw11)
        go_ret
        exact ⟨rfl, B11⟩
  · have hb40 := hk40 p
    go_wp2_with fail
    refine (scores_bad _ _ _ _ _ _ p _ _ _ F1.rowAt (R2.grid (by omega)) (by omega) (by omega) hp hgood hbad (by omega)).mono ?_
    rintro e w3 ⟨rfl, B3⟩
    replace F1 := F1.below B3
    replace R2 := R2.below B3
    replace B3 := below_then B2 B3
    clear B2
    have F4 := fresh_empty w3
    have B4 : Below w3.heap.size w3 (w3.alloc (.cells #[] 35)) := (Below.refl _ _).alloc (Nat.le_refl _) _
    have HR : Hid (∀ wv, Below w3.heap.size w3 wv → Gr wv gk m K) := fun wv hb => R2.below hb
    have HQ : Hid (∀ wv, Below w3.heap.size w3 wv → Fresh wv w.heap.size g n cap Q) := fun wv hb => F1.below hb
    go_wp2_with fail
    generalize w3.alloc (.cells #[] 35) = w4 at *
    clear F1 R2
    go_loopg [7, 23] m (fun r s0 i wr => ∃ (j g7 c7 : Nat), j ≤ p ∧ r = m - j ∧ i = .int .i64 j ∧ s0 = .slice (some ⟨g7, 0, none⟩) j c7 ∧ Fresh wr w3.heap.size g7 j c7 (tab j fun i => scoreN Q (rowOf K i) n) ∧ Below w3.heap.size w3 wr)
    case atStart => exact ⟨0, _, _, by omega, by omega, rfl, rfl, F4, B4⟩
    case round =>
      clear F4 B4
      obtain ⟨j, g7, c7, hj, rfl, rfl, rfl, F7, B7⟩ := hrel
      have R7 := HR.out _ B7
      have Q7 := HQ.out _ B7
      generalize wr = w7 at *
      by_cases hlt : j < p
      · obtain ⟨b, m1, c1, q1, FR⟩ := R7.cell (show j < m by omega)
        have l1 := FR.len
        rw [hgood j hlt] at l1
        subst l1
        have HX : Hid (tab (j + 1) (fun i => scoreN Q (rowOf K i) n) = tab j (fun i => scoreN Q (rowOf K i) n) ++ [scoreN Q (rowOf K j) n]) := tab_snoc7 j _
        have sb := scoreN_bd Q (rowOf K j) n
        have s7 := B7.size
        have CS := refScore0 g n cap b c1 Q (rowOf K j) w7 Q7.arg FR.arg (by omega)
        clear R7 Q7 FR
        generalize scoreN Q (rowOf K j) n = x at *
        go_wp2_with fail
        refine CS.mono ?_
        rintro e w8 ⟨rfl, d, hw8⟩
        have B8 : Below w7.heap.size w7 w8 := hw8 ▸ below_drewN (Below.refl _ _) d
        clear hw8 CS q1
        have RX := rowAt_one w8 x (by omega)
        have BX : Below w8.heap.size w8 (w8.alloc (.cells #[.int .i32 x] 35)) := (Below.refl _ _).alloc (Nat.le_refl _) _
        have F9 := (F7.below B8).below BX
        have s8 := B8.size
        have s9 := BX.size
        have B9 := below_then (below_then B7 B8) BX
        clear BX B8 F7 B7
        generalize hw9 : w8.alloc (.cells #[.int .i32 x] 35) = w9 at *
        go_wp2_with (at_builtin; refine wpList_append_row rfl _ _ rfl w3.heap.size g7 j c7 _ rfl (by exact F9) (some ⟨w8.heap.size, 0, none⟩) 1 1 [x] rfl (by exact RX) (fun h => by cases h) (by omega) (by omega) ?_; intro g10 c10 w10 F10 B10)
        go_roundg (m - (j + 1))
        case measure => omega
        case rel => exact ⟨j + 1, g10, c10, by omega, rfl, by go_num, rfl, by rw [HX.out]; exact F10, B9.trans B10⟩
      · obtain rfl : j = p := by omega
        obtain ⟨b, m1, c1, q1, FR⟩ := R7.cell hp
        have l1 := FR.len
        have z1 : ((m1 : Int) == (n : Int)) = false := by simp; omega
        have x1 : m1 ≤ 40 := by omega
        have B7' := below_then B3 B7
        clear R7 Q7 HR HQ FR F7 hgood hbad hk40 l1
        go_wp2_with (go_at_call 13; refine (hawake_any _ (T0.next B7')).mono ?_; rintro e w8 ⟨rfl, B8⟩)
        go_ret
        exact ⟨rfl, below_then B7' B8⟩
end Go.Proofs.YtjcacejkiaepnaaDoor
