/- The Go text of HeadsApart returns true at every input, where the table of steps lies as the program's text lays it. -/
import Derived.Test.YtjcacejkiaepnaaDoorHFill
import Derived.Test.YtjcacejkiaepnaaDoorHAwake
namespace Go.Proofs.YtjcacejkiaepnaaDoor
open Go.ChangeShapes Go.WideShapes Go.ChangeAt Go.RowKit
theorem same2 (ao bo : Option Addr) (n1 n2 n ca cb : Nat) (A : List Int) (w : World) (h1 : n1 = n) (h2 : n2 = n) (hA : RowAt w ao n A) (hB : RowAt w bo n A) :
   Calls Tryd.prog 14 #[.slice ao n1 ca, .slice bo n2 cb] w fun e w' => e = .returned (.bool true) ∧ ∃ m, w' = w.drewN m := by
  subst h1
  subst h2
  exact same_any _ _ _ _ _ _ _ hA hB
theorem rowsN_twice (R : List (List Int)) : rowsN (rowsN R 60) 60 = rowsN R 60 := by
  unfold rowsN
  rw [← List.map_take, List.take_take, List.map_map, Nat.min_self]
  congr 1
  funext x
  simp [List.take_take]
theorem fill_next {R : List (List Int)} {n a i j t : Nat} {x : Int} (hj : j < n) (ha : a ≤ j) : (if t = i then (fill (rowOf R i) n a x (if i < i then j + 1 else j)).set j x else fill (rowOf R t) n a x (if t < i then j + 1 else j)) = fill (rowOf R t) n a x (if t < i + 1 then j + 1 else j) := by
  by_cases e : t = i
  · subst e
    rw [if_pos rfl, if_neg (by omega), if_pos (by omega), fill_step hj ha]
  · rw [if_neg e]
    by_cases h : t < i
    · rw [if_pos h, if_pos (by omega)]
    · rw [if_neg h, if_neg (by omega)]
set_option maxRecDepth 100000 in
set_option maxHeartbeats 1600000 in
theorem headsApart_walk (ao : Option Addr) (n0 ca : Nat) (Z : List Int) (ko : Option Addr) (nk ck : Nat) (Y : List (List Int)) (vo : Option Addr) (nv cv : Nat) (X : List (List Int)) (x : Int) (w : World) (hA : Arg w ao n0 ca Z) (hK : GridAt w ko nk Y) (hV : GridAt w vo nv X) (bx : -2147483648 ≤ x ∧ x ≤ 2147483647) (hT : Tab w) :
    Calls Tryd.prog 5 #[.slice ao n0 ca, .slice ko nk ck, .slice vo nv cv, .int .i32 x] w fun e w' => e = .returned (.bool true) ∧ Below w.heap.size w w' := by
  have T0 := hT
  go_enter Tryd.func5, Tryd.ntmps5
  go_wp2_with fail
  refine (few_any _ _ _ _ 32 _ _ rfl hA (by omega)).mono ?_
  rintro e w1 ⟨g, n, cap, rfl, hn, F1, B1⟩
  replace hK := hK.below B1
  replace hV := hV.below B1
  clear hA hT
  go_wp2_with fail
  refine (hrows_any _ _ _ _ 60 _ _ rfl hK (by omega)).mono ?_
  rintro e w2 ⟨gk, m, kk, rfl, hm, O2, B2⟩
  replace F1 := F1.below B2
  replace hV := hV.below B2
  replace B2 := below_then B1 B2
  clear hK B1
  go_wp2_with fail
  refine (hrows_any _ _ _ _ 60 _ _ rfl hV (by omega)).mono ?_
  rintro e w3 ⟨gv, mv, kv, rfl, hmv, O3, B3⟩
  replace F1 := F1.below B3
  replace O2 := O2.below B3
  replace B3 := below_then B2 B3
  clear hV B2
  have GK := O2.grid (by omega)
  have GV := O3.grid (by omega)
  clear O2 O3
  have tQ : (Z.take 32).take 32 = Z.take 32 := by rw [List.take_take, Nat.min_self]
  have rK := rowsN_twice Y
  have rV := rowsN_twice X
  generalize Z.take 32 = Q at *
  generalize rowsN Y 60 = K at *
  generalize rowsN X 60 = V at *
  by_cases hf : chkN n m mv K V 2 = 0
  · have ok := chkN_ok hf
    obtain ⟨-, hn2, hm2, hd, rfl, hlk, hlv⟩ := ok
    rw [show (2 : Int).toNat = 2 from rfl] at hd
    go_wp2_with fail
    refine (attend_any _ _ _ _ _ _ _ _ _ _ _ _ _ _ (T0.next B3) F1.arg GK GV hf).mono ?_
    rintro e w4 ⟨g4, c4, rfl, F4, B4⟩
    rw [show (2 : Int).toNat = 2 from rfl] at F4
    replace F1 := F1.below B4
    replace GK := GK.below B4
    replace GV := GV.below B4
    replace B4 := below_then B3 B4
    have lQ := F1.len
    have lK := GK.len
    have lV := GV.len
    clear B3
    obtain ⟨a, ha1, ha2⟩ : ∃ a, n ≤ 2 * a ∧ 2 * a ≤ n := ⟨n / 2, by omega, by omega⟩
    have hhalf : (n : Int) / 2 = (a : Int) := by omega
    rw [show n / 2 = a by omega] at F4
    have g1 := F1.lt
    have g4l := F4.lt
    have s4 := B4.size
    go_wp2_with fail
    refine (few_any _ _ _ _ 32 _ _ rfl F1.arg (by omega)).mono ?_
    rw [tQ]
    rintro e w5 ⟨gp, n5, cp, rfl, hn5, F5, B5⟩
    obtain rfl : n5 = n := by rw [← F5.len, lQ]
    have s5 := B5.size
    have gp5 := F5.base
    have gp5l := F5.lt
    replace F4 := F4.below B5
    replace GK := GK.below B5
    replace GV := GV.below B5
    replace B5 := below_then B4 B5
    clear F1 B4
    go_wp2_with fail
    refine (hrows_any _ _ _ _ 60 _ _ rfl GK (by omega)).mono ?_
    rw [rK]
    rintro e w6 ⟨gk6, m6, ck6, rfl, hm6, O6, B6⟩
    obtain rfl : m6 = mv := by rw [← O6.len, lK]
    have s6 := B6.size
    have WK := O6.gw
    replace F4 := F4.below B6
    replace F5 := F5.below B6
    replace GV := GV.below B6
    replace B6 := below_then B5 B6
    clear GK O6 B5
    go_wp2_with fail
    refine (hrows_any _ _ _ _ 60 _ _ rfl GV (by omega)).mono ?_
    rw [rV]
    rintro e w7 ⟨gv7, m7, cv7, rfl, hm7, O7, B7⟩
    obtain rfl : m7 = m6 := by rw [← O7.len, lV]
    have s7 := B7.size
    have WV := O7.gw
    replace WK := WK.below B7
    replace F4 := F4.below B7
    replace F5 := F5.below B7
    replace B7 := below_then B6 B7
    clear GV O7 B6
    have HE : Hid (partOf (tab n5 (attEl (fill Q n5 a x n5) ((List.range m7).map fun t => fill (rowOf K t) n5 a x n5) ((List.range m7).map fun t => fill (rowOf V t) n5 a x n5) m7 a)) 0 a = partOf (tab n5 (attEl Q K V m7 a)) 0 a) := by
      refine ext_el (by rw [len_part (by rw [tab_len]; omega), len_part (by rw [tab_len]; omega)]) fun c hc => ?_
      rw [len_part (by rw [tab_len]; omega)] at hc
      rw [el_part hc, el_part hc, el_tab (by omega), el_tab (by omega), Nat.zero_add]
      exact att_fill Q K V n5 m7 a c x hc (by omega) lQ lK hlk
    have hf2 : chkN n5 m7 m7 ((List.range m7).map fun t => fill (rowOf K t) n5 a x n5) ((List.range m7).map fun t => fill (rowOf V t) n5 a x n5) 2 = 0 := chkN_of (by omega) hn2 hm2 (by rw [show (2 : Int).toNat = 2 from rfl]; omega) (fun t ht => by rw [rowOf_fn ht, fill_len]) (fun t ht => by rw [rowOf_fn ht, fill_len])
    replace F5 : Fresh w7 w4.heap.size gp n5 cp (fill Q n5 a x a) := by rw [fill_none lQ]; exact F5
    replace WK := WK.congr (f' := fun t => fill (rowOf K t) n5 a x a) fun t ht => by rw [fill_none (hlk t ht)]
    replace WV := WV.congr (f' := fun t => fill (rowOf V t) n5 a x a) fun t ht => by rw [fill_none (hlv t ht)]
    go_wp2_with fail
    go_loopg [15] (n5 - a) (fun r i wr => ∃ j : Nat, a ≤ j ∧ j ≤ n5 ∧ r = n5 - j ∧ i = .int .i64 j ∧ Fresh wr w4.heap.size gp n5 cp (fill Q n5 a x j) ∧ Gw wr w5.heap.size w6.heap.size gk6 m7 (fun t => fill (rowOf K t) n5 a x j) ∧ Gw wr w6.heap.size w7.heap.size gv7 m7 (fun t => fill (rowOf V t) n5 a x j) ∧ Fresh wr w3.heap.size g4 n5 c4 (tab n5 (attEl Q K V m7 a)) ∧ Below w.heap.size w wr)
    case atStart => exact ⟨a, by omega, by omega, by omega, rfl, F5, WK, WV, F4, B7⟩
    case round =>
      clear F5 WK WV F4 B7
      obtain ⟨j, haj, hjn, rfl, rfl, F5, WK, WV, F4, B7⟩ := hrel
      generalize wr = w8 at *
      by_cases hlt : j < n5
      · have f1 := F5.frozen j
        have f2 := F5.cell hlt
        have WK9 := WK.other (j := j) F5 (Or.inl (by omega)) (.int .i32 x)
        have WV9 := WV.other (j := j) F5 (Or.inl (by omega)) (.int .i32 x)
        have F49 := F4.setOther (a := ⟨gp, j, none⟩) (show g4 ≠ gp by omega) (.int .i32 x)
        have F59 := F5.set j x hlt bx
        rw [fill_step hlt haj] at F59
        have B9 := B7.setCell (p := ⟨gp, j, none⟩) (show w.heap.size ≤ gp by omega) (.int .i32 x)
        clear F5 WK WV F4 B7
        go_wp2_with fail
        clear f1 f2
        generalize w8.setCell ⟨gp, j, none⟩ (.int .i32 x) = w9 at *
        go_loopg [62] m7 (fun r i wr => ∃ i0 : Nat, i0 ≤ m7 ∧ r = m7 - i0 ∧ i = .int .i64 i0 ∧ Fresh wr w4.heap.size gp n5 cp (fill Q n5 a x (j + 1)) ∧ Gw wr w5.heap.size w6.heap.size gk6 m7 (fun t => fill (rowOf K t) n5 a x (if t < i0 then j + 1 else j)) ∧ Gw wr w6.heap.size w7.heap.size gv7 m7 (fun t => fill (rowOf V t) n5 a x (if t < i0 then j + 1 else j)) ∧ Fresh wr w3.heap.size g4 n5 c4 (tab n5 (attEl Q K V m7 a)) ∧ Below w.heap.size w wr)
        case atStart => exact ⟨0, by omega, by omega, rfl, F59, WK9.congr fun t _ => by rw [if_neg (by omega)], WV9.congr fun t _ => by rw [if_neg (by omega)], F49, B9⟩
        case round =>
          clear F59 WK9 WV9 F49 B9
          obtain ⟨i, hi, rfl, rfl, F5, WK, WV, F4, B7⟩ := hrel
          generalize wr = w10 at *
          by_cases hlm : i < m7
          · obtain ⟨b, m1, c1, q1, FR, bT, SK⟩ := WK.open hlm
            have l1 := FR.len
            rw [fill_len] at l1
            subst l1
            have SK := SK j x hlt bx
            have p1 := FR.frozen j
            have p2 := FR.cell hlt
            have bB := FR.base
            have WV2 := WV.other (j := j) FR (Or.inl bT) (.int .i32 x)
            obtain ⟨b', m2, c2, q2, FR2, bT2, SV⟩ := WV2.open hlm
            have l2 := FR2.len
            rw [fill_len] at l2
            subst l2
            have SV := SV j x hlt bx
            have p3 := FR2.frozen j
            have p4 := FR2.cell hlt
            have bB2 := FR2.base
            have SK2 := SK.other (j := j) FR2 (Or.inr bB2) (.int .i32 x)
            have F52 := (F5.setOther (a := ⟨b, j, none⟩) (show gp ≠ b by omega) (.int .i32 x)).setOther (a := ⟨b', j, none⟩) (show gp ≠ b' by omega) (.int .i32 x)
            have F42 := (F4.setOther (a := ⟨b, j, none⟩) (show g4 ≠ b by omega) (.int .i32 x)).setOther (a := ⟨b', j, none⟩) (show g4 ≠ b' by omega) (.int .i32 x)
            have B72 := (B7.setCell (p := ⟨b, j, none⟩) (show w.heap.size ≤ b by omega) (.int .i32 x)).setCell (p := ⟨b', j, none⟩) (show w.heap.size ≤ b' by omega) (.int .i32 x)
            clear WK WV WV2 F5 F4 B7 FR FR2 SK
            go_wp2
            go_roundg (m7 - (i + 1))
            case measure => omega
            case rel => exact ⟨i + 1, by omega, rfl, by go_num, F52, SK2.congr fun t _ => fill_next hlt haj, SV.congr fun t _ => fill_next hlt haj, F42, B72⟩
          · obtain rfl : i = m7 := by omega
            have WK2 := WK.congr (f' := fun t => fill (rowOf K t) n5 a x (j + 1)) fun t ht => by rw [if_pos ht]
            have WV2 := WV.congr (f' := fun t => fill (rowOf V t) n5 a x (j + 1)) fun t ht => by rw [if_pos ht]
            clear WK WV
            go_wp2
            go_roundg (n5 - (j + 1))
            case measure => omega
            case rel => exact ⟨j + 1, by omega, by omega, rfl, by go_num, F5, WK2, WV2, F4, B7⟩
      · obtain rfl : j = n5 := by omega
        have GK := WK.grid (by omega)
        have GV := WV.grid (by omega)
        clear WK WV
        go_wp2_with fail
        refine (attend_any _ _ _ _ _ _ _ _ _ _ _ _ _ _ (T0.next B7) F5.arg GK GV hf2).mono ?_
        rintro e w9 ⟨g9, c9, rfl, F9, B9⟩
        rw [show j / (2 : Int).toNat = a by rw [show (2 : Int).toNat = 2 from rfl]; omega] at F9
        replace F4 := F4.below B9
        replace B9 := below_then B7 B9
        clear GK GV F5 B7
        have x1 := F4.fit
        have x2 := F4.max
        have x3 := F9.fit
        have x4 := F9.max
        have y1 : (a : Int) ≤ (c4 : Int) := by omega
        have y2 : (a : Int) ≤ (c9 : Int) := by omega
        have y3 : 0 ≤ (a : Int) := by omega
        have a1 : a ≤ j := by omega
        have R4 : Hid (∀ wv, Below w9.heap.size w9 wv → RowAt wv (some ⟨g4, 0, none⟩) a (partOf (tab j (attEl Q K V m7 a)) 0 a)) := fun wv hb => (F4.below hb).rowAt.part 0 a (by omega)
        have R9 : Hid (∀ wv, Below w9.heap.size w9 wv → RowAt wv (some ⟨g9, 0, none⟩) a (partOf (tab j (attEl Q K V m7 a)) 0 a)) := fun wv hb => HE.out ▸ (F9.below hb).rowAt.part 0 a (by omega)
        clear hf2 hlk hlv lQ lK lV tQ rK rV F4 F9 HE
        go_wp2_with fail
        refine wp_region_nxt (by kernel_rfl) (by kernel_rfl) ?_
        repeat (first | go_big_quiet_skip | (go_big_quiet_want; go_big_quiet_op; first | go_big_quiet_on | (apply Exists.intro; refine ⟨fun pq => ?_, ?_⟩; (first | (go_at_call 13; exact calls_nxt (hawake_any _ (T0.next (below_then B9 pq.ok)))) | (go_at_call 14; exact calls_nxt_drew (same2 _ _ _ _ a _ _ _ _ (by omega) (by omega) (R4.out _ pq.ok) (R9.out _ pq.ok))) | exact rfl); go_big_quiet_on)))
        refine wpQuiet_nil ?_
        intro _ hw'
        obtain ⟨⟨wq, hwq⟩, hw''⟩ := hw'
        subst hw''
        go_wp2
        go_ret
        exact ⟨rfl, below_then B9 hwq⟩
  · have hf' : (chkN n m mv K V 2 == 0) = false := by simpa using hf
    go_wp2_with fail
    refine (attend_bad _ _ _ _ _ _ _ _ _ _ _ _ _ (by omega) GK GV (by omega) (by omega) hf).mono ?_
    rintro e w3 ⟨rfl, rfl⟩
    generalize chkN n m mv K V 2 = q at *
    go_wp2_with (go_at_call 13; refine (hawake_any _ (T0.next B3)).mono ?_; rintro e w5 ⟨rfl, B5⟩)
    go_ret
    exact ⟨rfl, below_then B3 B5⟩
end Go.Proofs.YtjcacejkiaepnaaDoor
