/- Contracts of the program's functions, part 7 of 10: what each call returns and leaves of memory. -/
import Derived.Test.YtmdjlaileakbeaaDoorPk6
import Derived.Test.YtmdjlaileakbeaaDoorPk5
import Derived.Test.YtmdjlaileakbeaaDoorPk4
/- Rows, rows of rows and lists of them that came in: as they read, nothing said of what is frozen; copies of them, of the call's own. -/
namespace Go.Proofs.YtmdjlaileakbeaaDoor
open Go.ChangeShapes Go.WideShapes Go.ChangeAt Go.RowKit
structure ArgR (w : World) (ao : Option Addr) (n ca : Nat) (A : List Int) : Prop where
  row : RowAt w ao n A
  fit : n ≤ ca
  max : ca ≤ 9223372036854775807
  nil : ao = none → ca = 0
theorem ArgR.below {w w' : World} {ao : Option Addr} {n ca : Nat} {A : List Int} (h : ArgR w ao n ca A) (hb : Below w.heap.size w w') : ArgR w' ao n ca A := ⟨h.row.below hb, h.fit, h.max, h.nil⟩
theorem Arg.raw {w : World} {ao : Option Addr} {n ca : Nat} {A : List Int} (h : Arg w ao n ca A) : ArgR w ao n ca A := ⟨h.row, h.fit, h.max, h.nil⟩
structure GridR (w : World) (ao : Option Addr) (n : Nat) (R : List (List Int)) : Prop where
  len : R.length = n
  max : n ≤ 9223372036854775807
  cells : 0 < n → ∃ b o, ao = some ⟨b, o, none⟩ ∧ ∀ t, t < n → ∃ ro m c, w.cell? ⟨b, o + t, none⟩ = some (.slice ro m c) ∧ ArgR w ro m c (rowOf R t)
theorem GridR.nil (w : World) (ao : Option Addr) : GridR w ao 0 [] := ⟨rfl, by omega, fun h => by omega⟩
theorem GridR.below {w w' : World} {ao : Option Addr} {n : Nat} {R : List (List Int)} (h : GridR w ao n R) (hb : Below w.heap.size w w') : GridR w' ao n R := by
  refine ⟨h.len, h.max, fun hn => ?_⟩
  obtain ⟨b, o, e, hc⟩ := h.cells hn
  refine ⟨b, o, e, fun t ht => ?_⟩
  obtain ⟨ro, m, c, h1, h2⟩ := hc t ht
  have hlt : b < w.heap.size := by simpa using World.block_lt_of_cell? w _ h1
  exact ⟨ro, m, c, by rw [hb.cell (by exact hlt)]; exact h1, h2.below hb⟩
theorem GridAt.raw {w : World} {ao : Option Addr} {n : Nat} {R : List (List Int)} (h : GridAt w ao n R) : GridR w ao n R := ⟨h.len, h.max, fun hn => by
  obtain ⟨b, o, e, hc⟩ := h.cells hn
  exact ⟨b, o, e, fun t ht => let ⟨ro, m, c, h1, h2⟩ := hc t ht; ⟨ro, m, c, h1, h2.raw⟩⟩⟩
structure CubeR (w : World) (ao : Option Addr) (m : Nat) (C : List (List (List Int))) : Prop where
  len : C.length = m
  max : m ≤ 9223372036854775807
  cells : 0 < m → ∃ b o, ao = some ⟨b, o, none⟩ ∧ ∀ (t : Nat) (R : List (List Int)), C[t]? = some R → ∃ ro n c, w.cell? ⟨b, o + t, none⟩ = some (.slice ro n c) ∧ (ro = none → c = 0) ∧ n ≤ c ∧ c ≤ 9223372036854775807 ∧ GridR w ro n R
theorem CubeR.nil (w : World) (ao : Option Addr) : CubeR w ao 0 [] := ⟨rfl, by omega, fun h => by omega⟩
theorem CubeR.below {w w' : World} {ao : Option Addr} {m : Nat} {C : List (List (List Int))} (h : CubeR w ao m C) (hb : Below w.heap.size w w') : CubeR w' ao m C := by
  refine ⟨h.len, h.max, fun hn => ?_⟩
  obtain ⟨b, o, e, hc⟩ := h.cells hn
  refine ⟨b, o, e, fun t R hR => ?_⟩
  obtain ⟨ro, n, c, h1, h2, h3, h4, h5⟩ := hc t R hR
  have hlt : b < w.heap.size := by simpa using World.block_lt_of_cell? w _ h1
  exact ⟨ro, n, c, by rw [hb.cell (by exact hlt)]; exact h1, h2, h3, h4, h5.below hb⟩
theorem CubeAt.raw {w : World} {ao : Option Addr} {m : Nat} {C : List (List (List Int))} (h : CubeAt w ao m C) : CubeR w ao m C := ⟨h.len, h.max, fun hn => by
  obtain ⟨b, o, e, hc⟩ := h.cells hn
  exact ⟨b, o, e, fun t R hR => let ⟨ro, n, c, h1, h2, h3, h4, h5⟩ := hc t R hR; ⟨ro, n, c, h1, h2, h3, h4, h5.raw⟩⟩⟩
set_option maxHeartbeats 800000 in
theorem fewR_any (ao : Option Addr) (n ca : Nat) (A : List Int) (lim : Nat) (li : Int) (w : World) (hli : li = lim) (hA : ArgR w ao n ca A) (hl : lim ≤ 5000) :
   Calls Tryd.prog 36 #[.slice ao n ca, .int .i64 li] w fun e w' => ∃ g n' cap, e = .returned (.slice (some ⟨g, 0, none⟩) n' cap) ∧ n' ≤ lim ∧ Fresh w' w.heap.size g n' cap (A.take lim) ∧ Below w.heap.size w w' := by
  subst hli
  have hm := hA.max
  have hf := hA.fit
  have hlen := hA.row.len
  have F0 := fresh_empty w
  have B0 : Below w.heap.size w (w.alloc (.cells #[] 80)) := (Below.refl _ _).alloc (Nat.le_refl _) _
  by_cases hgt : lim < n
  · obtain ⟨b, o, rfl, hc⟩ := hA.row.cells (by omega)
    have R := (hA.row.part 0 lim (by omega)).below B0
    rw [Nat.add_zero, List.drop_zero] at R
    clear hA hc hlen
    go_enter Tryd.func36, Tryd.ntmps36
    go_wp2_with (at_builtin; refine wpList_append_row rfl _ _ rfl w.heap.size w.heap.size 0 0 [] rfl F0 (some ⟨b, o, none⟩) lim ca (A.take lim) rfl R (fun h => by cases h) (by omega) (by simp) ?_; intro g' cap' w' F1 B1)
    rw [Nat.zero_add, List.nil_append] at *
    go_ret
    exact ⟨_, _, _, rfl, Nat.le_refl _, F1, B0.trans B1⟩
  · have R := hA.row.below B0
    have ht : A.take lim = A := List.take_of_length_le (by omega)
    rw [ht]
    have hnil := hA.nil
    clear hA ht hlen
    go_enter Tryd.func36, Tryd.ntmps36
    go_wp2_with (at_builtin; refine wpList_append_row rfl _ _ rfl w.heap.size w.heap.size 0 0 [] rfl F0 ao n ca A rfl R hnil (by omega) (by simp) ?_; intro g' cap' w' F1 B1)
    rw [Nat.zero_add, List.nil_append] at *
    go_ret
    exact ⟨_, _, _, rfl, by omega, F1, B0.trans B1⟩
set_option maxHeartbeats 1600000 in
theorem hrowsR_any (ao : Option Addr) (n ca : Nat) (R : List (List Int)) (lim : Nat) (li : Int) (w : World) (hli : li = lim) (hR : GridR w ao n R) (hlim : lim ≤ 5000) :
   Calls Tryd.prog 22 #[.slice ao n ca, .int .i64 li] w fun e w' => ∃ g k cap, e = .returned (.slice (some ⟨g, 0, none⟩) k cap) ∧ k ≤ lim ∧ OwnGrid w' w.heap.size g k cap (rowsN R lim) ∧ Below w.heap.size w w' := by
  subst hli
  have hn := hR.max
  have hl := hR.len
  have F0 := ownGrid_empty w
  have B0 : Below w.heap.size w (w.alloc (.cells #[] 42)) := (Below.refl _ _).alloc (Nat.le_refl _) _
  have HR : Hid (∀ wv, Below w.heap.size w wv → GridR wv ao n R) := fun wv hb => hR.below hb
  go_enter Tryd.func22, Tryd.ntmps22
  go_wp2
  generalize w.alloc (.cells #[] 42) = w0 at *
  clear hR
  go_loopg [5, 6] lim (fun r s i wr => ∃ (k g cap : Nat), k ≤ lim ∧ k ≤ n ∧ r = lim - k ∧ i = .int .i64 k ∧ s = .slice (some ⟨g, 0, none⟩) k cap ∧ OwnGrid wr w.heap.size g k cap (rowsN R k) ∧ Below w.heap.size w wr)
  case atStart => exact ⟨0, _, _, by omega, by omega, by omega, rfl, rfl, by unfold rowsN; rw [List.take_zero]; exact F0, B0⟩
  case round =>
    obtain ⟨k, g, cap, hk, hkn, rfl, rfl, rfl, F2, B2⟩ := hrel
    clear F0 B0
    by_cases hlt : k < n
    · by_cases h6 : k < lim
      · obtain ⟨b, o, rfl, hc⟩ := (HR.out _ B2).cells (by omega)
        obtain ⟨ro, m1, c1, q1, A1⟩ := hc k hlt
        have HS : Hid (rowsN R (k + 1) = rowsN R k ++ [(rowOf R k).take 40]) := take_snoc (by omega)
        have s2 := B2.size
        clear hc
        go_wp2_with (first | (go_at_call 36; refine (fewR_any _ _ _ _ 40 _ _ rfl A1 (by omega)).mono ?_; rintro e w3 ⟨g3, n3, c3, rfl, hm3, F3, B3⟩; have BL : Below w3.heap.size w3 (w3.alloc (.cells #[.slice (some ⟨g3, 0, none⟩) n3 c3] 42)) := (Below.refl _ _).alloc (Nat.le_refl _) _; have cX := cellRow_new w3 (.slice (some ⟨g3, 0, none⟩) n3 c3); have F4 := (F3.mono s2).below BL; have G4 := (F2.below B3).below BL; have s3 := B3.size; have s4 := BL.size; have B4 := below_then (below_then B2 B3) BL; have BO := below_then B3 BL; have hg3 := F3.base; generalize hw4 : w3.alloc (.cells #[.slice (some ⟨g3, 0, none⟩) n3 c3] 42) = w4 at *) | (at_builtin; refine wpList_append_grid rfl _ _ rfl w.heap.size g k cap _ rfl (by exact G4) _ (by exact F2) (by exact BO) w3.heap.size g3 n3 c3 _ rfl (by exact cX) (by exact F4) (by exact hg3) (by omega) (by omega) ?_; intro g' cap' w' F7 B7))
        go_roundg (lim - (k + 1))
        case measure => omega
        case rel => exact ⟨k + 1, _, _, by omega, by omega, rfl, by go_num, rfl, by rw [HS.out]; exact F7, B4.trans B7⟩
      · obtain rfl : k = lim := by omega
        go_wp2
        go_ret
        exact ⟨_, _, _, rfl, Nat.le_refl _, F2, B2⟩
    · obtain rfl : k = n := by omega
      have e : rowsN R k = rowsN R lim := by unfold rowsN; rw [List.take_of_length_le (by omega), List.take_of_length_le (by omega)]
      rw [e] at F2
      clear e
      go_wp2
      go_ret
      exact ⟨_, _, _, rfl, hk, F2, B2⟩
/-- At most five lists of at most lim rows of at most 40 numbers. -/
def cutC (C : List (List (List Int))) (lim : Nat) : List (List (List Int)) := (C.take 5).map fun R => rowsN R lim
theorem cutC_len (C : List (List (List Int))) (lim : Nat) : (cutC C lim).length = min 5 C.length := by unfold cutC; simp
theorem cutC_snoc {C : List (List (List Int))} {k : Nat} {R : List (List Int)} (lim : Nat) (_hk : k < 5) (h : C[k]? = some R) : ((C.take (k + 1)).map fun R => rowsN R lim) = ((C.take k).map fun R => rowsN R lim) ++ [rowsN R lim] := by
  rw [take_one h]; simp
set_option maxRecDepth 100000 in
set_option maxHeartbeats 800000 in
theorem listsR_any (ao : Option Addr) (n ca : Nat) (C : List (List (List Int))) (m5 : Nat) (Z : List (List (List Int))) (w : World) (hC : CubeR w ao n C) (hm5 : m5 = min 5 n) (hZ : Z = cutC C 130) :
   Calls Tryd.prog 12 #[.slice ao n ca] w fun e w' => ∃ g cap, e = .returned (.slice (some ⟨g, 0, none⟩) m5 cap) ∧ New w.heap.size w' (fun w => CubeAt w (some ⟨g, 0, none⟩) m5 Z) ∧ Below w.heap.size w w' := by
  have hl := hC.len
  have F0 := ownCube_empty w
  have B0 : Below w.heap.size w (w.alloc (.cells #[] 60)) := (Below.refl _ _).alloc (Nat.le_refl _) _
  have HC : Hid (∀ wv, Below w.heap.size w wv → CubeR wv ao n C) := fun wv hb => hC.below hb
  go_enter Tryd.func12, Tryd.ntmps12
  go_wp2
  generalize w.alloc (.cells #[] 60) = w0 at *
  have hC' := hC
  have HZ : Hid (Z = cutC C 130) := hZ
  have HM5 : Hid (m5 = min 5 n) := hm5
  clear hC hZ hm5
  have hmx := hC'.max
  go_loopg [3, 4] n (fun r s i wr => ∃ (k g cap : Nat), k ≤ n ∧ k ≤ 5 ∧ r = n - k ∧ i = .int .i64 k ∧ s = .slice (some ⟨g, 0, none⟩) k cap ∧ OwnCube wr w.heap.size g k cap ((C.take k).map fun R => rowsN R 130) ∧ Below w.heap.size w wr)
  case atStart => exact ⟨0, _, _, by omega, by omega, by omega, rfl, rfl, by rw [List.take_zero]; exact F0, B0⟩
  case round =>
    obtain ⟨k, g, cap, hk, hk5, rfl, rfl, rfl, F2, B2⟩ := hrel
    clear hC'
    clear F0 B0
    by_cases hlt : k < n ∧ k < 5
    · obtain ⟨hlt, h5⟩ := hlt
      obtain ⟨b, o, rfl, hc⟩ := (HC.out _ B2).cells (by omega)
      obtain ⟨R, hR⟩ : ∃ R, C[k]? = some R := ⟨_, List.getElem?_eq_getElem (show k < C.length by omega)⟩
      obtain ⟨ro, m1, c1, q1, -, -, -, G1⟩ := hc k R hR
      have HS : Hid (((C.take (k + 1)).map fun R => rowsN R 130) = ((C.take k).map fun R => rowsN R 130) ++ [rowsN R 130]) := cutC_snoc 130 h5 hR
      have s2 := B2.size
      have lg := F2.lt
      have h5' : (k : Int) < 5 := by omega
      clear hc
      go_wp2_with fail
      refine (hrowsR_any ro m1 c1 R 130 130 _ rfl G1 (by omega)).mono ?_
      rintro e w3 ⟨g3, n3, c3, rfl, hm3, OG, B3⟩
      obtain ⟨p1, p2⟩ := own_caps OG.own.choose_spec.1
      have NG := OG.hangs (by omega)
      have BL : Below w3.heap.size w3 (w3.alloc (.cells #[.slice (some ⟨g3, 0, none⟩) n3 c3] 60)) := (Below.refl _ _).alloc (Nat.le_refl _) _
      have cX := cellList_new w3 (.slice (some ⟨g3, 0, none⟩) n3 c3)
      have F4 := (F2.below B3).below BL
      have s3 := B3.size
      have s4 := BL.size
      have NG4 : Hangs (fun b => w.heap.size ≤ b ∧ b ≠ g) (w3.alloc (.cells #[.slice (some ⟨g3, 0, none⟩) n3 c3] 60)) (fun w => GridAt w (some ⟨g3, 0, none⟩) n3 (rowsN R 130)) := Hangs.mono (Hangs.below NG BL) (fun b _ hb => ⟨by omega, by omega⟩)
      have B4 := below_then (below_then B2 B3) BL
      clear NG OG F2 G1 q1
      generalize hw4 : w3.alloc (.cells #[.slice (some ⟨g3, 0, none⟩) n3 c3] 60) = w4 at *
      go_wp2_with (at_builtin; refine wpList_append_cube rfl _ _ rfl w.heap.size g k cap _ rfl (by exact F4) w3.heap.size g3 n3 c3 (rowsN R 130) rfl (by exact cX) p1 p2 (by exact NG4) (by omega) (by omega) ?_; intro g' cap' w' F7 B7)
      go_roundg (n - (k + 1))
      case measure => omega
      case rel => exact ⟨k + 1, _, _, by omega, by omega, rfl, by go_num, rfl, by rw [HS.out]; exact F7, B4.trans B7⟩
    · have e1 : (C.take k).map (fun R => rowsN R 130) = cutC C 130 := by
        unfold cutC
        by_cases h5 : k = 5
        · rw [h5]
        · rw [List.take_of_length_le (by omega), List.take_of_length_le (by omega)]
      have e2 : k = min 5 n := by omega
      have e3 := HM5.out
      rw [← e2] at e3
      rw [e1, ← HZ.out] at F2
      subst e3
      clear hlt
      by_cases h5 : m5 < n
      · have hk5' : (m5 : Int) = 5 := by omega
        clear e1 e2
        go_wp2
        go_ret
        exact ⟨_, _, rfl, F2.hangs (by omega), B2⟩
      · obtain rfl : m5 = n := by omega
        clear e1 e2
        go_wp2
        go_ret
        exact ⟨_, _, rfl, F2.hangs (by omega), B2⟩
end Go.Proofs.YtmdjlaileakbeaaDoor

/- Told, Of and Copy of layer 9 over any view. -/
namespace Go.Proofs.YtmdjlaileakbeaaDoor
open Go.ChangeShapes Go.WideShapes Go.ChangeAt Go.RowKit
/-- A view that came in. -/
structure VwR (w : World) (v : VwV) (X : Vw) : Prop where
  t : IArg w v.t.ao v.t.n v.t.c X.T
  k : CubeR w v.k.ao v.k.n X.K
  v : CubeR w v.v.ao v.v.n X.V
theorem VwR.below {w w' : World} {v : VwV} {X : Vw} (h : VwR w v X) (hb : Below w.heap.size w w') : VwR w' v X := ⟨h.t.below hb, h.k.below hb, h.v.below hb⟩
theorem VwAt.raw {w : World} {v : VwV} {X : Vw} (h : VwAt w v X) : VwR w v X := ⟨h.t, h.k.raw, h.v.raw⟩
def cutVw (X : Vw) : Vw := ⟨X.T.take 130, cutC X.K 130, cutC X.V 130⟩
theorem rowsN_twice (R : List (List Int)) (n : Nat) : rowsN (rowsN R n) n = rowsN R n := by
  unfold rowsN
  rw [← List.map_take, List.take_take, Nat.min_self, List.map_map]
  congr 1
  funext l
  show List.take 40 (List.take 40 l) = List.take 40 l
  rw [List.take_take, Nat.min_self]
theorem cutC_twice (C : List (List (List Int))) (n : Nat) : cutC (cutC C n) n = cutC C n := by
  unfold cutC
  rw [← List.map_take, List.take_take, Nat.min_self, List.map_map]
  congr 1
  funext R
  exact rowsN_twice R n
theorem cutVw_twice (X : Vw) : cutVw (cutVw X) = cutVw X := by
  unfold cutVw
  simp only [cutC_twice, List.take_take, Nat.min_self]
theorem cutC_mem {C : List (List (List Int))} {n : Nat} {R : List (List Int)} (h : R ∈ cutC C n) : R.length ≤ n ∧ (∀ t, (rowOf R t).length ≤ 40) ∧ rowsN R n = R := by
  obtain ⟨S, _, rfl⟩ := List.mem_map.1 h
  exact ⟨by unfold rowsN; rw [List.length_map, List.length_take]; omega, fun t => rowsN_len S n t, rowsN_twice S n⟩
theorem cutC_at_most (C : List (List (List Int))) (n : Nat) : (cutC C n).length ≤ 5 := by rw [cutC_len]; omega
set_option maxRecDepth 100000 in
set_option maxHeartbeats 800000 in
theorem told9R_any (vv : VwV) (X : Vw) (w : World) (hv : VwR w vv X) :
   Calls Tryd.prog 4 #[.agg vv.cells] w fun e w' => ∃ t k v : Sl, e = .returned (.agg #[t.v, k.v, v.v]) ∧ ToldAt w' t k v (cutVw X) ∧ Below w.heap.size w w' := by
  have hsm := hv.t.row.small
  have HT : Hid (∀ wv, Below w.heap.size w wv → IArg wv vv.t.ao vv.t.n vv.t.c X.T) := fun wv hb => hv.t.below hb
  have HK : Hid (∀ wv, Below w.heap.size w wv → CubeR wv vv.k.ao vv.k.n X.K) := fun wv hb => hv.k.below hb
  have HV : Hid (∀ wv, Below w.heap.size w wv → CubeR wv vv.v.ao vv.v.n X.V) := fun wv hb => hv.v.below hb
  clear hv
  obtain ⟨⟨ta, tn, tc⟩, ⟨ka, kn, kc⟩, ⟨va, vn, vc⟩⟩ := vv
  unfold VwV.cells Sl.v
  simp only at *
  obtain ⟨TT, hTT⟩ : ∃ TT, TT = X.T.take 130 := ⟨_, rfl⟩
  obtain ⟨KK, hKK⟩ : ∃ KK, KK = cutC X.K 130 := ⟨_, rfl⟩
  obtain ⟨VV, hVV⟩ : ∃ VV, VV = cutC X.V 130 := ⟨_, rfl⟩
  obtain ⟨kn5, hkn5⟩ : ∃ m, m = min 5 kn := ⟨_, rfl⟩
  obtain ⟨vn5, hvn5⟩ : ∃ m, m = min 5 vn := ⟨_, rfl⟩
  have hsm2 : Hid (∀ k, -9223372036854775808 ≤ el TT k ∧ el TT k ≤ 9223372036854775807) := by
    intro k
    subst hTT
    rcases Nat.lt_or_ge k 130 with h | h
    · rw [el_take h]; exact hsm k
    · rw [el_over (by rw [List.length_take]; omega)]; omega
  have HTT : Hid (TT = X.T.take 130) := hTT
  have HKK : Hid (KK = cutC X.K 130) := hKK
  have HVV : Hid (VV = cutC X.V 130) := hVV
  have HKN : Hid (kn5 = min 5 kn) := hkn5
  have HVN : Hid (vn5 = min 5 vn) := hvn5
  clear hTT hKK hVV hkn5 hvn5 hsm
  have X0 := blk_new w 27 #[.slice ta tn tc, .slice ka kn kc, .slice va vn vc]
  have B0 : Below w.heap.size w (w.alloc (.cells #[.slice ta tn tc, .slice ka kn kc, .slice va vn vc] 27)) := (Below.refl _ _).alloc (Nat.le_refl _) _
  generalize hw0 : w.alloc (.cells #[.slice ta tn tc, .slice ka kn kc, .slice va vn vc] 27) = w0 at *
  have lt0 := X0.lt
  have X1 := blk_new w0 29 #[.slice none 0 0, .slice none 0 0, .slice none 0 0]
  have B1 : Below w0.heap.size w0 (w0.alloc (.cells #[.slice none 0 0, .slice none 0 0, .slice none 0 0] 29)) := (Below.refl _ _).alloc (Nat.le_refl _) _
  generalize hw1 : w0.alloc (.cells #[.slice none 0 0, .slice none 0 0, .slice none 0 0] 29) = w1 at *
  replace X0 := X0.below B1
  have D := below_then B0 B1
  clear B0 B1
  have lt1 := X1.lt
  go_enter Tryd.func4, Tryd.ntmps4
  go_wp2_with fail
  clear hw0 hw1
  replace X0 := X0.below ((Below.refl _ _).drew)
  replace X1 := X1.below ((Below.refl _ _).drew)
  replace D := D.drew
  replace lt1 : w0.heap.size < w1.drew.heap.size := lt1
  refine wp_region_held_drew (S := fun w' => Blk w' w.heap.size 27 #[.slice ta tn tc, .slice ka kn kc, .slice va vn vc]) (by kernel_rfl) (X0) (fun hHeld => ?_)
  generalize hA : w1.drew = wA at *
  clear hA
  refine wpAnyH_take (i := 0) (v := (.pointer (some ⟨w.heap.size, 0, none⟩))) rfl (by kernel_rfl) (by kernel_rfl) (by kernel_rfl) (fun _ _ _ h => h) (Or.inl ⟨by rfl, ?_⟩) (by assumption) ?_
  · intro w' hSw
    go_simp
  simp only [List.getElem_toArray, List.getElem_cons_zero, Act.put, List.setIfInBounds_toArray, List.set_cons_zero, List.set_cons_succ]
  refine wpAnyH_take (i := 1) (v := (.slice ta tn tc)) rfl (by kernel_rfl) (by kernel_rfl) (by kernel_rfl) (fun _ _ _ h => h) (Or.inl ⟨by rfl, ?_⟩) (by assumption) ?_
  · intro w' hSw
    have cc0 : w'.cell? ⟨w.heap.size, 0, none⟩ = some (.slice ta tn tc) := hSw.cell 0 rfl
    go_simp
  simp only [List.getElem_toArray, List.getElem_cons_succ, List.getElem_cons_zero, Act.put, List.setIfInBounds_toArray, List.set_cons_zero, List.set_cons_succ]
  refine wpAnyH_take (i := 3) (v := (.pointer (some ⟨w.heap.size, 1, none⟩))) rfl (by kernel_rfl) (by kernel_rfl) (by kernel_rfl) (fun _ _ _ h => h) (Or.inl ⟨by rfl, ?_⟩) (by assumption) ?_
  · intro w' hSw
    go_simp
  simp only [List.getElem_toArray, List.getElem_cons_succ, List.getElem_cons_zero, Act.put, List.setIfInBounds_toArray, List.set_cons_zero, List.set_cons_succ]
  refine wpAnyH_take (i := 4) (v := (.pointer (some ⟨w.heap.size, 1, none⟩))) rfl (by kernel_rfl) (by kernel_rfl) (by kernel_rfl) (fun _ _ _ h => h) (Or.inl ⟨by rfl, ?_⟩) (by assumption) ?_
  · intro w' hSw
    go_simp
  simp only [List.getElem_toArray, List.getElem_cons_succ, List.getElem_cons_zero, Act.put, List.setIfInBounds_toArray, List.set_cons_zero, List.set_cons_succ]
  refine wpAnyH_take (i := 5) (v := (.slice ka kn kc)) rfl (by kernel_rfl) (by kernel_rfl) (by kernel_rfl) (fun _ _ _ h => h) (Or.inl ⟨by rfl, ?_⟩) (by assumption) ?_
  · intro w' hSw
    have cc1 : w'.cell? ⟨w.heap.size, 1, none⟩ = some (.slice ka kn kc) := hSw.cell 1 rfl
    go_simp
  simp only [List.getElem_toArray, List.getElem_cons_succ, List.getElem_cons_zero, Act.put, List.setIfInBounds_toArray, List.set_cons_zero, List.set_cons_succ]
  refine wpAnyH_take (i := 7) (v := (.pointer (some ⟨w.heap.size, 1, none⟩))) rfl (by kernel_rfl) (by kernel_rfl) (by kernel_rfl) (fun _ _ _ h => h) (Or.inl ⟨by rfl, ?_⟩) (by assumption) ?_
  · intro w' hSw
    go_simp
  simp only [List.getElem_toArray, List.getElem_cons_succ, List.getElem_cons_zero, Act.put, List.setIfInBounds_toArray, List.set_cons_zero, List.set_cons_succ]
  refine wpAnyH_take (i := 8) (v := (.pointer (some ⟨w.heap.size, 2, none⟩))) rfl (by kernel_rfl) (by kernel_rfl) (by kernel_rfl) (fun _ _ _ h => h) (Or.inl ⟨by rfl, ?_⟩) (by assumption) ?_
  · intro w' hSw
    go_simp
  simp only [List.getElem_toArray, List.getElem_cons_succ, List.getElem_cons_zero, Act.put, List.setIfInBounds_toArray, List.set_cons_zero, List.set_cons_succ]
  refine wpAnyH_take (i := 9) (v := (.slice va vn vc)) rfl (by kernel_rfl) (by kernel_rfl) (by kernel_rfl) (fun _ _ _ h => h) (Or.inl ⟨by rfl, ?_⟩) (by assumption) ?_
  · intro w' hSw
    have cc2 : w'.cell? ⟨w.heap.size, 2, none⟩ = some (.slice va vn vc) := hSw.cell 2 rfl
    go_simp
  simp only [List.getElem_toArray, List.getElem_cons_succ, List.getElem_cons_zero, Act.put, List.setIfInBounds_toArray, List.set_cons_zero, List.set_cons_succ]
  refine wpAnyH_ready (rs := [2]) (by kernel_rfl) (by simp) ?_
  refine AllReadyH.cons rfl (fun Kc hKc => ?_) AllReadyH.nil
  simp only [List.getElem_toArray, List.getElem_cons_succ, List.getElem_cons_zero]
  rw [if_pos (by rfl)]
  go_wp2_with fail
  refine (few8_gen ta tn tc X.T TT 130 _ (HT.out _ D) (by omega) HTT.out).mono ?_
  rintro e w2 ⟨tb, tc2, rfl, OT, B2⟩
  have zA2 := B2.size
  replace X0 := X0.below B2
  replace X1 := X1.below B2
  replace D := below_then D B2
  go_wp2_with fail
  refine hKc.out _ _ (X0) (fun hHeld => ?_)
  clear hKc Kc
  refine wpAnyH_ready (rs := [6]) (by kernel_rfl) (by simp) ?_
  refine AllReadyH.cons rfl (fun Kc hKc => ?_) AllReadyH.nil
  simp only [List.getElem_toArray, List.getElem_cons_succ, List.getElem_cons_zero]
  rw [if_pos (by rfl)]
  go_wp2_with fail
  refine (listsR_any ka kn kc X.K kn5 KK _ (HK.out _ D) HKN.out HKK.out).mono ?_
  rintro e w3 ⟨kg, kc2, rfl, NK, B3⟩
  replace OT := owns_below OT B3
  have z3 := B3.size
  replace X0 := X0.below B3
  replace X1 := X1.below B3
  replace D := below_then D B3
  go_wp2_with fail
  refine hKc.out _ _ (X0) (fun hHeld => ?_)
  clear hKc Kc
  refine wpAnyH_ready (rs := [10]) (by kernel_rfl) (by simp) ?_
  refine AllReadyH.cons rfl (fun Kc hKc => ?_) AllReadyH.nil
  simp only [List.getElem_toArray, List.getElem_cons_succ, List.getElem_cons_zero]
  rw [if_pos (by rfl)]
  go_wp2_with fail
  refine (listsR_any va vn vc X.V vn5 VV _ (HV.out _ D) HVN.out HVV.out).mono ?_
  rintro e w4 ⟨vg, vc2, rfl, NV, B4⟩
  replace OT := owns_below OT B4
  replace NK := NK.below B4
  replace X0 := X0.below B4
  replace X1 := X1.below B4
  replace D := below_then D B4
  go_wp2_with fail
  refine hKc.out _ _ (X0) (fun hHeld => ?_)
  clear hKc Kc
  refine wpAnyH_take (i := 11) (v := (.agg #[.slice (some ⟨tb, 0, none⟩) TT.length tc2, .slice (some ⟨kg, 0, none⟩) kn5 kc2, .slice (some ⟨vg, 0, none⟩) vn5 vc2])) rfl (by kernel_rfl) (by kernel_rfl) (by kernel_rfl) (fun _ _ _ h => h) (Or.inl ⟨by rfl, ?_⟩) (by assumption) ?_
  · intro w' hSw
    go_simp
  simp only [List.getElem_toArray, List.getElem_cons_succ, List.getElem_cons_zero, Act.put, List.setIfInBounds_toArray, List.set_cons_zero, List.set_cons_succ]
  refine wpAnyH_ready (rs := [12]) (by kernel_rfl) (by simp) ?_
  refine AllReadyH.cons rfl (fun Kc hKc => ?_) AllReadyH.nil
  simp only [List.getElem_toArray, List.getElem_cons_succ, List.getElem_cons_zero]
  rw [if_pos (by rfl)]
  have hall : Array.all (#[.slice (some ⟨tb, 0, none⟩) TT.length tc2, .slice (some ⟨kg, 0, none⟩) kn5 kc2, .slice (some ⟨vg, 0, none⟩) vn5 vc2] : Array Value) (fun v => v.oneCell') = true := by simp [Value.oneCell']
  refine wp_store_row 29 _ _ rfl w0.heap.size #[.slice (some ⟨tb, 0, none⟩) TT.length tc2, .slice (some ⟨kg, 0, none⟩) kn5 kc2, .slice (some ⟨vg, 0, none⟩) vn5 vc2] rfl rfl 29 _ X1 Tryd.infoRV rfl hall ?_
  refine hKc.out _ _ (Blk.of_block X0 (setRow_other _ _ _ _ (by omega))) (fun hHeld => ?_)
  clear hKc Kc
  refine wpAnyH_done (by kernel_rfl) ?_ _
  clear hHeld
  go_wp2
  refine bodyPost_ret (results_cell_row rfl _ _ w0.heap.size 29 _ _ _ rfl (X1.row _) Tryd.underlying29 rfl Tryd.infoRV) rfl ?_
  have so : ∀ (b : Nat) (x : Array Value), b ≠ w0.heap.size → (w4.setRow w0.heap.size x).heap[b]? = w4.heap[b]? := fun b x hb => setRow_other _ _ _ _ hb
  obtain ⟨x1, y1, e1, IT⟩ := IOwn.arg (A := TT) (owns_mono OT (Nat.le_refl _) (fun b hb => so b #[.slice (some ⟨tb, 0, none⟩) TT.length tc2, .slice (some ⟨kg, 0, none⟩) kn5 kc2, .slice (some ⟨vg, 0, none⟩) vn5 vc2] (by have := (OT.lt b hb).1; omega))) hsm2.out
  simp only [Value.slice.injEq, true_and] at e1
  obtain ⟨rfl, rfl⟩ := e1
  have q1 := (Hangs.row NK (g := w0.heap.size) (by show ¬ (_ ≤ _); omega) #[.slice (some ⟨tb, 0, none⟩) TT.length tc2, .slice (some ⟨kg, 0, none⟩) kn5 kc2, .slice (some ⟨vg, 0, none⟩) vn5 vc2]).now
  have q2 := (Hangs.row NV (g := w0.heap.size) (by show ¬ (_ ≤ _); omega) #[.slice (some ⟨tb, 0, none⟩) TT.length tc2, .slice (some ⟨kg, 0, none⟩) kn5 kc2, .slice (some ⟨vg, 0, none⟩) vn5 vc2]).now
  have E1 := HTT.out
  have E2 := HKK.out
  have E3 := HVV.out
  subst E1 E2 E3
  exact ⟨⟨some ⟨tb, 0, none⟩, _, tc2⟩, ⟨some ⟨kg, 0, none⟩, kn5, kc2⟩, ⟨some ⟨vg, 0, none⟩, vn5, vc2⟩, rfl, ⟨IT, q1, q2⟩, below_setRow D (by omega) _⟩
set_option maxRecDepth 100000 in
set_option maxHeartbeats 800000 in
theorem of9_gen (vv : VwV) (X : Vw) (w : World) (hv : VwR w vv X) :
   Calls Tryd.prog 8 #[.agg vv.cells] w fun e w' => ∃ v2 : VwV, e = .returned (.agg v2.cells) ∧ VwAt w' v2 (cutVw X) ∧ Below w.heap.size w w' := by
  have hsm := hv.t.row.small
  have HT : Hid (∀ wv, Below w.heap.size w wv → IArg wv vv.t.ao vv.t.n vv.t.c X.T) := fun wv hb => hv.t.below hb
  have HK : Hid (∀ wv, Below w.heap.size w wv → CubeR wv vv.k.ao vv.k.n X.K) := fun wv hb => hv.k.below hb
  have HV : Hid (∀ wv, Below w.heap.size w wv → CubeR wv vv.v.ao vv.v.n X.V) := fun wv hb => hv.v.below hb
  clear hv
  obtain ⟨⟨ta, tn, tc⟩, ⟨ka, kn, kc⟩, ⟨va, vn, vc⟩⟩ := vv
  unfold VwV.cells Sl.v
  simp only at *
  obtain ⟨TT, hTT⟩ : ∃ TT, TT = X.T.take 130 := ⟨_, rfl⟩
  obtain ⟨KK, hKK⟩ : ∃ KK, KK = cutC X.K 130 := ⟨_, rfl⟩
  obtain ⟨VV, hVV⟩ : ∃ VV, VV = cutC X.V 130 := ⟨_, rfl⟩
  obtain ⟨kn5, hkn5⟩ : ∃ m, m = min 5 kn := ⟨_, rfl⟩
  obtain ⟨vn5, hvn5⟩ : ∃ m, m = min 5 vn := ⟨_, rfl⟩
  have hsm2 : Hid (∀ k, -9223372036854775808 ≤ el TT k ∧ el TT k ≤ 9223372036854775807) := by
    intro k
    subst hTT
    rcases Nat.lt_or_ge k 130 with h | h
    · rw [el_take h]; exact hsm k
    · rw [el_over (by rw [List.length_take]; omega)]; omega
  have HTT : Hid (TT = X.T.take 130) := hTT
  have HKK : Hid (KK = cutC X.K 130) := hKK
  have HVV : Hid (VV = cutC X.V 130) := hVV
  have HKN : Hid (kn5 = min 5 kn) := hkn5
  have HVN : Hid (vn5 = min 5 vn) := hvn5
  clear hTT hKK hVV hkn5 hvn5 hsm
  have X0 := blk_new w 29 #[.slice ta tn tc, .slice ka kn kc, .slice va vn vc]
  have B0 : Below w.heap.size w (w.alloc (.cells #[.slice ta tn tc, .slice ka kn kc, .slice va vn vc] 29)) := (Below.refl _ _).alloc (Nat.le_refl _) _
  generalize hw0 : w.alloc (.cells #[.slice ta tn tc, .slice ka kn kc, .slice va vn vc] 29) = w0 at *
  have lt0 := X0.lt
  have X1 := blk_new w0 27 #[.slice none 0 0, .slice none 0 0, .slice none 0 0]
  have B1 : Below w0.heap.size w0 (w0.alloc (.cells #[.slice none 0 0, .slice none 0 0, .slice none 0 0] 27)) := (Below.refl _ _).alloc (Nat.le_refl _) _
  generalize hw1 : w0.alloc (.cells #[.slice none 0 0, .slice none 0 0, .slice none 0 0] 27) = w1 at *
  replace X0 := X0.below B1
  have D := below_then B0 B1
  clear B0 B1
  have lt1 := X1.lt
  go_enter Tryd.func8, Tryd.ntmps8
  go_wp2_with fail
  clear hw0 hw1
  replace X0 := X0.below ((Below.refl _ _).drew)
  replace X1 := X1.below ((Below.refl _ _).drew)
  replace D := D.drew
  replace lt1 : w0.heap.size < w1.drew.heap.size := lt1
  refine wp_region_held_drew (S := fun w' => Blk w' w.heap.size 29 #[.slice ta tn tc, .slice ka kn kc, .slice va vn vc]) (by kernel_rfl) (X0) (fun hHeld => ?_)
  generalize hA : w1.drew = wA at *
  clear hA
  refine wpAnyH_take (i := 0) (v := (.pointer (some ⟨w.heap.size, 0, none⟩))) rfl (by kernel_rfl) (by kernel_rfl) (by kernel_rfl) (fun _ _ _ h => h) (Or.inl ⟨by rfl, ?_⟩) (by assumption) ?_
  · intro w' hSw
    go_simp
  simp only [List.getElem_toArray, List.getElem_cons_zero, Act.put, List.setIfInBounds_toArray, List.set_cons_zero, List.set_cons_succ]
  refine wpAnyH_take (i := 1) (v := (.slice ta tn tc)) rfl (by kernel_rfl) (by kernel_rfl) (by kernel_rfl) (fun _ _ _ h => h) (Or.inl ⟨by rfl, ?_⟩) (by assumption) ?_
  · intro w' hSw
    have cc0 : w'.cell? ⟨w.heap.size, 0, none⟩ = some (.slice ta tn tc) := hSw.cell 0 rfl
    go_simp
  simp only [List.getElem_toArray, List.getElem_cons_succ, List.getElem_cons_zero, Act.put, List.setIfInBounds_toArray, List.set_cons_zero, List.set_cons_succ]
  refine wpAnyH_take (i := 3) (v := (.pointer (some ⟨w.heap.size, 1, none⟩))) rfl (by kernel_rfl) (by kernel_rfl) (by kernel_rfl) (fun _ _ _ h => h) (Or.inl ⟨by rfl, ?_⟩) (by assumption) ?_
  · intro w' hSw
    go_simp
  simp only [List.getElem_toArray, List.getElem_cons_succ, List.getElem_cons_zero, Act.put, List.setIfInBounds_toArray, List.set_cons_zero, List.set_cons_succ]
  refine wpAnyH_take (i := 4) (v := (.slice ka kn kc)) rfl (by kernel_rfl) (by kernel_rfl) (by kernel_rfl) (fun _ _ _ h => h) (Or.inl ⟨by rfl, ?_⟩) (by assumption) ?_
  · intro w' hSw
    have cc1 : w'.cell? ⟨w.heap.size, 1, none⟩ = some (.slice ka kn kc) := hSw.cell 1 rfl
    go_simp
  simp only [List.getElem_toArray, List.getElem_cons_succ, List.getElem_cons_zero, Act.put, List.setIfInBounds_toArray, List.set_cons_zero, List.set_cons_succ]
  refine wpAnyH_take (i := 6) (v := (.pointer (some ⟨w.heap.size, 2, none⟩))) rfl (by kernel_rfl) (by kernel_rfl) (by kernel_rfl) (fun _ _ _ h => h) (Or.inl ⟨by rfl, ?_⟩) (by assumption) ?_
  · intro w' hSw
    go_simp
  simp only [List.getElem_toArray, List.getElem_cons_succ, List.getElem_cons_zero, Act.put, List.setIfInBounds_toArray, List.set_cons_zero, List.set_cons_succ]
  refine wpAnyH_take (i := 7) (v := (.slice va vn vc)) rfl (by kernel_rfl) (by kernel_rfl) (by kernel_rfl) (fun _ _ _ h => h) (Or.inl ⟨by rfl, ?_⟩) (by assumption) ?_
  · intro w' hSw
    have cc2 : w'.cell? ⟨w.heap.size, 2, none⟩ = some (.slice va vn vc) := hSw.cell 2 rfl
    go_simp
  simp only [List.getElem_toArray, List.getElem_cons_succ, List.getElem_cons_zero, Act.put, List.setIfInBounds_toArray, List.set_cons_zero, List.set_cons_succ]
  refine wpAnyH_ready (rs := [2]) (by kernel_rfl) (by simp) ?_
  refine AllReadyH.cons rfl (fun Kc hKc => ?_) AllReadyH.nil
  simp only [List.getElem_toArray, List.getElem_cons_succ, List.getElem_cons_zero]
  rw [if_pos (by rfl)]
  go_wp2_with fail
  refine (few8_gen ta tn tc X.T TT 130 _ (HT.out _ D) (by omega) HTT.out).mono ?_
  rintro e w2 ⟨tb, tc2, rfl, OT, B2⟩
  have zA2 := B2.size
  replace X0 := X0.below B2
  replace X1 := X1.below B2
  replace D := below_then D B2
  go_wp2_with fail
  refine hKc.out _ _ (X0) (fun hHeld => ?_)
  clear hKc Kc
  refine wpAnyH_ready (rs := [5]) (by kernel_rfl) (by simp) ?_
  refine AllReadyH.cons rfl (fun Kc hKc => ?_) AllReadyH.nil
  simp only [List.getElem_toArray, List.getElem_cons_succ, List.getElem_cons_zero]
  rw [if_pos (by rfl)]
  go_wp2_with fail
  refine (listsR_any ka kn kc X.K kn5 KK _ (HK.out _ D) HKN.out HKK.out).mono ?_
  rintro e w3 ⟨kg, kc2, rfl, NK, B3⟩
  replace OT := owns_below OT B3
  have z3 := B3.size
  replace X0 := X0.below B3
  replace X1 := X1.below B3
  replace D := below_then D B3
  go_wp2_with fail
  refine hKc.out _ _ (X0) (fun hHeld => ?_)
  clear hKc Kc
  refine wpAnyH_ready (rs := [8]) (by kernel_rfl) (by simp) ?_
  refine AllReadyH.cons rfl (fun Kc hKc => ?_) AllReadyH.nil
  simp only [List.getElem_toArray, List.getElem_cons_succ, List.getElem_cons_zero]
  rw [if_pos (by rfl)]
  go_wp2_with fail
  refine (listsR_any va vn vc X.V vn5 VV _ (HV.out _ D) HVN.out HVV.out).mono ?_
  rintro e w4 ⟨vg, vc2, rfl, NV, B4⟩
  replace OT := owns_below OT B4
  replace NK := NK.below B4
  replace X0 := X0.below B4
  replace X1 := X1.below B4
  replace D := below_then D B4
  go_wp2_with fail
  refine hKc.out _ _ (X0) (fun hHeld => ?_)
  clear hKc Kc
  refine wpAnyH_take (i := 9) (v := (.agg #[.slice (some ⟨kg, 0, none⟩) kn5 kc2, .slice (some ⟨vg, 0, none⟩) vn5 vc2])) rfl (by kernel_rfl) (by kernel_rfl) (by kernel_rfl) (fun _ _ _ h => h) (Or.inl ⟨by rfl, ?_⟩) (by assumption) ?_
  · intro w' hSw
    go_simp
  simp only [List.getElem_toArray, List.getElem_cons_succ, List.getElem_cons_zero, Act.put, List.setIfInBounds_toArray, List.set_cons_zero, List.set_cons_succ]
  refine wpAnyH_take (i := 10) (v := (.agg #[.slice (some ⟨tb, 0, none⟩) TT.length tc2, .slice (some ⟨kg, 0, none⟩) kn5 kc2, .slice (some ⟨vg, 0, none⟩) vn5 vc2])) rfl (by kernel_rfl) (by kernel_rfl) (by kernel_rfl) (fun _ _ _ h => h) (Or.inl ⟨by rfl, ?_⟩) (by assumption) ?_
  · intro w' hSw
    go_simp
  simp only [List.getElem_toArray, List.getElem_cons_succ, List.getElem_cons_zero, Act.put, List.setIfInBounds_toArray, List.set_cons_zero, List.set_cons_succ]
  refine wpAnyH_ready (rs := [11]) (by kernel_rfl) (by simp) ?_
  refine AllReadyH.cons rfl (fun Kc hKc => ?_) AllReadyH.nil
  simp only [List.getElem_toArray, List.getElem_cons_succ, List.getElem_cons_zero]
  rw [if_pos (by rfl)]
  have hall : Array.all (#[.slice (some ⟨tb, 0, none⟩) TT.length tc2, .slice (some ⟨kg, 0, none⟩) kn5 kc2, .slice (some ⟨vg, 0, none⟩) vn5 vc2] : Array Value) (fun v => v.oneCell') = true := by simp [Value.oneCell']
  refine wp_store_row 27 _ _ rfl w0.heap.size #[.slice (some ⟨tb, 0, none⟩) TT.length tc2, .slice (some ⟨kg, 0, none⟩) kn5 kc2, .slice (some ⟨vg, 0, none⟩) vn5 vc2] rfl rfl 27 _ X1 Tryd.infoV rfl hall ?_
  refine hKc.out _ _ (Blk.of_block X0 (setRow_other _ _ _ _ (by omega))) (fun hHeld => ?_)
  clear hKc Kc
  refine wpAnyH_done (by kernel_rfl) ?_ _
  clear hHeld
  go_wp2
  refine bodyPost_ret (results_cell_row rfl _ _ w0.heap.size 27 _ _ _ rfl (X1.row _) Tryd.underlying27 rfl Tryd.infoV) rfl ?_
  have so : ∀ (b : Nat) (x : Array Value), b ≠ w0.heap.size → (w4.setRow w0.heap.size x).heap[b]? = w4.heap[b]? := fun b x hb => setRow_other _ _ _ _ hb
  obtain ⟨x1, y1, e1, IT⟩ := IOwn.arg (A := TT) (owns_mono OT (Nat.le_refl _) (fun b hb => so b #[.slice (some ⟨tb, 0, none⟩) TT.length tc2, .slice (some ⟨kg, 0, none⟩) kn5 kc2, .slice (some ⟨vg, 0, none⟩) vn5 vc2] (by have := (OT.lt b hb).1; omega))) hsm2.out
  simp only [Value.slice.injEq, true_and] at e1
  obtain ⟨rfl, rfl⟩ := e1
  have q1 := (Hangs.row NK (g := w0.heap.size) (by show ¬ (_ ≤ _); omega) #[.slice (some ⟨tb, 0, none⟩) TT.length tc2, .slice (some ⟨kg, 0, none⟩) kn5 kc2, .slice (some ⟨vg, 0, none⟩) vn5 vc2]).now
  have q2 := (Hangs.row NV (g := w0.heap.size) (by show ¬ (_ ≤ _); omega) #[.slice (some ⟨tb, 0, none⟩) TT.length tc2, .slice (some ⟨kg, 0, none⟩) kn5 kc2, .slice (some ⟨vg, 0, none⟩) vn5 vc2]).now
  have E1 := HTT.out
  have E2 := HKK.out
  have E3 := HVV.out
  subst E1 E2 E3
  exact ⟨⟨⟨some ⟨tb, 0, none⟩, _, tc2⟩, ⟨some ⟨kg, 0, none⟩, kn5, kc2⟩, ⟨some ⟨vg, 0, none⟩, vn5, vc2⟩⟩, rfl, ⟨IT, q1, q2⟩, below_setRow D (by omega) _⟩
theorem ToldAt.raw {w : World} {t k v : Sl} {X : Vw} (h : ToldAt w t k v X) : VwR w ⟨t, k, v⟩ X := ⟨h.t, h.k.raw, h.v.raw⟩
theorem of9_any (t k v : Sl) (X : Vw) (w : World) (h : ToldAt w t k v X) (hX : cutVw X = X) :
   Calls Tryd.prog 8 #[.agg #[t.v, k.v, v.v]] w fun e w' => ∃ v2 : VwV, e = .returned (.agg v2.cells) ∧ VwAt w' v2 X ∧ Below w.heap.size w w' := by
  have := of9_gen ⟨t, k, v⟩ X w h.raw
  rw [hX] at this
  exact this
theorem KV.cubeR {w : World} {g m : Nat} {p : Nat → Prop} {A C : List (List (List Int))} (h : KV w g m 0 p A C) (hl : C.length = m) (hm : m ≤ 9223372036854775807) (hr : ∀ R ∈ C, R.length ≤ 4096) : CubeAt w (some ⟨g, 0, none⟩) m C := by
  obtain ⟨cs, h1, h2, _, h4⟩ := h.row
  refine ⟨hl, hm, fun _ => ⟨g, 0, rfl, fun t R hR => ?_⟩⟩
  have ht : t < m := by have := (List.getElem?_eq_some_iff.1 hR).1; omega
  obtain ⟨ro, n, vs, e, q1, N⟩ := h4 t (by omega) ht
  have e2 : C.getD t [] = R := by rw [List.getD_eq_getElem?_getD, hR]; rfl
  rw [e2] at N
  have G := N.now.grid
  have hl2 := hr R (List.mem_of_getElem? hR)
  have hn := G.len
  refine ⟨ro, n, n, ?_, q1, Nat.le_refl _, by omega, G⟩
  rw [Nat.zero_add]
  unfold World.cell?
  simp only [h1]
  exact e
theorem cutVw_bounds {X : Vw} (hX : cutVw X = X) : X.T.length ≤ 130 ∧ X.K.length ≤ 5 ∧ X.V.length ≤ 5 ∧ (∀ R ∈ X.K, R.length ≤ 130 ∧ (∀ t, (rowOf R t).length ≤ 40) ∧ rowsN R 130 = R) ∧ ∀ R ∈ X.V, R.length ≤ 130 ∧ (∀ t, (rowOf R t).length ≤ 40) ∧ rowsN R 130 = R := by
  have h1 : X.T.take 130 = X.T := congrArg Vw.T hX
  have h2 : cutC X.K 130 = X.K := congrArg Vw.K hX
  have h3 : cutC X.V 130 = X.V := congrArg Vw.V hX
  refine ⟨by rw [← h1, List.length_take]; omega, by rw [← h2]; exact cutC_at_most _ _, by rw [← h3]; exact cutC_at_most _ _, fun R hR => cutC_mem (by rw [h2]; exact hR), fun R hR => cutC_mem (by rw [h3]; exact hR)⟩
/-- Copy of any view that was cut. -/
theorem scopyR_any (v : VwV) (X : Vw) (w : World) (hv : VwAt w v X) (hX : cutVw X = X) :
   Calls Tryd.prog 7 #[.agg v.cells] w fun e w' => ∃ v2 : VwV, e = .returned (.agg v2.cells) ∧ VwAt w' v2 X ∧ Below w.heap.size w w' := by
  obtain ⟨h1, h2, h3, h4, h5⟩ := cutVw_bounds hX
  refine (scopy_any v X [] [] w hv (by omega) (by omega) (by omega) (fun R hR => ⟨by have := (h4 R hR).1; omega, fun t ht => by have := (h4 R hR).2.1 t; omega⟩) (fun R hR => ⟨by have := (h5 R hR).1; omega, fun t ht => by have := (h5 R hR).2.1 t; omega⟩)).mono ?_
  rintro e w' ⟨tv, gk, gv, rfl, O, K1, K2, _, _, _, B⟩
  obtain ⟨ao, c, rfl, A⟩ := IOwn.arg O hv.t.row.small
  exact ⟨⟨⟨ao, X.T.length, c⟩, ⟨some ⟨gk, 0, none⟩, X.K.length, X.K.length⟩, ⟨some ⟨gv, 0, none⟩, X.V.length, X.V.length⟩⟩, rfl, ⟨A, K1.cubeR rfl (by omega) (fun R hR => by have := (h4 R hR).1; omega), K2.cubeR rfl (by omega) (fun R hR => by have := (h5 R hR).1; omega)⟩, B⟩
/-- Told of a view that was cut: the same again. -/
theorem told9C_any (vv : VwV) (X : Vw) (w : World) (hv : VwAt w vv X) (hX : cutVw X = X) :
   Calls Tryd.prog 4 #[.agg vv.cells] w fun e w' => ∃ t k v : Sl, e = .returned (.agg #[t.v, k.v, v.v]) ∧ ToldAt w' t k v X ∧ Below w.heap.size w w' := by
  have := told9R_any vv X w hv.raw
  rw [hX] at this
  exact this
end Go.Proofs.YtmdjlaileakbeaaDoor

/- Cut of any view. -/
namespace Go.Proofs.YtmdjlaileakbeaaDoor
open Go.ChangeShapes Go.WideShapes Go.ChangeAt Go.RowKit
set_option maxHeartbeats 800000 in
theorem firstRowsR_any (ao : Option Addr) (m ca n : Nat) (C : List (List (List Int))) (w : World) (hC : CubeAt w ao m C) (hm : m ≤ 4096) (hn : 1 ≤ n) (hn4 : n ≤ 4096) (hl : ∀ R ∈ C, R.length ≤ 4096 ∧ ∀ t, (rowOf R t).length ≤ 1048576) :
   Calls Tryd.prog 20 #[.slice ao m ca, .int .i64 (n : Int)] w fun e w' => e = .returned (.slice (some ⟨w.heap.size, 0, none⟩) m m) ∧ Lists w' w.heap.size m m (C.map (List.take n)) ∧ Below w.heap.size w w' := by
  have hmk := run_make_row' (P := Tryd.prog) 23 60 (.slice none 0 0) 24 Tryd.underlying23 Tryd.infoList rfl .i64 .i64 m (by omega) (by omega)
  have F0 := lists_made w m (C.map (List.take n))
  have B0 : Below w.heap.size w (w.alloc (.cells (madeCells #[.slice none 0 0] m) 60)) := (Below.refl _ _).alloc (Nat.le_refl _) _
  go_enter Tryd.func20, Tryd.ntmps20
  go_wp2
  clear hmk
  generalize w.alloc (.cells (madeCells #[.slice none 0 0] m) 60) = w0 at *
  go_loopg [13] m (fun r i wr => ∃ k : Nat, k ≤ m ∧ r = m - k ∧ i = .int .i64 k ∧ Lists wr w.heap.size m k (C.map (List.take n)) ∧ Below w.heap.size w wr)
  case atStart => exact ⟨0, by omega, by omega, rfl, F0, B0⟩
  case round =>
    obtain ⟨k, hk, rfl, rfl, F1, B1⟩ := hrel
    clear F0 B0
    by_cases hlt : k < m
    · obtain ⟨b, o, rfl, hc⟩ := (hC.below B1).cells (by omega)
      have hR : C[k]? = some (C[k]'(by rw [hC.len]; exact hlt)) := List.getElem?_eq_getElem _
      have hmem : C[k]'(by rw [hC.len]; exact hlt) ∈ C := List.getElem_mem _
      generalize C[k]'(by rw [hC.len]; exact hlt) = R at hR hmem
      obtain ⟨ro, rn, c, h1, h2, h3, h4, G1⟩ := hc k R hR
      clear hc
      obtain ⟨q1, q2⟩ := hl R hmem
      rw [G1.len] at q1
      have hRt : (C.map (List.take n))[k]? = some (R.take n) := by rw [List.getElem?_map, hR]; rfl
      have hlR := G1.len
      by_cases hnr : n ≤ rn
      · obtain ⟨b1, o1, rfl, _⟩ := G1.cells (by omega)
        have G2 := G1.take hnr
        have hmin : ¬ (rn : Int) < (n : Int) := by omega
        clear hR hmem G1 h2 hlR
        go_wp2_with fail
        refine (copyRows_any (some ⟨b1, o1, none⟩) n c (R.take n) wr G2 hn4 (fun t ht => by rw [rowOf_take9 ht]; exact q2 t)).mono ?_
        rintro e w2 ⟨g, vs, rfl, N2, B2⟩
        have s1 := F1.lt
        have F2 := (F1.below B2)
        have F3 := F2.step hlt hRt (fun h => by cases h) (N2.mono (by omega))
        have ff := F2.frozen k
        obtain ⟨v, hv⟩ := F2.cell hlt
        have B3 := below_then B1 B2
        clear N2 F1 hRt h3 h4 G2 hmin
        go_wp2
        go_roundg (m - (k + 1))
        case measure => omega
        case rel => exact ⟨k + 1, by omega, rfl, by go_num, F3, B3.setCell (Nat.le_refl _) _⟩
      · have hmin : (rn : Int) < (n : Int) := by omega
        rw [List.take_of_length_le (by omega)] at hRt
        have key : ∀ (ro : Option Addr), GridAt wr ro rn R → Calls Tryd.prog 35 #[.slice ro rn c] wr fun e w' => ∃ g vs, e = .returned (.slice (some ⟨g, 0, none⟩) rn rn) ∧ New wr.heap.size w' (fun w => GridV w (some ⟨g, 0, none⟩) rn vs R) ∧ Below wr.heap.size wr w' := fun ro G => copyRows_any ro rn c R wr G q1 (fun t _ => q2 t)
        cases ro with
        | none =>
          have hc0 := h2 rfl
          subst hc0
          have hr0 : rn = 0 := by omega
          subst hr0
          have K1 := key none G1
          clear hR hmem G1 h2 hlR key
          go_wp2_with fail
          refine K1.mono ?_
          rintro e w2 ⟨g, vs, rfl, N2, B2⟩
          have s1 := F1.lt
          have F2 := (F1.below B2)
          have F3 := F2.step hlt hRt (fun h => by cases h) (N2.mono (by omega))
          have ff := F2.frozen k
          obtain ⟨v, hv⟩ := F2.cell hlt
          have B3 := below_then B1 B2
          clear N2 F1 hRt h3 h4 hmin K1
          go_wp2
          go_roundg (m - (k + 1))
          case measure => omega
          case rel => exact ⟨k + 1, by omega, rfl, by go_num, F3, B3.setCell (Nat.le_refl _) _⟩
        | some ad =>
          have K1 := key (some ad) G1
          clear hR hmem G1 h2 hlR key
          go_wp2_with fail
          refine K1.mono ?_
          rintro e w2 ⟨g, vs, rfl, N2, B2⟩
          have s1 := F1.lt
          have F2 := (F1.below B2)
          have F3 := F2.step hlt hRt (fun h => by cases h) (N2.mono (by omega))
          have ff := F2.frozen k
          obtain ⟨v, hv⟩ := F2.cell hlt
          have B3 := below_then B1 B2
          clear N2 F1 hRt h3 h4 hmin K1
          go_wp2
          go_roundg (m - (k + 1))
          case measure => omega
          case rel => exact ⟨k + 1, by omega, rfl, by go_num, F3, B3.setCell (Nat.le_refl _) _⟩
    · obtain rfl : k = m := by omega
      go_wp2
      go_ret
      exact ⟨rfl, F1, B1⟩
set_option maxRecDepth 100000 in
set_option maxHeartbeats 800000 in
theorem scutR_le (vv : VwV) (X : Vw) (n : Nat) (w : World) (hv : VwAt w vv X) (hn1 : 1 ≤ n) (hnt : n ≤ X.T.length) (hT : X.T.length ≤ 4096) (hK : X.K.length ≤ 4096) (hV : X.V.length ≤ 4096) (hrk : ∀ R ∈ X.K, R.length ≤ 4096 ∧ ∀ t, (rowOf R t).length ≤ 1048576) (hrv : ∀ R ∈ X.V, R.length ≤ 4096 ∧ ∀ t, (rowOf R t).length ≤ 1048576) :
   Calls Tryd.prog 9 #[.agg vv.cells, .int .i64 (n : Int)] w fun e w' => ∃ v2 : VwV, e = .returned (.agg v2.cells) ∧ New w.heap.size w' (fun w => VwAt w v2 (cutV X n)) ∧ Below w.heap.size w w' := by
  have lt := hv.t.row.len
  have lk := hv.k.len
  have lv := hv.v.len
  have HT : Hid (∀ wv, Below w.heap.size w wv → IArg wv vv.t.ao vv.t.n vv.t.c X.T) := fun wv hb => hv.t.below hb
  have HK : Hid (∀ wv, Below w.heap.size w wv → CubeAt wv vv.k.ao vv.k.n X.K) := fun wv hb => hv.k.below hb
  have HV : Hid (∀ wv, Below w.heap.size w wv → CubeAt wv vv.v.ao vv.v.n X.V) := fun wv hb => hv.v.below hb
  have fit := hv.t.fit
  have mx := hv.t.max
  obtain ⟨tb, tq, hto, -⟩ := hv.t.row.cells (by omega)
  clear hv
  obtain ⟨⟨ta, tn, tc⟩, ⟨ka, kn, kc⟩, ⟨va, vn, vc⟩⟩ := vv
  unfold VwV.cells Sl.v
  simp only at *
  subst hto
  have lt' : tn ≤ 4096 := by omega
  have lk' : kn ≤ 4096 := by omega
  have lv' : vn ≤ 4096 := by omega
  have lk3 : (X.K.map (List.take n)).length = kn := by rw [List.length_map]; exact lk
  have lv3 : (X.V.map (List.take n)).length = vn := by rw [List.length_map]; exact lv
  rw [lt] at hnt hT
  clear lt lk lv hK hV
  have h0 : ¬ (n : Int) < 0 := by omega
  have h0' : ¬ (n : Int) = 0 := by omega
  have h0b : ((n : Int) == 0) = false := by simpa using h0'
  have hmn : ¬ (tn : Int) < (n : Int) := by omega
  have X0 := blk_new w 27 #[.slice (some ⟨tb, tq, none⟩) tn tc, .slice ka kn kc, .slice va vn vc]
  have B0 : Below w.heap.size w (w.alloc (.cells #[.slice (some ⟨tb, tq, none⟩) tn tc, .slice ka kn kc, .slice va vn vc] 27)) := (Below.refl _ _).alloc (Nat.le_refl _) _
  generalize hw0 : w.alloc (.cells #[.slice (some ⟨tb, tq, none⟩) tn tc, .slice ka kn kc, .slice va vn vc] 27) = w0 at *
  have lt0 := X0.lt
  have X1 := blk_new w0 27 #[.slice none 0 0, .slice none 0 0, .slice none 0 0]
  have B1 : Below w0.heap.size w0 (w0.alloc (.cells #[.slice none 0 0, .slice none 0 0, .slice none 0 0] 27)) := (Below.refl _ _).alloc (Nat.le_refl _) _
  generalize hw1 : w0.alloc (.cells #[.slice none 0 0, .slice none 0 0, .slice none 0 0] 27) = w1 at *
  replace X0 := X0.below B1
  have D := below_then B0 B1
  clear B0 B1
  have lt1 := X1.lt
  have a0 : w1.cell? ⟨w.heap.size, 0, none⟩ = some (.slice (some ⟨tb, tq, none⟩) tn tc) := X0.cell 0 rfl
  go_enter Tryd.func9, Tryd.ntmps9
  go_wp2_with fail
  clear hw0 hw1 a0
  replace X0 := X0.below ((Below.refl _ _).drew)
  replace X1 := X1.below ((Below.refl _ _).drew)
  replace D := D.drew
  replace lt1 : w0.heap.size < w1.drew.heap.size := lt1
  refine wp_region_held_drew (S := fun w' => Blk w' w.heap.size 27 #[.slice (some ⟨tb, tq, none⟩) tn tc, .slice ka kn kc, .slice va vn vc]) (by kernel_rfl) (X0) (fun hHeld => ?_)
  generalize hA : w1.drew = wA at *
  clear hA
  refine wpAnyH_take (i := 0) (v := (.pointer (some ⟨w.heap.size, 0, none⟩))) rfl (by kernel_rfl) (by kernel_rfl) (by kernel_rfl) (fun _ _ _ h => h) (Or.inl ⟨by rfl, ?_⟩) (by assumption) ?_
  · intro w' hSw
    go_simp
  simp only [List.getElem_toArray, List.getElem_cons_zero, Act.put, List.setIfInBounds_toArray, List.set_cons_zero, List.set_cons_succ]
  refine wpAnyH_take (i := 1) (v := (.slice (some ⟨tb, tq, none⟩) tn tc)) rfl (by kernel_rfl) (by kernel_rfl) (by kernel_rfl) (fun _ _ _ h => h) (Or.inl ⟨by rfl, ?_⟩) (by assumption) ?_
  · intro w' hSw
    have cc0 : w'.cell? ⟨w.heap.size, 0, none⟩ = some (.slice (some ⟨tb, tq, none⟩) tn tc) := hSw.cell 0 rfl
    go_simp
  simp only [List.getElem_toArray, List.getElem_cons_succ, List.getElem_cons_zero, Act.put, List.setIfInBounds_toArray, List.set_cons_zero, List.set_cons_succ]
  refine wpAnyH_take (i := 2) (v := (.int .i64 (n : Int))) rfl (by kernel_rfl) (by kernel_rfl) (by kernel_rfl) (fun _ _ _ h => h) (Or.inl ⟨by rfl, ?_⟩) (by assumption) ?_
  · intro w' hSw
    go_simp
  simp only [List.getElem_toArray, List.getElem_cons_succ, List.getElem_cons_zero, Act.put, List.setIfInBounds_toArray, List.set_cons_zero, List.set_cons_succ]
  refine wpAnyH_take (i := 3) (v := (.slice (some ⟨tb, tq, none⟩) n tc)) rfl (by kernel_rfl) (by kernel_rfl) (by kernel_rfl) (fun _ _ _ h => h) (Or.inl ⟨by rfl, ?_⟩) (by assumption) ?_
  · intro w' hSw
    (go_simp; intro hbad; exfalso; omega)
  simp only [List.getElem_toArray, List.getElem_cons_succ, List.getElem_cons_zero, Act.put, List.setIfInBounds_toArray, List.set_cons_zero, List.set_cons_succ]
  refine wpAnyH_take (i := 5) (v := (.pointer (some ⟨w.heap.size, 1, none⟩))) rfl (by kernel_rfl) (by kernel_rfl) (by kernel_rfl) (fun _ _ _ h => h) (Or.inl ⟨by rfl, ?_⟩) (by assumption) ?_
  · intro w' hSw
    go_simp
  simp only [List.getElem_toArray, List.getElem_cons_succ, List.getElem_cons_zero, Act.put, List.setIfInBounds_toArray, List.set_cons_zero, List.set_cons_succ]
  refine wpAnyH_take (i := 6) (v := (.pointer (some ⟨w.heap.size, 1, none⟩))) rfl (by kernel_rfl) (by kernel_rfl) (by kernel_rfl) (fun _ _ _ h => h) (Or.inl ⟨by rfl, ?_⟩) (by assumption) ?_
  · intro w' hSw
    go_simp
  simp only [List.getElem_toArray, List.getElem_cons_succ, List.getElem_cons_zero, Act.put, List.setIfInBounds_toArray, List.set_cons_zero, List.set_cons_succ]
  refine wpAnyH_take (i := 7) (v := (.slice ka kn kc)) rfl (by kernel_rfl) (by kernel_rfl) (by kernel_rfl) (fun _ _ _ h => h) (Or.inl ⟨by rfl, ?_⟩) (by assumption) ?_
  · intro w' hSw
    have cc1 : w'.cell? ⟨w.heap.size, 1, none⟩ = some (.slice ka kn kc) := hSw.cell 1 rfl
    go_simp
  simp only [List.getElem_toArray, List.getElem_cons_succ, List.getElem_cons_zero, Act.put, List.setIfInBounds_toArray, List.set_cons_zero, List.set_cons_succ]
  refine wpAnyH_take (i := 8) (v := (.int .i64 (n : Int))) rfl (by kernel_rfl) (by kernel_rfl) (by kernel_rfl) (fun _ _ _ h => h) (Or.inl ⟨by rfl, ?_⟩) (by assumption) ?_
  · intro w' hSw
    go_simp
  simp only [List.getElem_toArray, List.getElem_cons_succ, List.getElem_cons_zero, Act.put, List.setIfInBounds_toArray, List.set_cons_zero, List.set_cons_succ]
  refine wpAnyH_take (i := 10) (v := (.pointer (some ⟨w.heap.size, 1, none⟩))) rfl (by kernel_rfl) (by kernel_rfl) (by kernel_rfl) (fun _ _ _ h => h) (Or.inl ⟨by rfl, ?_⟩) (by assumption) ?_
  · intro w' hSw
    go_simp
  simp only [List.getElem_toArray, List.getElem_cons_succ, List.getElem_cons_zero, Act.put, List.setIfInBounds_toArray, List.set_cons_zero, List.set_cons_succ]
  refine wpAnyH_take (i := 11) (v := (.pointer (some ⟨w.heap.size, 2, none⟩))) rfl (by kernel_rfl) (by kernel_rfl) (by kernel_rfl) (fun _ _ _ h => h) (Or.inl ⟨by rfl, ?_⟩) (by assumption) ?_
  · intro w' hSw
    go_simp
  simp only [List.getElem_toArray, List.getElem_cons_succ, List.getElem_cons_zero, Act.put, List.setIfInBounds_toArray, List.set_cons_zero, List.set_cons_succ]
  refine wpAnyH_take (i := 12) (v := (.slice va vn vc)) rfl (by kernel_rfl) (by kernel_rfl) (by kernel_rfl) (fun _ _ _ h => h) (Or.inl ⟨by rfl, ?_⟩) (by assumption) ?_
  · intro w' hSw
    have cc2 : w'.cell? ⟨w.heap.size, 2, none⟩ = some (.slice va vn vc) := hSw.cell 2 rfl
    go_simp
  simp only [List.getElem_toArray, List.getElem_cons_succ, List.getElem_cons_zero, Act.put, List.setIfInBounds_toArray, List.set_cons_zero, List.set_cons_succ]
  refine wpAnyH_take (i := 13) (v := (.int .i64 (n : Int))) rfl (by kernel_rfl) (by kernel_rfl) (by kernel_rfl) (fun _ _ _ h => h) (Or.inl ⟨by rfl, ?_⟩) (by assumption) ?_
  · intro w' hSw
    go_simp
  simp only [List.getElem_toArray, List.getElem_cons_succ, List.getElem_cons_zero, Act.put, List.setIfInBounds_toArray, List.set_cons_zero, List.set_cons_succ]
  refine wpAnyH_ready (rs := [4]) (by kernel_rfl) (by simp) ?_
  refine AllReadyH.cons rfl (fun Kc hKc => ?_) AllReadyH.nil
  simp only [List.getElem_toArray, List.getElem_cons_succ, List.getElem_cons_zero]
  rw [if_pos (by rfl)]
  go_wp2_with fail
  refine (iclone_any (some ⟨tb, tq, none⟩) n tc (X.T.take n) _ ((HT.out _ D).take hnt) (by omega)).mono ?_
  rintro e w2 ⟨tv, rfl, OT, B2⟩
  have zA2 := B2.size
  replace X0 := X0.below B2
  replace X1 := X1.below B2
  replace D := below_then D B2
  go_wp2_with fail
  refine hKc.out _ _ (X0) (fun hHeld => ?_)
  clear hKc Kc
  refine wpAnyH_ready (rs := [9]) (by kernel_rfl) (by simp) ?_
  refine AllReadyH.cons rfl (fun Kc hKc => ?_) AllReadyH.nil
  simp only [List.getElem_toArray, List.getElem_cons_succ, List.getElem_cons_zero]
  rw [if_pos (by rfl)]
  go_wp2_with fail
  refine (firstRowsR_any ka kn kc n X.K _ (HK.out _ D) lk' hn1 (by omega) hrk).mono ?_
  rintro e w3 ⟨rfl, NK, B3⟩
  replace OT := owns_below OT B3
  have z3 := B3.size
  replace X0 := X0.below B3
  replace X1 := X1.below B3
  replace D := below_then D B3
  go_wp2_with fail
  refine hKc.out _ _ (X0) (fun hHeld => ?_)
  clear hKc Kc
  refine wpAnyH_ready (rs := [14]) (by kernel_rfl) (by simp) ?_
  refine AllReadyH.cons rfl (fun Kc hKc => ?_) AllReadyH.nil
  simp only [List.getElem_toArray, List.getElem_cons_succ, List.getElem_cons_zero]
  rw [if_pos (by rfl)]
  go_wp2_with fail
  refine (firstRowsR_any va vn vc n X.V _ (HV.out _ D) lv' hn1 (by omega) hrv).mono ?_
  rintro e w4 ⟨rfl, NV, B4⟩
  replace OT := owns_below OT B4
  replace NK := NK.below B4
  replace X0 := X0.below B4
  replace X1 := X1.below B4
  replace D := below_then D B4
  go_wp2_with fail
  refine hKc.out _ _ (X0) (fun hHeld => ?_)
  clear hKc Kc
  obtain ⟨ta2, tc2, rfl⟩ : ∃ a c, tv = .slice a n c := by
    rcases OT.2 with ⟨h3, h4⟩ | ⟨g, cap, cur, hv, _⟩
    · exact ⟨none, 0, by rw [h3, h4]⟩
    · exact ⟨_, _, hv⟩
  refine wpAnyH_take (i := 15) (v := (.agg #[.slice (some ⟨w2.heap.size, 0, none⟩) kn kn, .slice (some ⟨w3.heap.size, 0, none⟩) vn vn])) rfl (by kernel_rfl) (by kernel_rfl) (by kernel_rfl) (fun _ _ _ h => h) (Or.inl ⟨by rfl, ?_⟩) (by assumption) ?_
  · intro w' hSw
    go_simp
  simp only [List.getElem_toArray, List.getElem_cons_succ, List.getElem_cons_zero, Act.put, List.setIfInBounds_toArray, List.set_cons_zero, List.set_cons_succ]
  refine wpAnyH_take (i := 16) (v := (.agg #[.slice ta2 n tc2, .slice (some ⟨w2.heap.size, 0, none⟩) kn kn, .slice (some ⟨w3.heap.size, 0, none⟩) vn vn])) rfl (by kernel_rfl) (by kernel_rfl) (by kernel_rfl) (fun _ _ _ h => h) (Or.inl ⟨by rfl, ?_⟩) (by assumption) ?_
  · intro w' hSw
    go_simp
  simp only [List.getElem_toArray, List.getElem_cons_succ, List.getElem_cons_zero, Act.put, List.setIfInBounds_toArray, List.set_cons_zero, List.set_cons_succ]
  refine wpAnyH_ready (rs := [17]) (by kernel_rfl) (by simp) ?_
  refine AllReadyH.cons rfl (fun Kc hKc => ?_) AllReadyH.nil
  simp only [List.getElem_toArray, List.getElem_cons_succ, List.getElem_cons_zero]
  rw [if_pos (by rfl)]
  have hall : Array.all (#[.slice ta2 n tc2, .slice (some ⟨w2.heap.size, 0, none⟩) kn kn, .slice (some ⟨w3.heap.size, 0, none⟩) vn vn] : Array Value) (fun v => v.oneCell') = true := by simp [Value.oneCell']
  refine wp_store_row 27 _ _ rfl w0.heap.size #[.slice ta2 n tc2, .slice (some ⟨w2.heap.size, 0, none⟩) kn kn, .slice (some ⟨w3.heap.size, 0, none⟩) vn vn] rfl rfl 27 _ X1 Tryd.infoV rfl hall ?_
  refine hKc.out _ _ (Blk.of_block X0 (setRow_other _ _ _ _ (by omega))) (fun hHeld => ?_)
  clear hKc Kc
  refine wpAnyH_done (by kernel_rfl) ?_ _
  clear hHeld
  go_wp2
  refine bodyPost_ret (results_cell_row rfl _ _ w0.heap.size 27 _ _ _ rfl (X1.row _) Tryd.underlying27 rfl Tryd.infoV) rfl ?_
  have hsm2 : ∀ k, -9223372036854775808 ≤ el (X.T.take n) k ∧ el (X.T.take n) k ≤ 9223372036854775807 := ((HT.out w (Below.refl _ _)).take hnt).row.small
  have CK := (Hangs.row (NK.cube lk3 (by omega) (Nat.le_refl _)) (g := w0.heap.size) (by show ¬ (_ ≤ _); omega) #[.slice ta2 n tc2, .slice (some ⟨w2.heap.size, 0, none⟩) kn kn, .slice (some ⟨w3.heap.size, 0, none⟩) vn vn])
  have CV := (Hangs.row (NV.cube lv3 (by omega) (Nat.le_refl _)) (g := w0.heap.size) (by show ¬ (_ ≤ _); omega) #[.slice ta2 n tc2, .slice (some ⟨w2.heap.size, 0, none⟩) kn kn, .slice (some ⟨w3.heap.size, 0, none⟩) vn vn])
  have so : ∀ (b : Nat) (x : Array Value), b ≠ w0.heap.size → (w4.setRow w0.heap.size x).heap[b]? = w4.heap[b]? := fun b x hb => setRow_other _ _ _ _ hb
  have OT2 := owns_mono OT (Nat.le_refl _) (fun b hb => so b #[.slice ta2 n tc2, .slice (some ⟨w2.heap.size, 0, none⟩) kn kn, .slice (some ⟨w3.heap.size, 0, none⟩) vn vn] (by have := (OT.lt b hb).1; omega))
  refine ⟨⟨⟨ta2, n, tc2⟩, ⟨some ⟨w2.heap.size, 0, none⟩, kn, kn⟩, ⟨some ⟨w3.heap.size, 0, none⟩, vn, vn⟩⟩, rfl, ?_, below_setRow D (by omega) _⟩
  intro wz hz
  obtain ⟨x1, y1, e1, IT⟩ := IOwn.arg (A := X.T.take n) (owns_mono OT2 (Nat.le_refl _) (fun b hb => hz b (by have := (OT2.lt b hb).1; show _ ≤ _; omega) (OT2.lt b hb).2)) hsm2
  simp only [Value.slice.injEq, true_and] at e1
  obtain ⟨rfl, rfl⟩ := e1
  exact ⟨IT, CK wz (fun b hb hl => hz b (by show _ ≤ _; have hb' : _ ≤ b := hb; omega) hl), CV wz (fun b hb hl => hz b (by show _ ≤ _; have hb' : _ ≤ b := hb; omega) hl)⟩
set_option maxRecDepth 100000 in
set_option maxHeartbeats 800000 in
theorem scutR_gt (vv : VwV) (X : Vw) (nn : Int) (n : Nat) (w : World) (hv : VwAt w vv X) (hn1 : 1 ≤ n) (hnt : n = X.T.length) (hnn : (X.T.length : Int) < nn) (hT : X.T.length ≤ 4096) (hK : X.K.length ≤ 4096) (hV : X.V.length ≤ 4096) (hrk : ∀ R ∈ X.K, R.length ≤ 4096 ∧ ∀ t, (rowOf R t).length ≤ 1048576) (hrv : ∀ R ∈ X.V, R.length ≤ 4096 ∧ ∀ t, (rowOf R t).length ≤ 1048576) :
   Calls Tryd.prog 9 #[.agg vv.cells, .int .i64 nn] w fun e w' => ∃ v2 : VwV, e = .returned (.agg v2.cells) ∧ New w.heap.size w' (fun w => VwAt w v2 (cutV X n)) ∧ Below w.heap.size w w' := by
  have lt := hv.t.row.len
  have lk := hv.k.len
  have lv := hv.v.len
  have HT : Hid (∀ wv, Below w.heap.size w wv → IArg wv vv.t.ao vv.t.n vv.t.c X.T) := fun wv hb => hv.t.below hb
  have HK : Hid (∀ wv, Below w.heap.size w wv → CubeAt wv vv.k.ao vv.k.n X.K) := fun wv hb => hv.k.below hb
  have HV : Hid (∀ wv, Below w.heap.size w wv → CubeAt wv vv.v.ao vv.v.n X.V) := fun wv hb => hv.v.below hb
  have fit := hv.t.fit
  have mx := hv.t.max
  obtain ⟨tb, tq, hto, -⟩ := hv.t.row.cells (by omega)
  clear hv
  obtain ⟨⟨ta, tn, tc⟩, ⟨ka, kn, kc⟩, ⟨va, vn, vc⟩⟩ := vv
  unfold VwV.cells Sl.v
  simp only at *
  subst hto
  have lt' : tn ≤ 4096 := by omega
  have lk' : kn ≤ 4096 := by omega
  have lv' : vn ≤ 4096 := by omega
  have lk3 : (X.K.map (List.take n)).length = kn := by rw [List.length_map]; exact lk
  have lv3 : (X.V.map (List.take n)).length = vn := by rw [List.length_map]; exact lv
  rw [lt] at hnt hT hnn
  subst hnt
  clear lt lk lv hK hV
  have h0 : ¬ nn < 0 := by omega
  have h0' : ¬ (n : Int) = 0 := by omega
  have h0b : ((n : Int) == 0) = false := by simpa using h0'
  have hmn : (n : Int) < nn := hnn
  have X0 := blk_new w 27 #[.slice (some ⟨tb, tq, none⟩) n tc, .slice ka kn kc, .slice va vn vc]
  have B0 : Below w.heap.size w (w.alloc (.cells #[.slice (some ⟨tb, tq, none⟩) n tc, .slice ka kn kc, .slice va vn vc] 27)) := (Below.refl _ _).alloc (Nat.le_refl _) _
  generalize hw0 : w.alloc (.cells #[.slice (some ⟨tb, tq, none⟩) n tc, .slice ka kn kc, .slice va vn vc] 27) = w0 at *
  have lt0 := X0.lt
  have X1 := blk_new w0 27 #[.slice none 0 0, .slice none 0 0, .slice none 0 0]
  have B1 : Below w0.heap.size w0 (w0.alloc (.cells #[.slice none 0 0, .slice none 0 0, .slice none 0 0] 27)) := (Below.refl _ _).alloc (Nat.le_refl _) _
  generalize hw1 : w0.alloc (.cells #[.slice none 0 0, .slice none 0 0, .slice none 0 0] 27) = w1 at *
  replace X0 := X0.below B1
  have D := below_then B0 B1
  clear B0 B1
  have lt1 := X1.lt
  have a0 : w1.cell? ⟨w.heap.size, 0, none⟩ = some (.slice (some ⟨tb, tq, none⟩) n tc) := X0.cell 0 rfl
  go_enter Tryd.func9, Tryd.ntmps9
  go_wp2_with fail
  clear hw0 hw1 a0
  replace X0 := X0.below ((Below.refl _ _).drew)
  replace X1 := X1.below ((Below.refl _ _).drew)
  replace D := D.drew
  replace lt1 : w0.heap.size < w1.drew.heap.size := lt1
  refine wp_region_held_drew (S := fun w' => Blk w' w.heap.size 27 #[.slice (some ⟨tb, tq, none⟩) n tc, .slice ka kn kc, .slice va vn vc]) (by kernel_rfl) (X0) (fun hHeld => ?_)
  generalize hA : w1.drew = wA at *
  clear hA
  refine wpAnyH_take (i := 0) (v := (.pointer (some ⟨w.heap.size, 0, none⟩))) rfl (by kernel_rfl) (by kernel_rfl) (by kernel_rfl) (fun _ _ _ h => h) (Or.inl ⟨by rfl, ?_⟩) (by assumption) ?_
  · intro w' hSw
    go_simp
  simp only [List.getElem_toArray, List.getElem_cons_zero, Act.put, List.setIfInBounds_toArray, List.set_cons_zero, List.set_cons_succ]
  refine wpAnyH_take (i := 1) (v := (.slice (some ⟨tb, tq, none⟩) n tc)) rfl (by kernel_rfl) (by kernel_rfl) (by kernel_rfl) (fun _ _ _ h => h) (Or.inl ⟨by rfl, ?_⟩) (by assumption) ?_
  · intro w' hSw
    have cc0 : w'.cell? ⟨w.heap.size, 0, none⟩ = some (.slice (some ⟨tb, tq, none⟩) n tc) := hSw.cell 0 rfl
    go_simp
  simp only [List.getElem_toArray, List.getElem_cons_succ, List.getElem_cons_zero, Act.put, List.setIfInBounds_toArray, List.set_cons_zero, List.set_cons_succ]
  refine wpAnyH_take (i := 2) (v := (.int .i64 (n : Int))) rfl (by kernel_rfl) (by kernel_rfl) (by kernel_rfl) (fun _ _ _ h => h) (Or.inl ⟨by rfl, ?_⟩) (by assumption) ?_
  · intro w' hSw
    go_simp
  simp only [List.getElem_toArray, List.getElem_cons_succ, List.getElem_cons_zero, Act.put, List.setIfInBounds_toArray, List.set_cons_zero, List.set_cons_succ]
  refine wpAnyH_take (i := 3) (v := (.slice (some ⟨tb, tq, none⟩) n tc)) rfl (by kernel_rfl) (by kernel_rfl) (by kernel_rfl) (fun _ _ _ h => h) (Or.inl ⟨by rfl, ?_⟩) (by assumption) ?_
  · intro w' hSw
    go_simp
  simp only [List.getElem_toArray, List.getElem_cons_succ, List.getElem_cons_zero, Act.put, List.setIfInBounds_toArray, List.set_cons_zero, List.set_cons_succ]
  refine wpAnyH_take (i := 5) (v := (.pointer (some ⟨w.heap.size, 1, none⟩))) rfl (by kernel_rfl) (by kernel_rfl) (by kernel_rfl) (fun _ _ _ h => h) (Or.inl ⟨by rfl, ?_⟩) (by assumption) ?_
  · intro w' hSw
    go_simp
  simp only [List.getElem_toArray, List.getElem_cons_succ, List.getElem_cons_zero, Act.put, List.setIfInBounds_toArray, List.set_cons_zero, List.set_cons_succ]
  refine wpAnyH_take (i := 6) (v := (.pointer (some ⟨w.heap.size, 1, none⟩))) rfl (by kernel_rfl) (by kernel_rfl) (by kernel_rfl) (fun _ _ _ h => h) (Or.inl ⟨by rfl, ?_⟩) (by assumption) ?_
  · intro w' hSw
    go_simp
  simp only [List.getElem_toArray, List.getElem_cons_succ, List.getElem_cons_zero, Act.put, List.setIfInBounds_toArray, List.set_cons_zero, List.set_cons_succ]
  refine wpAnyH_take (i := 7) (v := (.slice ka kn kc)) rfl (by kernel_rfl) (by kernel_rfl) (by kernel_rfl) (fun _ _ _ h => h) (Or.inl ⟨by rfl, ?_⟩) (by assumption) ?_
  · intro w' hSw
    have cc1 : w'.cell? ⟨w.heap.size, 1, none⟩ = some (.slice ka kn kc) := hSw.cell 1 rfl
    go_simp
  simp only [List.getElem_toArray, List.getElem_cons_succ, List.getElem_cons_zero, Act.put, List.setIfInBounds_toArray, List.set_cons_zero, List.set_cons_succ]
  refine wpAnyH_take (i := 8) (v := (.int .i64 (n : Int))) rfl (by kernel_rfl) (by kernel_rfl) (by kernel_rfl) (fun _ _ _ h => h) (Or.inl ⟨by rfl, ?_⟩) (by assumption) ?_
  · intro w' hSw
    go_simp
  simp only [List.getElem_toArray, List.getElem_cons_succ, List.getElem_cons_zero, Act.put, List.setIfInBounds_toArray, List.set_cons_zero, List.set_cons_succ]
  refine wpAnyH_take (i := 10) (v := (.pointer (some ⟨w.heap.size, 1, none⟩))) rfl (by kernel_rfl) (by kernel_rfl) (by kernel_rfl) (fun _ _ _ h => h) (Or.inl ⟨by rfl, ?_⟩) (by assumption) ?_
  · intro w' hSw
    go_simp
  simp only [List.getElem_toArray, List.getElem_cons_succ, List.getElem_cons_zero, Act.put, List.setIfInBounds_toArray, List.set_cons_zero, List.set_cons_succ]
  refine wpAnyH_take (i := 11) (v := (.pointer (some ⟨w.heap.size, 2, none⟩))) rfl (by kernel_rfl) (by kernel_rfl) (by kernel_rfl) (fun _ _ _ h => h) (Or.inl ⟨by rfl, ?_⟩) (by assumption) ?_
  · intro w' hSw
    go_simp
  simp only [List.getElem_toArray, List.getElem_cons_succ, List.getElem_cons_zero, Act.put, List.setIfInBounds_toArray, List.set_cons_zero, List.set_cons_succ]
  refine wpAnyH_take (i := 12) (v := (.slice va vn vc)) rfl (by kernel_rfl) (by kernel_rfl) (by kernel_rfl) (fun _ _ _ h => h) (Or.inl ⟨by rfl, ?_⟩) (by assumption) ?_
  · intro w' hSw
    have cc2 : w'.cell? ⟨w.heap.size, 2, none⟩ = some (.slice va vn vc) := hSw.cell 2 rfl
    go_simp
  simp only [List.getElem_toArray, List.getElem_cons_succ, List.getElem_cons_zero, Act.put, List.setIfInBounds_toArray, List.set_cons_zero, List.set_cons_succ]
  refine wpAnyH_take (i := 13) (v := (.int .i64 (n : Int))) rfl (by kernel_rfl) (by kernel_rfl) (by kernel_rfl) (fun _ _ _ h => h) (Or.inl ⟨by rfl, ?_⟩) (by assumption) ?_
  · intro w' hSw
    go_simp
  simp only [List.getElem_toArray, List.getElem_cons_succ, List.getElem_cons_zero, Act.put, List.setIfInBounds_toArray, List.set_cons_zero, List.set_cons_succ]
  refine wpAnyH_ready (rs := [4]) (by kernel_rfl) (by simp) ?_
  refine AllReadyH.cons rfl (fun Kc hKc => ?_) AllReadyH.nil
  simp only [List.getElem_toArray, List.getElem_cons_succ, List.getElem_cons_zero]
  rw [if_pos (by rfl)]
  go_wp2_with fail
  refine (iclone_any (some ⟨tb, tq, none⟩) n tc (X.T.take n) _ ((HT.out _ D).take (Nat.le_refl _)) (by omega)).mono ?_
  rintro e w2 ⟨tv, rfl, OT, B2⟩
  have zA2 := B2.size
  replace X0 := X0.below B2
  replace X1 := X1.below B2
  replace D := below_then D B2
  go_wp2_with fail
  refine hKc.out _ _ (X0) (fun hHeld => ?_)
  clear hKc Kc
  refine wpAnyH_ready (rs := [9]) (by kernel_rfl) (by simp) ?_
  refine AllReadyH.cons rfl (fun Kc hKc => ?_) AllReadyH.nil
  simp only [List.getElem_toArray, List.getElem_cons_succ, List.getElem_cons_zero]
  rw [if_pos (by rfl)]
  go_wp2_with fail
  refine (firstRowsR_any ka kn kc n X.K _ (HK.out _ D) lk' hn1 (by omega) hrk).mono ?_
  rintro e w3 ⟨rfl, NK, B3⟩
  replace OT := owns_below OT B3
  have z3 := B3.size
  replace X0 := X0.below B3
  replace X1 := X1.below B3
  replace D := below_then D B3
  go_wp2_with fail
  refine hKc.out _ _ (X0) (fun hHeld => ?_)
  clear hKc Kc
  refine wpAnyH_ready (rs := [14]) (by kernel_rfl) (by simp) ?_
  refine AllReadyH.cons rfl (fun Kc hKc => ?_) AllReadyH.nil
  simp only [List.getElem_toArray, List.getElem_cons_succ, List.getElem_cons_zero]
  rw [if_pos (by rfl)]
  go_wp2_with fail
  refine (firstRowsR_any va vn vc n X.V _ (HV.out _ D) lv' hn1 (by omega) hrv).mono ?_
  rintro e w4 ⟨rfl, NV, B4⟩
  replace OT := owns_below OT B4
  replace NK := NK.below B4
  replace X0 := X0.below B4
  replace X1 := X1.below B4
  replace D := below_then D B4
  go_wp2_with fail
  refine hKc.out _ _ (X0) (fun hHeld => ?_)
  clear hKc Kc
  obtain ⟨ta2, tc2, rfl⟩ : ∃ a c, tv = .slice a n c := by
    rcases OT.2 with ⟨h3, h4⟩ | ⟨g, cap, cur, hv, _⟩
    · exact ⟨none, 0, by rw [h3, h4]⟩
    · exact ⟨_, _, hv⟩
  refine wpAnyH_take (i := 15) (v := (.agg #[.slice (some ⟨w2.heap.size, 0, none⟩) kn kn, .slice (some ⟨w3.heap.size, 0, none⟩) vn vn])) rfl (by kernel_rfl) (by kernel_rfl) (by kernel_rfl) (fun _ _ _ h => h) (Or.inl ⟨by rfl, ?_⟩) (by assumption) ?_
  · intro w' hSw
    go_simp
  simp only [List.getElem_toArray, List.getElem_cons_succ, List.getElem_cons_zero, Act.put, List.setIfInBounds_toArray, List.set_cons_zero, List.set_cons_succ]
  refine wpAnyH_take (i := 16) (v := (.agg #[.slice ta2 n tc2, .slice (some ⟨w2.heap.size, 0, none⟩) kn kn, .slice (some ⟨w3.heap.size, 0, none⟩) vn vn])) rfl (by kernel_rfl) (by kernel_rfl) (by kernel_rfl) (fun _ _ _ h => h) (Or.inl ⟨by rfl, ?_⟩) (by assumption) ?_
  · intro w' hSw
    go_simp
  simp only [List.getElem_toArray, List.getElem_cons_succ, List.getElem_cons_zero, Act.put, List.setIfInBounds_toArray, List.set_cons_zero, List.set_cons_succ]
  refine wpAnyH_ready (rs := [17]) (by kernel_rfl) (by simp) ?_
  refine AllReadyH.cons rfl (fun Kc hKc => ?_) AllReadyH.nil
  simp only [List.getElem_toArray, List.getElem_cons_succ, List.getElem_cons_zero]
  rw [if_pos (by rfl)]
  have hall : Array.all (#[.slice ta2 n tc2, .slice (some ⟨w2.heap.size, 0, none⟩) kn kn, .slice (some ⟨w3.heap.size, 0, none⟩) vn vn] : Array Value) (fun v => v.oneCell') = true := by simp [Value.oneCell']
  refine wp_store_row 27 _ _ rfl w0.heap.size #[.slice ta2 n tc2, .slice (some ⟨w2.heap.size, 0, none⟩) kn kn, .slice (some ⟨w3.heap.size, 0, none⟩) vn vn] rfl rfl 27 _ X1 Tryd.infoV rfl hall ?_
  refine hKc.out _ _ (Blk.of_block X0 (setRow_other _ _ _ _ (by omega))) (fun hHeld => ?_)
  clear hKc Kc
  refine wpAnyH_done (by kernel_rfl) ?_ _
  clear hHeld
  go_wp2
  refine bodyPost_ret (results_cell_row rfl _ _ w0.heap.size 27 _ _ _ rfl (X1.row _) Tryd.underlying27 rfl Tryd.infoV) rfl ?_
  have hsm2 : ∀ k, -9223372036854775808 ≤ el (X.T.take n) k ∧ el (X.T.take n) k ≤ 9223372036854775807 := ((HT.out w (Below.refl _ _)).take (Nat.le_refl _)).row.small
  have CK := (Hangs.row (NK.cube lk3 (by omega) (Nat.le_refl _)) (g := w0.heap.size) (by show ¬ (_ ≤ _); omega) #[.slice ta2 n tc2, .slice (some ⟨w2.heap.size, 0, none⟩) kn kn, .slice (some ⟨w3.heap.size, 0, none⟩) vn vn])
  have CV := (Hangs.row (NV.cube lv3 (by omega) (Nat.le_refl _)) (g := w0.heap.size) (by show ¬ (_ ≤ _); omega) #[.slice ta2 n tc2, .slice (some ⟨w2.heap.size, 0, none⟩) kn kn, .slice (some ⟨w3.heap.size, 0, none⟩) vn vn])
  have so : ∀ (b : Nat) (x : Array Value), b ≠ w0.heap.size → (w4.setRow w0.heap.size x).heap[b]? = w4.heap[b]? := fun b x hb => setRow_other _ _ _ _ hb
  have OT2 := owns_mono OT (Nat.le_refl _) (fun b hb => so b #[.slice ta2 n tc2, .slice (some ⟨w2.heap.size, 0, none⟩) kn kn, .slice (some ⟨w3.heap.size, 0, none⟩) vn vn] (by have := (OT.lt b hb).1; omega))
  refine ⟨⟨⟨ta2, n, tc2⟩, ⟨some ⟨w2.heap.size, 0, none⟩, kn, kn⟩, ⟨some ⟨w3.heap.size, 0, none⟩, vn, vn⟩⟩, rfl, ?_, below_setRow D (by omega) _⟩
  intro wz hz
  obtain ⟨x1, y1, e1, IT⟩ := IOwn.arg (A := X.T.take n) (owns_mono OT2 (Nat.le_refl _) (fun b hb => hz b (by have := (OT2.lt b hb).1; show _ ≤ _; omega) (OT2.lt b hb).2)) hsm2
  simp only [Value.slice.injEq, true_and] at e1
  obtain ⟨rfl, rfl⟩ := e1
  exact ⟨IT, CK wz (fun b hb hl => hz b (by show _ ≤ _; have hb' : _ ≤ b := hb; omega) hl), CV wz (fun b hb hl => hz b (by show _ ≤ _; have hb' : _ ≤ b := hb; omega) hl)⟩
set_option maxHeartbeats 800000 in
theorem scutR_none (vv : VwV) (X : Vw) (nn : Int) (w : World) (hv : VwAt w vv X) (hn : nn < 1 ∨ X.T.length = 0) :
   Calls Tryd.prog 9 #[.agg vv.cells, .int .i64 nn] w fun e w' => e = .returned (.agg #[.slice none 0 0, .slice none 0 0, .slice none 0 0]) ∧ Below w.heap.size w w' := by
  have lt := hv.t.row.len
  have mx := hv.t.row.max
  clear hv
  obtain ⟨⟨ta, tn, tc⟩, ⟨ka, kn, kc⟩, ⟨va, vn, vc⟩⟩ := vv
  unfold VwV.cells Sl.v
  simp only at *
  rw [lt] at hn
  clear lt
  have X0 := blk_new w 27 #[.slice ta tn tc, .slice ka kn kc, .slice va vn vc]
  have B0 : Below w.heap.size w (w.alloc (.cells #[.slice ta tn tc, .slice ka kn kc, .slice va vn vc] 27)) := (Below.refl _ _).alloc (Nat.le_refl _) _
  generalize hw0 : w.alloc (.cells #[.slice ta tn tc, .slice ka kn kc, .slice va vn vc] 27) = w0 at *
  have X1 := blk_new w0 27 #[.slice none 0 0, .slice none 0 0, .slice none 0 0]
  have B1 : Below w0.heap.size w0 (w0.alloc (.cells #[.slice none 0 0, .slice none 0 0, .slice none 0 0] 27)) := (Below.refl _ _).alloc (Nat.le_refl _) _
  generalize hw1 : w0.alloc (.cells #[.slice none 0 0, .slice none 0 0, .slice none 0 0] 27) = w1 at *
  replace X0 := X0.below B1
  have D := below_then B0 B1
  have lt0 := X0.lt
  have s0 : w.heap.size < w0.heap.size := by rw [← hw0]; simp
  have X2 := X1.row #[.slice none 0 0, .slice none 0 0, .slice none 0 0]
  have BR := below_setRow (Below.refl w0.heap.size w1) (Nat.le_refl _) #[.slice none 0 0, .slice none 0 0, .slice none 0 0]
  generalize hw2 : w1.setRow w0.heap.size #[.slice none 0 0, .slice none 0 0, .slice none 0 0] = w2 at *
  have D2 : Below w.heap.size w w2 := D.trans (BR.mono (by omega))
  have a0 : w1.cell? ⟨w.heap.size, 0, none⟩ = some (.slice ta tn tc) := X0.cell 0 rfl
  clear B0 B1 D BR
  have go : ∀ (m : Int), (m == 0) = true → True := fun _ _ => trivial
  clear go
  by_cases hneg : nn < 0
  · have hm : ¬ (tn : Int) < 0 := by omega
    go_enter Tryd.func9, Tryd.ntmps9
    go_wp2_with (refine wpList_store_row rfl 27 _ _ rfl w0.heap.size #[.slice none 0 0, .slice none 0 0, .slice none 0 0] rfl rfl 27 _ X1 (by exact Tryd.infoV) rfl (by simp [Value.oneCell']) ?_; rw [hw2])
    refine bodyPost_ret (results_cell_row rfl _ _ w0.heap.size 27 _ _ _ rfl X2 Tryd.underlying27 rfl Tryd.infoV) rfl ?_
    exact ⟨rfl, D2⟩
  · by_cases hz : nn = 0
    · subst hz
      have hm : ¬ (tn : Int) < 0 := by omega
      go_enter Tryd.func9, Tryd.ntmps9
      go_wp2_with (refine wpList_store_row rfl 27 _ _ rfl w0.heap.size #[.slice none 0 0, .slice none 0 0, .slice none 0 0] rfl rfl 27 _ X1 (by exact Tryd.infoV) rfl (by simp [Value.oneCell']) ?_; rw [hw2])
      refine bodyPost_ret (results_cell_row rfl _ _ w0.heap.size 27 _ _ _ rfl X2 Tryd.underlying27 rfl Tryd.infoV) rfl ?_
      exact ⟨rfl, D2⟩
    · obtain rfl : tn = 0 := by omega
      have hm : (0 : Int) < nn := by omega
      clear hn
      go_enter Tryd.func9, Tryd.ntmps9
      go_wp2_with (refine wpList_store_row rfl 27 _ _ rfl w0.heap.size #[.slice none 0 0, .slice none 0 0, .slice none 0 0] rfl rfl 27 _ X1 (by exact Tryd.infoV) rfl (by simp [Value.oneCell']) ?_; rw [hw2])
      refine bodyPost_ret (results_cell_row rfl _ _ w0.heap.size 27 _ _ _ rfl X2 Tryd.underlying27 rfl Tryd.infoV) rfl ?_
      exact ⟨rfl, D2⟩
end Go.Proofs.YtmdjlaileakbeaaDoor

/- The document's Cut of a view that was told. -/
namespace Go.Proofs.YtmdjlaileakbeaaDoor
open Go.ChangeShapes Go.WideShapes Go.ChangeAt Go.RowKit
/-- append of one list of rows onto a row of lists of the call's own, by its value. -/
theorem wpList_append_l9 {w : World} {ops : Array Oper} {rest : List Oper} {o : Oper} {a : Act} {Q : Exit → Act → World → Prop} (hgd : o.guard = none) (s x : Operand)
    (ho : o.op = .call { callee := .builtin .append, args := #[s, x], argTypes := #[23, 23] })
    (B g k cap : Nat) (vs : List Value) (hs : a.eval s = .slice (some ⟨g, 0, none⟩) k cap) (O : w.ownsRow B 60 1 (.slice (some ⟨g, 0, none⟩) k cap) k vs)
    (bo : Nat) (u : Value) (hx : a.eval x = .slice (some ⟨bo, 0, none⟩) 1 1) (hX : w.cell? ⟨bo, 0, none⟩ = some u) (hu : u.oneCell' = true)
    (hlen : k + 1 ≤ 1048576) (hB : B ≤ w.heap.size)
    (h : ∀ g' cap' w', w'.ownsRow B 60 1 (.slice (some ⟨g', 0, none⟩) (k + 1) cap') (k + 1) (vs ++ [u]) → w.grownBy w' (some g) → (g' = g ∨ w.heap.size ≤ g') → wpList Tryd.prog ops Q rest (a.put o.dst (.slice (some ⟨g', 0, none⟩) (k + 1) cap')) w') : wpList Tryd.prog ops Q (o :: rest) a w := by
  obtain ⟨i0, hi, hz0, hz1, hz2⟩ := info_parts Tryd.infoList
  refine wpList_plain hgd fun _ hK => wp_append_own2 w s x 23 ho B 60 i0 (.slice none 0 0) 1 24 Tryd.underlying23 hi hz0 hz1 hz2 rfl (by decide) _ k _ hs O ⟨bo, 0, none⟩ 1 1 [u] hx rfl ?_ (by intro v hv; simp at hv; subst hv; exact hu) (by unfold maxLen; omega) (by omega) hB ?_
  · intro j v hj
    match j, hj with
    | 0, hj =>
      simp at hj
      subst hj
      have e2 : (Addr.mk bo 0 none).add 0 = ⟨bo, 0, none⟩ := by simp [Addr.add]
      rw [e2, hX]
  · intro v' w' O1 G1 _ N1
    have O2 := O1
    rcases O2.2 with ⟨h2, h3⟩ | ⟨g', cap', cur, h3, h4⟩
    · exact absurd h3 (by omega)
    · subst h3
      refine hK _ _ (h g' cap' w' O1 G1 ?_)
      rcases N1 g' rfl with b | b
      · left; simp [Value.ownBlock] at b; exact b.symm
      · right; omega
/-- append of one row onto a row of rows of the call's own, by its value. -/
theorem wpList_append_r9 {w : World} {ops : Array Oper} {rest : List Oper} {o : Oper} {a : Act} {Q : Exit → Act → World → Prop} (hgd : o.guard = none) (s x : Operand)
    (ho : o.op = .call { callee := .builtin .append, args := #[s, x], argTypes := #[60, 60] })
    (B g k cap : Nat) (vs : List Value) (hs : a.eval s = .slice (some ⟨g, 0, none⟩) k cap) (O : w.ownsRow B 42 1 (.slice (some ⟨g, 0, none⟩) k cap) k vs)
    (bo : Nat) (u : Value) (hx : a.eval x = .slice (some ⟨bo, 0, none⟩) 1 1) (hX : w.cell? ⟨bo, 0, none⟩ = some u) (hu : u.oneCell' = true)
    (hlen : k + 1 ≤ 1048576) (hB : B ≤ w.heap.size)
    (h : ∀ g' cap' w', w'.ownsRow B 42 1 (.slice (some ⟨g', 0, none⟩) (k + 1) cap') (k + 1) (vs ++ [u]) → Below B w w' → wpList Tryd.prog ops Q rest (a.put o.dst (.slice (some ⟨g', 0, none⟩) (k + 1) cap')) w') : wpList Tryd.prog ops Q (o :: rest) a w := by
  obtain ⟨i0, hi, hz0, hz1, hz2⟩ := info_parts Tryd.infoRow
  refine wpList_append_own w hgd s x 60 ho B 42 i0 (.slice none 0 0) 1 24 Tryd.underlying60 hi hz0 hz1 hz2 rfl (by decide) _ k _ hs O ⟨bo, 0, none⟩ 1 1 [u] hx rfl ?_ (by intro v hv; simp at hv; subst hv; exact hu) (by unfold maxLen; omega) (by omega) hB ?_
  · intro j v hj
    match j, hj with
    | 0, hj =>
      simp at hj
      subst hj
      have e2 : (Addr.mk bo 0 none).add 0 = ⟨bo, 0, none⟩ := by simp [Addr.add]
      rw [e2, hX]
  · intro v' w' O1 G1 N1
    have hb : Below B w w' := (Below.refl _ _).grown G1 hB (fun k hk => by simp [Value.ownBlock] at hk; subst hk; exact (O.lt _ rfl).1)
    have O2 := O1
    rcases O2.2 with ⟨h2, h3⟩ | ⟨g', cap', cur, h3, h4⟩
    · exact absurd h3 (by omega)
    · subst h3
      exact h g' cap' w' O1 hb
/-- The values of a row of rows. -/
theorem GridAt.vals9 {w : World} {ao : Option Addr} {n : Nat} {R : List (List Int)} (h : GridAt w ao n R) : ∃ vs : List Value, vs.length = n ∧ (∀ u ∈ vs, u.oneCell' = true) ∧ RowsAt w vs R ∧ ∀ t, t < n → ∃ b o, ao = some ⟨b, o, none⟩ ∧ ∃ u, vs[t]? = some u ∧ w.cell? ⟨b, o + t, none⟩ = some u := by
  rcases Nat.eq_zero_or_pos n with h0 | h0
  · subst h0
    obtain rfl : R = [] := List.length_eq_zero_iff.1 h.len
    exact ⟨[], rfl, (fun u hu => by cases hu), ⟨rfl, fun t ht => by simp at ht⟩, fun t ht => by omega⟩
  · obtain ⟨b, o, e, hc⟩ := h.cells h0
    have each : ∀ t, t < n → ∃ z : Option Addr × Nat × Nat, w.cell? ⟨b, o + t, none⟩ = some (.slice z.1 z.2.1 z.2.2) ∧ Arg w z.1 z.2.1 z.2.2 (rowOf R t) := fun t ht => by
      obtain ⟨ro, m, c, h1, h2⟩ := hc t ht
      exact ⟨(ro, m, c), h1, h2⟩
    have pick : ∃ f : Nat → Option Addr × Nat × Nat, ∀ t, t < n → w.cell? ⟨b, o + t, none⟩ = some (.slice (f t).1 (f t).2.1 (f t).2.2) ∧ Arg w (f t).1 (f t).2.1 (f t).2.2 (rowOf R t) := by
      classical
      refine ⟨fun t => if ht : t < n then Classical.choose (each t ht) else (none, 0, 0), fun t ht => ?_⟩
      simp only [dif_pos ht]
      exact Classical.choose_spec (each t ht)
    obtain ⟨f, hf⟩ := pick
    have at_ : ∀ t, t < n → ((List.range n).map fun t => Value.slice (f t).1 (f t).2.1 (f t).2.2)[t]? = some (.slice (f t).1 (f t).2.1 (f t).2.2) := fun t ht => by simp [ht]
    refine ⟨(List.range n).map fun t => .slice (f t).1 (f t).2.1 (f t).2.2, by simp, fun u hu => ?_, ⟨by simp [h.len], fun t ht => ?_⟩, fun t ht => ⟨b, o, e, _, at_ t ht, (hf t ht).1⟩⟩
    · obtain ⟨t, _, rfl⟩ := List.mem_map.1 hu
      rfl
    · rw [h.len] at ht
      exact ⟨_, _, _, at_ t ht, (hf t ht).2⟩
theorem Arg.same9 {w w' : World} {ro : Option Addr} {m c : Nat} {A : List Int} (h : Arg w ro m c A) (hb : ∀ b, b < w.heap.size → w'.heap[b]? = w.heap[b]?) : Arg w' ro m c A := by
  refine ⟨⟨h.row.len, h.row.max, h.row.small, fun hn => ?_⟩, h.fit, h.max, h.nil, h.cold_of hb⟩
  obtain ⟨b, o, e, hc⟩ := h.row.cells hn
  refine ⟨b, o, e, fun t ht => ?_⟩
  have h1 := hc t ht
  rw [World.cell?_of_block (w := w) (hb b (by simpa using World.block_lt_of_cell? w _ h1))]
  exact h1
theorem RowsAt.below9 {w w' : World} {vs : List Value} {R : List (List Int)} (h : RowsAt w vs R) (hb : Below w.heap.size w w') : RowsAt w' vs R :=
  ⟨h.len, fun t ht => let ⟨ro, m, c, e, A⟩ := h.rows t ht; ⟨ro, m, c, e, A.below hb⟩⟩
theorem RowsAt.take9 {w : World} {vs : List Value} {R : List (List Int)} (h : RowsAt w vs R) (n : Nat) : RowsAt w (vs.take n) (R.take n) :=
  ⟨by rw [List.length_take, List.length_take, h.len], fun t ht => by
    rw [List.length_take] at ht
    obtain ⟨ro, m, c, e, A⟩ := h.rows t (by omega)
    exact ⟨ro, m, c, by rw [List.getElem?_take_of_lt (by omega)]; exact e, by rw [rowOf_take9 (by omega)]; exact A⟩⟩
/-- A row of rows of the call's own, whose rows lie where they lay in w0. -/
structure RowL (w0 w : World) (B rg rn rc : Nat) (R : List (List Int)) : Prop where
  own : ∃ vs, w.ownsRow B 42 1 (.slice (some ⟨rg, 0, none⟩) rn rc) rn vs ∧ RowsAt w0 vs R
theorem RowL.lt {w0 w : World} {B rg rn rc : Nat} {R : List (List Int)} (h : RowL w0 w B rg rn rc R) : B ≤ rg ∧ rg < w.heap.size := by
  obtain ⟨vs, O, _⟩ := h.own
  exact O.lt rg rfl
theorem RowL.stays {w0 w w' : World} {B rg rn rc : Nat} {R : List (List Int)} (h : RowL w0 w B rg rn rc R) (e : w'.heap[rg]? = w.heap[rg]?) : RowL w0 w' B rg rn rc R := by
  obtain ⟨vs, O, A⟩ := h.own
  exact ⟨vs, owns_mono O (Nat.le_refl _) (fun b hb => by simp [Value.ownBlock] at hb; subst hb; exact e), A⟩
theorem RowL.grid {w0 w : World} {B rg rn rc : Nat} {R : List (List Int)} (h : RowL w0 w B rg rn rc R) (hb : ∀ b, b < w0.heap.size → w.heap[b]? = w0.heap[b]?) : rn ≤ rc ∧ rc ≤ 9223372036854775807 ∧ GridAt w (some ⟨rg, 0, none⟩) rn R := by
  obtain ⟨vs, O, A⟩ := h.own
  obtain ⟨p1, p2⟩ := own_caps O
  have hlv : vs.length = rn := by have := O.1; simpa using this
  have hl : R.length = rn := by rw [← A.len, hlv]
  refine ⟨p1, p2, hl, by omega, fun hn => ⟨rg, 0, rfl, fun t ht => ?_⟩⟩
  obtain ⟨ro, m, c, e, A1⟩ := A.rows t (by omega)
  have hc := O.cells (g := rg) rfl t _ e
  have e2 : (Addr.mk rg 0 none).add t = ⟨rg, t, none⟩ := by simp [Addr.add]; intro h; exact h.symm
  rw [e2] at hc
  exact ⟨ro, m, c, by rw [Nat.zero_add]; exact hc, A1.same9 hb⟩
/-- Lists of the call's own (behind w0), whose rows lie where they lay in wo. -/
structure CutL (wo w0 w : World) (g k cap : Nat) (C : List (List (List Int))) : Prop where
  len : C.length = k
  own : ∃ vs, w.ownsRow w0.heap.size 60 1 (.slice (some ⟨g, 0, none⟩) k cap) k vs ∧ ∀ (t : Nat) (R : List (List Int)), C[t]? = some R → ∃ rg rn rc, vs[t]? = some (.slice (some ⟨rg, 0, none⟩) rn rc) ∧ rg ≠ g ∧ RowL wo w w0.heap.size rg rn rc R
  kp : Below w0.heap.size w0 w
theorem CutL.below {wo w0 w w' : World} {g k cap : Nat} {C : List (List (List Int))} (h : CutL wo w0 w g k cap C) (hb : Below w.heap.size w w') : CutL wo w0 w' g k cap C := by
  obtain ⟨vs, O, hr⟩ := h.own
  refine ⟨h.len, ⟨vs, owns_below O hb, fun t R hR => ?_⟩, below_then h.kp hb⟩
  obtain ⟨rg, rn, rc, e, ne, L⟩ := hr t R hR
  exact ⟨rg, rn, rc, e, ne, L.stays (hb.block rg L.lt.2)⟩
theorem cutL_new (wo w : World) : CutL wo w (w.alloc (.cells #[] 60)) w.heap.size 0 0 [] :=
  ⟨rfl, ⟨[], World.ownsRow_made w #[] 0 (Nat.le_refl _) (by decide) rfl, fun t R hR => by simp at hR⟩, (Below.refl _ _).alloc (Nat.le_refl _) _⟩
theorem CutL.snoc {wo w0 w w' : World} {g k cap g' cap' rg rn rc : Nat} {C : List (List (List Int))} {R : List (List Int)} {vs : List Value} (h : CutL wo w0 w g k cap C) (hvs : w.ownsRow w0.heap.size 60 1 (.slice (some ⟨g, 0, none⟩) k cap) k vs) (L : RowL wo w w0.heap.size rg rn rc R) (ne : rg ≠ g)
    (O : w'.ownsRow w0.heap.size 60 1 (.slice (some ⟨g', 0, none⟩) (k + 1) cap') (k + 1) (vs ++ [.slice (some ⟨rg, 0, none⟩) rn rc])) (hG : w.grownBy w' (some g)) (hg : g' = g ∨ w.heap.size ≤ g') : CutL wo w0 w' g' (k + 1) cap' (C ++ [R]) := by
  obtain ⟨vs2, O2, hr⟩ := h.own
  have hl := h.len
  have ev : vs2 = vs := by
    have l1 : vs2.length = k := by have := O2.1; simpa using this
    have l2 : vs.length = k := by have := hvs.1; simpa using this
    apply List.ext_getElem? 
    intro t
    rcases Nat.lt_or_ge t k with ht | ht
    · have c1 := O2.cells (g := g) rfl t _ (List.getElem?_eq_getElem (by omega))
      have c2 := hvs.cells (g := g) rfl t _ (List.getElem?_eq_getElem (by omega))
      rw [List.getElem?_eq_getElem (show t < vs2.length by omega), List.getElem?_eq_getElem (show t < vs.length by omega)]
      rw [c1] at c2
      exact c2
    · rw [List.getElem?_eq_none (by omega), List.getElem?_eq_none (by omega)]
  subst ev
  have lg := (O2.lt g rfl)
  have lv : vs2.length = k := by have := O2.1; simpa using this
  have near : ∀ b, b < w.heap.size → b ≠ g → w'.heap[b]? = w.heap[b]? := fun b hb hn => hG.block b hb (fun e => hn (by simpa using e))
  have far : ∀ {b : Nat}, b < w.heap.size → b ≠ g → b ≠ g' := fun {b} hb hn => by rcases hg with e | e; rw [e]; exact hn; omega
  refine ⟨by simp [hl], ⟨_, O, fun t S hS => ?_⟩, h.kp.trans ⟨hG.os, hG.tape, hG.output, hG.size, fun b hb => hG.block b (Nat.lt_of_lt_of_le hb h.kp.size) (fun e => by have := lg.1; simp only [Option.some.injEq] at e; omega)⟩⟩
  rcases Nat.lt_or_ge t k with ht | ht
  · rw [List.getElem?_append_left (by omega)] at hS
    obtain ⟨rg2, rn2, rc2, e, ne2, L2⟩ := hr t S hS
    exact ⟨rg2, rn2, rc2, by rw [List.getElem?_append_left (by omega)]; exact e, far L2.lt.2 ne2, L2.stays (near _ L2.lt.2 ne2)⟩
  · rw [List.getElem?_append_right (by omega), hl] at hS
    have ht2 : t < k + 1 := by
      rcases Nat.lt_or_ge (t - k) 1 with h1 | h1
      · omega
      · rw [List.getElem?_eq_none (by simpa using h1)] at hS; cases hS
    obtain rfl : t = k := by omega
    simp at hS
    subst hS
    exact ⟨rg, rn, rc, by rw [List.getElem?_append_right (by omega), lv]; simp, far L.lt.2 ne, L.stays (near _ L.lt.2 ne)⟩
/-- What lists of the call's own hang on: what lay ahead of wo, and what came behind w0. -/
theorem CutL.cube {wo w0 w : World} {g k cap : Nat} {C : List (List (List Int))} (h : CutL wo w0 w g k cap C) (hk : k ≤ 9223372036854775807) (hbo : Below wo.heap.size wo w0) : Hangs (fun b => b < wo.heap.size ∨ w0.heap.size ≤ b) w (fun w => CubeAt w (some ⟨g, 0, none⟩) k C) := by
  intro w2 h2
  obtain ⟨vs, O, hr⟩ := h.own
  have O2 := owns_mono O (Nat.le_refl _) (w' := w2) (fun b hb => by simp [Value.ownBlock] at hb; subst hb; exact h2 _ (Or.inr (O.lt g rfl).1) (O.lt g rfl).2)
  refine ⟨h.len, hk, fun _ => ⟨g, 0, rfl, fun t R hR => ?_⟩⟩
  obtain ⟨rg, rn, rc, e, _, L⟩ := hr t R hR
  have L2 := L.stays (w' := w2) (h2 _ (Or.inr L.lt.1) L.lt.2)
  have s0 := hbo.size
  have s1 := h.kp.size
  obtain ⟨p1, p2, G⟩ := L2.grid (fun b hb => by
    rw [h2 b (Or.inl hb) (by omega), h.kp.block b (by omega), hbo.block b hb])
  have hc := O2.cells (g := g) rfl t _ e
  have e2 : (Addr.mk g 0 none).add t = ⟨g, t, none⟩ := by simp [Addr.add]; intro h; exact h.symm
  rw [e2] at hc
  exact ⟨_, rn, rc, by rw [Nat.zero_add]; exact hc, (by intro h; cases h), p1, p2, G⟩
theorem cellL9 (w : World) (v : Value) : (w.alloc (.cells #[v] 60)).cell? ⟨w.heap.size, 0, none⟩ = some v := by
  have e := heap_alloc_new w (.cells #[v] 60)
  unfold World.cell?
  simp only [e]
  rfl
theorem cellR9 (w : World) (v : Value) : (w.alloc (.cells #[v] 42)).cell? ⟨w.heap.size, 0, none⟩ = some v := by
  have e := heap_alloc_new w (.cells #[v] 42)
  unfold World.cell?
  simp only [e]
  rfl
theorem take_val {vs : List Value} {k : Nat} {u : Value} (h : vs[k]? = some u) : vs.take (k + 1) = vs.take k ++ [u] := by
  rw [List.take_add_one, h]; rfl
theorem map_take9 {C : List (List (List Int))} {k n : Nat} {R : List (List Int)} (h : C[k]? = some R) : (C.take (k + 1)).map (List.take n) = (C.take k).map (List.take n) ++ [R.take n] := by
  rw [take_one h]; simp
set_option maxRecDepth 100000 in
set_option maxHeartbeats 1600000 in
theorem rcut9_any (ao : Option Addr) (m ca n : Nat) (C : List (List (List Int))) (wy w : World) (hC : CubeAt wy ao m C) (hy : Below wy.heap.size wy w) (hm : m ≤ 4096) (hn : n ≤ 4096) :
   Calls Tryd.prog 21 #[.slice ao m ca, .int .i64 (n : Int)] w fun e w' => ∃ g cap, e = .returned (.slice (some ⟨g, 0, none⟩) m cap) ∧ Hangs (fun b => b < wy.heap.size ∨ w.heap.size ≤ b) w' (fun w => CubeAt w (some ⟨g, 0, none⟩) m (C.map (List.take n))) ∧ Below w.heap.size w w' := by
  have F0 := cutL_new wy w
  have hl := hC.len
  go_enter Tryd.func21, Tryd.ntmps21
  go_wp2
  generalize w.alloc (.cells #[] 60) = w0 at *
  go_loopg [5, 13] m (fun r s i wr => ∃ (k g cap : Nat), k ≤ m ∧ r = m - k ∧ i = .int .i64 k ∧ s = .slice (some ⟨g, 0, none⟩) k cap ∧ CutL wy w wr g k cap ((C.take k).map (List.take n)))
  case atStart => exact ⟨0, _, _, by omega, by omega, rfl, rfl, by rw [List.take_zero]; exact F0⟩
  case round =>
    obtain ⟨k, g, cap, hk, rfl, rfl, rfl, F1⟩ := hrel
    clear F0
    by_cases hlt : k < m
    · obtain ⟨b, o, rfl, hc⟩ := (hC.below (below_then hy F1.kp)).cells (by omega)
      obtain ⟨R, hR⟩ : ∃ R, C[k]? = some R := ⟨_, List.getElem?_eq_getElem (show k < C.length by omega)⟩
      obtain ⟨ro, rn, c, h1, h2, h3, h4, -⟩ := hc k R hR
      have GW : GridAt wy ro rn R := by
        obtain ⟨b', o', e', hc'⟩ := hC.cells (by omega)
        obtain ⟨ro', rn', c', h1', -, -, -, G'⟩ := hc' k R hR
        simp only [Option.some.injEq, Addr.mk.injEq, and_true] at e'
        obtain ⟨rfl, rfl⟩ := e'
        have hlt' : b < wy.heap.size := by simpa using World.block_lt_of_cell? wy _ h1'
        have := h1
        rw [(below_then hy F1.kp).cell (by exact hlt'), h1'] at this
        simp only [Option.some.injEq, Value.slice.injEq] at this
        obtain ⟨rfl, rfl, rfl⟩ := this
        exact G'
      have HS : Hid ((C.take (k + 1)).map (List.take n) = (C.take k).map (List.take n) ++ [R.take n]) := map_take9 hR
      obtain ⟨xs, hxl, hx1, hxR, hxc⟩ := GW.vals9
      have hrm := GW.max
      have HXC : Hid (∀ wv, Below wy.heap.size wy wv → ∀ t, t < rn → ∃ b o, ro = some ⟨b, o, none⟩ ∧ ∃ u, xs[t]? = some u ∧ wv.cell? ⟨b, o + t, none⟩ = some u) := fun wv hb t ht => by
        obtain ⟨b1, o1, e1, u, q1, q2⟩ := hxc t ht
        have hlt' : b1 < wy.heap.size := by simpa using World.block_lt_of_cell? wy _ q2
        exact ⟨b1, o1, e1, u, q1, by rw [hb.cell (by exact hlt')]; exact q2⟩
      have HXR : Hid (RowsAt wy xs R) := hxR
      have HX1 : Hid (∀ u ∈ xs, u.oneCell' = true) := hx1
      clear hc hR GW hxR hxc hx1 h2 h3 h4
      have O0 : (wr.alloc (.cells #[] 42)).ownsRow wr.heap.size 42 1 (.slice (some ⟨wr.heap.size, 0, none⟩) 0 0) 0 [] := World.ownsRow_made wr #[] 0 (Nat.le_refl _) (by decide) rfl
      have BA : Below wr.heap.size wr (wr.alloc (.cells #[] 42)) := (Below.refl _ _).alloc (Nat.le_refl _) _
      have hsz := F1.kp.size
      go_wp2_with fail
      generalize wr.alloc (.cells #[] 42) = wa at *
      clear h1
      obtain ⟨wo, hwo⟩ : ∃ wo, wo = wr := ⟨_, rfl⟩
      subst hwo
      go_loopg [8, 9] rn (fun r s i wv => ∃ (j rg rc : Nat), j ≤ rn ∧ j ≤ n ∧ r = rn - j ∧ i = .int .i64 j ∧ s = .slice (some ⟨rg, 0, none⟩) j rc ∧ wv.ownsRow wo.heap.size 42 1 (.slice (some ⟨rg, 0, none⟩) j rc) j (xs.take j) ∧ Below wo.heap.size wo wv)
      case atStart => exact ⟨0, _, _, by omega, by omega, by omega, rfl, rfl, by rw [List.take_zero]; exact O0, BA⟩
      case round =>
        obtain ⟨j, rg, rc, hj, hjn, rfl, rfl, rfl, O1, B1⟩ := hrel
        clear O0 BA
        by_cases hjm : j < n
        · by_cases hjr : j < rn
          · obtain ⟨b1, o1, rfl, u, q1, q2⟩ := HXC.out wr (below_then hy (F1.kp.trans (B1.mono hsz))) j hjr
            obtain ⟨ur, um, uc, qu⟩ : ∃ ur um uc, u = .slice ur um uc := by
              obtain ⟨ur, um, uc, e, _⟩ := HXR.out.rows j (by rw [← HXR.out.len, hxl]; exact hjr)
              rw [q1] at e
              exact ⟨ur, um, uc, by simpa using e⟩
            subst qu
            have hu1 := HX1.out _ (List.mem_of_getElem? q1)
            have HT : Hid (xs.take (j + 1) = xs.take j ++ [.slice ur um uc]) := take_val q1
            clear q1
            have BL : Below wr.heap.size wr (wr.alloc (.cells #[.slice ur um uc] 42)) := (Below.refl _ _).alloc (Nat.le_refl _) _
            have cX := cellR9 wr (.slice ur um uc)
            have O2 := owns_below O1 BL
            have B2 := below_then B1 BL
            have s1 := B1.size
            have s2 := BL.size
            go_wp2_with (at_builtin; refine wpList_append_r9 rfl _ _ rfl wo.heap.size rg j rc _ rfl (by exact O2) wr.heap.size (.slice ur um uc) rfl (by exact cX) hu1 (by omega) (by omega) ?_; intro g' cap' w' O3 B3)
            go_roundg (rn - (j + 1))
            case measure => omega
            case rel => exact ⟨j + 1, _, _, by omega, by omega, rfl, by go_num, rfl, by rw [HT.out]; exact O3, B2.trans B3⟩
          · obtain rfl : j = rn := by omega
            have L : RowL wy wr w.heap.size rg j rc (R.take n) := ⟨xs.take j, owns_mono O1 hsz (fun _ _ => rfl), by rw [List.take_of_length_le (by omega), List.take_of_length_le (by rw [← HXR.out.len]; omega)]; exact HXR.out⟩
            have F2 := F1.below B1
            have ne : rg ≠ g := by
              have := (O1.lt rg rfl).1
              obtain ⟨vs, Ov, _⟩ := F1.own
              have := (Ov.lt g rfl).2
              omega
            have cX := cellL9 wr (.slice (some ⟨rg, 0, none⟩) j rc)
            have BL : Below wr.heap.size wr (wr.alloc (.cells #[.slice (some ⟨rg, 0, none⟩) j rc] 60)) := (Below.refl _ _).alloc (Nat.le_refl _) _
            have F3 := F2.below BL
            have L3 := L.stays (BL.block rg L.lt.2)
            obtain ⟨vs, Ov, _⟩ := F3.own
            have s3 := F3.kp.size
            clear F1 F2 L O1 HXC HXR HX1
            go_wp2_with (at_builtin; refine wpList_append_l9 rfl _ _ rfl w.heap.size g k cap vs rfl (by exact Ov) wr.heap.size (.slice (some ⟨rg, 0, none⟩) j rc) rfl (by exact cX) rfl (by omega) (by omega) ?_; intro g' cap' w' O3 G3 N3)
            have F4 := F3.snoc Ov L3 ne O3 G3 N3
            go_roundg (m - (k + 1))
            case measure => omega
            case rel => exact ⟨k + 1, _, _, by omega, rfl, by go_num, rfl, by rw [HS.out]; exact F4⟩
        · obtain rfl : j = n := by omega
          have L : RowL wy wr w.heap.size rg j rc (R.take j) := ⟨xs.take j, owns_mono O1 hsz (fun _ _ => rfl), HXR.out.take9 j⟩
          have F2 := F1.below B1
          have ne : rg ≠ g := by
            have := (O1.lt rg rfl).1
            obtain ⟨vs, Ov, _⟩ := F1.own
            have := (Ov.lt g rfl).2
            omega
          have cX := cellL9 wr (.slice (some ⟨rg, 0, none⟩) j rc)
          have BL : Below wr.heap.size wr (wr.alloc (.cells #[.slice (some ⟨rg, 0, none⟩) j rc] 60)) := (Below.refl _ _).alloc (Nat.le_refl _) _
          have F3 := F2.below BL
          have L3 := L.stays (BL.block rg L.lt.2)
          obtain ⟨vs, Ov, _⟩ := F3.own
          have s3 := F3.kp.size
          clear F1 F2 L O1 HXC HXR HX1
          go_wp2_with (at_builtin; refine wpList_append_l9 rfl _ _ rfl w.heap.size g k cap vs rfl (by exact Ov) wr.heap.size (.slice (some ⟨rg, 0, none⟩) j rc) rfl (by exact cX) rfl (by omega) (by omega) ?_; intro g' cap' w' O3 G3 N3)
          have F4 := F3.snoc Ov L3 ne O3 G3 N3
          go_roundg (m - (k + 1))
          case measure => omega
          case rel => exact ⟨k + 1, _, _, by omega, rfl, by go_num, rfl, by rw [HS.out]; exact F4⟩
    · obtain rfl : k = m := by omega
      rw [List.take_of_length_le (by omega)] at F1
      go_wp2
      go_ret
      exact ⟨_, _, rfl, F1.cube (by omega) hy, F1.kp⟩
end Go.Proofs.YtmdjlaileakbeaaDoor

/- A made model as numbers that fit, and what becomes of them where one row is of another length. -/
namespace Go.Proofs.YtmdjlaileakbeaaDoor
open Go.ChangeShapes Go.WideShapes Go.ChangeAt Go.RowKit
def rs (g n : Nat) : Sl := ⟨some ⟨g, 0, none⟩, n, n⟩
def mkB (D H f q k v o s u d : Nat) : Bk := ⟨rs f D, ⟨D, D, rs q (D * D)⟩, ⟨D, D, rs k (D * D)⟩, ⟨D, D, rs v (D * D)⟩, ⟨D, D, rs o (D * D)⟩, rs s D, ⟨H, D, rs u (H * D)⟩, ⟨D, H, rs d (D * H)⟩⟩
theorem mkB_cells (D H f q k v o s u d : Nat) : (mkB D H f q k v o s u d).cells = madeB D H f q k v o s u d := rfl
def mkW (V D L ge gB gl go : Nat) : Wt := ⟨⟨V, D, rs ge (V * D)⟩, rs gB L, rs gl D, ⟨V, D, rs go (V * D)⟩⟩
theorem mkW_cells (V D L ge gB gl go : Nat) : (mkW V D L ge gB gl go).cells = wCells V D (rv ge (V * D)) (rv gB L) (rv gl D) (rv go (V * D)) V D := rfl
theorem i64_nat {n : Nat} (h : n ≤ 4096) : I64 (n : Int) := by unfold I64; omega
theorem mkB_ok {D H f q k v o s u d : Nat} (h1 : D ≤ 4096) (h2 : H ≤ 4096) : (mkB D H f q k v o s u d).Ok :=
  ⟨by show D ≤ _; omega, ⟨i64_nat h1, i64_nat h1⟩, ⟨i64_nat h1, i64_nat h1⟩, ⟨i64_nat h1, i64_nat h1⟩, ⟨i64_nat h1, i64_nat h1⟩, by show D ≤ _; omega, ⟨i64_nat h2, i64_nat h1⟩, ⟨i64_nat h1, i64_nat h2⟩⟩
theorem mkW_ok {V D L ge gB gl go : Nat} (h1 : V ≤ 4096) (h2 : D ≤ 4096) : (mkW V D L ge gB gl go).Ok := ⟨⟨i64_nat h1, i64_nat h2⟩, by show D ≤ _; omega, ⟨i64_nat h1, i64_nat h2⟩⟩
theorem sides_yes {r c : Nat} (g : Nat) (h1 : 1 ≤ r) (h2 : r ≤ 128) (h3 : 1 ≤ c) (h4 : c ≤ 128) : sidesB ⟨r, c, rs g (r * c)⟩ r c = true := by
  unfold sidesB
  rw [decide_eq_true ⟨chk_ok h1 h2 h3 h4 rfl, rfl, rfl⟩]
theorem sides_no {r c : Nat} (s : Sl) (R K : Int) (h : s.n ≠ r * c) : sidesB ⟨r, c, s⟩ R K = false := by
  unfold sidesB
  refine decide_eq_false fun hh => ?_
  obtain ⟨r', c', e1, e2, _, _, _, _, e3⟩ := chk_zero hh.1
  simp only at e1 e2 e3
  obtain rfl : r = r' := by omega
  obtain rfl : c = c' := by omega
  exact h e3
theorem mkB_fits {D H f q k v o s u d : Nat} (h1 : 1 ≤ D) (h2 : D ≤ 128) (h3 : 1 ≤ H) (h4 : H ≤ 128) : bkB D H (mkB D H f q k v o s u d) = true := by
  unfold bkB mkB
  simp only [rs]
  have e1 := fun g => sides_yes (r := D) (c := D) g h1 h2 h1 h2
  have e2 := sides_yes (r := H) (c := D) u h3 h4 h1 h2
  have e3 := sides_yes (r := D) (c := H) d h1 h2 h3 h4
  unfold rs at e1 e2 e3
  rw [e1, e1, e1, e1, e2, e3]
  simp
/-- A made model's layers. -/
structure MadeL (w : World) (B seed i0 gB D H L : Nat) (bs : List Bk) : Prop where
  len : bs.length = L
  at_ : ∀ (t : Nat) (x : Bk), bs[t]? = some x → w.rangeAt gB (t * 20) x.cells.toList ∧ ∃ f q k v o s u d, x = mkB D H f q k v o s u d ∧ MadeB w B seed (i0 + t * lenB D H) D H f q k v o s u d
theorem madeL_of {w : World} {B seed i0 gB D H : Nat} : ∀ (L : Nat), (∀ j, j < L → ∃ f q k v o s u d, w.rangeAt gB (j * 20) (madeB D H f q k v o s u d).toList ∧ MadeB w B seed (i0 + j * lenB D H) D H f q k v o s u d) → ∃ bs, MadeL w B seed i0 gB D H L bs
  | 0, _ => ⟨[], rfl, fun t x h => by simp at h⟩
  | L + 1, h => by
    obtain ⟨bs, hl, ha⟩ := madeL_of L (fun j hj => h j (by omega))
    obtain ⟨f, q, k, v, o, s, u, d, hr, hm⟩ := h L (by omega)
    refine ⟨bs ++ [mkB D H f q k v o s u d], by simp [hl], fun t x hx => ?_⟩
    rcases Nat.lt_or_ge t L with h1 | h1
    · rw [List.getElem?_append_left (by omega)] at hx
      exact ha t x hx
    · rw [List.getElem?_append_right (by omega)] at hx
      have ht : t - bs.length = 0 := by
        rcases Nat.eq_zero_or_pos (t - bs.length) with h2 | h2
        · exact h2
        · rw [List.getElem?_eq_none (by simp; omega)] at hx; cases hx
      rw [ht] at hx
      simp at hx
      subst hx
      obtain rfl : t = L := by omega
      exact ⟨hr, f, q, k, v, o, s, u, d, rfl, hm⟩
theorem MadeL.blocks {w : World} {B seed i0 gB D H L : Nat} {bs : List Bk} (h : MadeL w B seed i0 gB D H L bs) (hL : L ≤ 4) (h1 : D ≤ 4096) (h2 : H ≤ 4096) : BlocksAt w (rs gB L) bs :=
  ⟨h.len, by show L ≤ _; omega, fun x hx => by
    obtain ⟨t, ht⟩ := List.mem_iff_getElem?.1 hx
    obtain ⟨_, f, q, k, v, o, s, u, d, rfl, _⟩ := h.at_ t x ht
    exact mkB_ok h1 h2, fun _ => ⟨gB, 0, rfl, fun t x hx => by rw [Nat.zero_add]; exact (h.at_ t x hx).1⟩⟩
theorem MadeL.below {w w' : World} {B seed i0 gB D H L : Nat} {bs : List Bk} (h : MadeL w B seed i0 gB D H L bs) (hg : gB < w.heap.size) (hb : Below w.heap.size w w') : MadeL w' B seed i0 gB D H L bs :=
  ⟨h.len, fun t x hx => by
    obtain ⟨r, f, q, k, v, o, s, u, d, e, m⟩ := h.at_ t x hx
    exact ⟨rangeAt_block r (hb.block gB hg), f, q, k, v, o, s, u, d, e, m.of (Nat.le_refl _) (fun F => hb.block _ F.lt)⟩⟩
/-- A made model fits. -/
theorem made_fits {w : World} {C : Cfg} {B seed i0 V D H L ge gB gl go : Nat} {bs : List Bk} (h : MadeL w B seed i0 gB D H L bs) (e1 : C.V = V) (e2 : C.D = D) (e4 : C.H = H) (e5 : C.L = L) (hs : shapeN C.V C.D C.Hd C.H C.L = 0) :
    checkN C.V C.D C.Hd C.H C.L (mkW V D L ge gB gl go) bs = 0 := by
  have hk := shape_ok hs
  unfold checkN
  rw [if_neg (by rw [hs]; simp), e1, e2, e4, e5]
  have : fitsB V D H L (mkW V D L ge gB gl go) bs = true := by
    unfold fitsB mkW
    simp only [rs]
    have s1 := sides_yes (r := V) (c := D) ge (by omega) (by omega) (by omega) (by omega)
    have s2 := sides_yes (r := V) (c := D) go (by omega) (by omega) (by omega) (by omega)
    unfold rs at s1 s2
    rw [s1, s2]
    simp only [decide_true, Bool.true_and, List.all_eq_true]
    intro x hx
    obtain ⟨t, ht⟩ := List.mem_iff_getElem?.1 hx
    obtain ⟨_, f, q, k, v, o, s, u, d, rfl, _⟩ := h.at_ t x ht
    exact mkB_fits (by omega) (by omega) (by omega) (by omega)
  rw [if_pos this]
theorem check_four {V D Hd H L : Int} {W : Wt} {bs : List Bk} (hs : shapeN V D Hd H L = 0) (hf : fitsB V D H L W bs = false) : checkN V D Hd H L W bs = 4 := by
  unfold checkN
  rw [if_neg (by rw [hs]; simp), if_neg (by rw [hf]; simp)]
/-- A cell of a range is written over. -/
theorem rangeAt_set {w : World} {g o : Nat} {cs : List Value} (h : w.rangeAt g o cs) {i : Nat} (hi : i < cs.length) (v : Value) : (w.setCell ⟨g, o + i, none⟩ v).rangeAt g o (cs.set i v) := fun j u hj => by
  rw [List.getElem?_set] at hj
  by_cases e : i = j
  · subst e
    rw [if_pos rfl, if_pos hi] at hj
    have := h i _ (List.getElem?_eq_getElem hi)
    rw [World.cell?_setCell_same _ _ _ this, ← hj]
  · rw [if_neg e] at hj
    rw [World.cell?_setCell_other _ _ _ _ (by simp <;> omega)]
    exact h j u hj
theorem rangeAt_apart {w : World} {g o : Nat} {cs : List Value} (h : w.rangeAt g o cs) {i : Nat} (hi : i < o ∨ o + cs.length ≤ i) (v : Value) : (w.setCell ⟨g, i, none⟩ v).rangeAt g o cs := fun j u hj => by
  have hjl : j < cs.length := (List.getElem?_eq_some_iff.1 hj).1
  rw [World.cell?_setCell_other _ _ _ _ (by simp <;> omega)]
  exact h j u hj
/-- The layers where one cell of the last is written over. -/
theorem MadeL.last {w : World} {B seed i0 gB D H L : Nat} {bs : List Bk} (h : MadeL w B seed i0 gB D H L bs) (h0 : 1 ≤ L) (hL : L ≤ 4) (h1 : D ≤ 4096) (h2 : H ≤ 4096) {x x' : Bk} (hx : bs[L - 1]? = some x) {i : Nat} (hi : i < 20) (s : Sl) (hc : x'.cells.toList = x.cells.toList.set i s.v) (ho : x'.Ok) (hb : bkB D H x' = false) :
    ∃ bs', BlocksAt (w.setCell ⟨gB, (L - 1) * 20 + i, none⟩ s.v) (rs gB L) bs' ∧ bs'.all (bkB D H) = false := by
  have hlen := h.len
  refine ⟨bs.set (L - 1) x', ⟨by simp [hlen, rs], by show L ≤ _; omega, fun y hy => ?_, fun _ => ⟨gB, 0, rfl, fun t y hy => ?_⟩⟩, ?_⟩
  · rcases List.mem_or_eq_of_mem_set hy with hy | rfl
    · obtain ⟨t, ht⟩ := List.mem_iff_getElem?.1 hy
      obtain ⟨_, f, q, k, v, o, s, u, d, rfl, _⟩ := h.at_ t y ht
      exact mkB_ok h1 h2
    · exact ho
  · rw [Nat.zero_add]
    rw [List.getElem?_set] at hy
    by_cases e : L - 1 = t
    · subst e
      rw [if_pos rfl, if_pos (by omega)] at hy
      obtain rfl := Option.some.inj hy
      rw [hc]
      exact rangeAt_set (h.at_ (L - 1) x hx).1 hi _
    · rw [if_neg e] at hy
      have ht : t < bs.length := (List.getElem?_eq_some_iff.1 hy).1
      exact rangeAt_apart (h.at_ t y hy).1 (Or.inr (by show t * 20 + 20 ≤ _; omega)) _
  · rw [← Bool.not_eq_true]
    intro ha
    have := List.all_eq_true.1 ha x' (List.mem_iff_getElem?.2 ⟨L - 1, by rw [List.getElem?_set, if_pos rfl, if_pos (by omega)]⟩)
    rw [hb] at this
    cases this
/-- A row of a made model that may be written over: what Check answers then. -/
structure Wanted (w : World) (g9 : Nat) (C : Cfg) (base ga oa gd n : Nat) : Prop where
  cell : w.cell? ⟨ga, oa, none⟩ = some (.slice (some ⟨gd, 0, none⟩) n n)
  froz : w.frozen? ⟨ga, oa, none⟩ = false
  row : ∃ B A, Fresh w B gd n n A
  pos : 1 ≤ n ∧ n ≤ 4096
  low : base ≤ ga
  eff : ∀ w', Below w.heap.size w w' → ∀ s : Sl, s.n ≠ n → s.n ≤ 9223372036854775807 → ∃ W' bs', Blk (w'.setCell ⟨ga, oa, none⟩ s.v) g9 47 W'.cells ∧ W'.Ok ∧ BlocksAt (w'.setCell ⟨ga, oa, none⟩ s.v) W'.b bs' ∧ checkN C.V C.D C.Hd C.H C.L W' bs' = 4
theorem Wanted.below {w w' : World} {g9 : Nat} {C : Cfg} {base ga oa gd n : Nat} (h : Wanted w g9 C base ga oa gd n) (hb : Below w.heap.size w w') : Wanted w' g9 C base ga oa gd n := by
  have hlt : ga < w.heap.size := by simpa using World.block_lt_of_cell? w _ h.cell
  obtain ⟨B, A, F⟩ := h.row
  exact ⟨(hb.cell (p := ⟨ga, oa, none⟩) hlt).trans h.cell, (World.frozen?_of_block (w := w) (hb.block ga hlt)).trans h.froz, ⟨B, A, F.below hb⟩, h.pos, h.low, fun w2 h2 => h.eff w2 (below_then hb h2)⟩
/-- Where the rows of a model lie. -/
def ptrN (g9 gB L : Nat) : Nat → Nat × Nat
  | 0 => (g9, 2)
  | 1 => (g9, 4)
  | 2 => (g9, 7)
  | 3 => (gB, (L - 1) * 20 + 0)
  | 4 => (gB, (L - 1) * 20 + 3)
  | 5 => (gB, (L - 1) * 20 + 6)
  | 6 => (gB, (L - 1) * 20 + 9)
  | 7 => (gB, (L - 1) * 20 + 12)
  | 8 => (gB, (L - 1) * 20 + 13)
  | 9 => (gB, (L - 1) * 20 + 16)
  | _ => (gB, (L - 1) * 20 + 19)
theorem blocks_other {w : World} {b : Sl} {bs : List Bk} {gB : Nat} (h : BlocksAt w b bs) (hb : ∀ g o, b.ao = some ⟨g, o, none⟩ → g = gB) {a : Addr} (ha : gB ≠ a.block) (v : Value) : BlocksAt (w.setCell a v) b bs := by
  refine ⟨h.len, h.max, h.ok, fun hn => ?_⟩
  obtain ⟨g, o, e, hc⟩ := h.cells hn
  refine ⟨g, o, e, fun t x hx => rangeAt_block (hc t x hx) (Below.heap_setCell _ _ _ _ (by rw [hb g o e]; exact ha))⟩
section
variable {w : World} {C : Cfg} {B seed i0 V D H L ge gB gl go g9 base : Nat} {bs : List Bk}
theorem wanted_top (h : MadeL w B seed i0 gB D H L bs) (X : Blk w g9 47 (mkW V D L ge gB gl go).cells) (hne : gB ≠ g9) (hgB : gB < w.heap.size) (hlow : base ≤ g9)
    (e1 : C.V = V) (e2 : C.D = D) (e4 : C.H = H) (e5 : C.L = L) (hs : shapeN C.V C.D C.Hd C.H C.L = 0) (i gd n : Nat)
    (hc : (mkW V D L ge gB gl go).cells[i]? = some (.slice (some ⟨gd, 0, none⟩) n n)) (hF : ∃ B A, Fresh w B gd n n A) (hn : 1 ≤ n ∧ n ≤ 4096)
    (he : ∀ s : Sl, s.n ≠ n → s.n ≤ 9223372036854775807 → ∃ W' : Wt, W'.cells = (mkW V D L ge gB gl go).cells.setIfInBounds i s.v ∧ W'.Ok ∧ W'.b = rs gB L ∧ fitsB V D H L W' bs = false) :
    Wanted w g9 C base g9 i gd n := by
  have hk := shape_ok hs
  refine ⟨X.cell i hc, X.frozen i, hF, hn, hlow, fun w' hb s h1 h2 => ?_⟩
  obtain ⟨W', c1, c2, c3, c4⟩ := he s h1 h2
  refine ⟨W', bs, ?_, c2, ?_, ?_⟩
  · rw [c1]; exact (X.below hb).set i _
  · rw [c3]
    exact blocks_other ((h.below hgB hb).blocks (by omega) (by omega) (by omega)) (fun g o e => by cases e; rfl) (by exact hne) _
  · rw [e1, e2, e4, e5] at hs ⊢
    exact check_four hs c4
theorem wanted_deep (h : MadeL w B seed i0 gB D H L bs) (X : Blk w g9 47 (mkW V D L ge gB gl go).cells) (hne : gB ≠ g9) (hgB : gB < w.heap.size) (hfr : ∀ o, w.frozen? ⟨gB, o, none⟩ = false) (hlow : base ≤ gB)
    (e1 : C.V = V) (e2 : C.D = D) (e4 : C.H = H) (e5 : C.L = L) (hs : shapeN C.V C.D C.Hd C.H C.L = 0) (x : Bk) (hx : bs[L - 1]? = some x) (i gd n : Nat) (hi : i < 20)
    (hc : x.cells.toList[i]? = some (.slice (some ⟨gd, 0, none⟩) n n)) (hF : ∃ B A, Fresh w B gd n n A) (hn : 1 ≤ n ∧ n ≤ 4096)
    (he : ∀ s : Sl, s.n ≠ n → s.n ≤ 9223372036854775807 → ∃ x' : Bk, x'.cells.toList = x.cells.toList.set i s.v ∧ x'.Ok ∧ bkB D H x' = false) :
    Wanted w g9 C base gB ((L - 1) * 20 + i) gd n := by
  have hk := shape_ok hs
  refine ⟨(h.at_ (L - 1) x hx).1 i _ hc, hfr _, hF, hn, hlow, fun w' hb s h1 h2 => ?_⟩
  obtain ⟨x', c1, c2, c3⟩ := he s h1 h2
  obtain ⟨bs', b1, b2⟩ := (h.below hgB hb).last (by omega) (by omega) (by omega) (by omega) hx hi s c1 c2 c3
  refine ⟨mkW V D L ge gB gl go, bs', (X.below hb).other (by show g9 ≠ gB; omega) _, mkW_ok (by omega) (by omega), b1, ?_⟩
  rw [e1, e2, e4, e5] at hs ⊢
  refine check_four hs ?_
  unfold fitsB
  rw [b2]
  simp
theorem wanted_all (M : MadeW w B seed V D H L ge gB gl go) (h : MadeL w B seed i0 gB D H L bs) (X : Blk w g9 47 (mkW V D L ge gB gl go).cells) (hl1 : base ≤ g9) (hl2 : base ≤ B)
    (e1 : C.V = V) (e2 : C.D = D) (e4 : C.H = H) (e5 : C.L = L) (hs : shapeN C.V C.D C.Hd C.H C.L = 0) (i : Nat) (hi : i < 11) :
    ∃ gd n, Wanted w g9 C base (ptrN g9 gB L i).1 (ptrN g9 gB L i).2 gd n := by
  have hk := shape_ok hs
  obtain ⟨cs, hB, _⟩ := M.bl
  have hgB : gB < w.heap.size := (Array.getElem?_eq_some_iff.1 hB).1
  have hne : gB ≠ g9 := by
    rintro rfl
    unfold Blk at X
    rw [hB] at X
    simp at X
  have hfr : ∀ o, w.frozen? ⟨gB, o, none⟩ = false := fun o => Blk.frozen (T := 67) (cs := cs) hB o
  have hlow : base ≤ gB := Nat.le_trans hl2 M.base
  have p1 : 1 ≤ V * D ∧ V * D ≤ 4096 := ⟨Nat.mul_pos (by omega) (by omega), Nat.le_trans (Nat.mul_le_mul (show V ≤ 64 by omega) (show D ≤ 32 by omega)) (by omega)⟩
  have p2 : 1 ≤ D * D ∧ D * D ≤ 4096 := ⟨Nat.mul_pos (by omega) (by omega), Nat.le_trans (Nat.mul_le_mul (show D ≤ 32 by omega) (show D ≤ 32 by omega)) (by omega)⟩
  have p3 : 1 ≤ H * D ∧ H * D ≤ 4096 := ⟨Nat.mul_pos (by omega) (by omega), Nat.le_trans (Nat.mul_le_mul (show H ≤ 64 by omega) (show D ≤ 32 by omega)) (by omega)⟩
  have p4 : 1 ≤ D * H ∧ D * H ≤ 4096 := ⟨Nat.mul_pos (by omega) (by omega), Nat.le_trans (Nat.mul_le_mul (show D ≤ 32 by omega) (show H ≤ 64 by omega)) (by omega)⟩
  have p5 : 1 ≤ D ∧ D ≤ 4096 := by omega
  have iV : I64 (V : Int) := i64_nat (by omega)
  have iD : I64 (D : Int) := i64_nat (by omega)
  have iH : I64 (H : Int) := i64_nat (by omega)
  have hD : D ≤ 9223372036854775807 := by omega
  obtain ⟨x, hx⟩ : ∃ x, bs[L - 1]? = some x := ⟨_, List.getElem?_eq_getElem (by rw [h.len]; omega)⟩
  obtain ⟨_, f, q, k, v, o, s, u, d, rfl, MB⟩ := h.at_ (L - 1) x hx
  have top := wanted_top (base := base) h X hne hgB hl1 e1 e2 e4 e5 hs
  have deep := wanted_deep (base := base) h X hne hgB hfr hlow e1 e2 e4 e5 hs _ hx
  have hor : i = 0 ∨ i = 1 ∨ i = 2 ∨ i = 3 ∨ i = 4 ∨ i = 5 ∨ i = 6 ∨ i = 7 ∨ i = 8 ∨ i = 9 ∨ i = 10 := by omega
  rcases hor with rfl | rfl | rfl | rfl | rfl | rfl | rfl | rfl | rfl | rfl | rfl
  · refine ⟨ge, V * D, top 2 ge (V * D) rfl ⟨_, _, M.e⟩ p1 (fun t h1 h2 => ⟨⟨⟨V, D, t⟩, rs gB L, rs gl D, ⟨V, D, rs go (V * D)⟩⟩, rfl, ⟨⟨iV, iD⟩, hD, ⟨iV, iD⟩⟩, rfl, ?_⟩)⟩
    unfold fitsB; simp only; rw [sides_no t _ _ h1]; simp
  · refine ⟨gl, D, top 4 gl D rfl ⟨_, _, M.l⟩ p5 (fun t h1 h2 => ⟨⟨⟨V, D, rs ge (V * D)⟩, rs gB L, t, ⟨V, D, rs go (V * D)⟩⟩, rfl, ⟨⟨iV, iD⟩, h2, ⟨iV, iD⟩⟩, rfl, ?_⟩)⟩
    unfold fitsB; simp only; rw [decide_eq_false (show ¬ ((t.n : Int) = D) by omega)]; simp
  · refine ⟨go, V * D, top 7 go (V * D) rfl ⟨_, _, M.o⟩ p1 (fun t h1 h2 => ⟨⟨⟨V, D, rs ge (V * D)⟩, rs gB L, rs gl D, ⟨V, D, t⟩⟩, rfl, ⟨⟨iV, iD⟩, hD, ⟨iV, iD⟩⟩, rfl, ?_⟩)⟩
    unfold fitsB; simp only; rw [sides_no t _ _ h1]; simp
  · refine ⟨f, D, deep 0 f (D) (by omega) rfl ⟨_, _, MB.f⟩ p5 (fun t h1 h2 => ⟨⟨t, ⟨D, D, rs q (D * D)⟩, ⟨D, D, rs k (D * D)⟩, ⟨D, D, rs v (D * D)⟩, ⟨D, D, rs o (D * D)⟩, rs s D, ⟨H, D, rs u (H * D)⟩, ⟨D, H, rs d (D * H)⟩⟩, rfl, ⟨h2, ⟨iD, iD⟩, ⟨iD, iD⟩, ⟨iD, iD⟩, ⟨iD, iD⟩, hD, ⟨iH, iD⟩, ⟨iD, iH⟩⟩, ?_⟩)⟩
    unfold bkB; simp only; rw [decide_eq_false (show ¬ ((t.n : Int) = D) by omega)]; simp
  · refine ⟨q, D * D, deep 3 q (D * D) (by omega) rfl ⟨_, _, MB.q⟩ p2 (fun t h1 h2 => ⟨⟨rs f D, ⟨D, D, t⟩, ⟨D, D, rs k (D * D)⟩, ⟨D, D, rs v (D * D)⟩, ⟨D, D, rs o (D * D)⟩, rs s D, ⟨H, D, rs u (H * D)⟩, ⟨D, H, rs d (D * H)⟩⟩, rfl, ⟨hD, ⟨iD, iD⟩, ⟨iD, iD⟩, ⟨iD, iD⟩, ⟨iD, iD⟩, hD, ⟨iH, iD⟩, ⟨iD, iH⟩⟩, ?_⟩)⟩
    unfold bkB; simp only; rw [sides_no t _ _ h1]; simp
  · refine ⟨k, D * D, deep 6 k (D * D) (by omega) rfl ⟨_, _, MB.k⟩ p2 (fun t h1 h2 => ⟨⟨rs f D, ⟨D, D, rs q (D * D)⟩, ⟨D, D, t⟩, ⟨D, D, rs v (D * D)⟩, ⟨D, D, rs o (D * D)⟩, rs s D, ⟨H, D, rs u (H * D)⟩, ⟨D, H, rs d (D * H)⟩⟩, rfl, ⟨hD, ⟨iD, iD⟩, ⟨iD, iD⟩, ⟨iD, iD⟩, ⟨iD, iD⟩, hD, ⟨iH, iD⟩, ⟨iD, iH⟩⟩, ?_⟩)⟩
    unfold bkB; simp only; rw [sides_no t _ _ h1]; simp
  · refine ⟨v, D * D, deep 9 v (D * D) (by omega) rfl ⟨_, _, MB.v⟩ p2 (fun t h1 h2 => ⟨⟨rs f D, ⟨D, D, rs q (D * D)⟩, ⟨D, D, rs k (D * D)⟩, ⟨D, D, t⟩, ⟨D, D, rs o (D * D)⟩, rs s D, ⟨H, D, rs u (H * D)⟩, ⟨D, H, rs d (D * H)⟩⟩, rfl, ⟨hD, ⟨iD, iD⟩, ⟨iD, iD⟩, ⟨iD, iD⟩, ⟨iD, iD⟩, hD, ⟨iH, iD⟩, ⟨iD, iH⟩⟩, ?_⟩)⟩
    unfold bkB; simp only; rw [sides_no t _ _ h1]; simp
  · refine ⟨o, D * D, deep 12 o (D * D) (by omega) rfl ⟨_, _, MB.o⟩ p2 (fun t h1 h2 => ⟨⟨rs f D, ⟨D, D, rs q (D * D)⟩, ⟨D, D, rs k (D * D)⟩, ⟨D, D, rs v (D * D)⟩, ⟨D, D, t⟩, rs s D, ⟨H, D, rs u (H * D)⟩, ⟨D, H, rs d (D * H)⟩⟩, rfl, ⟨hD, ⟨iD, iD⟩, ⟨iD, iD⟩, ⟨iD, iD⟩, ⟨iD, iD⟩, hD, ⟨iH, iD⟩, ⟨iD, iH⟩⟩, ?_⟩)⟩
    unfold bkB; simp only; rw [sides_no t _ _ h1]; simp
  · refine ⟨s, D, deep 13 s (D) (by omega) rfl ⟨_, _, MB.s⟩ p5 (fun t h1 h2 => ⟨⟨rs f D, ⟨D, D, rs q (D * D)⟩, ⟨D, D, rs k (D * D)⟩, ⟨D, D, rs v (D * D)⟩, ⟨D, D, rs o (D * D)⟩, t, ⟨H, D, rs u (H * D)⟩, ⟨D, H, rs d (D * H)⟩⟩, rfl, ⟨hD, ⟨iD, iD⟩, ⟨iD, iD⟩, ⟨iD, iD⟩, ⟨iD, iD⟩, h2, ⟨iH, iD⟩, ⟨iD, iH⟩⟩, ?_⟩)⟩
    unfold bkB; simp only; rw [decide_eq_false (show ¬ ((t.n : Int) = D) by omega)]; simp
  · refine ⟨u, H * D, deep 16 u (H * D) (by omega) rfl ⟨_, _, MB.u⟩ p3 (fun t h1 h2 => ⟨⟨rs f D, ⟨D, D, rs q (D * D)⟩, ⟨D, D, rs k (D * D)⟩, ⟨D, D, rs v (D * D)⟩, ⟨D, D, rs o (D * D)⟩, rs s D, ⟨H, D, t⟩, ⟨D, H, rs d (D * H)⟩⟩, rfl, ⟨hD, ⟨iD, iD⟩, ⟨iD, iD⟩, ⟨iD, iD⟩, ⟨iD, iD⟩, hD, ⟨iH, iD⟩, ⟨iD, iH⟩⟩, ?_⟩)⟩
    unfold bkB; simp only; rw [sides_no t _ _ h1]; simp
  · refine ⟨d, D * H, deep 19 d (D * H) (by omega) rfl ⟨_, _, MB.d⟩ p4 (fun t h1 h2 => ⟨⟨rs f D, ⟨D, D, rs q (D * D)⟩, ⟨D, D, rs k (D * D)⟩, ⟨D, D, rs v (D * D)⟩, ⟨D, D, rs o (D * D)⟩, rs s D, ⟨H, D, rs u (H * D)⟩, ⟨D, H, t⟩⟩, rfl, ⟨hD, ⟨iD, iD⟩, ⟨iD, iD⟩, ⟨iD, iD⟩, ⟨iD, iD⟩, hD, ⟨iH, iD⟩, ⟨iD, iH⟩⟩, ?_⟩)⟩
    unfold bkB; simp only; rw [sides_no t _ _ h1]; simp
end
end Go.Proofs.YtmdjlaileakbeaaDoor
