/- Contracts of the program's functions, part 7 of 10: what each call returns and leaves of memory. -/
import Derived.Test.YtpplnjmjldhlbaaPk4
import Derived.Test.YtpplnjmjldhlbaaPk6
import Derived.Lib.ConvBytes
/- Rows, rows of rows and lists of them that came in: as they read, nothing said of what is frozen; copies of them, of the call's own. -/
namespace Go.Proofs.Ytpplnjmjldhlbaa
open Go.ChangeShapes Go.WideShapes Go.ChangeAt Go.RowKit
structure ArgR (w : World) (ao : Option Addr) (n ca : Nat) (A : List Int) : Prop where
  row : RowAt w ao n A
  fit : n ≤ ca
  max : ca ≤ 9223372036854775807
  nil : ao = none → ca = 0
theorem ArgR.below {w w' : World} {ao : Option Addr} {n ca : Nat} {A : List Int} (h : ArgR w ao n ca A) (hb : Below w.heap.size w w') : ArgR w' ao n ca A := ⟨h.row.below hb, h.fit, h.max, h.nil⟩
theorem Arg.raw {w : World} {ao : Option Addr} {n ca : Nat} {A : List Int} (h : Arg w ao n ca A) : ArgR w ao n ca A := ⟨h.row, h.fit, h.max, h.nil⟩
structure GridR (w : World) (ao : Option Addr) (n : Nat) (R : List (List Int)) : Prop where
  len : R.length = n
  max : n ≤ 9223372036854775807
  cells : 0 < n → ∃ b o, ao = some ⟨b, o, none⟩ ∧ ∀ t, t < n → ∃ ro m c, w.cell? ⟨b, o + t, none⟩ = some (.slice ro m c) ∧ ArgR w ro m c (rowOf R t)
theorem GridR.nil (w : World) (ao : Option Addr) : GridR w ao 0 [] := ⟨rfl, by omega, fun h => by omega⟩
theorem GridR.below {w w' : World} {ao : Option Addr} {n : Nat} {R : List (List Int)} (h : GridR w ao n R) (hb : Below w.heap.size w w') : GridR w' ao n R := by
  refine ⟨h.len, h.max, fun hn => ?_⟩
  obtain ⟨b, o, e, hc⟩ := h.cells hn
  refine ⟨b, o, e, fun t ht => ?_⟩
  obtain ⟨ro, m, c, h1, h2⟩ := hc t ht
  have hlt : b < w.heap.size := by simpa using World.block_lt_of_cell? w _ h1
  exact ⟨ro, m, c, by rw [hb.cell (by exact hlt)]; exact h1, h2.below hb⟩
theorem GridAt.raw {w : World} {ao : Option Addr} {n : Nat} {R : List (List Int)} (h : GridAt w ao n R) : GridR w ao n R := ⟨h.len, h.max, fun hn => by
  obtain ⟨b, o, e, hc⟩ := h.cells hn
  exact ⟨b, o, e, fun t ht => let ⟨ro, m, c, h1, h2⟩ := hc t ht; ⟨ro, m, c, h1, h2.raw⟩⟩⟩
structure CubeR (w : World) (ao : Option Addr) (m : Nat) (C : List (List (List Int))) : Prop where
  len : C.length = m
  max : m ≤ 9223372036854775807
  cells : 0 < m → ∃ b o, ao = some ⟨b, o, none⟩ ∧ ∀ (t : Nat) (R : List (List Int)), C[t]? = some R → ∃ ro n c, w.cell? ⟨b, o + t, none⟩ = some (.slice ro n c) ∧ (ro = none → c = 0) ∧ n ≤ c ∧ c ≤ 9223372036854775807 ∧ GridR w ro n R
theorem CubeR.nil (w : World) (ao : Option Addr) : CubeR w ao 0 [] := ⟨rfl, by omega, fun h => by omega⟩
theorem CubeR.below {w w' : World} {ao : Option Addr} {m : Nat} {C : List (List (List Int))} (h : CubeR w ao m C) (hb : Below w.heap.size w w') : CubeR w' ao m C := by
  refine ⟨h.len, h.max, fun hn => ?_⟩
  obtain ⟨b, o, e, hc⟩ := h.cells hn
  refine ⟨b, o, e, fun t R hR => ?_⟩
  obtain ⟨ro, n, c, h1, h2, h3, h4, h5⟩ := hc t R hR
  have hlt : b < w.heap.size := by simpa using World.block_lt_of_cell? w _ h1
  exact ⟨ro, n, c, by rw [hb.cell (by exact hlt)]; exact h1, h2, h3, h4, h5.below hb⟩
theorem CubeAt.raw {w : World} {ao : Option Addr} {m : Nat} {C : List (List (List Int))} (h : CubeAt w ao m C) : CubeR w ao m C := ⟨h.len, h.max, fun hn => by
  obtain ⟨b, o, e, hc⟩ := h.cells hn
  exact ⟨b, o, e, fun t R hR => let ⟨ro, n, c, h1, h2, h3, h4, h5⟩ := hc t R hR; ⟨ro, n, c, h1, h2, h3, h4, h5.raw⟩⟩⟩
set_option maxHeartbeats 800000 in
theorem fewR_any (ao : Option Addr) (n ca : Nat) (A : List Int) (lim : Nat) (li : Int) (w : World) (hli : li = lim) (hA : ArgR w ao n ca A) (hl : lim ≤ 5000) :
   Calls Try.prog 53 #[.slice ao n ca, .int .i64 li] w fun e w' => ∃ g n' cap, e = .returned (.slice (some ⟨g, 0, none⟩) n' cap) ∧ n' ≤ lim ∧ Fresh w' w.heap.size g n' cap (A.take lim) ∧ Below w.heap.size w w' := by
  subst hli
  have hm := hA.max
  have hf := hA.fit
  have hlen := hA.row.len
  have F0 := fresh_empty w
  have B0 : Below w.heap.size w (w.alloc (.cells #[] 71)) := (Below.refl _ _).alloc (Nat.le_refl _) _
  by_cases hgt : lim < n
  · obtain ⟨b, o, rfl, hc⟩ := hA.row.cells (by omega)
    have R := (hA.row.part 0 lim (by omega)).below B0
    rw [Nat.add_zero, List.drop_zero] at R
    clear hA hc hlen
    go_enter Try.func53, Try.ntmps53
    go_wp2_with (at_builtin; refine wpList_append_row rfl _ _ rfl w.heap.size w.heap.size 0 0 [] rfl F0 (some ⟨b, o, none⟩) lim ca (A.take lim) rfl R (fun h => by cases h) (by omega) (by simp) ?_; intro g' cap' w' F1 B1)
    rw [Nat.zero_add, List.nil_append] at *
    go_ret
    exact ⟨_, _, _, rfl, Nat.le_refl _, F1, B0.trans B1⟩
  · have R := hA.row.below B0
    have ht : A.take lim = A := List.take_of_length_le (by omega)
    rw [ht]
    have hnil := hA.nil
    clear hA ht hlen
    go_enter Try.func53, Try.ntmps53
    go_wp2_with (at_builtin; refine wpList_append_row rfl _ _ rfl w.heap.size w.heap.size 0 0 [] rfl F0 ao n ca A rfl R hnil (by omega) (by simp) ?_; intro g' cap' w' F1 B1)
    rw [Nat.zero_add, List.nil_append] at *
    go_ret
    exact ⟨_, _, _, rfl, by omega, F1, B0.trans B1⟩
set_option maxHeartbeats 1600000 in
theorem hrowsR_any (ao : Option Addr) (n ca : Nat) (R : List (List Int)) (lim : Nat) (li : Int) (w : World) (hli : li = lim) (hR : GridR w ao n R) (hlim : lim ≤ 5000) :
   Calls Try.prog 46 #[.slice ao n ca, .int .i64 li] w fun e w' => ∃ g k cap, e = .returned (.slice (some ⟨g, 0, none⟩) k cap) ∧ k ≤ lim ∧ OwnGrid w' w.heap.size g k cap (rowsN R lim) ∧ Below w.heap.size w w' := by
  subst hli
  have hn := hR.max
  have hl := hR.len
  have F0 := ownGrid_empty w
  have B0 : Below w.heap.size w (w.alloc (.cells #[] 72)) := (Below.refl _ _).alloc (Nat.le_refl _) _
  have HR : Hid (∀ wv, Below w.heap.size w wv → GridR wv ao n R) := fun wv hb => hR.below hb
  go_enter Try.func46, Try.ntmps46
  go_wp2
  generalize w.alloc (.cells #[] 72) = w0 at *
  clear hR
  go_loopg [5, 6] lim (fun r s i wr => ∃ (k g cap : Nat), k ≤ lim ∧ k ≤ n ∧ r = lim - k ∧ i = .int .i64 k ∧ s = .slice (some ⟨g, 0, none⟩) k cap ∧ OwnGrid wr w.heap.size g k cap (rowsN R k) ∧ Below w.heap.size w wr)
  case atStart => exact ⟨0, _, _, by omega, by omega, by omega, rfl, rfl, by unfold rowsN; rw [List.take_zero]; exact F0, B0⟩
  case round =>
    obtain ⟨k, g, cap, hk, hkn, rfl, rfl, rfl, F2, B2⟩ := hrel
    clear F0 B0
    by_cases hlt : k < n
    · by_cases h6 : k < lim
      · obtain ⟨b, o, rfl, hc⟩ := (HR.out _ B2).cells (by omega)
        obtain ⟨ro, m1, c1, q1, A1⟩ := hc k hlt
        have HS : Hid (rowsN R (k + 1) = rowsN R k ++ [(rowOf R k).take 40]) := take_snoc (by omega)
        have s2 := B2.size
        clear hc
        go_wp2_with (first | (go_at_call 53; refine (fewR_any _ _ _ _ 40 _ _ rfl A1 (by omega)).mono ?_; rintro e w3 ⟨g3, n3, c3, rfl, hm3, F3, B3⟩; have BL : Below w3.heap.size w3 (w3.alloc (.cells #[.slice (some ⟨g3, 0, none⟩) n3 c3] 72)) := (Below.refl _ _).alloc (Nat.le_refl _) _; have cX := cellRow_new w3 (.slice (some ⟨g3, 0, none⟩) n3 c3); have F4 := (F3.mono s2).below BL; have G4 := (F2.below B3).below BL; have s3 := B3.size; have s4 := BL.size; have B4 := below_then (below_then B2 B3) BL; have BO := below_then B3 BL; have hg3 := F3.base; generalize hw4 : w3.alloc (.cells #[.slice (some ⟨g3, 0, none⟩) n3 c3] 72) = w4 at *) | (at_builtin; refine wpList_append_grid rfl _ _ rfl w.heap.size g k cap _ rfl (by exact G4) _ (by exact F2) (by exact BO) w3.heap.size g3 n3 c3 _ rfl (by exact cX) (by exact F4) (by exact hg3) (by omega) (by omega) ?_; intro g' cap' w' F7 B7))
        go_roundg (lim - (k + 1))
        case measure => omega
        case rel => exact ⟨k + 1, _, _, by omega, by omega, rfl, by go_num, rfl, by rw [HS.out]; exact F7, B4.trans B7⟩
      · obtain rfl : k = lim := by omega
        go_wp2
        go_ret
        exact ⟨_, _, _, rfl, Nat.le_refl _, F2, B2⟩
    · obtain rfl : k = n := by omega
      have e : rowsN R k = rowsN R lim := by unfold rowsN; rw [List.take_of_length_le (by omega), List.take_of_length_le (by omega)]
      rw [e] at F2
      clear e
      go_wp2
      go_ret
      exact ⟨_, _, _, rfl, hk, F2, B2⟩
/-- At most five lists of at most lim rows of at most 40 numbers. -/
def cutC (C : List (List (List Int))) (lim : Nat) : List (List (List Int)) := (C.take 5).map fun R => rowsN R lim
theorem cutC_len (C : List (List (List Int))) (lim : Nat) : (cutC C lim).length = min 5 C.length := by unfold cutC; simp
theorem cutC_snoc {C : List (List (List Int))} {k : Nat} {R : List (List Int)} (lim : Nat) (_hk : k < 5) (h : C[k]? = some R) : ((C.take (k + 1)).map fun R => rowsN R lim) = ((C.take k).map fun R => rowsN R lim) ++ [rowsN R lim] := by
  rw [take_one h]; simp
set_option maxRecDepth 100000 in
set_option maxHeartbeats 800000 in
theorem listsR_any (ao : Option Addr) (n ca : Nat) (C : List (List (List Int))) (m5 : Nat) (Z : List (List (List Int))) (w : World) (hC : CubeR w ao n C) (hm5 : m5 = min 5 n) (hZ : Z = cutC C 130) :
   Calls Try.prog 26 #[.slice ao n ca] w fun e w' => ∃ g cap, e = .returned (.slice (some ⟨g, 0, none⟩) m5 cap) ∧ New w.heap.size w' (fun w => CubeAt w (some ⟨g, 0, none⟩) m5 Z) ∧ Below w.heap.size w w' := by
  have hl := hC.len
  have F0 := ownCube_empty w
  have B0 : Below w.heap.size w (w.alloc (.cells #[] 73)) := (Below.refl _ _).alloc (Nat.le_refl _) _
  have HC : Hid (∀ wv, Below w.heap.size w wv → CubeR wv ao n C) := fun wv hb => hC.below hb
  go_enter Try.func26, Try.ntmps26
  go_wp2
  generalize w.alloc (.cells #[] 73) = w0 at *
  have hC' := hC
  have HZ : Hid (Z = cutC C 130) := hZ
  have HM5 : Hid (m5 = min 5 n) := hm5
  clear hC hZ hm5
  have hmx := hC'.max
  go_loopg [3, 4] n (fun r s i wr => ∃ (k g cap : Nat), k ≤ n ∧ k ≤ 5 ∧ r = n - k ∧ i = .int .i64 k ∧ s = .slice (some ⟨g, 0, none⟩) k cap ∧ OwnCube wr w.heap.size g k cap ((C.take k).map fun R => rowsN R 130) ∧ Below w.heap.size w wr)
  case atStart => exact ⟨0, _, _, by omega, by omega, by omega, rfl, rfl, by rw [List.take_zero]; exact F0, B0⟩
  case round =>
    obtain ⟨k, g, cap, hk, hk5, rfl, rfl, rfl, F2, B2⟩ := hrel
    clear hC'
    clear F0 B0
    by_cases hlt : k < n ∧ k < 5
    · obtain ⟨hlt, h5⟩ := hlt
      obtain ⟨b, o, rfl, hc⟩ := (HC.out _ B2).cells (by omega)
      obtain ⟨R, hR⟩ : ∃ R, C[k]? = some R := ⟨_, List.getElem?_eq_getElem (show k < C.length by omega)⟩
      obtain ⟨ro, m1, c1, q1, -, -, -, G1⟩ := hc k R hR
      have HS : Hid (((C.take (k + 1)).map fun R => rowsN R 130) = ((C.take k).map fun R => rowsN R 130) ++ [rowsN R 130]) := cutC_snoc 130 h5 hR
      have s2 := B2.size
      have lg := F2.lt
      have h5' : (k : Int) < 5 := by omega
      clear hc
      go_wp2_with fail
      refine (hrowsR_any ro m1 c1 R 130 130 _ rfl G1 (by omega)).mono ?_
      rintro e w3 ⟨g3, n3, c3, rfl, hm3, OG, B3⟩
      obtain ⟨p1, p2⟩ := own_caps OG.own.choose_spec.1
      have NG := OG.hangs (by omega)
      have BL : Below w3.heap.size w3 (w3.alloc (.cells #[.slice (some ⟨g3, 0, none⟩) n3 c3] 73)) := (Below.refl _ _).alloc (Nat.le_refl _) _
      have cX := cellList_new w3 (.slice (some ⟨g3, 0, none⟩) n3 c3)
      have F4 := (F2.below B3).below BL
      have s3 := B3.size
      have s4 := BL.size
      have NG4 : Hangs (fun b => w.heap.size ≤ b ∧ b ≠ g) (w3.alloc (.cells #[.slice (some ⟨g3, 0, none⟩) n3 c3] 73)) (fun w => GridAt w (some ⟨g3, 0, none⟩) n3 (rowsN R 130)) := Hangs.mono (Hangs.below NG BL) (fun b _ hb => ⟨by omega, by omega⟩)
      have B4 := below_then (below_then B2 B3) BL
      clear NG OG F2 G1 q1
      generalize hw4 : w3.alloc (.cells #[.slice (some ⟨g3, 0, none⟩) n3 c3] 73) = w4 at *
      go_wp2_with (at_builtin; refine wpList_append_cube rfl _ _ rfl w.heap.size g k cap _ rfl (by exact F4) w3.heap.size g3 n3 c3 (rowsN R 130) rfl (by exact cX) p1 p2 (by exact NG4) (by omega) (by omega) ?_; intro g' cap' w' F7 B7)
      go_roundg (n - (k + 1))
      case measure => omega
      case rel => exact ⟨k + 1, _, _, by omega, by omega, rfl, by go_num, rfl, by rw [HS.out]; exact F7, B4.trans B7⟩
    · have e1 : (C.take k).map (fun R => rowsN R 130) = cutC C 130 := by
        unfold cutC
        by_cases h5 : k = 5
        · rw [h5]
        · rw [List.take_of_length_le (by omega), List.take_of_length_le (by omega)]
      have e2 : k = min 5 n := by omega
      have e3 := HM5.out
      rw [← e2] at e3
      rw [e1, ← HZ.out] at F2
      subst e3
      clear hlt
      by_cases h5 : m5 < n
      · have hk5' : (m5 : Int) = 5 := by omega
        clear e1 e2
        go_wp2
        go_ret
        exact ⟨_, _, rfl, F2.hangs (by omega), B2⟩
      · obtain rfl : m5 = n := by omega
        clear e1 e2
        go_wp2
        go_ret
        exact ⟨_, _, rfl, F2.hangs (by omega), B2⟩
end Go.Proofs.Ytpplnjmjldhlbaa

/- Told, Of and Copy of layer 9 over any view. -/
namespace Go.Proofs.Ytpplnjmjldhlbaa
open Go.ChangeShapes Go.WideShapes Go.ChangeAt Go.RowKit
/-- A view that came in. -/
structure VwR (w : World) (v : VwV) (X : Vw) : Prop where
  t : IArg w v.t.ao v.t.n v.t.c X.T
  k : CubeR w v.k.ao v.k.n X.K
  v : CubeR w v.v.ao v.v.n X.V
theorem VwR.below {w w' : World} {v : VwV} {X : Vw} (h : VwR w v X) (hb : Below w.heap.size w w') : VwR w' v X := ⟨h.t.below hb, h.k.below hb, h.v.below hb⟩
theorem VwAt.raw {w : World} {v : VwV} {X : Vw} (h : VwAt w v X) : VwR w v X := ⟨h.t, h.k.raw, h.v.raw⟩
def cutVw (X : Vw) : Vw := ⟨X.T.take 130, cutC X.K 130, cutC X.V 130⟩
theorem rowsN_twice (R : List (List Int)) (n : Nat) : rowsN (rowsN R n) n = rowsN R n := by
  unfold rowsN
  rw [← List.map_take, List.take_take, Nat.min_self, List.map_map]
  congr 1
  funext l
  show List.take 40 (List.take 40 l) = List.take 40 l
  rw [List.take_take, Nat.min_self]
theorem cutC_twice (C : List (List (List Int))) (n : Nat) : cutC (cutC C n) n = cutC C n := by
  unfold cutC
  rw [← List.map_take, List.take_take, Nat.min_self, List.map_map]
  congr 1
  funext R
  exact rowsN_twice R n
theorem cutVw_twice (X : Vw) : cutVw (cutVw X) = cutVw X := by
  unfold cutVw
  simp only [cutC_twice, List.take_take, Nat.min_self]
theorem cutC_mem {C : List (List (List Int))} {n : Nat} {R : List (List Int)} (h : R ∈ cutC C n) : R.length ≤ n ∧ (∀ t, (rowOf R t).length ≤ 40) ∧ rowsN R n = R := by
  obtain ⟨S, _, rfl⟩ := List.mem_map.1 h
  exact ⟨by unfold rowsN; rw [List.length_map, List.length_take]; omega, fun t => rowsN_len S n t, rowsN_twice S n⟩
theorem cutC_at_most (C : List (List (List Int))) (n : Nat) : (cutC C n).length ≤ 5 := by rw [cutC_len]; omega
theorem IOwn.newArg {w : World} {B : Nat} {ao : Option Addr} {n c : Nat} {A : List Int} (h : IOwn w B (.slice ao n c) n A) (hs : ∀ k, -9223372036854775808 ≤ el A k ∧ el A k ≤ 9223372036854775807) : New B w (fun w => IArg w ao n c A) := fun w2 h2 => by
  obtain ⟨x1, y1, e1, IT⟩ := IOwn.arg (A := A) (owns_mono h (Nat.le_refl _) (fun b hb => h2 b (h.lt b hb).1 (h.lt b hb).2)) hs
  simp only [Value.slice.injEq, true_and] at e1
  obtain ⟨rfl, rfl⟩ := e1
  exact IT
set_option maxRecDepth 100000 in
set_option maxHeartbeats 800000 in
theorem told9N_any (vv : VwV) (X : Vw) (w : World) (hv : VwR w vv X) :
   Calls Try.prog 6 #[.agg vv.cells] w fun e w' => ∃ t k v : Sl, e = .returned (.agg #[t.v, k.v, v.v]) ∧ New w.heap.size w' (fun w => ToldAt w t k v (cutVw X)) ∧ Below w.heap.size w w' := by
  have hsm := hv.t.row.small
  have HT : Hid (∀ wv, Below w.heap.size w wv → IArg wv vv.t.ao vv.t.n vv.t.c X.T) := fun wv hb => hv.t.below hb
  have HK : Hid (∀ wv, Below w.heap.size w wv → CubeR wv vv.k.ao vv.k.n X.K) := fun wv hb => hv.k.below hb
  have HV : Hid (∀ wv, Below w.heap.size w wv → CubeR wv vv.v.ao vv.v.n X.V) := fun wv hb => hv.v.below hb
  clear hv
  obtain ⟨⟨ta, tn, tc⟩, ⟨ka, kn, kc⟩, ⟨va, vn, vc⟩⟩ := vv
  unfold VwV.cells Sl.v
  simp only at *
  obtain ⟨TT, hTT⟩ : ∃ TT, TT = X.T.take 130 := ⟨_, rfl⟩
  obtain ⟨KK, hKK⟩ : ∃ KK, KK = cutC X.K 130 := ⟨_, rfl⟩
  obtain ⟨VV, hVV⟩ : ∃ VV, VV = cutC X.V 130 := ⟨_, rfl⟩
  obtain ⟨kn5, hkn5⟩ : ∃ m, m = min 5 kn := ⟨_, rfl⟩
  obtain ⟨vn5, hvn5⟩ : ∃ m, m = min 5 vn := ⟨_, rfl⟩
  have hsm2 : Hid (∀ k, -9223372036854775808 ≤ el TT k ∧ el TT k ≤ 9223372036854775807) := by
    intro k
    subst hTT
    rcases Nat.lt_or_ge k 130 with h | h
    · rw [el_take h]; exact hsm k
    · rw [el_over (by rw [List.length_take]; omega)]; omega
  have HTT : Hid (TT = X.T.take 130) := hTT
  have HKK : Hid (KK = cutC X.K 130) := hKK
  have HVV : Hid (VV = cutC X.V 130) := hVV
  have HKN : Hid (kn5 = min 5 kn) := hkn5
  have HVN : Hid (vn5 = min 5 vn) := hvn5
  clear hTT hKK hVV hkn5 hvn5 hsm
  have X0 := blk_new w 29 #[.slice ta tn tc, .slice ka kn kc, .slice va vn vc]
  have B0 : Below w.heap.size w (w.alloc (.cells #[.slice ta tn tc, .slice ka kn kc, .slice va vn vc] 29)) := (Below.refl _ _).alloc (Nat.le_refl _) _
  generalize hw0 : w.alloc (.cells #[.slice ta tn tc, .slice ka kn kc, .slice va vn vc] 29) = w0 at *
  have lt0 := X0.lt
  have X1 := blk_new w0 31 #[.slice none 0 0, .slice none 0 0, .slice none 0 0]
  have B1 : Below w0.heap.size w0 (w0.alloc (.cells #[.slice none 0 0, .slice none 0 0, .slice none 0 0] 31)) := (Below.refl _ _).alloc (Nat.le_refl _) _
  generalize hw1 : w0.alloc (.cells #[.slice none 0 0, .slice none 0 0, .slice none 0 0] 31) = w1 at *
  replace X0 := X0.below B1
  have D := below_then B0 B1
  clear B0 B1
  have lt1 := X1.lt
  go_enter Try.func6, Try.ntmps6
  go_wp2_with fail
  clear hw0 hw1
  replace X0 := X0.below ((Below.refl _ _).drew)
  replace X1 := X1.below ((Below.refl _ _).drew)
  replace D := D.drew
  replace lt1 : w0.heap.size < w1.drew.heap.size := lt1
  refine wp_region_held_drew (S := fun w' => Blk w' w.heap.size 29 #[.slice ta tn tc, .slice ka kn kc, .slice va vn vc]) (by kernel_rfl) (X0) (fun hHeld => ?_)
  generalize hA : w1.drew = wA at *
  clear hA
  refine wpAnyH_take (i := 0) (v := (.pointer (some ⟨w.heap.size, 0, none⟩))) rfl (by kernel_rfl) (by kernel_rfl) (by kernel_rfl) (fun _ _ _ h => h) (Or.inl ⟨by rfl, ?_⟩) (by assumption) ?_
  · intro w' hSw
    go_simp
  simp only [List.getElem_toArray, List.getElem_cons_zero, Act.put, List.setIfInBounds_toArray, List.set_cons_zero, List.set_cons_succ]
  refine wpAnyH_take (i := 1) (v := (.slice ta tn tc)) rfl (by kernel_rfl) (by kernel_rfl) (by kernel_rfl) (fun _ _ _ h => h) (Or.inl ⟨by rfl, ?_⟩) (by assumption) ?_
  · intro w' hSw
    have cc0 : w'.cell? ⟨w.heap.size, 0, none⟩ = some (.slice ta tn tc) := hSw.cell 0 rfl
    go_simp
  simp only [List.getElem_toArray, List.getElem_cons_succ, List.getElem_cons_zero, Act.put, List.setIfInBounds_toArray, List.set_cons_zero, List.set_cons_succ]
  refine wpAnyH_take (i := 3) (v := (.pointer (some ⟨w.heap.size, 1, none⟩))) rfl (by kernel_rfl) (by kernel_rfl) (by kernel_rfl) (fun _ _ _ h => h) (Or.inl ⟨by rfl, ?_⟩) (by assumption) ?_
  · intro w' hSw
    go_simp
  simp only [List.getElem_toArray, List.getElem_cons_succ, List.getElem_cons_zero, Act.put, List.setIfInBounds_toArray, List.set_cons_zero, List.set_cons_succ]
  refine wpAnyH_take (i := 4) (v := (.pointer (some ⟨w.heap.size, 1, none⟩))) rfl (by kernel_rfl) (by kernel_rfl) (by kernel_rfl) (fun _ _ _ h => h) (Or.inl ⟨by rfl, ?_⟩) (by assumption) ?_
  · intro w' hSw
    go_simp
  simp only [List.getElem_toArray, List.getElem_cons_succ, List.getElem_cons_zero, Act.put, List.setIfInBounds_toArray, List.set_cons_zero, List.set_cons_succ]
  refine wpAnyH_take (i := 5) (v := (.slice ka kn kc)) rfl (by kernel_rfl) (by kernel_rfl) (by kernel_rfl) (fun _ _ _ h => h) (Or.inl ⟨by rfl, ?_⟩) (by assumption) ?_
  · intro w' hSw
    have cc1 : w'.cell? ⟨w.heap.size, 1, none⟩ = some (.slice ka kn kc) := hSw.cell 1 rfl
    go_simp
  simp only [List.getElem_toArray, List.getElem_cons_succ, List.getElem_cons_zero, Act.put, List.setIfInBounds_toArray, List.set_cons_zero, List.set_cons_succ]
  refine wpAnyH_take (i := 7) (v := (.pointer (some ⟨w.heap.size, 1, none⟩))) rfl (by kernel_rfl) (by kernel_rfl) (by kernel_rfl) (fun _ _ _ h => h) (Or.inl ⟨by rfl, ?_⟩) (by assumption) ?_
  · intro w' hSw
    go_simp
  simp only [List.getElem_toArray, List.getElem_cons_succ, List.getElem_cons_zero, Act.put, List.setIfInBounds_toArray, List.set_cons_zero, List.set_cons_succ]
  refine wpAnyH_take (i := 8) (v := (.pointer (some ⟨w.heap.size, 2, none⟩))) rfl (by kernel_rfl) (by kernel_rfl) (by kernel_rfl) (fun _ _ _ h => h) (Or.inl ⟨by rfl, ?_⟩) (by assumption) ?_
  · intro w' hSw
    go_simp
  simp only [List.getElem_toArray, List.getElem_cons_succ, List.getElem_cons_zero, Act.put, List.setIfInBounds_toArray, List.set_cons_zero, List.set_cons_succ]
  refine wpAnyH_take (i := 9) (v := (.slice va vn vc)) rfl (by kernel_rfl) (by kernel_rfl) (by kernel_rfl) (fun _ _ _ h => h) (Or.inl ⟨by rfl, ?_⟩) (by assumption) ?_
  · intro w' hSw
    have cc2 : w'.cell? ⟨w.heap.size, 2, none⟩ = some (.slice va vn vc) := hSw.cell 2 rfl
    go_simp
  simp only [List.getElem_toArray, List.getElem_cons_succ, List.getElem_cons_zero, Act.put, List.setIfInBounds_toArray, List.set_cons_zero, List.set_cons_succ]
  refine wpAnyH_ready (rs := [2]) (by kernel_rfl) (by simp) ?_
  refine AllReadyH.cons rfl (fun Kc hKc => ?_) AllReadyH.nil
  simp only [List.getElem_toArray, List.getElem_cons_succ, List.getElem_cons_zero]
  rw [if_pos (by rfl)]
  go_wp2_with fail
  refine (few8_gen ta tn tc X.T TT 130 _ (HT.out _ D) (by omega) HTT.out).mono ?_
  rintro e w2 ⟨tb, tc2, rfl, OT, B2⟩
  have zA2 := B2.size
  replace X0 := X0.below B2
  replace X1 := X1.below B2
  replace D := below_then D B2
  go_wp2_with fail
  refine hKc.out _ _ (X0) (fun hHeld => ?_)
  clear hKc Kc
  refine wpAnyH_ready (rs := [6]) (by kernel_rfl) (by simp) ?_
  refine AllReadyH.cons rfl (fun Kc hKc => ?_) AllReadyH.nil
  simp only [List.getElem_toArray, List.getElem_cons_succ, List.getElem_cons_zero]
  rw [if_pos (by rfl)]
  go_wp2_with fail
  refine (listsR_any ka kn kc X.K kn5 KK _ (HK.out _ D) HKN.out HKK.out).mono ?_
  rintro e w3 ⟨kg, kc2, rfl, NK, B3⟩
  replace OT := owns_below OT B3
  have z3 := B3.size
  replace X0 := X0.below B3
  replace X1 := X1.below B3
  replace D := below_then D B3
  go_wp2_with fail
  refine hKc.out _ _ (X0) (fun hHeld => ?_)
  clear hKc Kc
  refine wpAnyH_ready (rs := [10]) (by kernel_rfl) (by simp) ?_
  refine AllReadyH.cons rfl (fun Kc hKc => ?_) AllReadyH.nil
  simp only [List.getElem_toArray, List.getElem_cons_succ, List.getElem_cons_zero]
  rw [if_pos (by rfl)]
  go_wp2_with fail
  refine (listsR_any va vn vc X.V vn5 VV _ (HV.out _ D) HVN.out HVV.out).mono ?_
  rintro e w4 ⟨vg, vc2, rfl, NV, B4⟩
  replace OT := owns_below OT B4
  replace NK := NK.below B4
  replace X0 := X0.below B4
  replace X1 := X1.below B4
  replace D := below_then D B4
  go_wp2_with fail
  refine hKc.out _ _ (X0) (fun hHeld => ?_)
  clear hKc Kc
  refine wpAnyH_take (i := 11) (v := (.agg #[.slice (some ⟨tb, 0, none⟩) TT.length tc2, .slice (some ⟨kg, 0, none⟩) kn5 kc2, .slice (some ⟨vg, 0, none⟩) vn5 vc2])) rfl (by kernel_rfl) (by kernel_rfl) (by kernel_rfl) (fun _ _ _ h => h) (Or.inl ⟨by rfl, ?_⟩) (by assumption) ?_
  · intro w' hSw
    go_simp
  simp only [List.getElem_toArray, List.getElem_cons_succ, List.getElem_cons_zero, Act.put, List.setIfInBounds_toArray, List.set_cons_zero, List.set_cons_succ]
  refine wpAnyH_ready (rs := [12]) (by kernel_rfl) (by simp) ?_
  refine AllReadyH.cons rfl (fun Kc hKc => ?_) AllReadyH.nil
  simp only [List.getElem_toArray, List.getElem_cons_succ, List.getElem_cons_zero]
  rw [if_pos (by rfl)]
  have hall : Array.all (#[.slice (some ⟨tb, 0, none⟩) TT.length tc2, .slice (some ⟨kg, 0, none⟩) kn5 kc2, .slice (some ⟨vg, 0, none⟩) vn5 vc2] : Array Value) (fun v => v.oneCell') = true := by simp [Value.oneCell']
  refine wp_store_row 31 _ _ rfl w0.heap.size #[.slice (some ⟨tb, 0, none⟩) TT.length tc2, .slice (some ⟨kg, 0, none⟩) kn5 kc2, .slice (some ⟨vg, 0, none⟩) vn5 vc2] rfl rfl 31 _ X1 Try.infoRV rfl hall ?_
  refine hKc.out _ _ (Blk.of_block X0 (setRow_other _ _ _ _ (by omega))) (fun hHeld => ?_)
  clear hKc Kc
  refine wpAnyH_done (by kernel_rfl) ?_ _
  clear hHeld
  go_wp2
  refine bodyPost_ret (results_cell_row rfl _ _ w0.heap.size 31 _ _ _ rfl (X1.row _) Try.underlying31 rfl Try.infoRV) rfl ?_
  have so : ∀ (b : Nat) (x : Array Value), b ≠ w0.heap.size → (w4.setRow w0.heap.size x).heap[b]? = w4.heap[b]? := fun b x hb => setRow_other _ _ _ _ hb
  have IT := IOwn.newArg (owns_mono OT (Nat.le_refl _) (fun b hb => so b #[.slice (some ⟨tb, 0, none⟩) TT.length tc2, .slice (some ⟨kg, 0, none⟩) kn5 kc2, .slice (some ⟨vg, 0, none⟩) vn5 vc2] (by have := (OT.lt b hb).1; omega))) hsm2.out
  have q1 := (Hangs.row NK (g := w0.heap.size) (by show ¬ (_ ≤ _); omega) #[.slice (some ⟨tb, 0, none⟩) TT.length tc2, .slice (some ⟨kg, 0, none⟩) kn5 kc2, .slice (some ⟨vg, 0, none⟩) vn5 vc2])
  have q2 := (Hangs.row NV (g := w0.heap.size) (by show ¬ (_ ≤ _); omega) #[.slice (some ⟨tb, 0, none⟩) TT.length tc2, .slice (some ⟨kg, 0, none⟩) kn5 kc2, .slice (some ⟨vg, 0, none⟩) vn5 vc2])
  have E1 := HTT.out
  have E2 := HKK.out
  have E3 := HVV.out
  subst E1 E2 E3
  exact ⟨⟨some ⟨tb, 0, none⟩, _, tc2⟩, ⟨some ⟨kg, 0, none⟩, kn5, kc2⟩, ⟨some ⟨vg, 0, none⟩, vn5, vc2⟩, rfl, fun w2 h2 => ⟨(New.mono (B' := w.heap.size) IT (by omega)) w2 h2, (New.mono (B' := w.heap.size) q1 (by omega)) w2 h2, (New.mono (B' := w.heap.size) q2 (by omega)) w2 h2⟩, below_setRow D (by omega) _⟩
theorem told9R_any (vv : VwV) (X : Vw) (w : World) (hv : VwR w vv X) :
   Calls Try.prog 6 #[.agg vv.cells] w fun e w' => ∃ t k v : Sl, e = .returned (.agg #[t.v, k.v, v.v]) ∧ ToldAt w' t k v (cutVw X) ∧ Below w.heap.size w w' := by
  refine (told9N_any vv X w hv).mono ?_
  rintro e w' ⟨t, k, v, rfl, N, B⟩
  exact ⟨t, k, v, rfl, N.now, B⟩
set_option maxRecDepth 100000 in
set_option maxHeartbeats 800000 in
theorem of9_gen (vv : VwV) (X : Vw) (w : World) (hv : VwR w vv X) :
   Calls Try.prog 8 #[.agg vv.cells] w fun e w' => ∃ v2 : VwV, e = .returned (.agg v2.cells) ∧ VwAt w' v2 (cutVw X) ∧ Below w.heap.size w w' := by
  have hsm := hv.t.row.small
  have HT : Hid (∀ wv, Below w.heap.size w wv → IArg wv vv.t.ao vv.t.n vv.t.c X.T) := fun wv hb => hv.t.below hb
  have HK : Hid (∀ wv, Below w.heap.size w wv → CubeR wv vv.k.ao vv.k.n X.K) := fun wv hb => hv.k.below hb
  have HV : Hid (∀ wv, Below w.heap.size w wv → CubeR wv vv.v.ao vv.v.n X.V) := fun wv hb => hv.v.below hb
  clear hv
  obtain ⟨⟨ta, tn, tc⟩, ⟨ka, kn, kc⟩, ⟨va, vn, vc⟩⟩ := vv
  unfold VwV.cells Sl.v
  simp only at *
  obtain ⟨TT, hTT⟩ : ∃ TT, TT = X.T.take 130 := ⟨_, rfl⟩
  obtain ⟨KK, hKK⟩ : ∃ KK, KK = cutC X.K 130 := ⟨_, rfl⟩
  obtain ⟨VV, hVV⟩ : ∃ VV, VV = cutC X.V 130 := ⟨_, rfl⟩
  obtain ⟨kn5, hkn5⟩ : ∃ m, m = min 5 kn := ⟨_, rfl⟩
  obtain ⟨vn5, hvn5⟩ : ∃ m, m = min 5 vn := ⟨_, rfl⟩
  have hsm2 : Hid (∀ k, -9223372036854775808 ≤ el TT k ∧ el TT k ≤ 9223372036854775807) := by
    intro k
    subst hTT
    rcases Nat.lt_or_ge k 130 with h | h
    · rw [el_take h]; exact hsm k
    · rw [el_over (by rw [List.length_take]; omega)]; omega
  have HTT : Hid (TT = X.T.take 130) := hTT
  have HKK : Hid (KK = cutC X.K 130) := hKK
  have HVV : Hid (VV = cutC X.V 130) := hVV
  have HKN : Hid (kn5 = min 5 kn) := hkn5
  have HVN : Hid (vn5 = min 5 vn) := hvn5
  clear hTT hKK hVV hkn5 hvn5 hsm
  have X0 := blk_new w 31 #[.slice ta tn tc, .slice ka kn kc, .slice va vn vc]
  have B0 : Below w.heap.size w (w.alloc (.cells #[.slice ta tn tc, .slice ka kn kc, .slice va vn vc] 31)) := (Below.refl _ _).alloc (Nat.le_refl _) _
  generalize hw0 : w.alloc (.cells #[.slice ta tn tc, .slice ka kn kc, .slice va vn vc] 31) = w0 at *
  have lt0 := X0.lt
  have X1 := blk_new w0 29 #[.slice none 0 0, .slice none 0 0, .slice none 0 0]
  have B1 : Below w0.heap.size w0 (w0.alloc (.cells #[.slice none 0 0, .slice none 0 0, .slice none 0 0] 29)) := (Below.refl _ _).alloc (Nat.le_refl _) _
  generalize hw1 : w0.alloc (.cells #[.slice none 0 0, .slice none 0 0, .slice none 0 0] 29) = w1 at *
  replace X0 := X0.below B1
  have D := below_then B0 B1
  clear B0 B1
  have lt1 := X1.lt
  go_enter Try.func8, Try.ntmps8
  go_wp2_with fail
  clear hw0 hw1
  replace X0 := X0.below ((Below.refl _ _).drew)
  replace X1 := X1.below ((Below.refl _ _).drew)
  replace D := D.drew
  replace lt1 : w0.heap.size < w1.drew.heap.size := lt1
  refine wp_region_held_drew (S := fun w' => Blk w' w.heap.size 31 #[.slice ta tn tc, .slice ka kn kc, .slice va vn vc]) (by kernel_rfl) (X0) (fun hHeld => ?_)
  generalize hA : w1.drew = wA at *
  clear hA
  refine wpAnyH_take (i := 0) (v := (.pointer (some ⟨w.heap.size, 0, none⟩))) rfl (by kernel_rfl) (by kernel_rfl) (by kernel_rfl) (fun _ _ _ h => h) (Or.inl ⟨by rfl, ?_⟩) (by assumption) ?_
  · intro w' hSw
    go_simp
  simp only [List.getElem_toArray, List.getElem_cons_zero, Act.put, List.setIfInBounds_toArray, List.set_cons_zero, List.set_cons_succ]
  refine wpAnyH_take (i := 1) (v := (.slice ta tn tc)) rfl (by kernel_rfl) (by kernel_rfl) (by kernel_rfl) (fun _ _ _ h => h) (Or.inl ⟨by rfl, ?_⟩) (by assumption) ?_
  · intro w' hSw
    have cc0 : w'.cell? ⟨w.heap.size, 0, none⟩ = some (.slice ta tn tc) := hSw.cell 0 rfl
    go_simp
  simp only [List.getElem_toArray, List.getElem_cons_succ, List.getElem_cons_zero, Act.put, List.setIfInBounds_toArray, List.set_cons_zero, List.set_cons_succ]
  refine wpAnyH_take (i := 3) (v := (.pointer (some ⟨w.heap.size, 1, none⟩))) rfl (by kernel_rfl) (by kernel_rfl) (by kernel_rfl) (fun _ _ _ h => h) (Or.inl ⟨by rfl, ?_⟩) (by assumption) ?_
  · intro w' hSw
    go_simp
  simp only [List.getElem_toArray, List.getElem_cons_succ, List.getElem_cons_zero, Act.put, List.setIfInBounds_toArray, List.set_cons_zero, List.set_cons_succ]
  refine wpAnyH_take (i := 4) (v := (.slice ka kn kc)) rfl (by kernel_rfl) (by kernel_rfl) (by kernel_rfl) (fun _ _ _ h => h) (Or.inl ⟨by rfl, ?_⟩) (by assumption) ?_
  · intro w' hSw
    have cc1 : w'.cell? ⟨w.heap.size, 1, none⟩ = some (.slice ka kn kc) := hSw.cell 1 rfl
    go_simp
  simp only [List.getElem_toArray, List.getElem_cons_succ, List.getElem_cons_zero, Act.put, List.setIfInBounds_toArray, List.set_cons_zero, List.set_cons_succ]
  refine wpAnyH_take (i := 6) (v := (.pointer (some ⟨w.heap.size, 2, none⟩))) rfl (by kernel_rfl) (by kernel_rfl) (by kernel_rfl) (fun _ _ _ h => h) (Or.inl ⟨by rfl, ?_⟩) (by assumption) ?_
  · intro w' hSw
    go_simp
  simp only [List.getElem_toArray, List.getElem_cons_succ, List.getElem_cons_zero, Act.put, List.setIfInBounds_toArray, List.set_cons_zero, List.set_cons_succ]
  refine wpAnyH_take (i := 7) (v := (.slice va vn vc)) rfl (by kernel_rfl) (by kernel_rfl) (by kernel_rfl) (fun _ _ _ h => h) (Or.inl ⟨by rfl, ?_⟩) (by assumption) ?_
  · intro w' hSw
    have cc2 : w'.cell? ⟨w.heap.size, 2, none⟩ = some (.slice va vn vc) := hSw.cell 2 rfl
    go_simp
  simp only [List.getElem_toArray, List.getElem_cons_succ, List.getElem_cons_zero, Act.put, List.setIfInBounds_toArray, List.set_cons_zero, List.set_cons_succ]
  refine wpAnyH_ready (rs := [2]) (by kernel_rfl) (by simp) ?_
  refine AllReadyH.cons rfl (fun Kc hKc => ?_) AllReadyH.nil
  simp only [List.getElem_toArray, List.getElem_cons_succ, List.getElem_cons_zero]
  rw [if_pos (by rfl)]
  go_wp2_with fail
  refine (few8_gen ta tn tc X.T TT 130 _ (HT.out _ D) (by omega) HTT.out).mono ?_
  rintro e w2 ⟨tb, tc2, rfl, OT, B2⟩
  have zA2 := B2.size
  replace X0 := X0.below B2
  replace X1 := X1.below B2
  replace D := below_then D B2
  go_wp2_with fail
  refine hKc.out _ _ (X0) (fun hHeld => ?_)
  clear hKc Kc
  refine wpAnyH_ready (rs := [5]) (by kernel_rfl) (by simp) ?_
  refine AllReadyH.cons rfl (fun Kc hKc => ?_) AllReadyH.nil
  simp only [List.getElem_toArray, List.getElem_cons_succ, List.getElem_cons_zero]
  rw [if_pos (by rfl)]
  go_wp2_with fail
  refine (listsR_any ka kn kc X.K kn5 KK _ (HK.out _ D) HKN.out HKK.out).mono ?_
  rintro e w3 ⟨kg, kc2, rfl, NK, B3⟩
  replace OT := owns_below OT B3
  have z3 := B3.size
  replace X0 := X0.below B3
  replace X1 := X1.below B3
  replace D := below_then D B3
  go_wp2_with fail
  refine hKc.out _ _ (X0) (fun hHeld => ?_)
  clear hKc Kc
  refine wpAnyH_ready (rs := [8]) (by kernel_rfl) (by simp) ?_
  refine AllReadyH.cons rfl (fun Kc hKc => ?_) AllReadyH.nil
  simp only [List.getElem_toArray, List.getElem_cons_succ, List.getElem_cons_zero]
  rw [if_pos (by rfl)]
  go_wp2_with fail
  refine (listsR_any va vn vc X.V vn5 VV _ (HV.out _ D) HVN.out HVV.out).mono ?_
  rintro e w4 ⟨vg, vc2, rfl, NV, B4⟩
  replace OT := owns_below OT B4
  replace NK := NK.below B4
  replace X0 := X0.below B4
  replace X1 := X1.below B4
  replace D := below_then D B4
  go_wp2_with fail
  refine hKc.out _ _ (X0) (fun hHeld => ?_)
  clear hKc Kc
  refine wpAnyH_take (i := 9) (v := (.agg #[.slice (some ⟨kg, 0, none⟩) kn5 kc2, .slice (some ⟨vg, 0, none⟩) vn5 vc2])) rfl (by kernel_rfl) (by kernel_rfl) (by kernel_rfl) (fun _ _ _ h => h) (Or.inl ⟨by rfl, ?_⟩) (by assumption) ?_
  · intro w' hSw
    go_simp
  simp only [List.getElem_toArray, List.getElem_cons_succ, List.getElem_cons_zero, Act.put, List.setIfInBounds_toArray, List.set_cons_zero, List.set_cons_succ]
  refine wpAnyH_take (i := 10) (v := (.agg #[.slice (some ⟨tb, 0, none⟩) TT.length tc2, .slice (some ⟨kg, 0, none⟩) kn5 kc2, .slice (some ⟨vg, 0, none⟩) vn5 vc2])) rfl (by kernel_rfl) (by kernel_rfl) (by kernel_rfl) (fun _ _ _ h => h) (Or.inl ⟨by rfl, ?_⟩) (by assumption) ?_
  · intro w' hSw
    go_simp
  simp only [List.getElem_toArray, List.getElem_cons_succ, List.getElem_cons_zero, Act.put, List.setIfInBounds_toArray, List.set_cons_zero, List.set_cons_succ]
  refine wpAnyH_ready (rs := [11]) (by kernel_rfl) (by simp) ?_
  refine AllReadyH.cons rfl (fun Kc hKc => ?_) AllReadyH.nil
  simp only [List.getElem_toArray, List.getElem_cons_succ, List.getElem_cons_zero]
  rw [if_pos (by rfl)]
  have hall : Array.all (#[.slice (some ⟨tb, 0, none⟩) TT.length tc2, .slice (some ⟨kg, 0, none⟩) kn5 kc2, .slice (some ⟨vg, 0, none⟩) vn5 vc2] : Array Value) (fun v => v.oneCell') = true := by simp [Value.oneCell']
  refine wp_store_row 29 _ _ rfl w0.heap.size #[.slice (some ⟨tb, 0, none⟩) TT.length tc2, .slice (some ⟨kg, 0, none⟩) kn5 kc2, .slice (some ⟨vg, 0, none⟩) vn5 vc2] rfl rfl 29 _ X1 Try.infoV rfl hall ?_
  refine hKc.out _ _ (Blk.of_block X0 (setRow_other _ _ _ _ (by omega))) (fun hHeld => ?_)
  clear hKc Kc
  refine wpAnyH_done (by kernel_rfl) ?_ _
  clear hHeld
  go_wp2
  refine bodyPost_ret (results_cell_row rfl _ _ w0.heap.size 29 _ _ _ rfl (X1.row _) Try.underlying29 rfl Try.infoV) rfl ?_
  have so : ∀ (b : Nat) (x : Array Value), b ≠ w0.heap.size → (w4.setRow w0.heap.size x).heap[b]? = w4.heap[b]? := fun b x hb => setRow_other _ _ _ _ hb
  obtain ⟨x1, y1, e1, IT⟩ := IOwn.arg (A := TT) (owns_mono OT (Nat.le_refl _) (fun b hb => so b #[.slice (some ⟨tb, 0, none⟩) TT.length tc2, .slice (some ⟨kg, 0, none⟩) kn5 kc2, .slice (some ⟨vg, 0, none⟩) vn5 vc2] (by have := (OT.lt b hb).1; omega))) hsm2.out
  simp only [Value.slice.injEq, true_and] at e1
  obtain ⟨rfl, rfl⟩ := e1
  have q1 := (Hangs.row NK (g := w0.heap.size) (by show ¬ (_ ≤ _); omega) #[.slice (some ⟨tb, 0, none⟩) TT.length tc2, .slice (some ⟨kg, 0, none⟩) kn5 kc2, .slice (some ⟨vg, 0, none⟩) vn5 vc2]).now
  have q2 := (Hangs.row NV (g := w0.heap.size) (by show ¬ (_ ≤ _); omega) #[.slice (some ⟨tb, 0, none⟩) TT.length tc2, .slice (some ⟨kg, 0, none⟩) kn5 kc2, .slice (some ⟨vg, 0, none⟩) vn5 vc2]).now
  have E1 := HTT.out
  have E2 := HKK.out
  have E3 := HVV.out
  subst E1 E2 E3
  exact ⟨⟨⟨some ⟨tb, 0, none⟩, _, tc2⟩, ⟨some ⟨kg, 0, none⟩, kn5, kc2⟩, ⟨some ⟨vg, 0, none⟩, vn5, vc2⟩⟩, rfl, ⟨IT, q1, q2⟩, below_setRow D (by omega) _⟩
theorem ToldAt.raw {w : World} {t k v : Sl} {X : Vw} (h : ToldAt w t k v X) : VwR w ⟨t, k, v⟩ X := ⟨h.t, h.k.raw, h.v.raw⟩
theorem of9_any (t k v : Sl) (X : Vw) (w : World) (h : ToldAt w t k v X) (hX : cutVw X = X) :
   Calls Try.prog 8 #[.agg #[t.v, k.v, v.v]] w fun e w' => ∃ v2 : VwV, e = .returned (.agg v2.cells) ∧ VwAt w' v2 X ∧ Below w.heap.size w w' := by
  have := of9_gen ⟨t, k, v⟩ X w h.raw
  rw [hX] at this
  exact this
theorem KV.cubeR {w : World} {g m : Nat} {p : Nat → Prop} {A C : List (List (List Int))} (h : KV w g m 0 p A C) (hl : C.length = m) (hm : m ≤ 9223372036854775807) (hr : ∀ R ∈ C, R.length ≤ 4096) : CubeAt w (some ⟨g, 0, none⟩) m C := by
  obtain ⟨cs, h1, h2, _, h4⟩ := h.row
  refine ⟨hl, hm, fun _ => ⟨g, 0, rfl, fun t R hR => ?_⟩⟩
  have ht : t < m := by have := (List.getElem?_eq_some_iff.1 hR).1; omega
  obtain ⟨ro, n, vs, e, q1, N⟩ := h4 t (by omega) ht
  have e2 : C.getD t [] = R := by rw [List.getD_eq_getElem?_getD, hR]; rfl
  rw [e2] at N
  have G := N.now.grid
  have hl2 := hr R (List.mem_of_getElem? hR)
  have hn := G.len
  refine ⟨ro, n, n, ?_, q1, Nat.le_refl _, by omega, G⟩
  rw [Nat.zero_add]
  unfold World.cell?
  simp only [h1]
  exact e
theorem cutVw_bounds {X : Vw} (hX : cutVw X = X) : X.T.length ≤ 130 ∧ X.K.length ≤ 5 ∧ X.V.length ≤ 5 ∧ (∀ R ∈ X.K, R.length ≤ 130 ∧ (∀ t, (rowOf R t).length ≤ 40) ∧ rowsN R 130 = R) ∧ ∀ R ∈ X.V, R.length ≤ 130 ∧ (∀ t, (rowOf R t).length ≤ 40) ∧ rowsN R 130 = R := by
  have h1 : X.T.take 130 = X.T := congrArg Vw.T hX
  have h2 : cutC X.K 130 = X.K := congrArg Vw.K hX
  have h3 : cutC X.V 130 = X.V := congrArg Vw.V hX
  refine ⟨by rw [← h1, List.length_take]; omega, by rw [← h2]; exact cutC_at_most _ _, by rw [← h3]; exact cutC_at_most _ _, fun R hR => cutC_mem (by rw [h2]; exact hR), fun R hR => cutC_mem (by rw [h3]; exact hR)⟩
/-- Told of a view that was cut: the same again. -/
theorem told9C_any (vv : VwV) (X : Vw) (w : World) (hv : VwAt w vv X) (hX : cutVw X = X) :
   Calls Try.prog 6 #[.agg vv.cells] w fun e w' => ∃ t k v : Sl, e = .returned (.agg #[t.v, k.v, v.v]) ∧ ToldAt w' t k v X ∧ Below w.heap.size w w' := by
  have := told9R_any vv X w hv.raw
  rw [hX] at this
  exact this
end Go.Proofs.Ytpplnjmjldhlbaa

/- Lists of at most 20 rows: a copy of lists of rows that came in. -/
namespace Go.Proofs.Ytpplnjmjldhlbaa
open Go.ChangeShapes Go.WideShapes Go.ChangeAt Go.RowKit
set_option maxRecDepth 100000 in
set_option maxHeartbeats 800000 in
theorem lists11_any (ao : Option Addr) (n ca : Nat) (C : List (List (List Int))) (m5 : Nat) (Z : List (List (List Int))) (w : World) (hC : CubeR w ao n C) (hm5 : m5 = min 5 n) (hZ : Z = cutC C 20) :
   Calls Try.prog 34 #[.slice ao n ca] w fun e w' => ∃ g cap, e = .returned (.slice (some ⟨g, 0, none⟩) m5 cap) ∧ New w.heap.size w' (fun w => CubeAt w (some ⟨g, 0, none⟩) m5 Z) ∧ Below w.heap.size w w' := by
  have hl := hC.len
  have F0 := ownCube_empty w
  have B0 : Below w.heap.size w (w.alloc (.cells #[] 73)) := (Below.refl _ _).alloc (Nat.le_refl _) _
  have HC : Hid (∀ wv, Below w.heap.size w wv → CubeR wv ao n C) := fun wv hb => hC.below hb
  go_enter Try.func34, Try.ntmps34
  go_wp2
  generalize w.alloc (.cells #[] 73) = w0 at *
  have hC' := hC
  have HZ : Hid (Z = cutC C 20) := hZ
  have HM5 : Hid (m5 = min 5 n) := hm5
  clear hC hZ hm5
  have hmx := hC'.max
  go_loopg [3, 4] n (fun r s i wr => ∃ (k g cap : Nat), k ≤ n ∧ k ≤ 5 ∧ r = n - k ∧ i = .int .i64 k ∧ s = .slice (some ⟨g, 0, none⟩) k cap ∧ OwnCube wr w.heap.size g k cap ((C.take k).map fun R => rowsN R 20) ∧ Below w.heap.size w wr)
  case atStart => exact ⟨0, _, _, by omega, by omega, by omega, rfl, rfl, by rw [List.take_zero]; exact F0, B0⟩
  case round =>
    obtain ⟨k, g, cap, hk, hk5, rfl, rfl, rfl, F2, B2⟩ := hrel
    clear hC'
    clear F0 B0
    by_cases hlt : k < n ∧ k < 5
    · obtain ⟨hlt, h5⟩ := hlt
      obtain ⟨b, o, rfl, hc⟩ := (HC.out _ B2).cells (by omega)
      obtain ⟨R, hR⟩ : ∃ R, C[k]? = some R := ⟨_, List.getElem?_eq_getElem (show k < C.length by omega)⟩
      obtain ⟨ro, m1, c1, q1, -, -, -, G1⟩ := hc k R hR
      have HS : Hid (((C.take (k + 1)).map fun R => rowsN R 20) = ((C.take k).map fun R => rowsN R 20) ++ [rowsN R 20]) := cutC_snoc 20 h5 hR
      have s2 := B2.size
      have lg := F2.lt
      have h5' : (k : Int) < 5 := by omega
      clear hc
      go_wp2_with fail
      refine (hrowsR_any ro m1 c1 R 20 20 _ rfl G1 (by omega)).mono ?_
      rintro e w3 ⟨g3, n3, c3, rfl, hm3, OG, B3⟩
      obtain ⟨p1, p2⟩ := own_caps OG.own.choose_spec.1
      have NG := OG.hangs (by omega)
      have BL : Below w3.heap.size w3 (w3.alloc (.cells #[.slice (some ⟨g3, 0, none⟩) n3 c3] 73)) := (Below.refl _ _).alloc (Nat.le_refl _) _
      have cX := cellList_new w3 (.slice (some ⟨g3, 0, none⟩) n3 c3)
      have F4 := (F2.below B3).below BL
      have s3 := B3.size
      have s4 := BL.size
      have NG4 : Hangs (fun b => w.heap.size ≤ b ∧ b ≠ g) (w3.alloc (.cells #[.slice (some ⟨g3, 0, none⟩) n3 c3] 73)) (fun w => GridAt w (some ⟨g3, 0, none⟩) n3 (rowsN R 20)) := Hangs.mono (Hangs.below NG BL) (fun b _ hb => ⟨by omega, by omega⟩)
      have B4 := below_then (below_then B2 B3) BL
      clear NG OG F2 G1 q1
      generalize hw4 : w3.alloc (.cells #[.slice (some ⟨g3, 0, none⟩) n3 c3] 73) = w4 at *
      go_wp2_with (at_builtin; refine wpList_append_cube rfl _ _ rfl w.heap.size g k cap _ rfl (by exact F4) w3.heap.size g3 n3 c3 (rowsN R 20) rfl (by exact cX) p1 p2 (by exact NG4) (by omega) (by omega) ?_; intro g' cap' w' F7 B7)
      go_roundg (n - (k + 1))
      case measure => omega
      case rel => exact ⟨k + 1, _, _, by omega, by omega, rfl, by go_num, rfl, by rw [HS.out]; exact F7, B4.trans B7⟩
    · have e1 : (C.take k).map (fun R => rowsN R 20) = cutC C 20 := by
        unfold cutC
        by_cases h5 : k = 5
        · rw [h5]
        · rw [List.take_of_length_le (by omega), List.take_of_length_le (by omega)]
      have e2 : k = min 5 n := by omega
      have e3 := HM5.out
      rw [← e2] at e3
      rw [e1, ← HZ.out] at F2
      subst e3
      clear hlt
      by_cases h5 : m5 < n
      · have hk5' : (m5 : Int) = 5 := by omega
        clear e1 e2
        go_wp2
        go_ret
        exact ⟨_, _, rfl, F2.hangs (by omega), B2⟩
      · obtain rfl : m5 = n := by omega
        clear e1 e2
        go_wp2
        go_ret
        exact ⟨_, _, rfl, F2.hangs (by omega), B2⟩
end Go.Proofs.Ytpplnjmjldhlbaa

/- Told and Of of layer 11 over any block; the document's Same of blocks that read alike. -/
namespace Go.Proofs.Ytpplnjmjldhlbaa
open Go.ChangeShapes Go.WideShapes Go.ChangeAt Go.RowKit
/-- A block that came in. -/
structure PgR (w : World) (p : PgV) (X : Pg) : Prop where
  t : IArg w p.t.ao p.t.n p.t.c X.T
  f : p.f = X.F
  k : CubeR w p.k.ao p.k.n X.K
  v : CubeR w p.v.ao p.v.n X.V
theorem PgR.below {w w' : World} {p : PgV} {X : Pg} (h : PgR w p X) (hb : Below w.heap.size w w') : PgR w' p X := ⟨h.t.below hb, h.f, h.k.below hb, h.v.below hb⟩
theorem PgAt.raw {w : World} {p : PgV} {X : Pg} (h : PgAt w p X) : PgR w p X := ⟨h.t, h.f, h.k.raw, h.v.raw⟩
def cutPg (X : Pg) : Pg := ⟨X.T.take 140, X.F, cutC X.K 20, cutC X.V 20⟩
theorem cutPg_twice (X : Pg) : cutPg (cutPg X) = cutPg X := by
  unfold cutPg
  simp only [cutC_twice, List.take_take, Nat.min_self]
theorem Try.infoTg : (Try.prog.info? 44).map (·.size) = some 4 := by kernel_rfl
set_option maxRecDepth 100000 in
set_option maxHeartbeats 800000 in
theorem told11_any (vv : PgV) (X : Pg) (w : World) (hv : PgR w vv X) :
   Calls Try.prog 13 #[.agg vv.cells] w fun e w' => ∃ p2 : PgV, e = .returned (.agg p2.cells) ∧ New w.heap.size w' (fun w => PgAt w p2 (cutPg X)) ∧ Below w.heap.size w w' := by
  have hsm := hv.t.row.small
  have hfx : vv.f = X.F := hv.f
  have HT : Hid (∀ wv, Below w.heap.size w wv → IArg wv vv.t.ao vv.t.n vv.t.c X.T) := fun wv hb => hv.t.below hb
  have HK : Hid (∀ wv, Below w.heap.size w wv → CubeR wv vv.k.ao vv.k.n X.K) := fun wv hb => hv.k.below hb
  have HV : Hid (∀ wv, Below w.heap.size w wv → CubeR wv vv.v.ao vv.v.n X.V) := fun wv hb => hv.v.below hb
  clear hv
  obtain ⟨⟨ta, tn, tc⟩, fr, ⟨ka, kn, kc⟩, ⟨va, vn, vc⟩⟩ := vv
  unfold PgV.cells Sl.v
  simp only at *
  obtain ⟨TT, hTT⟩ : ∃ TT, TT = X.T.take 140 := ⟨_, rfl⟩
  obtain ⟨KK, hKK⟩ : ∃ KK, KK = cutC X.K 20 := ⟨_, rfl⟩
  obtain ⟨VV, hVV⟩ : ∃ VV, VV = cutC X.V 20 := ⟨_, rfl⟩
  obtain ⟨kn5, hkn5⟩ : ∃ m, m = min 5 kn := ⟨_, rfl⟩
  obtain ⟨vn5, hvn5⟩ : ∃ m, m = min 5 vn := ⟨_, rfl⟩
  have hsm2 : Hid (∀ k, -9223372036854775808 ≤ el TT k ∧ el TT k ≤ 9223372036854775807) := by
    intro k
    subst hTT
    rcases Nat.lt_or_ge k 140 with h | h
    · rw [el_take h]; exact hsm k
    · rw [el_over (by rw [List.length_take]; omega)]; omega
  have HTT : Hid (TT = X.T.take 140) := hTT
  have HKK : Hid (KK = cutC X.K 20) := hKK
  have HVV : Hid (VV = cutC X.V 20) := hVV
  have HKN : Hid (kn5 = min 5 kn) := hkn5
  have HVN : Hid (vn5 = min 5 vn) := hvn5
  replace hfx : Hid (fr = X.F) := hfx
  clear hTT hKK hVV hkn5 hvn5 hsm
  have X0 := blk_new w 47 #[.slice ta tn tc, .int .i64 fr, .slice ka kn kc, .slice va vn vc]
  have B0 : Below w.heap.size w (w.alloc (.cells #[.slice ta tn tc, .int .i64 fr, .slice ka kn kc, .slice va vn vc] 47)) := (Below.refl _ _).alloc (Nat.le_refl _) _
  generalize hw0 : w.alloc (.cells #[.slice ta tn tc, .int .i64 fr, .slice ka kn kc, .slice va vn vc] 47) = w0 at *
  have lt0 := X0.lt
  have X1 := blk_new w0 44 #[.slice none 0 0, .int .i64 0, .slice none 0 0, .slice none 0 0]
  have B1 : Below w0.heap.size w0 (w0.alloc (.cells #[.slice none 0 0, .int .i64 0, .slice none 0 0, .slice none 0 0] 44)) := (Below.refl _ _).alloc (Nat.le_refl _) _
  generalize hw1 : w0.alloc (.cells #[.slice none 0 0, .int .i64 0, .slice none 0 0, .slice none 0 0] 44) = w1 at *
  replace X0 := X0.below B1
  have D := below_then B0 B1
  clear B0 B1
  have lt1 := X1.lt
  go_enter Try.func13, Try.ntmps13
  go_wp2_with fail
  clear hw0 hw1
  replace X0 := X0.below ((Below.refl _ _).drew)
  replace X1 := X1.below ((Below.refl _ _).drew)
  replace D := D.drew
  replace lt1 : w0.heap.size < w1.drew.heap.size := lt1
  refine wp_region_held_drew (S := fun w' => Blk w' w.heap.size 47 #[.slice ta tn tc, .int .i64 fr, .slice ka kn kc, .slice va vn vc]) (by kernel_rfl) (X0) (fun hHeld => ?_)
  generalize hA : w1.drew = wA at *
  clear hA
  refine wpAnyH_take (i := 0) (v := (.pointer (some ⟨w.heap.size, 0, none⟩))) rfl (by kernel_rfl) (by kernel_rfl) (by kernel_rfl) (fun _ _ _ h => h) (Or.inl ⟨by rfl, ?_⟩) (by assumption) ?_
  · intro w' hSw
    go_simp
  simp only [List.getElem_toArray, List.getElem_cons_zero, Act.put, List.setIfInBounds_toArray, List.set_cons_zero, List.set_cons_succ]
  refine wpAnyH_take (i := 1) (v := (.slice ta tn tc)) rfl (by kernel_rfl) (by kernel_rfl) (by kernel_rfl) (fun _ _ _ h => h) (Or.inl ⟨by rfl, ?_⟩) (by assumption) ?_
  · intro w' hSw
    have cc0 : w'.cell? ⟨w.heap.size, 0, none⟩ = some (.slice ta tn tc) := hSw.cell 0 rfl
    go_simp
  simp only [List.getElem_toArray, List.getElem_cons_succ, List.getElem_cons_zero, Act.put, List.setIfInBounds_toArray, List.set_cons_zero, List.set_cons_succ]
  refine wpAnyH_take (i := 3) (v := (.pointer (some ⟨w.heap.size, 1, none⟩))) rfl (by kernel_rfl) (by kernel_rfl) (by kernel_rfl) (fun _ _ _ h => h) (Or.inl ⟨by rfl, ?_⟩) (by assumption) ?_
  · intro w' hSw
    go_simp
  simp only [List.getElem_toArray, List.getElem_cons_succ, List.getElem_cons_zero, Act.put, List.setIfInBounds_toArray, List.set_cons_zero, List.set_cons_succ]
  refine wpAnyH_take (i := 4) (v := (.int .i64 fr)) rfl (by kernel_rfl) (by kernel_rfl) (by kernel_rfl) (fun _ _ _ h => h) (Or.inl ⟨by rfl, ?_⟩) (by assumption) ?_
  · intro w' hSw
    have cc1 : w'.cell? ⟨w.heap.size, 1, none⟩ = some (.int .i64 fr) := hSw.cell 1 rfl
    go_simp
  simp only [List.getElem_toArray, List.getElem_cons_succ, List.getElem_cons_zero, Act.put, List.setIfInBounds_toArray, List.set_cons_zero, List.set_cons_succ]
  refine wpAnyH_take (i := 5) (v := (.pointer (some ⟨w.heap.size, 2, none⟩))) rfl (by kernel_rfl) (by kernel_rfl) (by kernel_rfl) (fun _ _ _ h => h) (Or.inl ⟨by rfl, ?_⟩) (by assumption) ?_
  · intro w' hSw
    go_simp
  simp only [List.getElem_toArray, List.getElem_cons_succ, List.getElem_cons_zero, Act.put, List.setIfInBounds_toArray, List.set_cons_zero, List.set_cons_succ]
  refine wpAnyH_take (i := 6) (v := (.pointer (some ⟨w.heap.size, 2, none⟩))) rfl (by kernel_rfl) (by kernel_rfl) (by kernel_rfl) (fun _ _ _ h => h) (Or.inl ⟨by rfl, ?_⟩) (by assumption) ?_
  · intro w' hSw
    go_simp
  simp only [List.getElem_toArray, List.getElem_cons_succ, List.getElem_cons_zero, Act.put, List.setIfInBounds_toArray, List.set_cons_zero, List.set_cons_succ]
  refine wpAnyH_take (i := 7) (v := (.slice ka kn kc)) rfl (by kernel_rfl) (by kernel_rfl) (by kernel_rfl) (fun _ _ _ h => h) (Or.inl ⟨by rfl, ?_⟩) (by assumption) ?_
  · intro w' hSw
    have cc2 : w'.cell? ⟨w.heap.size, 2, none⟩ = some (.slice ka kn kc) := hSw.cell 2 rfl
    go_simp
  simp only [List.getElem_toArray, List.getElem_cons_succ, List.getElem_cons_zero, Act.put, List.setIfInBounds_toArray, List.set_cons_zero, List.set_cons_succ]
  refine wpAnyH_take (i := 9) (v := (.pointer (some ⟨w.heap.size, 2, none⟩))) rfl (by kernel_rfl) (by kernel_rfl) (by kernel_rfl) (fun _ _ _ h => h) (Or.inl ⟨by rfl, ?_⟩) (by assumption) ?_
  · intro w' hSw
    go_simp
  simp only [List.getElem_toArray, List.getElem_cons_succ, List.getElem_cons_zero, Act.put, List.setIfInBounds_toArray, List.set_cons_zero, List.set_cons_succ]
  refine wpAnyH_take (i := 10) (v := (.pointer (some ⟨w.heap.size, 3, none⟩))) rfl (by kernel_rfl) (by kernel_rfl) (by kernel_rfl) (fun _ _ _ h => h) (Or.inl ⟨by rfl, ?_⟩) (by assumption) ?_
  · intro w' hSw
    go_simp
  simp only [List.getElem_toArray, List.getElem_cons_succ, List.getElem_cons_zero, Act.put, List.setIfInBounds_toArray, List.set_cons_zero, List.set_cons_succ]
  refine wpAnyH_take (i := 11) (v := (.slice va vn vc)) rfl (by kernel_rfl) (by kernel_rfl) (by kernel_rfl) (fun _ _ _ h => h) (Or.inl ⟨by rfl, ?_⟩) (by assumption) ?_
  · intro w' hSw
    have cc3 : w'.cell? ⟨w.heap.size, 3, none⟩ = some (.slice va vn vc) := hSw.cell 3 rfl
    go_simp
  simp only [List.getElem_toArray, List.getElem_cons_succ, List.getElem_cons_zero, Act.put, List.setIfInBounds_toArray, List.set_cons_zero, List.set_cons_succ]
  refine wpAnyH_ready (rs := [2]) (by kernel_rfl) (by simp) ?_
  refine AllReadyH.cons rfl (fun Kc hKc => ?_) AllReadyH.nil
  simp only [List.getElem_toArray, List.getElem_cons_succ, List.getElem_cons_zero]
  rw [if_pos (by rfl)]
  go_wp2_with fail
  refine (few8_gen ta tn tc X.T TT 140 _ (HT.out _ D) (by omega) HTT.out).mono ?_
  rintro e w2 ⟨tb, tc2, rfl, OT, B2⟩
  have zA2 := B2.size
  have zD2 := D.size
  replace X0 := X0.below B2
  replace X1 := X1.below B2
  replace D := below_then D B2
  go_wp2_with fail
  refine hKc.out _ _ (X0) (fun hHeld => ?_)
  clear hKc Kc
  refine wpAnyH_ready (rs := [8]) (by kernel_rfl) (by simp) ?_
  refine AllReadyH.cons rfl (fun Kc hKc => ?_) AllReadyH.nil
  simp only [List.getElem_toArray, List.getElem_cons_succ, List.getElem_cons_zero]
  rw [if_pos (by rfl)]
  go_wp2_with fail
  refine (lists11_any ka kn kc X.K kn5 KK _ (HK.out _ D) HKN.out HKK.out).mono ?_
  rintro e w3 ⟨kg, kc2, rfl, NK, B3⟩
  replace OT := owns_below OT B3
  have z3 := B3.size
  replace X0 := X0.below B3
  replace X1 := X1.below B3
  replace D := below_then D B3
  go_wp2_with fail
  refine hKc.out _ _ (X0) (fun hHeld => ?_)
  clear hKc Kc
  refine wpAnyH_ready (rs := [12]) (by kernel_rfl) (by simp) ?_
  refine AllReadyH.cons rfl (fun Kc hKc => ?_) AllReadyH.nil
  simp only [List.getElem_toArray, List.getElem_cons_succ, List.getElem_cons_zero]
  rw [if_pos (by rfl)]
  go_wp2_with fail
  refine (lists11_any va vn vc X.V vn5 VV _ (HV.out _ D) HVN.out HVV.out).mono ?_
  rintro e w4 ⟨vg, vc2, rfl, NV, B4⟩
  replace OT := owns_below OT B4
  replace NK := NK.below B4
  replace X0 := X0.below B4
  replace X1 := X1.below B4
  replace D := below_then D B4
  go_wp2_with fail
  refine hKc.out _ _ (X0) (fun hHeld => ?_)
  clear hKc Kc
  refine wpAnyH_take (i := 13) (v := (.agg #[.slice (some ⟨tb, 0, none⟩) TT.length tc2, .int .i64 fr, .slice (some ⟨kg, 0, none⟩) kn5 kc2, .slice (some ⟨vg, 0, none⟩) vn5 vc2])) rfl (by kernel_rfl) (by kernel_rfl) (by kernel_rfl) (fun _ _ _ h => h) (Or.inl ⟨by rfl, ?_⟩) (by assumption) ?_
  · intro w' hSw
    go_simp
  simp only [List.getElem_toArray, List.getElem_cons_succ, List.getElem_cons_zero, Act.put, List.setIfInBounds_toArray, List.set_cons_zero, List.set_cons_succ]
  refine wpAnyH_ready (rs := [14]) (by kernel_rfl) (by simp) ?_
  refine AllReadyH.cons rfl (fun Kc hKc => ?_) AllReadyH.nil
  simp only [List.getElem_toArray, List.getElem_cons_succ, List.getElem_cons_zero]
  rw [if_pos (by rfl)]
  have hall : Array.all (#[.slice (some ⟨tb, 0, none⟩) TT.length tc2, .int .i64 fr, .slice (some ⟨kg, 0, none⟩) kn5 kc2, .slice (some ⟨vg, 0, none⟩) vn5 vc2] : Array Value) (fun v => v.oneCell') = true := by simp [Value.oneCell']
  refine wp_store_row 44 _ _ rfl w0.heap.size #[.slice (some ⟨tb, 0, none⟩) TT.length tc2, .int .i64 fr, .slice (some ⟨kg, 0, none⟩) kn5 kc2, .slice (some ⟨vg, 0, none⟩) vn5 vc2] rfl rfl 44 _ X1 Try.infoTg rfl hall ?_
  refine hKc.out _ _ (Blk.of_block X0 (setRow_other _ _ _ _ (by omega))) (fun hHeld => ?_)
  clear hKc Kc
  refine wpAnyH_done (by kernel_rfl) ?_ _
  clear hHeld
  go_wp2
  refine bodyPost_ret (results_cell_row rfl _ _ w0.heap.size 44 _ _ _ rfl (X1.row _) Try.underlying44 rfl Try.infoTg) rfl ?_
  have so : ∀ (b : Nat) (x : Array Value), b ≠ w0.heap.size → (w4.setRow w0.heap.size x).heap[b]? = w4.heap[b]? := fun b x hb => setRow_other _ _ _ _ hb
  have OT2 := owns_mono OT (Nat.le_refl _) (fun b hb => so b #[.slice (some ⟨tb, 0, none⟩) TT.length tc2, .int .i64 fr, .slice (some ⟨kg, 0, none⟩) kn5 kc2, .slice (some ⟨vg, 0, none⟩) vn5 vc2] (by have := (OT.lt b hb).1; omega))
  have q1 := Hangs.row NK (g := w0.heap.size) (by show ¬ (_ ≤ _); omega) #[.slice (some ⟨tb, 0, none⟩) TT.length tc2, .int .i64 fr, .slice (some ⟨kg, 0, none⟩) kn5 kc2, .slice (some ⟨vg, 0, none⟩) vn5 vc2]
  have q2 := Hangs.row NV (g := w0.heap.size) (by show ¬ (_ ≤ _); omega) #[.slice (some ⟨tb, 0, none⟩) TT.length tc2, .int .i64 fr, .slice (some ⟨kg, 0, none⟩) kn5 kc2, .slice (some ⟨vg, 0, none⟩) vn5 vc2]
  have hsm3 := hsm2.out
  have E1 := HTT.out
  have E2 := HKK.out
  have E3 := HVV.out
  subst E1 E2 E3
  refine ⟨⟨⟨some ⟨tb, 0, none⟩, _, tc2⟩, fr, ⟨some ⟨kg, 0, none⟩, kn5, kc2⟩, ⟨some ⟨vg, 0, none⟩, vn5, vc2⟩⟩, rfl, fun wz hz => ?_, below_setRow D (by omega) _⟩
  obtain ⟨x1, y1, e1, IT⟩ := IOwn.arg (A := X.T.take 140) (owns_mono OT2 (Nat.le_refl _) (fun b hb => hz b (by have := (OT2.lt b hb).1; show _ ≤ _; omega) (OT2.lt b hb).2)) hsm3
  simp only [Value.slice.injEq, true_and] at e1
  obtain ⟨rfl, rfl⟩ := e1
  exact ⟨IT, hfx, q1 wz (fun b hb hl => hz b (by show _ ≤ _; have hb' : _ ≤ b := hb; omega) hl), q2 wz (fun b hb hl => hz b (by show _ ≤ _; have hb' : _ ≤ b := hb; omega) hl)⟩
set_option maxRecDepth 100000 in
set_option maxHeartbeats 800000 in
theorem of11_any (vv : PgV) (X : Pg) (w : World) (hv : PgR w vv X) :
   Calls Try.prog 17 #[.agg vv.cells] w fun e w' => ∃ p2 : PgV, e = .returned (.agg p2.cells) ∧ New w.heap.size w' (fun w => PgAt w p2 (cutPg X)) ∧ Below w.heap.size w w' := by
  have hsm := hv.t.row.small
  have hfx : vv.f = X.F := hv.f
  have HT : Hid (∀ wv, Below w.heap.size w wv → IArg wv vv.t.ao vv.t.n vv.t.c X.T) := fun wv hb => hv.t.below hb
  have HK : Hid (∀ wv, Below w.heap.size w wv → CubeR wv vv.k.ao vv.k.n X.K) := fun wv hb => hv.k.below hb
  have HV : Hid (∀ wv, Below w.heap.size w wv → CubeR wv vv.v.ao vv.v.n X.V) := fun wv hb => hv.v.below hb
  clear hv
  obtain ⟨⟨ta, tn, tc⟩, fr, ⟨ka, kn, kc⟩, ⟨va, vn, vc⟩⟩ := vv
  unfold PgV.cells Sl.v
  simp only at *
  obtain ⟨TT, hTT⟩ : ∃ TT, TT = X.T.take 140 := ⟨_, rfl⟩
  obtain ⟨KK, hKK⟩ : ∃ KK, KK = cutC X.K 20 := ⟨_, rfl⟩
  obtain ⟨VV, hVV⟩ : ∃ VV, VV = cutC X.V 20 := ⟨_, rfl⟩
  obtain ⟨kn5, hkn5⟩ : ∃ m, m = min 5 kn := ⟨_, rfl⟩
  obtain ⟨vn5, hvn5⟩ : ∃ m, m = min 5 vn := ⟨_, rfl⟩
  have hsm2 : Hid (∀ k, -9223372036854775808 ≤ el TT k ∧ el TT k ≤ 9223372036854775807) := by
    intro k
    subst hTT
    rcases Nat.lt_or_ge k 140 with h | h
    · rw [el_take h]; exact hsm k
    · rw [el_over (by rw [List.length_take]; omega)]; omega
  have HTT : Hid (TT = X.T.take 140) := hTT
  have HKK : Hid (KK = cutC X.K 20) := hKK
  have HVV : Hid (VV = cutC X.V 20) := hVV
  have HKN : Hid (kn5 = min 5 kn) := hkn5
  have HVN : Hid (vn5 = min 5 vn) := hvn5
  replace hfx : Hid (fr = X.F) := hfx
  clear hTT hKK hVV hkn5 hvn5 hsm
  have X0 := blk_new w 44 #[.slice ta tn tc, .int .i64 fr, .slice ka kn kc, .slice va vn vc]
  have B0 : Below w.heap.size w (w.alloc (.cells #[.slice ta tn tc, .int .i64 fr, .slice ka kn kc, .slice va vn vc] 44)) := (Below.refl _ _).alloc (Nat.le_refl _) _
  generalize hw0 : w.alloc (.cells #[.slice ta tn tc, .int .i64 fr, .slice ka kn kc, .slice va vn vc] 44) = w0 at *
  have lt0 := X0.lt
  have X1 := blk_new w0 47 #[.slice none 0 0, .int .i64 0, .slice none 0 0, .slice none 0 0]
  have B1 : Below w0.heap.size w0 (w0.alloc (.cells #[.slice none 0 0, .int .i64 0, .slice none 0 0, .slice none 0 0] 47)) := (Below.refl _ _).alloc (Nat.le_refl _) _
  generalize hw1 : w0.alloc (.cells #[.slice none 0 0, .int .i64 0, .slice none 0 0, .slice none 0 0] 47) = w1 at *
  replace X0 := X0.below B1
  have D := below_then B0 B1
  clear B0 B1
  have lt1 := X1.lt
  go_enter Try.func17, Try.ntmps17
  go_wp2_with fail
  clear hw0 hw1
  replace X0 := X0.below ((Below.refl _ _).drew)
  replace X1 := X1.below ((Below.refl _ _).drew)
  replace D := D.drew
  replace lt1 : w0.heap.size < w1.drew.heap.size := lt1
  refine wp_region_held_drew (S := fun w' => Blk w' w.heap.size 44 #[.slice ta tn tc, .int .i64 fr, .slice ka kn kc, .slice va vn vc]) (by kernel_rfl) (X0) (fun hHeld => ?_)
  generalize hA : w1.drew = wA at *
  clear hA
  refine wpAnyH_take (i := 0) (v := (.pointer (some ⟨w.heap.size, 0, none⟩))) rfl (by kernel_rfl) (by kernel_rfl) (by kernel_rfl) (fun _ _ _ h => h) (Or.inl ⟨by rfl, ?_⟩) (by assumption) ?_
  · intro w' hSw
    go_simp
  simp only [List.getElem_toArray, List.getElem_cons_zero, Act.put, List.setIfInBounds_toArray, List.set_cons_zero, List.set_cons_succ]
  refine wpAnyH_take (i := 1) (v := (.slice ta tn tc)) rfl (by kernel_rfl) (by kernel_rfl) (by kernel_rfl) (fun _ _ _ h => h) (Or.inl ⟨by rfl, ?_⟩) (by assumption) ?_
  · intro w' hSw
    have cc0 : w'.cell? ⟨w.heap.size, 0, none⟩ = some (.slice ta tn tc) := hSw.cell 0 rfl
    go_simp
  simp only [List.getElem_toArray, List.getElem_cons_succ, List.getElem_cons_zero, Act.put, List.setIfInBounds_toArray, List.set_cons_zero, List.set_cons_succ]
  refine wpAnyH_take (i := 3) (v := (.pointer (some ⟨w.heap.size, 1, none⟩))) rfl (by kernel_rfl) (by kernel_rfl) (by kernel_rfl) (fun _ _ _ h => h) (Or.inl ⟨by rfl, ?_⟩) (by assumption) ?_
  · intro w' hSw
    go_simp
  simp only [List.getElem_toArray, List.getElem_cons_succ, List.getElem_cons_zero, Act.put, List.setIfInBounds_toArray, List.set_cons_zero, List.set_cons_succ]
  refine wpAnyH_take (i := 4) (v := (.int .i64 fr)) rfl (by kernel_rfl) (by kernel_rfl) (by kernel_rfl) (fun _ _ _ h => h) (Or.inl ⟨by rfl, ?_⟩) (by assumption) ?_
  · intro w' hSw
    have cc1 : w'.cell? ⟨w.heap.size, 1, none⟩ = some (.int .i64 fr) := hSw.cell 1 rfl
    go_simp
  simp only [List.getElem_toArray, List.getElem_cons_succ, List.getElem_cons_zero, Act.put, List.setIfInBounds_toArray, List.set_cons_zero, List.set_cons_succ]
  refine wpAnyH_take (i := 5) (v := (.pointer (some ⟨w.heap.size, 2, none⟩))) rfl (by kernel_rfl) (by kernel_rfl) (by kernel_rfl) (fun _ _ _ h => h) (Or.inl ⟨by rfl, ?_⟩) (by assumption) ?_
  · intro w' hSw
    go_simp
  simp only [List.getElem_toArray, List.getElem_cons_succ, List.getElem_cons_zero, Act.put, List.setIfInBounds_toArray, List.set_cons_zero, List.set_cons_succ]
  refine wpAnyH_take (i := 6) (v := (.slice ka kn kc)) rfl (by kernel_rfl) (by kernel_rfl) (by kernel_rfl) (fun _ _ _ h => h) (Or.inl ⟨by rfl, ?_⟩) (by assumption) ?_
  · intro w' hSw
    have cc2 : w'.cell? ⟨w.heap.size, 2, none⟩ = some (.slice ka kn kc) := hSw.cell 2 rfl
    go_simp
  simp only [List.getElem_toArray, List.getElem_cons_succ, List.getElem_cons_zero, Act.put, List.setIfInBounds_toArray, List.set_cons_zero, List.set_cons_succ]
  refine wpAnyH_take (i := 8) (v := (.pointer (some ⟨w.heap.size, 3, none⟩))) rfl (by kernel_rfl) (by kernel_rfl) (by kernel_rfl) (fun _ _ _ h => h) (Or.inl ⟨by rfl, ?_⟩) (by assumption) ?_
  · intro w' hSw
    go_simp
  simp only [List.getElem_toArray, List.getElem_cons_succ, List.getElem_cons_zero, Act.put, List.setIfInBounds_toArray, List.set_cons_zero, List.set_cons_succ]
  refine wpAnyH_take (i := 9) (v := (.slice va vn vc)) rfl (by kernel_rfl) (by kernel_rfl) (by kernel_rfl) (fun _ _ _ h => h) (Or.inl ⟨by rfl, ?_⟩) (by assumption) ?_
  · intro w' hSw
    have cc3 : w'.cell? ⟨w.heap.size, 3, none⟩ = some (.slice va vn vc) := hSw.cell 3 rfl
    go_simp
  simp only [List.getElem_toArray, List.getElem_cons_succ, List.getElem_cons_zero, Act.put, List.setIfInBounds_toArray, List.set_cons_zero, List.set_cons_succ]
  refine wpAnyH_ready (rs := [2]) (by kernel_rfl) (by simp) ?_
  refine AllReadyH.cons rfl (fun Kc hKc => ?_) AllReadyH.nil
  simp only [List.getElem_toArray, List.getElem_cons_succ, List.getElem_cons_zero]
  rw [if_pos (by rfl)]
  go_wp2_with fail
  refine (few8_gen ta tn tc X.T TT 140 _ (HT.out _ D) (by omega) HTT.out).mono ?_
  rintro e w2 ⟨tb, tc2, rfl, OT, B2⟩
  have zA2 := B2.size
  have zD2 := D.size
  replace X0 := X0.below B2
  replace X1 := X1.below B2
  replace D := below_then D B2
  go_wp2_with fail
  refine hKc.out _ _ (X0) (fun hHeld => ?_)
  clear hKc Kc
  refine wpAnyH_ready (rs := [7]) (by kernel_rfl) (by simp) ?_
  refine AllReadyH.cons rfl (fun Kc hKc => ?_) AllReadyH.nil
  simp only [List.getElem_toArray, List.getElem_cons_succ, List.getElem_cons_zero]
  rw [if_pos (by rfl)]
  go_wp2_with fail
  refine (lists11_any ka kn kc X.K kn5 KK _ (HK.out _ D) HKN.out HKK.out).mono ?_
  rintro e w3 ⟨kg, kc2, rfl, NK, B3⟩
  replace OT := owns_below OT B3
  have z3 := B3.size
  replace X0 := X0.below B3
  replace X1 := X1.below B3
  replace D := below_then D B3
  go_wp2_with fail
  refine hKc.out _ _ (X0) (fun hHeld => ?_)
  clear hKc Kc
  refine wpAnyH_ready (rs := [10]) (by kernel_rfl) (by simp) ?_
  refine AllReadyH.cons rfl (fun Kc hKc => ?_) AllReadyH.nil
  simp only [List.getElem_toArray, List.getElem_cons_succ, List.getElem_cons_zero]
  rw [if_pos (by rfl)]
  go_wp2_with fail
  refine (lists11_any va vn vc X.V vn5 VV _ (HV.out _ D) HVN.out HVV.out).mono ?_
  rintro e w4 ⟨vg, vc2, rfl, NV, B4⟩
  replace OT := owns_below OT B4
  replace NK := NK.below B4
  replace X0 := X0.below B4
  replace X1 := X1.below B4
  replace D := below_then D B4
  go_wp2_with fail
  refine hKc.out _ _ (X0) (fun hHeld => ?_)
  clear hKc Kc
  refine wpAnyH_take (i := 11) (v := (.agg #[.slice (some ⟨kg, 0, none⟩) kn5 kc2, .slice (some ⟨vg, 0, none⟩) vn5 vc2])) rfl (by kernel_rfl) (by kernel_rfl) (by kernel_rfl) (fun _ _ _ h => h) (Or.inl ⟨by rfl, ?_⟩) (by assumption) ?_
  · intro w' hSw
    go_simp
  simp only [List.getElem_toArray, List.getElem_cons_succ, List.getElem_cons_zero, Act.put, List.setIfInBounds_toArray, List.set_cons_zero, List.set_cons_succ]
  refine wpAnyH_take (i := 12) (v := (.agg #[.slice (some ⟨tb, 0, none⟩) TT.length tc2, .int .i64 fr, .slice (some ⟨kg, 0, none⟩) kn5 kc2, .slice (some ⟨vg, 0, none⟩) vn5 vc2])) rfl (by kernel_rfl) (by kernel_rfl) (by kernel_rfl) (fun _ _ _ h => h) (Or.inl ⟨by rfl, ?_⟩) (by assumption) ?_
  · intro w' hSw
    go_simp
  simp only [List.getElem_toArray, List.getElem_cons_succ, List.getElem_cons_zero, Act.put, List.setIfInBounds_toArray, List.set_cons_zero, List.set_cons_succ]
  refine wpAnyH_ready (rs := [13]) (by kernel_rfl) (by simp) ?_
  refine AllReadyH.cons rfl (fun Kc hKc => ?_) AllReadyH.nil
  simp only [List.getElem_toArray, List.getElem_cons_succ, List.getElem_cons_zero]
  rw [if_pos (by rfl)]
  have hall : Array.all (#[.slice (some ⟨tb, 0, none⟩) TT.length tc2, .int .i64 fr, .slice (some ⟨kg, 0, none⟩) kn5 kc2, .slice (some ⟨vg, 0, none⟩) vn5 vc2] : Array Value) (fun v => v.oneCell') = true := by simp [Value.oneCell']
  refine wp_store_row 47 _ _ rfl w0.heap.size #[.slice (some ⟨tb, 0, none⟩) TT.length tc2, .int .i64 fr, .slice (some ⟨kg, 0, none⟩) kn5 kc2, .slice (some ⟨vg, 0, none⟩) vn5 vc2] rfl rfl 47 _ X1 Try.infoPg rfl hall ?_
  refine hKc.out _ _ (Blk.of_block X0 (setRow_other _ _ _ _ (by omega))) (fun hHeld => ?_)
  clear hKc Kc
  refine wpAnyH_done (by kernel_rfl) ?_ _
  clear hHeld
  go_wp2
  refine bodyPost_ret (results_cell_row rfl _ _ w0.heap.size 47 _ _ _ rfl (X1.row _) Try.underlying47 rfl Try.infoPg) rfl ?_
  have so : ∀ (b : Nat) (x : Array Value), b ≠ w0.heap.size → (w4.setRow w0.heap.size x).heap[b]? = w4.heap[b]? := fun b x hb => setRow_other _ _ _ _ hb
  have OT2 := owns_mono OT (Nat.le_refl _) (fun b hb => so b #[.slice (some ⟨tb, 0, none⟩) TT.length tc2, .int .i64 fr, .slice (some ⟨kg, 0, none⟩) kn5 kc2, .slice (some ⟨vg, 0, none⟩) vn5 vc2] (by have := (OT.lt b hb).1; omega))
  have q1 := Hangs.row NK (g := w0.heap.size) (by show ¬ (_ ≤ _); omega) #[.slice (some ⟨tb, 0, none⟩) TT.length tc2, .int .i64 fr, .slice (some ⟨kg, 0, none⟩) kn5 kc2, .slice (some ⟨vg, 0, none⟩) vn5 vc2]
  have q2 := Hangs.row NV (g := w0.heap.size) (by show ¬ (_ ≤ _); omega) #[.slice (some ⟨tb, 0, none⟩) TT.length tc2, .int .i64 fr, .slice (some ⟨kg, 0, none⟩) kn5 kc2, .slice (some ⟨vg, 0, none⟩) vn5 vc2]
  have hsm3 := hsm2.out
  have E1 := HTT.out
  have E2 := HKK.out
  have E3 := HVV.out
  subst E1 E2 E3
  refine ⟨⟨⟨some ⟨tb, 0, none⟩, _, tc2⟩, fr, ⟨some ⟨kg, 0, none⟩, kn5, kc2⟩, ⟨some ⟨vg, 0, none⟩, vn5, vc2⟩⟩, rfl, fun wz hz => ?_, below_setRow D (by omega) _⟩
  obtain ⟨x1, y1, e1, IT⟩ := IOwn.arg (A := X.T.take 140) (owns_mono OT2 (Nat.le_refl _) (fun b hb => hz b (by have := (OT2.lt b hb).1; show _ ≤ _; omega) (OT2.lt b hb).2)) hsm3
  simp only [Value.slice.injEq, true_and] at e1
  obtain ⟨rfl, rfl⟩ := e1
  exact ⟨IT, hfx, q1 wz (fun b hb hl => hz b (by show _ ≤ _; have hb' : _ ≤ b := hb; omega) hl), q2 wz (fun b hb hl => hz b (by show _ ≤ _; have hb' : _ ≤ b := hb; omega) hl)⟩
set_option maxHeartbeats 800000 in
theorem same11_any (p q : PgV) (X : Pg) (w : World) (h1 : PgAt w p X) (h2 : PgAt w q X) :
   Calls Try.prog 12 #[.agg p.cells, .agg q.cells] w fun e w' => e = .returned (.bool true) ∧ Below w.heap.size w w' := by
  obtain ⟨t, f, k, v⟩ := p
  obtain ⟨t', f', k', v'⟩ := q
  have ef : f = X.F := h1.f
  have ef' : f' = X.F := h2.f
  obtain rfl : f = f' := ef.trans ef'.symm
  clear ef ef'
  unfold PgV.cells
  obtain ⟨tn, hn⟩ : ∃ tn, X.T.length = tn := ⟨_, rfl⟩
  obtain ⟨kn, hkn⟩ : ∃ kn, X.K.length = kn := ⟨_, rfl⟩
  obtain ⟨vn, hvn⟩ : ∃ vn, X.V.length = vn := ⟨_, rfl⟩
  have et1 : X.T.length = t.n := h1.t.row.len
  have et2 : X.T.length = t'.n := h2.t.row.len
  have ek1 : X.K.length = k.n := h1.k.len
  have ek2 : X.K.length = k'.n := h2.k.len
  have ev1 : X.V.length = v.n := h1.v.len
  have ev2 : X.V.length = v'.n := h2.v.len
  rw [hn] at et1 et2
  rw [hkn] at ek1 ek2
  rw [hvn] at ev1 ev2
  have T1 : Hid (∀ wv, Below w.heap.size w wv → IArg wv t.ao t.n t.c X.T) := fun wv hb => h1.t.below hb
  have T2 : Hid (∀ wv, Below w.heap.size w wv → IArg wv t'.ao t'.n t'.c X.T) := fun wv hb => h2.t.below hb
  have K1 : Hid (∀ wv, Below w.heap.size w wv → CubeAt wv k.ao k.n X.K) := fun wv hb => h1.k.below hb
  have K2 : Hid (∀ wv, Below w.heap.size w wv → CubeAt wv k'.ao k'.n X.K) := fun wv hb => h2.k.below hb
  have V1 : Hid (∀ wv, Below w.heap.size w wv → CubeAt wv v.ao v.n X.V) := fun wv hb => h1.v.below hb
  have V2 : Hid (∀ wv, Below w.heap.size w wv → CubeAt wv v'.ao v'.n X.V) := fun wv hb => h2.v.below hb
  obtain ⟨ta, t1, tc⟩ := t
  obtain ⟨ta', t1', tc'⟩ := t'
  obtain ⟨ka, k1, kc⟩ := k
  obtain ⟨ka', k1', kc'⟩ := k'
  obtain ⟨va, v1, vc⟩ := v
  obtain ⟨va', v1', vc'⟩ := v'
  unfold Sl.v
  simp only at *
  subst et1 et2 ek1 ek2 ev1 ev2
  clear h1 h2 hn hkn hvn
  have X0 := blk_new w 44 #[.slice ta tn tc, .int .i64 f, .slice ka kn kc, .slice va vn vc]
  have B0 : Below w.heap.size w (w.alloc (.cells #[.slice ta tn tc, .int .i64 f, .slice ka kn kc, .slice va vn vc] 44)) := (Below.refl _ _).alloc (Nat.le_refl _) _
  generalize hw0 : w.alloc (.cells #[.slice ta tn tc, .int .i64 f, .slice ka kn kc, .slice va vn vc] 44) = w0 at *
  have X1 := blk_new w0 44 #[.slice ta' tn tc', .int .i64 f, .slice ka' kn kc', .slice va' vn vc']
  have B1 : Below w0.heap.size w0 (w0.alloc (.cells #[.slice ta' tn tc', .int .i64 f, .slice ka' kn kc', .slice va' vn vc'] 44)) := (Below.refl _ _).alloc (Nat.le_refl _) _
  generalize hw1 : w0.alloc (.cells #[.slice ta' tn tc', .int .i64 f, .slice ka' kn kc', .slice va' vn vc'] 44) = w1 at *
  replace X0 := X0.below B1
  have D1 := below_then B0 B1
  clear B0 B1
  have a0 : w1.cell? ⟨w.heap.size, 0, none⟩ = some (.slice ta tn tc) := X0.cell 0 rfl
  have a1 : w1.cell? ⟨w.heap.size, 1, none⟩ = some (.int .i64 f) := X0.cell 1 rfl
  have a2 : w1.cell? ⟨w.heap.size, 2, none⟩ = some (.slice ka kn kc) := X0.cell 2 rfl
  have a3 : w1.cell? ⟨w.heap.size, 3, none⟩ = some (.slice va vn vc) := X0.cell 3 rfl
  have b0 : w1.cell? ⟨w0.heap.size, 0, none⟩ = some ((.slice ta' tn tc')) := X1.cell 0 rfl
  have b1 : w1.cell? ⟨w0.heap.size, 1, none⟩ = some (.int .i64 f) := X1.cell 1 rfl
  have b2 : w1.cell? ⟨w0.heap.size, 2, none⟩ = some ((.slice ka' kn kc')) := X1.cell 2 rfl
  have b3 : w1.cell? ⟨w0.heap.size, 3, none⟩ = some ((.slice va' vn vc')) := X1.cell 3 rfl
  have hn := (T1.out w (Below.refl _ _)).row.max
  go_enter Try.func12, Try.ntmps12
  go_wp2_with fail
  refine (cubeSame_eq ka ka' kn kc kc' X.K _ (K1.out _ D1) (K2.out _ D1)).mono ?_
  rintro e w2 ⟨rfl, m2, hm2⟩
  have B2 : Below w1.heap.size w1 w2 := by rw [hm2]; exact below_drewN (Below.refl _ _) m2
  clear hm2 a0 a1 a2 a3 b0 b1 b2 b3 hw0 hw1
  replace X0 := X0.below B2
  replace X1 := X1.below B2
  have D2 := below_then D1 B2
  have a0 : w2.cell? ⟨w.heap.size, 0, none⟩ = some (.slice ta tn tc) := X0.cell 0 rfl
  have a1 : w2.cell? ⟨w.heap.size, 1, none⟩ = some (.int .i64 f) := X0.cell 1 rfl
  have a2 : w2.cell? ⟨w.heap.size, 2, none⟩ = some (.slice ka kn kc) := X0.cell 2 rfl
  have a3 : w2.cell? ⟨w.heap.size, 3, none⟩ = some (.slice va vn vc) := X0.cell 3 rfl
  have b0 : w2.cell? ⟨w0.heap.size, 0, none⟩ = some ((.slice ta' tn tc')) := X1.cell 0 rfl
  have b1 : w2.cell? ⟨w0.heap.size, 1, none⟩ = some (.int .i64 f) := X1.cell 1 rfl
  have b2 : w2.cell? ⟨w0.heap.size, 2, none⟩ = some ((.slice ka' kn kc')) := X1.cell 2 rfl
  have b3 : w2.cell? ⟨w0.heap.size, 3, none⟩ = some ((.slice va' vn vc')) := X1.cell 3 rfl
  go_wp2_with fail
  refine (cubeSame_eq va va' vn vc vc' X.V _ (V1.out _ D2) (V2.out _ D2)).mono ?_
  rintro e w3 ⟨rfl, m3, hm3⟩
  have B3 : Below w2.heap.size w2 w3 := by rw [hm3]; exact below_drewN (Below.refl _ _) m3
  clear hm3 a0 a1 a2 a3 b0 b1 b2 b3 D1
  replace X0 := X0.below B3
  replace X1 := X1.below B3
  have D3 := below_then D2 B3
  have a0 : w3.cell? ⟨w.heap.size, 0, none⟩ = some (.slice ta tn tc) := X0.cell 0 rfl
  have a1 : w3.cell? ⟨w.heap.size, 1, none⟩ = some (.int .i64 f) := X0.cell 1 rfl
  have a2 : w3.cell? ⟨w.heap.size, 2, none⟩ = some (.slice ka kn kc) := X0.cell 2 rfl
  have a3 : w3.cell? ⟨w.heap.size, 3, none⟩ = some (.slice va vn vc) := X0.cell 3 rfl
  have b0 : w3.cell? ⟨w0.heap.size, 0, none⟩ = some ((.slice ta' tn tc')) := X1.cell 0 rfl
  have b1 : w3.cell? ⟨w0.heap.size, 1, none⟩ = some (.int .i64 f) := X1.cell 1 rfl
  have b2 : w3.cell? ⟨w0.heap.size, 2, none⟩ = some ((.slice ka' kn kc')) := X1.cell 2 rfl
  have b3 : w3.cell? ⟨w0.heap.size, 3, none⟩ = some ((.slice va' vn vc')) := X1.cell 3 rfl
  go_wp2_with fail
  clear a0 a1 a2 a3 b0 b1 b2 b3
  go_loopg [39] tn (fun r i wr => ∃ j : Nat, j ≤ tn ∧ r = tn - j ∧ i = .int .i64 j ∧ Blk wr w.heap.size 44 #[.slice ta tn tc, .int .i64 f, .slice ka kn kc, .slice va vn vc] ∧ Blk wr w0.heap.size 44 #[.slice ta' tn tc', .int .i64 f, .slice ka' kn kc', .slice va' vn vc'] ∧ Below w.heap.size w wr)
  case atStart => exact ⟨0, by omega, by omega, rfl, X0, X1, D3⟩
  case round =>
    clear X0 X1 D3 B3 B2 D2
    obtain ⟨j, hj, rfl, rfl, X0, X1, DR⟩ := hrel
    by_cases hjt : j < tn
    · obtain ⟨d, p, rfl, hd⟩ := (T1.out _ DR).row.cells (by omega)
      obtain ⟨d', p', rfl, hd'⟩ := (T2.out _ DR).row.cells (by omega)
      have c1 := hd j hjt
      have c2 := hd' j hjt
      clear hd hd'
      have a0 : wr.cell? ⟨w.heap.size, 0, none⟩ = some (.slice (some ⟨d, p, none⟩) tn tc) := X0.cell 0 rfl
      have b0 : wr.cell? ⟨w0.heap.size, 0, none⟩ = some (.slice (some ⟨d', p', none⟩) tn tc') := X1.cell 0 rfl
      go_wp2_with fail
      go_quiet (fail)
      go_wp2
      go_roundg (tn - (j + 1))
      case measure => omega
      case rel => exact ⟨j + 1, by omega, rfl, by go_num, X0.below (below_drewN (Below.refl _ _) nq), X1.below (below_drewN (Below.refl _ _) nq), below_drewN DR nq⟩
    · obtain rfl : j = tn := by omega
      go_wp2
      go_ret
      exact ⟨rfl, DR⟩
end Go.Proofs.Ytpplnjmjldhlbaa

/- The document's numbers and Bytes of layer 11. Laid by tools/genrnum11.py. -/
namespace Go.Proofs.Ytpplnjmjldhlbaa
open Go.ChangeShapes Go.WideShapes Go.ChangeAt Go.RowKit
theorem txt_app (a b : List UInt8) : txt a ++ txt b = txt (a ++ b) := by
  apply ByteArray.ext
  simp [txt]
theorem add_txtJ (a b : List UInt8) (s t r : ByteArray) (hs : s = txt a) (ht : t = txt b) (hr : r = txt (a ++ b)) (hl : a.length + b.length ≤ 281474976710656) (w : World) : (Op.stringOp .add s t).run Try.prog w = .ok (.string r) w := by
  subst hs; subst ht; subst hr
  rw [run_string_add_sum w _ _ (by rw [txt_size, txt_size]; omega), txt_app]
theorem conv4J (W : World) (x : Int) (u : Nat) (hu : (u : Int) = x % 4294967296) (Y : ByteArray) (hY : Y = txt (numB x)) : (convert 84 9 (.slice (some ⟨W.heap.size, 0, none⟩) 4 4)).run Try.prog (W.alloc (.cells #[.int .u8 ((u : Int) / 16777216), .int .u8 ((u : Int) / 65536 % 256), .int .u8 ((u : Int) / 256 % 256), .int .u8 ((u : Int) % 256)] 5)) = .ok (.string Y) (W.alloc (.cells #[.int .u8 ((u : Int) / 16777216), .int .u8 ((u : Int) / 65536 % 256), .int .u8 ((u : Int) / 256 % 256), .int .u8 ((u : Int) % 256)] 5)) := by
  subst hY
  have h4 : (numB x).length = 4 := rfl
  have := run_convert_bytes_back (P := Try.prog) (W.alloc (.cells #[.int .u8 ((u : Int) / 16777216), .int .u8 ((u : Int) / 65536 % 256), .int .u8 ((u : Int) / 256 % 256), .int .u8 ((u : Int) % 256)] 5)) 84 9 5 ⟨W.heap.size, 0, none⟩ 4 (numB x) Try.underlying84 Try.underlying5 Try.underlying9 (fun j hj => by
    have e := heap_alloc_new W (.cells #[.int .u8 ((u : Int) / 16777216), .int .u8 ((u : Int) / 65536 % 256), .int .u8 ((u : Int) / 256 % 256), .int .u8 ((u : Int) % 256)] 5)
    rw [Addr.add_mid, Nat.zero_add]
    unfold World.cell?
    simp only [e]
    have hj4 : j < 4 := by omega
    match j, hj, hj4 with
    | 0, _, _ => show some (Value.int .u8 ((u : Int) / 16777216)) = some (Value.int .u8 ((byteOf (x / 16777216)).toNat : Int)); rw [byteOf_toNat]; congr 2; omega
    | 1, _, _ => show some (Value.int .u8 ((u : Int) / 65536 % 256)) = some (Value.int .u8 ((byteOf (x / 65536)).toNat : Int)); rw [byteOf_toNat]; congr 2; omega
    | 2, _, _ => show some (Value.int .u8 ((u : Int) / 256 % 256)) = some (Value.int .u8 ((byteOf (x / 256)).toNat : Int)); rw [byteOf_toNat]; congr 2; omega
    | 3, _, _ => show some (Value.int .u8 ((u : Int) % 256)) = some (Value.int .u8 ((byteOf x).toNat : Int)); rw [byteOf_toNat]; congr 2; omega)
  rw [h4] at this
  exact this
set_option maxRecDepth 100000 in
set_option maxHeartbeats 3200000 in
theorem numbers_any (ao : Option Addr) (m ca : Nat) (C : List (List (List Int))) (w : World) (hC : CubeAt w ao m C) (hlen : (cubeB C).length ≤ 1000000) :
   Calls Try.prog 44 #[.slice ao m ca] w fun e w' => e = .returned (.string (txt (cubeB C))) ∧ Below w.heap.size w w' := by
  have HC : Hid (CubeAt w ao m C) := hC
  have HLN : Hid (C.length = m) := hC.len
  have HLE : Hid ((cubeB C).length ≤ 1000000) := hlen
  have hmx := hC.max
  obtain ⟨X0, hX0⟩ : ∃ X0 : ByteArray, X0 = ⟨#[]⟩ := ⟨_, rfl⟩
  have HX0 : Hid (X0 = txt (cubeB (C.take 0))) := by show _ = _; rw [hX0, List.take_zero]; rfl
  clear hC hlen
  go_enter Try.func44, Try.ntmps44
  go_wp2
  rw [← hX0]
  clear hX0
  go_loopg [3, 13] m (fun r u s13 wr => ∃ (i : Nat) (X : ByteArray), i ≤ m ∧ r = m - i ∧ s13 = .int .i64 (i : Int) ∧ u = .string X ∧ Hid (X = txt (cubeB (C.take i))) ∧ Below w.heap.size w wr)
  case atStart => exact ⟨0, X0, by omega, by omega, rfl, rfl, HX0, Below.refl _ _⟩
  case round =>
    clear HX0
    obtain ⟨i, X, hi, rfl, rfl, rfl, HX, BB⟩ := hrel
    rename World => wo
    by_cases hlt : i < m
    · obtain ⟨b, o, rfl, hc⟩ := HC.out.cells (by omega)
      have hR : C[i]? = some (C[i]'(by rw [HLN.out]; exact hlt)) := List.getElem?_eq_getElem _
      generalize C[i]'(by rw [HLN.out]; exact hlt) = R at hR
      obtain ⟨ro, n, c, k1, k2, k3, k4, G⟩ := hc i R hR
      have q1 := cell_keep k1 BB
      have hn := G.max
      have HGL : Hid (R.length = n) := G.len
      have HG : Hid (GridAt w ro n R) := G
      have HF1 : Hid (cubeB (C.take (i + 1)) = cubeB (C.take i) ++ gridB R) := flat_take gridB C i R hR
      have HF2 : Hid ((cubeB (C.take i)).length + (gridB R).length ≤ (cubeB C).length) := flat_len gridB C i R hR
      clear hc k1 k2 k3 k4 G hR
      generalize cubeB (C.take i) = P at *
      go_upto_region 6 with fail
      clear q1
      go_loopg [3, 19] n (fun r u s19 wr => ∃ (j : Nat) (X : ByteArray), j ≤ n ∧ r = n - j ∧ s19 = .int .i64 (j : Int) ∧ u = .string X ∧ Hid (X = txt (P ++ gridB (R.take j))) ∧ Below w.heap.size w wr)
      case atStart => exact ⟨0, X, by omega, by omega, rfl, rfl, by show _ = txt (P ++ gridB (R.take 0)); rw [HX.out, List.take_zero]; show _ = txt (P ++ []); rw [List.append_nil], BB⟩
      case round =>
        clear HX BB
        obtain ⟨j, X, hj, rfl, rfl, rfl, HX, BB⟩ := hrel
        rename World => wp
        by_cases hjt : j < n
        · obtain ⟨b2, o2, rfl, hc⟩ := HG.out.cells (by omega)
          obtain ⟨r3, l3, c3, s1, A⟩ := hc j hjt
          have q1 := cell_keep s1 BB
          have hr : R[j]? = some (rowOf R j) := by
            unfold rowOf
            rw [List.getD_eq_getElem?_getD, List.getElem?_eq_getElem (by rw [HGL.out]; exact hjt)]
            rfl
          have HF3 : Hid (gridB (R.take (j + 1)) = gridB (R.take j) ++ rowB (rowOf R j)) := flat_take rowB R j _ hr
          have HF4 : Hid ((gridB (R.take j)).length + (rowB (rowOf R j)).length ≤ (gridB R).length) := flat_len rowB R j _ hr
          have HA : Hid (Arg w r3 l3 c3 (rowOf R j)) := A
          clear hc s1 A hr
          generalize gridB (R.take j) = P2 at *
          generalize rowOf R j = r at *
          have hal := HA.out.row.len
          have hl3 := HA.out.row.max
          have HAL : Hid (r.length = l3) := hal
          clear hal
          go_upto_region 9 with fail
          clear q1
          go_loopg [3, 25] l3 (fun rr u s25 wr => ∃ (k : Nat) (X : ByteArray), k ≤ l3 ∧ rr = l3 - k ∧ s25 = .int .i64 (k : Int) ∧ u = .string X ∧ Hid (X = txt ((P ++ P2) ++ rowB (r.take k))) ∧ Below w.heap.size w wr)
          case atStart => exact ⟨0, X, by omega, by omega, rfl, rfl, by show _ = txt ((P ++ P2) ++ rowB (r.take 0)); rw [HX.out, List.take_zero]; show _ = txt ((P ++ P2) ++ []); rw [List.append_nil], BB⟩
          case round =>
            clear HX BB
            obtain ⟨k, X, hk, rfl, rfl, rfl, HX, BB⟩ := hrel
            by_cases hkt : k < l3
            · obtain ⟨b3, o3, rfl, hc⟩ := HA.out.row.cells (by omega)
              have q1 := cell_keep (hc k hkt) BB
              have sx := HA.out.row.small k
              have hx : r[k]? = some (el r k) := by
                unfold el
                rw [List.getD_eq_getElem?_getD, List.getElem?_eq_getElem (by rw [HAL.out]; exact hkt)]
                rfl
              have HF5 : Hid (rowB (r.take (k + 1)) = rowB (r.take k) ++ numB (el r k)) := flat_take numB r k _ hx
              have HF6 : (rowB (r.take k)).length + 4 ≤ (rowB r).length := flat_len numB r k _ hx
              have hle := HLE.out
              have hf2 := HF2.out
              have hf4 := HF4.out
              clear hc hx
              generalize rowB (r.take k) = P3 at *
              generalize el r k = x at *
              obtain ⟨u, hu⟩ : ∃ u : Nat, (u : Int) = x % 4294967296 := ⟨(x % 4294967296).toNat, by omega⟩
              have hu9 : u < 4294967296 := by omega
              have hcu : IntKind.u32.wrap x = (u : Int) := by simp only [IntKind.wrap, IntKind.bits, IntKind.signed]; rw [hu]; simp; try omega
              obtain ⟨NX, hNX⟩ : ∃ NX, NX = txt (numB x) := ⟨_, rfl⟩
              obtain ⟨X2, hX2⟩ : ∃ X2, X2 = txt (((P ++ P2) ++ P3) ++ numB x) := ⟨_, rfl⟩
              have hcv := conv4J wr x u hu NX hNX
              have had := add_txtJ ((P ++ P2) ++ P3) (numB x) X NX X2 HX.out hNX hX2 (by have : (numB x).length = 4 := rfl; simp only [List.length_append]; omega)
              have HX2 : Hid (X2 = txt ((P ++ P2) ++ (P3 ++ numB x))) := by show _ = _; rw [hX2, List.append_assoc (P ++ P2)]
              have BA : Below wr.heap.size wr (wr.alloc (.cells #[.int .u8 ((u : Int) / 16777216), .int .u8 ((u : Int) / 65536 % 256), .int .u8 ((u : Int) / 256 % 256), .int .u8 ((u : Int) % 256)] 5)) := (Below.refl _ _).alloc (Nat.le_refl _) _
              have DA := below_then BB BA
              generalize hwA : wr.alloc (.cells #[.int .u8 ((u : Int) / 16777216), .int .u8 ((u : Int) / 65536 % 256), .int .u8 ((u : Int) / 256 % 256), .int .u8 ((u : Int) % 256)] 5) = wA at *
              clear hu hNX hX2 hle hf2 hf4 HF6 HX BA
              go_wp2_with fail
              go_roundg (l3 - (k + 1))
              case measure => omega
              case rel => exact ⟨k + 1, X2, by omega, rfl, by go_num, rfl, by rw [HF5.out]; exact HX2, DA⟩
            · obtain rfl : l3 = k := by omega
              have HRE : Hid (rowB (r.take l3) = rowB r) := by show _ = _; rw [List.take_of_length_le (by rw [HAL.out]; exact Nat.le_refl _)]
              have HX3 : Hid (X = txt (P ++ (P2 ++ rowB r))) := by show _ = _; rw [HX.out, HRE.out, List.append_assoc]
              go_wp2_with fail
              go_roundg (n - (j + 1))
              case measure => omega
              case rel => exact ⟨j + 1, X, by omega, rfl, by go_num, rfl, by rw [HF3.out]; exact HX3, BB⟩
        · obtain rfl : n = j := by omega
          have HRE : Hid (gridB (R.take n) = gridB R) := by show _ = _; rw [List.take_of_length_le (by rw [HGL.out]; exact Nat.le_refl _)]
          have HX3 : Hid (X = txt (P ++ gridB R)) := by show _ = _; rw [HX.out, HRE.out]
          go_wp2_with fail
          go_roundg (m - (i + 1))
          case measure => omega
          case rel => exact ⟨i + 1, X, by omega, rfl, by go_num, rfl, by rw [HF1.out]; exact HX3, BB⟩
    · obtain rfl : m = i := by omega
      have HRE : Hid (X = txt (cubeB C)) := by show _ = _; rw [HX.out, List.take_of_length_le (by rw [HLN.out]; exact Nat.le_refl _)]
      go_wp2_with fail
      go_ret
      exact ⟨by rw [← HRE.out]; rfl, BB⟩
end Go.Proofs.Ytpplnjmjldhlbaa

/- Package block: bytes are taken off a text. -/
namespace Go.Proofs.Ytpplnjmjldhlbaa
open Go.ChangeShapes Go.WideShapes Go.ChangeAt Go.RowKit
theorem extract_txt (l : List UInt8) (a b : Nat) : (txt l).extract a b = txt ((l.drop a).take (b - a)) := ByteArray.extract_mk l a b
theorem conv_bytes (s : ByteArray) (w : World) : (convert 9 84 (.string s)).run Try.prog w = .ok (.slice (some ⟨w.heap.size, 0, none⟩) s.size (grownCap w s.size 0 5)) (Lib.bytesWorld w 5 s) :=
  Lib.run_convert_string_bytes w 9 84 5 s Try.underlying9 Try.underlying84 Try.underlying5
theorem below_bytes (w : World) (s : ByteArray) : Below w.heap.size w (Lib.bytesWorld w 5 s) := ⟨rfl, rfl, rfl, by rw [Lib.bytesWorld_size]; omega, fun k hk => Lib.bytesWorld_at_old _ _ _ _ hk⟩
theorem bytes_cell (w : World) (l : List UInt8) (j : Nat) (hj : j < l.length) : (Lib.bytesWorld w 5 (txt l)).cell? ⟨w.heap.size, j, none⟩ = some (.int .u8 ((l.getD j 0).toNat : Int)) := by
  rw [Lib.bytesWorld_cell w _ _ _ (by rw [txt_size]; exact hj), txt_list]
/-- What bytes are as one number, the highest first. -/
def valB (l : List UInt8) : Nat := l.foldl (fun x b => x * 256 + b.toNat) 0
theorem valB_snoc (l : List UInt8) (b : UInt8) : valB (l ++ [b]) = valB l * 256 + b.toNat := by unfold valB; rw [List.foldl_append]; rfl
theorem valB_lt : ∀ (k : Nat) (l : List UInt8), l.length = k → valB l < 256 ^ k
  | 0, l, h => by rw [List.length_eq_zero_iff.1 h]; decide
  | k + 1, l, h => by
    rcases List.eq_nil_or_concat l with e | ⟨l', b, e⟩
    · rw [e] at h; cases h
    · rw [List.concat_eq_append] at e
      subst e
      rw [List.length_append, List.length_singleton] at h
      have ih := valB_lt k l' (by omega)
      have hb := b.toNat_lt
      rw [valB_snoc, Nat.pow_succ]
      omega
theorem take_snocB {l : List UInt8} {j : Nat} (h : j < l.length) : l.take (j + 1) = l.take j ++ [l.getD j 0] := by
  rw [List.take_add_one, List.getElem?_eq_getElem h, List.getD_eq_getElem?_getD, List.getElem?_eq_getElem h]
  rfl
theorem bits_or_u32_nat (a b : Nat) (ha : a < 4294967296) (hb : b < 4294967296) : bits .or .u32 (a : Int) (b : Int) = ((a ||| b : Nat) : Int) := by
  have hx : a ||| b < 2 ^ 32 := Nat.or_lt_two_pow (by omega) (by omega)
  have h1 : (BitVec.ofInt 32 (a : Int)).toNat = a := by
    rw [BitVec.ofInt_natCast, BitVec.toNat_ofNat]; exact Nat.mod_eq_of_lt (by omega)
  have h2 : (BitVec.ofInt 32 (b : Int)).toNat = b := by
    rw [BitVec.ofInt_natCast, BitVec.toNat_ofNat]; exact Nat.mod_eq_of_lt (by omega)
  show IntKind.u32.wrap ((BitVec.ofInt 32 (a : Int) ||| BitVec.ofInt 32 (b : Int)).toNat : Int) = _
  rw [BitVec.toNat_or, h1, h2]
  simp [IntKind.wrap, IntKind.bits, IntKind.signed]
  omega
theorem shl_or (x b : Nat) (hx : x < 16777216) (hb : b < 256) : bits .or .u32 ((x : Int) * 256) (b : Int) = ((x * 256 + b : Nat) : Int) := by
  rw [show (x : Int) * 256 = ((x * 256 : Nat) : Int) by omega, bits_or_u32_nat _ _ (by omega) (by omega)]
  congr 1
  have h := Nat.two_pow_add_eq_or_of_lt (i := 8) (b := b) (by omega) x
  rw [Nat.mul_comm x 256]
  exact h.symm
set_option maxRecDepth 100000 in
set_option maxHeartbeats 1600000 in
theorem take1_less (c : Nat) (l : List UInt8) (n : Nat) (w : World) (hc : Blk w c 9 #[.string (txt l)]) (hn : n ≤ 4) (hle : n ≤ l.length) :
   Calls Try.prog 52 #[.int .i64 (n : Int), .pointer (some ⟨c, 0, none⟩)] w fun e w' => e = .returned (.int .u32 ((valB (l.take (n)) : Nat) : Int)) ∧ Blk w' c 9 #[.string (txt (l.drop (n)))] ∧ But c w w' := by
  have hkl : n ≤ l.length := by omega
  have hk4 : n ≤ 4 := by omega
  have hlt := hc.lt
  have HX : Hid (Blk w c 9 #[.string (txt l)]) := hc
  have c0 : w.cell? ⟨c, 0, none⟩ = some (.string (txt l)) := hc.cell 0 rfl
  have f0 := hc.frozen 0
  have hsz : (txt l).size = l.length := txt_size l
  obtain ⟨R, hR⟩ : ∃ R, l.take (n) = R := ⟨_, rfl⟩
  obtain ⟨Z, hZ⟩ : ∃ Z, l.drop (n) = Z := ⟨_, rfl⟩
  have hlk : R.length = n := by rw [← hR, List.length_take]; omega
  have hex : (txt l).extract 0 (n) = txt R := by rw [extract_txt, ← hR]; rfl
  have hex2 : (txt l).extract (n) l.length = txt Z := by rw [extract_txt, List.take_of_length_le (by rw [List.length_drop]; exact Nat.le_refl _), hZ]
  have hcv := conv_bytes (txt R) w
  have htk : (txt R).size = n := by rw [txt_size, hlk]
  have BX := below_bytes w (txt R)
  have hcells : ∀ j, j < R.length → (Lib.bytesWorld w 5 (txt R)).cell? ⟨w.heap.size, j, none⟩ = some (.int .u8 ((R.getD j 0).toNat : Int)) := fun j hj => bytes_cell w R j hj
  rw [htk] at hcv
  rw [hR, hZ]
  obtain ⟨cp, hcp⟩ : ∃ cp, grownCap w (n) 0 5 = cp := ⟨_, rfl⟩
  rw [hcp] at hcv
  obtain ⟨wb, hwb⟩ : ∃ wb, Lib.bytesWorld w 5 (txt R) = wb := ⟨_, rfl⟩
  rw [hwb] at hcv BX hcells
  have HCE : Hid (∀ j, j < R.length → wb.cell? ⟨w.heap.size, j, none⟩ = some (.int .u8 ((R.getD j 0).toNat : Int))) := hcells
  have HB : Hid (Below w.heap.size w wb) := BX
  have HLK : Hid (R.length = n) := hlk
  have HZ : Hid (l.drop (n) = Z) := hZ
  clear hc hcp hwb hcells BX hR hZ hlk htk
  go_enter Try.func52, Try.ntmps52
  go_wp2
  clear hcv c0 f0 hex
  go_loopg [4, 16] (n) (fun r x s16 wr => ∃ j : Nat, j ≤ n ∧ r = n - j ∧ s16 = .int .i64 (j : Int) ∧ x = .int .u32 ((valB (R.take j) : Nat) : Int) ∧ wr = wb)
  case atStart => exact ⟨0, by omega, by omega, rfl, rfl, rfl⟩
  case round =>
    obtain ⟨j, hj, rfl, rfl, rfl, rfl⟩ := hrel
    by_cases hjk : j < n
    · have q1 := HCE.out j (by rw [HLK.out]; exact hjk)
      have HS : Hid (valB (R.take (j + 1)) = valB (R.take j) * 256 + (R.getD j 0).toNat) := by
        show _ = _
        rw [take_snocB (by rw [HLK.out]; exact hjk), valB_snoc]
      have hv : valB (R.take j) < 16777216 := by
        have h1 := valB_lt j (R.take j) (by rw [List.length_take, HLK.out]; omega)
        have h2 : 256 ^ j ≤ 256 ^ 3 := Nat.pow_le_pow_right (by omega) (by omega)
        omega
      have hb := (R.getD j 0).toNat_lt
      generalize (R.getD j 0).toNat = b at *
      generalize valB (R.take j) = x at *
      go_wp2
      go_roundg (n - (j + 1))
      case measure => omega
      case rel => exact ⟨j + 1, by omega, rfl, by go_num, by rw [HS.out, shl_or x b hv hb], rfl⟩
    · have hje : j = n := by omega
      have c0 : wr.cell? ⟨c, 0, none⟩ = some (.string (txt l)) := (HX.out.below HB.out).cell 0 rfl
      have f0 := (HX.out.below HB.out).frozen 0
      go_wp2
      go_ret
      refine ⟨?_, (HX.out.below HB.out).set 0 _, (But.of_below HB.out).trans ?_⟩
      · rw [← HLK.out] at hje
        rw [hje, List.take_length]
        rfl
      · exact ⟨rfl, rfl, rfl, by simp [World.setCell], fun k _ hk => Below.heap_setCell _ _ _ k hk⟩
set_option maxRecDepth 100000 in
set_option maxHeartbeats 1600000 in
theorem take1_over (c : Nat) (l : List UInt8) (n : Nat) (w : World) (hc : Blk w c 9 #[.string (txt l)]) (hn : n ≤ 4) (hle : l.length < n) :
   Calls Try.prog 52 #[.int .i64 (n : Int), .pointer (some ⟨c, 0, none⟩)] w fun e w' => e = .returned (.int .u32 ((valB (l.take (l.length)) : Nat) : Int)) ∧ Blk w' c 9 #[.string (txt (l.drop (l.length)))] ∧ But c w w' := by
  have hkl : l.length ≤ l.length := by omega
  have hk4 : l.length ≤ 4 := by omega
  have hlt := hc.lt
  have HX : Hid (Blk w c 9 #[.string (txt l)]) := hc
  have c0 : w.cell? ⟨c, 0, none⟩ = some (.string (txt l)) := hc.cell 0 rfl
  have f0 := hc.frozen 0
  have hsz : (txt l).size = l.length := txt_size l
  obtain ⟨R, hR⟩ : ∃ R, l.take (l.length) = R := ⟨_, rfl⟩
  obtain ⟨Z, hZ⟩ : ∃ Z, l.drop (l.length) = Z := ⟨_, rfl⟩
  have hlk : R.length = l.length := by rw [← hR, List.length_take]; omega
  have hex : (txt l).extract 0 (l.length) = txt R := by rw [extract_txt, ← hR]; rfl
  have hex2 : (txt l).extract (l.length) l.length = txt Z := by rw [extract_txt, List.take_of_length_le (by rw [List.length_drop]; exact Nat.le_refl _), hZ]
  have hcv := conv_bytes (txt R) w
  have htk : (txt R).size = l.length := by rw [txt_size, hlk]
  have BX := below_bytes w (txt R)
  have hcells : ∀ j, j < R.length → (Lib.bytesWorld w 5 (txt R)).cell? ⟨w.heap.size, j, none⟩ = some (.int .u8 ((R.getD j 0).toNat : Int)) := fun j hj => bytes_cell w R j hj
  rw [htk] at hcv
  rw [hR, hZ]
  obtain ⟨cp, hcp⟩ : ∃ cp, grownCap w (l.length) 0 5 = cp := ⟨_, rfl⟩
  rw [hcp] at hcv
  obtain ⟨wb, hwb⟩ : ∃ wb, Lib.bytesWorld w 5 (txt R) = wb := ⟨_, rfl⟩
  rw [hwb] at hcv BX hcells
  have HCE : Hid (∀ j, j < R.length → wb.cell? ⟨w.heap.size, j, none⟩ = some (.int .u8 ((R.getD j 0).toNat : Int))) := hcells
  have HB : Hid (Below w.heap.size w wb) := BX
  have HLK : Hid (R.length = l.length) := hlk
  have HZ : Hid (l.drop (l.length) = Z) := hZ
  clear hc hcp hwb hcells BX hR hZ hlk htk
  go_enter Try.func52, Try.ntmps52
  go_wp2
  clear hcv c0 f0 hex
  go_loopg [4, 16] (l.length) (fun r x s16 wr => ∃ j : Nat, j ≤ l.length ∧ r = l.length - j ∧ s16 = .int .i64 (j : Int) ∧ x = .int .u32 ((valB (R.take j) : Nat) : Int) ∧ wr = wb)
  case atStart => exact ⟨0, by omega, by omega, rfl, rfl, rfl⟩
  case round =>
    obtain ⟨j, hj, rfl, rfl, rfl, rfl⟩ := hrel
    by_cases hjk : j < l.length
    · have q1 := HCE.out j (by rw [HLK.out]; exact hjk)
      have HS : Hid (valB (R.take (j + 1)) = valB (R.take j) * 256 + (R.getD j 0).toNat) := by
        show _ = _
        rw [take_snocB (by rw [HLK.out]; exact hjk), valB_snoc]
      have hv : valB (R.take j) < 16777216 := by
        have h1 := valB_lt j (R.take j) (by rw [List.length_take, HLK.out]; omega)
        have h2 : 256 ^ j ≤ 256 ^ 3 := Nat.pow_le_pow_right (by omega) (by omega)
        omega
      have hb := (R.getD j 0).toNat_lt
      generalize (R.getD j 0).toNat = b at *
      generalize valB (R.take j) = x at *
      go_wp2
      go_roundg (l.length - (j + 1))
      case measure => omega
      case rel => exact ⟨j + 1, by omega, rfl, by go_num, by rw [HS.out, shl_or x b hv hb], rfl⟩
    · have hje : j = l.length := by omega
      have c0 : wr.cell? ⟨c, 0, none⟩ = some (.string (txt l)) := (HX.out.below HB.out).cell 0 rfl
      have f0 := (HX.out.below HB.out).frozen 0
      go_wp2
      go_ret
      refine ⟨?_, by
        rw [show txt Z = ByteArray.empty by rw [← HZ.out, List.drop_length]; rfl]
        exact (HX.out.below HB.out).set 0 _, (But.of_below HB.out).trans ?_⟩
      · rw [← HLK.out] at hje
        rw [hje, List.take_length]
        rfl
      · exact ⟨rfl, rfl, rfl, by simp [World.setCell], fun k _ hk => Below.heap_setCell _ _ _ k hk⟩
theorem take1_any (c : Nat) (l : List UInt8) (n : Nat) (w : World) (hc : Blk w c 9 #[.string (txt l)]) (hn : n ≤ 4) :
   Calls Try.prog 52 #[.int .i64 (n : Int), .pointer (some ⟨c, 0, none⟩)] w fun e w' => e = .returned (.int .u32 ((valB (l.take n) : Nat) : Int)) ∧ Blk w' c 9 #[.string (txt (l.drop n))] ∧ But c w w' := by
  rcases Nat.lt_or_ge l.length n with h | h
  · have := take1_over c l n w hc hn h
    rw [List.take_length, List.drop_length] at this
    rw [List.take_of_length_le (by omega), List.drop_eq_nil_of_le (by omega)]
    exact this
  · exact take1_less c l n w hc hn h
end Go.Proofs.Ytpplnjmjldhlbaa

/- Package block: lists of numbers, as they are taken off a text: what stays. -/
namespace Go.Proofs.Ytpplnjmjldhlbaa
open Go.ChangeShapes Go.WideShapes Go.ChangeAt Go.RowKit
/-- Blocks ahead of B stay, but for c. -/
structure Up (B c : Nat) (w w' : World) : Prop where
  os : w'.os = w.os
  tape : w'.tape = w.tape
  output : w'.output = w.output
  size : w.heap.size ≤ w'.heap.size
  block : ∀ b, b < B → b ≠ c → w'.heap[b]? = w.heap[b]?
theorem Up.refl (B c : Nat) (w : World) : Up B c w w := ⟨rfl, rfl, rfl, Nat.le_refl _, fun _ _ _ => rfl⟩
theorem Up.trans {B c : Nat} {w w1 w2 : World} (h : Up B c w w1) (k : Up B c w1 w2) : Up B c w w2 :=
  ⟨k.os.trans h.os, k.tape.trans h.tape, k.output.trans h.output, Nat.le_trans h.size k.size, fun b h1 h2 => (k.block b h1 h2).trans (h.block b h1 h2)⟩
theorem Up.mono {B B' c : Nat} {w w' : World} (h : Up B c w w') (hB : B' ≤ B) : Up B' c w w' := ⟨h.os, h.tape, h.output, h.size, fun b h1 h2 => h.block b (Nat.lt_of_lt_of_le h1 hB) h2⟩
theorem Up.of_but {B c : Nat} {w w' : World} (h : But c w w') (hB : B ≤ w.heap.size) : Up B c w w' := ⟨h.os, h.tape, h.output, h.size, fun b h1 h2 => h.block b (Nat.lt_of_lt_of_le h1 hB) h2⟩
theorem Up.of_below {B c : Nat} {w w' : World} (h : Below w.heap.size w w') (hB : B ≤ w.heap.size) : Up B c w w' := ⟨h.os, h.tape, h.output, h.size, fun b h1 _ => h.block b (Nat.lt_of_lt_of_le h1 hB)⟩
theorem Up.set {B c : Nat} {w w' : World} (h : Up B c w w') {g k : Nat} (hg : B ≤ g) (v : Value) : Up B c w (w'.setCell ⟨g, k, none⟩ v) :=
  ⟨h.os, h.tape, h.output, by simpa [World.setCell] using h.size, fun b h1 h2 => by rw [Below.heap_setCell _ _ _ b (by show b ≠ g; omega)]; exact h.block b h1 h2⟩
theorem Up.blk {B c g : Nat} {w w' : World} {T : TypeId} {cs : Array Value} (h : Blk w g T cs) (u : Up B c w w') (h1 : g < B) (h2 : g ≠ c) : Blk w' g T cs := h.of_block (u.block g h1 h2)
/-- A made list of rows; those ahead of place t are laid, each of dim numbers. -/
structure GF (w : World) (gB P t dim : Nat) (R : Nat → List Int) : Prop where
  row : ∃ cs : Array Value, w.heap[gB]? = some (.cells cs 72 (0, 0)) ∧ cs.size = P ∧ ∀ j, j < t → ∃ gR, cs[j]? = some (.slice (some ⟨gR, 0, none⟩) dim dim) ∧ gB < gR ∧ Fresh w gB gR dim dim (R j)
theorem GF.lt {w : World} {gB P t dim : Nat} {R : Nat → List Int} (h : GF w gB P t dim R) : gB < w.heap.size := by
  obtain ⟨cs, h1, _⟩ := h.row
  exact (Array.getElem?_eq_some_iff.1 h1).1
theorem GF.same {w w' : World} {gB P t dim : Nat} {R : Nat → List Int} (h : GF w gB P t dim R) (hs : ∀ b, gB ≤ b → b < w.heap.size → w'.heap[b]? = w.heap[b]?) : GF w' gB P t dim R := by
  have hl := h.lt
  obtain ⟨cs, h1, h2, h3⟩ := h.row
  exact ⟨cs, (hs gB (Nat.le_refl _) hl).trans h1, h2, fun j hj => let ⟨gR, e, q, F⟩ := h3 j hj; ⟨gR, e, q, F.of_block (hs gR (Nat.le_of_lt q) F.lt)⟩⟩
theorem GF.up {w w' : World} {gB P t dim B c : Nat} {R : Nat → List Int} (h : GF w gB P t dim R) (u : Up B c w w') (hB : w.heap.size ≤ B) (hc : c < gB) : GF w' gB P t dim R :=
  h.same fun b h1 h2 => u.block b (by omega) (by omega)
theorem GF.congr {w : World} {gB P t dim : Nat} {R R' : Nat → List Int} (h : GF w gB P t dim R) (e : ∀ j, j < t → R' j = R j) : GF w gB P t dim R' := by
  obtain ⟨cs, h1, h2, h3⟩ := h.row
  exact ⟨cs, h1, h2, fun j hj => by rw [e j hj]; exact h3 j hj⟩
theorem GF.cell {w : World} {gB P t dim k : Nat} {R : Nat → List Int} (h : GF w gB P t dim R) (hk : k < P) : (∃ u, w.cell? ⟨gB, k, none⟩ = some u) ∧ w.frozen? ⟨gB, k, none⟩ = false := by
  obtain ⟨cs, h1, h2, h3⟩ := h.row
  exact ⟨⟨cs[k]'(by omega), by simp [World.cell?, h1, Array.getElem?_eq_getElem (show k < cs.size by omega)]⟩, by simp [World.frozen?, h1]⟩
/-- One row more. -/
theorem GF.step {w : World} {gB P t dim gR : Nat} {R : Nat → List Int} (h : GF w gB P t dim R) (ht : t < P) (hg : gB < gR) (F : Fresh w gB gR dim dim (R t)) : GF (w.setCell ⟨gB, t, none⟩ (.slice (some ⟨gR, 0, none⟩) dim dim)) gB P (t + 1) dim R := by
  obtain ⟨cs, h1, h2, h3⟩ := h.row
  refine ⟨cs.setIfInBounds t (.slice (some ⟨gR, 0, none⟩) dim dim), by simp [World.setCell, Array.getElem?_modify, h1], by simpa using h2, fun j hj => ?_⟩
  by_cases hjt : j = t
  · subst hjt
    exact ⟨gR, by rw [Array.getElem?_setIfInBounds, if_pos rfl, if_pos (by omega)], hg, F.setOther (by show gR ≠ gB; omega) _⟩
  · obtain ⟨g, e, q, F2⟩ := h3 j (by omega)
    exact ⟨g, by rw [Array.getElem?_setIfInBounds, if_neg (fun e => hjt e.symm)]; exact e, q, F2.setOther (by show g ≠ gB; omega) _⟩
theorem gf_made (w : World) (P dim : Nat) (R : Nat → List Int) : GF (w.alloc (.cells (madeCells #[.slice none 0 0] P) 72)) w.heap.size P 0 dim R :=
  ⟨_, heap_alloc_new w _, by simp [madeCells], fun j hj => by omega⟩
theorem GF.grid {w : World} {gB P dim : Nat} {R : Nat → List Int} (h : GF w gB P P dim R) (hP : P ≤ 4096) : GridAt w (some ⟨gB, 0, none⟩) P ((List.range P).map R) := by
  refine ⟨by simp, by omega, fun _ => ⟨gB, 0, rfl, fun t ht => ?_⟩⟩
  obtain ⟨cs, h1, h2, h3⟩ := h.row
  obtain ⟨gR, e, q, F⟩ := h3 t ht
  have er : rowOf ((List.range P).map R) t = R t := by
    unfold rowOf
    rw [List.getD_eq_getElem?_getD, List.getElem?_map, List.getElem?_range ht]
    rfl
  refine ⟨some ⟨gR, 0, none⟩, dim, dim, by rw [Nat.zero_add]; simp [World.cell?, h1, e], ?_⟩
  rw [er]
  exact F.arg
/-- A made list of lists; those ahead of place i are laid. -/
structure OF (w : World) (gA m i P dim : Nat) (R : Nat → Nat → List Int) : Prop where
  row : ∃ cs : Array Value, w.heap[gA]? = some (.cells cs 73 (0, 0)) ∧ cs.size = m ∧ ∀ j, j < i → ∃ gB, cs[j]? = some (.slice (some ⟨gB, 0, none⟩) P P) ∧ gA < gB ∧ GF w gB P P dim (R j)
theorem OF.lt {w : World} {gA m i P dim : Nat} {R : Nat → Nat → List Int} (h : OF w gA m i P dim R) : gA < w.heap.size := by
  obtain ⟨cs, h1, _⟩ := h.row
  exact (Array.getElem?_eq_some_iff.1 h1).1
theorem OF.same {w w' : World} {gA m i P dim : Nat} {R : Nat → Nat → List Int} (h : OF w gA m i P dim R) (hs : ∀ b, gA ≤ b → b < w.heap.size → w'.heap[b]? = w.heap[b]?) : OF w' gA m i P dim R := by
  have hl := h.lt
  obtain ⟨cs, h1, h2, h3⟩ := h.row
  exact ⟨cs, (hs gA (Nat.le_refl _) hl).trans h1, h2, fun j hj => let ⟨gB, e, q, F⟩ := h3 j hj; ⟨gB, e, q, F.same fun b k1 k2 => hs b (by omega) k2⟩⟩
theorem OF.up {w w' : World} {gA m i P dim B c : Nat} {R : Nat → Nat → List Int} (h : OF w gA m i P dim R) (u : Up B c w w') (hB : w.heap.size ≤ B) (hc : c < gA) : OF w' gA m i P dim R :=
  h.same fun b h1 h2 => u.block b (by omega) (by omega)
theorem OF.cell {w : World} {gA m i P dim k : Nat} {R : Nat → Nat → List Int} (h : OF w gA m i P dim R) (hk : k < m) : (∃ u, w.cell? ⟨gA, k, none⟩ = some u) ∧ w.frozen? ⟨gA, k, none⟩ = false := by
  obtain ⟨cs, h1, h2, h3⟩ := h.row
  exact ⟨⟨cs[k]'(by omega), by simp [World.cell?, h1, Array.getElem?_eq_getElem (show k < cs.size by omega)]⟩, by simp [World.frozen?, h1]⟩
/-- The next place is set: the lists ahead of it stay. -/
theorem OF.set {w : World} {gA m i P dim : Nat} {R : Nat → Nat → List Int} (h : OF w gA m i P dim R) (hi : i < m) (v : Value) : OF (w.setCell ⟨gA, i, none⟩ v) gA m i P dim R ∧ (w.setCell ⟨gA, i, none⟩ v).cell? ⟨gA, i, none⟩ = some v := by
  obtain ⟨⟨u, hu⟩, _⟩ := h.cell hi
  refine ⟨?_, World.cell?_setCell_same _ _ _ hu⟩
  obtain ⟨cs, h1, h2, h3⟩ := h.row
  refine ⟨cs.setIfInBounds i v, by simp [World.setCell, Array.getElem?_modify, h1], by simpa using h2, fun j hj => ?_⟩
  obtain ⟨gB, e, q, F⟩ := h3 j hj
  exact ⟨gB, by rw [Array.getElem?_setIfInBounds, if_neg (by omega)]; exact e, q, F.same fun b k1 _ => Below.heap_setCell _ _ _ b (by show b ≠ gA; omega)⟩
theorem OF.next {w : World} {gA m i P dim gB : Nat} {R : Nat → Nat → List Int} (h : OF w gA m i P dim R) (hc : w.cell? ⟨gA, i, none⟩ = some (.slice (some ⟨gB, 0, none⟩) P P)) (hg : gA < gB) (G : GF w gB P P dim (R i)) : OF w gA m (i + 1) P dim R := by
  obtain ⟨cs, h1, h2, h3⟩ := h.row
  refine ⟨cs, h1, h2, fun j hj => ?_⟩
  by_cases hji : j = i
  · subst hji
    refine ⟨gB, ?_, hg, G⟩
    unfold World.cell? at hc
    simp only [h1] at hc
    simpa using hc
  · exact h3 j (by omega)
theorem of_made (w : World) (m P dim : Nat) (R : Nat → Nat → List Int) : OF (w.alloc (.cells (madeCells #[.slice none 0 0] m) 73)) w.heap.size m 0 P dim R :=
  ⟨_, heap_alloc_new w _, by simp [madeCells], fun j hj => by omega⟩
theorem OF.cube {w : World} {gA m P dim : Nat} {R : Nat → Nat → List Int} (h : OF w gA m m P dim R) (hm : m ≤ 4096) (hP : P ≤ 4096) : CubeAt w (some ⟨gA, 0, none⟩) m ((List.range m).map fun i => (List.range P).map (R i)) := by
  refine ⟨by simp, by omega, fun _ => ⟨gA, 0, rfl, fun t X hX => ?_⟩⟩
  have ht : t < m := by have := (List.getElem?_eq_some_iff.1 hX).1; simpa using this
  rw [List.getElem?_map, List.getElem?_range ht] at hX
  simp only [Option.map_some, Option.some.injEq] at hX
  subst hX
  obtain ⟨cs, h1, h2, h3⟩ := h.row
  obtain ⟨gB, e, q, G⟩ := h3 t ht
  exact ⟨some ⟨gB, 0, none⟩, P, P, by rw [Nat.zero_add]; simp [World.cell?, h1, e], (fun h => by cases h), Nat.le_refl _, by omega, G.grid hP⟩
theorem OF.new {w : World} {gA m P dim s : Nat} {R : Nat → Nat → List Int} (h : OF w gA m m P dim R) (hs : s ≤ gA) (hm : m ≤ 4096) (hP : P ≤ 4096) : Hangs (fun b => s ≤ b) w (fun w => CubeAt w (some ⟨gA, 0, none⟩) m ((List.range m).map fun i => (List.range P).map (R i))) :=
  fun _ h2 => (h.same fun b k1 k2 => h2 b (Nat.le_trans hs k1) k2).cube hm hP
/-- Numbers, as they are taken. -/
def toI (n : Nat) : Int := IntKind.i32.wrap (n : Int)
theorem toI_small (n : Nat) : -2147483648 ≤ toI n ∧ toI n ≤ 2147483647 := by
  unfold toI
  simp [IntKind.wrap, IntKind.bits, IntKind.signed]
  omega
def numAt (l : List UInt8) (k : Nat) : Int := toI (valB ((l.drop (4 * k)).take 4))
def rowT (l : List UInt8) (dim k0 : Nat) : List Int := tab dim fun j => numAt l (k0 + j)
def cubeT (l : List UInt8) (layers places dim : Nat) : List (List (List Int)) := (List.range layers).map fun i => (List.range places).map fun t => rowT l dim (i * (places * dim) + t * dim)
end Go.Proofs.Ytpplnjmjldhlbaa
