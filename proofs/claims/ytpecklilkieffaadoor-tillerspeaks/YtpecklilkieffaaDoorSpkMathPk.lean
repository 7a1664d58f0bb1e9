/- TillerSpeaks: how far the answer that is spoken again has come. -/
import Derived.Test.YtpecklilkieffaaDoorFull2Pk
import Derived.Test.YtpecklilkieffaaDoorPk7
import Derived.Test.YtpecklilkieffaaDoorPk4
import Derived.Test.YtpecklilkieffaaDoorPk3
import Derived.Test.YtpecklilkieffaaDoorPk5
import Derived.Test.YtpecklilkieffaaDoorPk2
/- THE CACHE: token by token the same comes out as from the beginning. -/
namespace Go.Proofs.YtpecklilkieffaaDoor
open Go.ChangeShapes Go.WideShapes Go.ChangeAt Go.RowKit
theorem rowOf_left {R S : List (List Int)} {t : Nat} (h : t < R.length) : rowOf (R ++ S) t = rowOf R t := by
  unfold rowOf
  simp only [List.getD_eq_getElem?_getD, List.getElem?_append_left h]
theorem rowOf_last (R : List (List Int)) (x : List Int) : rowOf (R ++ [x]) R.length = x := by
  unfold rowOf
  simp
theorem madeR_snoc (L : Lay) (D H Hd : Nat) (R : List (List Int)) (x : List Int) : madeR L D H Hd (R ++ [x]) = madeR L D H Hd R ++ [oneR L D H Hd x (keysR L D R) (valsR L D R) R.length] := by
  have tk : ∀ i, i ≤ R.length → (keysR L D (R ++ [x])).take i = (keysR L D R).take i := fun i hi => by
    unfold keysR
    rw [List.map_append, List.take_append_of_le_length (by simpa using hi)]
  have tv : ∀ i, i ≤ R.length → (valsR L D (R ++ [x])).take i = (valsR L D R).take i := fun i hi => by
    unfold valsR
    rw [List.map_append, List.take_append_of_le_length (by simpa using hi)]
  unfold madeR
  rw [List.length_append, List.length_singleton, List.range_succ, List.map_append]
  congr 1
  · refine List.map_congr_left fun i hi => ?_
    have hi' : i < R.length := List.mem_range.1 hi
    rw [rowOf_left hi', tk i (by omega), tv i (by omega)]
  · have ek : (keysR L D R).take R.length = keysR L D R := List.take_of_length_le (by unfold keysR; simp)
    have ev : (valsR L D R).take R.length = valsR L D R := List.take_of_length_le (by unfold valsR; simp)
    simp only [List.map_cons, List.map_nil]
    rw [rowOf_last, tk _ (Nat.le_refl _), tv _ (Nat.le_refl _), ek, ev]
theorem begL_snoc (E : List Int) (D : Nat) (A : List Int) (t : Int) : begL E D (A ++ [t]) = begL E D A ++ [begR E D t.toNat A.length] := by
  unfold begL
  rw [List.length_append, List.length_singleton, List.range_succ, List.map_append]
  congr 1
  · refine List.map_congr_left fun i hi => ?_
    rw [el_append_left (List.mem_range.1 hi)]
  · simp only [List.map_cons, List.map_nil]
    have := el_append_right (A := A) (B := [t]) (k := 0)
    rw [Nat.add_zero] at this
    rw [this]
    rfl
/-- The lists of a view are what the layers make of its rows. -/
def Cached (M : Mdl) (D H Hd L : Nat) (X : Vw) (A : List Int) : Prop := X.T = A ∧ (∀ l, l < L → X.K.getD l [] = keysR (layAt M l) D (rowsL M D H Hd A l)) ∧ ∀ l, l < L → X.V.getD l [] = valsR (layAt M l) D (rowsL M D H Hd A l)
theorem rowsL_snoc {M : Mdl} {D H Hd L : Nat} {X : Vw} {A : List Int} (h : Cached M D H Hd L X A) (t : Int) : ∀ l, l ≤ L → rowsL M D H Hd (A ++ [t]) l = rowsL M D H Hd A l ++ [xRow M D H Hd A.length X.K X.V (begR M.E D t.toNat A.length) l]
  | 0, _ => begL_snoc M.E D A t
  | l + 1, hl => by
    have ih := rowsL_snoc h t l (by omega)
    show madeR (layAt M l) D H Hd (rowsL M D H Hd (A ++ [t]) l) = madeR (layAt M l) D H Hd (rowsL M D H Hd A l) ++ [oneR (layAt M l) D H Hd (xRow M D H Hd A.length X.K X.V (begR M.E D t.toNat A.length) l) (X.K.getD l []) (X.V.getD l []) A.length]
    rw [ih, madeR_snoc, rowsL_len, h.2.1 l (by omega), h.2.2 l (by omega)]
theorem cached_none (M : Mdl) (D H Hd L : Nat) : Cached M D H Hd L noX [] := by
  have e : ∀ l, rowsL M D H Hd [] l = [] := fun l => List.length_eq_zero_iff.1 (rowsL_len M D H Hd [] l)
  exact ⟨rfl, fun l _ => by rw [e]; rfl, fun l _ => by rw [e]; rfl⟩
theorem cached_feed {M : Mdl} {D H Hd L : Nat} {X : Vw} {A : List Int} (h : Cached M D H Hd L X A) {t : Int} (ht : 0 ≤ t) : Cached M D H Hd L (feedV M D H Hd L X t.toNat) (A ++ [t]) := by
  obtain ⟨rfl, h2, h3⟩ := h
  refine ⟨?_, fun l hl => ?_, fun l hl => ?_⟩
  · show X.T ++ [((t.toNat : Nat) : Int)] = X.T ++ [t]
    rw [Int.toNat_of_nonneg ht]
  · show (newK M D H Hd X.T.length L X.K X.V (begR M.E D t.toNat X.T.length)).getD l [] = _
    rw [newK_at _ _ _ _ _ _ _ _ _ hl, rowsL_snoc ⟨rfl, h2, h3⟩ t l (by omega), h2 l hl]
    unfold keysR
    rw [List.map_append]
    rfl
  · show (newV M D H Hd X.T.length L X.K X.V (begR M.E D t.toNat X.T.length)).getD l [] = _
    rw [newV_at _ _ _ _ _ _ _ _ _ hl, rowsL_snoc ⟨rfl, h2, h3⟩ t l (by omega), h3 l hl]
    unfold valsR
    rw [List.map_append]
    rfl
theorem cached_all {M : Mdl} {D H Hd L : Nat} (B : List Int) : ∀ {X : Vw} {A : List Int}, Cached M D H Hd L X A → (∀ x ∈ B, 0 ≤ x) → Cached M D H Hd L (feedAll M D H Hd L X B) (A ++ B) := by
  induction B with
  | nil => intro X A h _; rw [List.append_nil]; exact h
  | cons b B ih =>
    intro X A h hb
    have h1 := cached_feed h (hb b (List.mem_cons_self ..))
    have h2 := ih h1 fun x hx => hb x (List.mem_cons_of_mem _ hx)
    rw [List.append_assoc] at h2
    exact h2
theorem feedX_last {M : Mdl} {D H Hd L : Nat} {X : Vw} {A : List Int} (h : Cached M D H Hd L X A) (t : Int) : feedX M D H Hd L X t.toNat = rowOf (rowsL M D H Hd (A ++ [t]) L) A.length := by
  rw [rowsL_snoc h t L (Nat.le_refl _)]
  have := rowOf_last (rowsL M D H Hd A L) (xRow M D H Hd A.length X.K X.V (begR M.E D t.toNat A.length) L)
  rw [rowsL_len] at this
  rw [this]
  show xRow M D H Hd X.T.length X.K X.V (begR M.E D t.toNat X.T.length) L = _
  rw [h.1]
theorem fullX_last {M : Mdl} {V D H Hd L : Nat} {X : Vw} {A : List Int} (h : Cached M D H Hd L X A) (t : Int) : likR M V D (feedX M D H Hd L X t.toNat) = fullX M V D H Hd L (A ++ [t]) := by
  unfold fullX
  rw [feedX_last h t, List.length_append, List.length_singleton, Nat.add_sub_cancel]
end Go.Proofs.YtpecklilkieffaaDoor

/- Small shapes, and rows of tokens that are the same. -/
namespace Go.Proofs.YtpecklilkieffaaDoor
open Go.ChangeShapes Go.WideShapes Go.ChangeAt Go.RowKit
/-- Is a shape a small one? -/
def smallN (D H L : Int) : Int := if 8 < D ∨ 8 < H ∨ 2 < L then 0 else 1
theorem small8_any (V D Hd H L : Int) (w : World) : Calls Tryd.prog 8 #[.agg (cfgC V D Hd H L)] w fun e w' => e = .returned (.int .i64 (smallN D H L)) ∧ Below w.heap.size w w' := by
  have X0 := blk_new w 23 (cfgC V D Hd H L)
  have B0 : Below w.heap.size w (w.alloc (.cells (cfgC V D Hd H L) 23)) := (Below.refl _ _).alloc (Nat.le_refl _) _
  unfold cfgC at *
  generalize hw0 : w.alloc (.cells #[.int .i64 V, .int .i64 D, .int .i64 Hd, .int .i64 H, .int .i64 L] 23) = w0 at *
  have a1 : w0.cell? ⟨w.heap.size, 1, none⟩ = some (.int .i64 D) := X0.cell 1 rfl
  have a3 : w0.cell? ⟨w.heap.size, 3, none⟩ = some (.int .i64 H) := X0.cell 3 rfl
  have a4 : w0.cell? ⟨w.heap.size, 4, none⟩ = some (.int .i64 L) := X0.cell 4 rfl
  have HN : Hid (smallN D H L = if 8 < D ∨ 8 < H ∨ 2 < L then 0 else 1) := rfl
  generalize smallN D H L = res at *
  by_cases h1 : 8 < D
  · have HF : Hid (res = 0) := by show _ = _; rw [HN.out, if_pos (Or.inl h1)]
    clear HN
    go_enter Tryd.func8, Tryd.ntmps8
    go_wp2
    go_ret
    exact ⟨ret_int HF.out.symm, B0⟩
  · by_cases h2 : 8 < H
    · have HF : Hid (res = 0) := by show _ = _; rw [HN.out, if_pos (Or.inr (Or.inl h2))]
      clear HN
      go_enter Tryd.func8, Tryd.ntmps8
      go_wp2
      go_ret
      exact ⟨ret_int HF.out.symm, B0⟩
    · by_cases h3 : 2 < L
      · have HF : Hid (res = 0) := by show _ = _; rw [HN.out, if_pos (Or.inr (Or.inr h3))]
        clear HN
        go_enter Tryd.func8, Tryd.ntmps8
        go_wp2
        go_ret
        exact ⟨ret_int HF.out.symm, B0⟩
      · have HF : Hid (res = 1) := by show _ = _; rw [HN.out, if_neg (by omega)]
        clear HN
        go_enter Tryd.func8, Tryd.ntmps8
        go_wp2
        go_ret
        exact ⟨ret_int HF.out.symm, B0⟩
theorem IArg.drop {w : World} {b o n ca : Nat} {A : List Int} (h : IArg w (some ⟨b, o, none⟩) n ca A) {m : Nat} (hm : m ≤ n) : IRowAt w (some ⟨b, o + m, none⟩) (n - m) (A.drop m) := by
  have hl := h.row.len
  refine ⟨by rw [List.length_drop]; omega, by have := h.row.max; omega, fun k => ?_, fun hn => ?_⟩
  · rw [el_drop]; exact h.row.small _
  · obtain ⟨b', o', e, hc⟩ := h.row.cells (by omega)
    simp only [Option.some.injEq, Addr.mk.injEq, and_true] at e
    obtain ⟨rfl, rfl⟩ := e
    refine ⟨b, o + m, rfl, fun t ht => ?_⟩
    rw [el_drop, Nat.add_assoc]
    exact hc _ (by omega)
end Go.Proofs.YtpecklilkieffaaDoor

/- An answer, token by token: what is fed in parts is what is fed at once. -/
namespace Go.Proofs.YtpecklilkieffaaDoor
open Go.ChangeShapes Go.WideShapes Go.ChangeAt Go.RowKit
theorem feedAll_append (M : Mdl) (D H Hd L : Nat) (X : Vw) (A B : List Int) : feedAll M D H Hd L X (A ++ B) = feedAll M D H Hd L (feedAll M D H Hd L X A) B := by
  unfold feedAll
  rw [List.foldl_append]
theorem lik_split (M : Mdl) (V D H Hd L : Nat) (Q T : List Int) (hT : T ≠ []) : likAt M V D H Hd L (feedAll M D H Hd L noX Q) T T.length = likAt M V D H Hd L noX (Q ++ T) (Q ++ T).length := by
  obtain ⟨m, hm⟩ : ∃ m, T.length = m + 1 := ⟨T.length - 1, by have := List.length_pos_iff.2 hT; omega⟩
  have h2 : (Q ++ T).length = (Q.length + m) + 1 := by rw [List.length_append, hm]; omega
  rw [hm, h2]
  show likR M V D (feedX M D H Hd L (feedAll M D H Hd L (feedAll M D H Hd L noX Q) (T.take m)) (el T m).toNat) = likR M V D (feedX M D H Hd L (feedAll M D H Hd L noX ((Q ++ T).take (Q.length + m))) (el (Q ++ T) (Q.length + m)).toNat)
  have et : (Q ++ T).take (Q.length + m) = Q ++ T.take m := by rw [List.take_append, List.take_of_length_le (by omega : Q.length ≤ Q.length + m), Nat.add_sub_cancel_left]
  rw [el_append_right, et, ← feedAll_append]
/-- The token that is liked best behind a row of them. -/
def nextT (M : Mdl) (V D H Hd L : Nat) (A : List Int) : Int := amax (likAt M V D H Hd L noX A A.length) V
def runY (M : Mdl) (V D H Hd L : Nat) (P : List Int) : Nat → List Int
  | 0 => []
  | j + 1 => runY M V D H Hd L P j ++ [nextT M V D H Hd L (P ++ runY M V D H Hd L P j)]
theorem runS_inv (M : Mdl) (V D H Hd L : Nat) (P : List Int) (hP : P ≠ []) : ∀ j, (runS M V D H Hd L P j).Y = runY M V D H Hd L P j ∧ (runS M V D H Hd L P j).T ≠ [] ∧ ∃ Q, (runS M V D H Hd L P j).X = feedAll M D H Hd L noX Q ∧ Q ++ (runS M V D H Hd L P j).T = P ++ (runS M V D H Hd L P j).Y
  | 0 => ⟨rfl, hP, [], rfl, by show [] ++ P = P ++ []; simp⟩
  | j + 1 => by
    obtain ⟨h1, h2, Q, h3, h4⟩ := runS_inv M V D H Hd L P hP j
    have e : likAt M V D H Hd L (runS M V D H Hd L P j).X (runS M V D H Hd L P j).T (runS M V D H Hd L P j).T.length = likAt M V D H Hd L noX (P ++ runY M V D H Hd L P j) (P ++ runY M V D H Hd L P j).length := by
      rw [h3, lik_split M V D H Hd L Q _ h2, h4, h1]
    have eY : (runS M V D H Hd L P (j + 1)).Y = runY M V D H Hd L P j ++ [nextT M V D H Hd L (P ++ runY M V D H Hd L P j)] := by
      show (runS M V D H Hd L P j).Y ++ [amax _ V] = _
      rw [e, h1]
      rfl
    have eT : (runS M V D H Hd L P (j + 1)).T = [nextT M V D H Hd L (P ++ runY M V D H Hd L P j)] := by
      show [amax _ V] = _
      rw [e]
      rfl
    refine ⟨eY, by rw [eT]; simp, P ++ runY M V D H Hd L P j, ?_, ?_⟩
    · show feedAll M D H Hd L (runS M V D H Hd L P j).X (runS M V D H Hd L P j).T = _
      rw [h3, ← feedAll_append, h4, h1]
    · rw [eT, eY, List.append_assoc]
theorem runY_len (M : Mdl) (V D H Hd L : Nat) (P : List Int) : ∀ j, (runY M V D H Hd L P j).length = j
  | 0 => rfl
  | j + 1 => by
    show (runY M V D H Hd L P j ++ [nextT M V D H Hd L (P ++ runY M V D H Hd L P j)]).length = _
    rw [List.length_append, runY_len M V D H Hd L P j]
    rfl
theorem runY_take (M : Mdl) (V D H Hd L : Nat) (P : List Int) (n : Nat) : ∀ i, (runY M V D H Hd L P (n + i)).take n = runY M V D H Hd L P n
  | 0 => by rw [Nat.add_zero]; exact List.take_of_length_le (by rw [runY_len]; omega)
  | i + 1 => by
    show (runY M V D H Hd L P (n + i) ++ [_]).take n = _
    rw [List.take_append_of_le_length (by rw [runY_len]; omega)]
    exact runY_take M V D H Hd L P n i
theorem runY_shift (M : Mdl) (V D H Hd L : Nat) (P : List Int) (n : Nat) : ∀ i, runY M V D H Hd L (P ++ runY M V D H Hd L P n) i = (runY M V D H Hd L P (n + i)).drop n
  | 0 => by rw [Nat.add_zero, List.drop_of_length_le (by rw [runY_len]; omega)]; rfl
  | i + 1 => by
    have ih := runY_shift M V D H Hd L P n i
    show runY M V D H Hd L (P ++ runY M V D H Hd L P n) i ++ [_] = (runY M V D H Hd L P (n + i) ++ [_]).drop n
    rw [List.drop_append_of_le_length (by rw [runY_len]; omega), ih]
    have e : P ++ runY M V D H Hd L P n ++ (runY M V D H Hd L P (n + i)).drop n = P ++ runY M V D H Hd L P (n + i) := by
      rw [List.append_assoc, ← runY_take M V D H Hd L P n i, List.take_append_drop]
    rw [e]
    rfl
theorem runY_toks (M : Mdl) {V D H Hd L : Nat} (hV : 1 ≤ V) (P : List Int) : ∀ j, (runY M V D H Hd L P j).all (tokB V) = true
  | 0 => rfl
  | j + 1 => by
    show (runY M V D H Hd L P j ++ [_]).all (tokB V) = true
    rw [List.all_append, runY_toks M hV P j, Bool.true_and]
    simp only [List.all_cons, List.all_nil, Bool.and_true]
    unfold tokB nextT
    exact decide_eq_true (amax_tok _ hV)
/-- The answer's length: the first at which it is over. -/
theorem run_first {M : Mdl} {V D H Hd L : Nat} {P : List Int} {most n : Int} {j : Nat} (h2 : ∀ i, i < j → overB (runY M V D H Hd L P i) most = false) {m : Nat} (hn : n = m) (hm : m ≤ j) {i : Nat} (k1 : overB (runY M V D H Hd L P i) n = true) (k2 : ∀ t, t < i → overB (runY M V D H Hd L P t) n = false) : i = m := by
  have e : ∀ t, t < m → overB (runY M V D H Hd L P t) n = false := fun t ht => by
    have := h2 t (by omega)
    unfold overB at this ⊢
    rw [Bool.or_eq_false_iff] at this ⊢
    exact ⟨decide_eq_false (by rw [runY_len]; omega), this.2⟩
  have e2 : overB (runY M V D H Hd L P m) n = true := by unfold overB; rw [decide_eq_true (by rw [runY_len]; omega)]; rfl
  rcases Nat.lt_trichotomy i m with h | h | h
  · rw [e i h] at k1; cases k1
  · exact h
  · rw [k2 m h] at e2; cases e2
/-- The end of an answer that was gone on from. -/
theorem over_drop {M : Mdl} {V D H Hd L : Nat} {P : List Int} {most : Int} {n i : Nat} (hi : 1 ≤ i) : overB ((runY M V D H Hd L P (n + i)).drop n) (most - n) = overB (runY M V D H Hd L P (n + i)) most := by
  have hl : ((runY M V D H Hd L P (n + i)).drop n).length = i := by rw [List.length_drop, runY_len]; omega
  have hl2 := runY_len M V D H Hd L P (n + i)
  unfold overB endB
  rw [hl, hl2, el_drop]
  have e1 : decide (most - (n : Int) ≤ (i : Int)) = decide (most ≤ ((n + i : Nat) : Int)) := by
    by_cases h : most - (n : Int) ≤ (i : Int)
    · rw [decide_eq_true h, decide_eq_true (by omega)]
    · rw [decide_eq_false h, decide_eq_false (by omega)]
  rw [e1, decide_eq_true (by omega : 0 < i), decide_eq_true (by omega : 0 < n + i), show n + (i - 1) = n + i - 1 by omega]
end Go.Proofs.YtpecklilkieffaaDoor

/- Package step: the first rows of lists. -/
namespace Go.Proofs.YtpecklilkieffaaDoor
open Go.ChangeShapes Go.WideShapes Go.ChangeAt Go.RowKit
theorem rowOf_take9 {R : List (List Int)} {m t : Nat} (h : t < m) : rowOf (R.take m) t = rowOf R t := by
  unfold rowOf
  rw [List.getD_eq_getElem?_getD, List.getD_eq_getElem?_getD, List.getElem?_take_of_lt h]
theorem GridAt.take {w : World} {ao : Option Addr} {n : Nat} {R : List (List Int)} (h : GridAt w ao n R) {m : Nat} (hm : m ≤ n) : GridAt w ao m (R.take m) := by
  have hl := h.len
  have hx := h.max
  refine ⟨by rw [List.length_take]; omega, by omega, fun h0 => ?_⟩
  obtain ⟨b, o, e, hc⟩ := h.cells (by omega)
  refine ⟨b, o, e, fun t ht => ?_⟩
  rw [rowOf_take9 ht]
  exact hc t (by omega)
set_option maxHeartbeats 800000 in
theorem firstRows_any (ao : Option Addr) (m ca n : Nat) (C : List (List (List Int))) (w : World) (hC : CubeAt w ao m C) (hm : m ≤ 4096) (hn : 1 ≤ n) (hn4 : n ≤ 4096) (hl : ∀ R ∈ C, n ≤ R.length ∧ ∀ t, t < n → (rowOf R t).length ≤ 1048576) :
   Calls Tryd.prog 23 #[.slice ao m ca, .int .i64 (n : Int)] w fun e w' => e = .returned (.slice (some ⟨w.heap.size, 0, none⟩) m m) ∧ Lists w' w.heap.size m m (C.map (List.take n)) ∧ Below w.heap.size w w' := by
  have hmk := run_make_row' (P := Tryd.prog) 42 74 (.slice none 0 0) 24 Tryd.underlying42 Tryd.infoList rfl .i64 .i64 m (by omega) (by omega)
  have F0 := lists_made w m (C.map (List.take n))
  have B0 : Below w.heap.size w (w.alloc (.cells (madeCells #[.slice none 0 0] m) 74)) := (Below.refl _ _).alloc (Nat.le_refl _) _
  go_enter Tryd.func23, Tryd.ntmps23
  go_wp2
  clear hmk
  generalize w.alloc (.cells (madeCells #[.slice none 0 0] m) 74) = w0 at *
  go_loopg [13] m (fun r i wr => ∃ k : Nat, k ≤ m ∧ r = m - k ∧ i = .int .i64 k ∧ Lists wr w.heap.size m k (C.map (List.take n)) ∧ Below w.heap.size w wr)
  case atStart => exact ⟨0, by omega, by omega, rfl, F0, B0⟩
  case round =>
    obtain ⟨k, hk, rfl, rfl, F1, B1⟩ := hrel
    clear F0 B0
    by_cases hlt : k < m
    · obtain ⟨b, o, rfl, hc⟩ := (hC.below B1).cells (by omega)
      have hR : C[k]? = some (C[k]'(by rw [hC.len]; exact hlt)) := List.getElem?_eq_getElem _
      have hmem : C[k]'(by rw [hC.len]; exact hlt) ∈ C := List.getElem_mem _
      generalize C[k]'(by rw [hC.len]; exact hlt) = R at hR hmem
      obtain ⟨ro, rn, c, h1, h2, h3, h4, G1⟩ := hc k R hR
      clear hc
      obtain ⟨q1, q2⟩ := hl R hmem
      rw [G1.len] at q1
      obtain ⟨b1, o1, rfl, _⟩ := G1.cells (by omega)
      have hRt : (C.map (List.take n))[k]? = some (R.take n) := by rw [List.getElem?_map, hR]; rfl
      have G2 := G1.take q1
      have hmin : ¬ (rn : Int) < (n : Int) := by omega
      clear hR hmem G1 h2
      go_wp2_with fail
      refine (copyRows_any (some ⟨b1, o1, none⟩) n c (R.take n) wr G2 hn4 (fun t ht => by rw [rowOf_take9 ht]; exact q2 t ht)).mono ?_
      rintro e w2 ⟨g, vs, rfl, N2, B2⟩
      have s1 := F1.lt
      have F2 := (F1.below B2)
      have F3 := F2.step hlt hRt (fun h => by cases h) (N2.mono (by omega))
      have ff := F2.frozen k
      obtain ⟨v, hv⟩ := F2.cell hlt
      have B3 := below_then B1 B2
      clear N2 F1 hRt h3 h4 G2 hmin
      go_wp2
      go_roundg (m - (k + 1))
      case measure => omega
      case rel => exact ⟨k + 1, by omega, rfl, by go_num, F3, B3.setCell (Nat.le_refl _) _⟩
    · obtain rfl : k = m := by omega
      go_wp2
      go_ret
      exact ⟨rfl, F1, B1⟩
theorem Lists.cube {w : World} {g m : Nat} {C : List (List (List Int))} (h : Lists w g m m C) (hl : C.length = m) (hm : m ≤ 4096) {B : Nat} (hB : B ≤ g) : New B w (fun w => CubeAt w (some ⟨g, 0, none⟩) m C) := by
  have hlt := h.lt
  obtain ⟨cs, h1, hsz, h3⟩ := h.row
  intro w2 h2
  have hg := (h2 g hB hlt).trans h1
  refine ⟨hl, by omega, fun _ => ⟨g, 0, rfl, fun t R hR => ?_⟩⟩
  have htm : t < m := by rw [← hl]; exact (List.getElem?_eq_some_iff.1 hR).1
  obtain ⟨ro, n, vs, e, h4, N⟩ := h3 t R htm hR
  have GV := N w2 fun b hb hb2 => h2 b (Nat.le_trans (by omega) hb) hb2
  refine ⟨ro, n, n, ?_, h4, Nat.le_refl _, GV.max, GV.grid⟩
  rw [Nat.zero_add]
  unfold World.cell?
  simp only [hg]
  exact e
/-- The view of the first n tokens. -/
def cutV (X : Vw) (n : Nat) : Vw := ⟨X.T.take n, X.K.map (List.take n), X.V.map (List.take n)⟩
set_option maxRecDepth 100000 in
set_option maxHeartbeats 800000 in
theorem scut_any (vv : VwV) (X : Vw) (n : Nat) (w : World) (hv : VwAt w vv X) (hn1 : 1 ≤ n) (hnt : n ≤ X.T.length) (hT : X.T.length ≤ 4096) (hK : X.K.length ≤ 4096) (hV : X.V.length ≤ 4096) (hrk : ∀ R ∈ X.K, n ≤ R.length ∧ ∀ t, t < n → (rowOf R t).length ≤ 1048576) (hrv : ∀ R ∈ X.V, n ≤ R.length ∧ ∀ t, t < n → (rowOf R t).length ≤ 1048576) :
   Calls Tryd.prog 11 #[.agg vv.cells, .int .i64 (n : Int)] w fun e w' => ∃ v2 : VwV, e = .returned (.agg v2.cells) ∧ New w.heap.size w' (fun w => VwAt w v2 (cutV X n)) ∧ Below w.heap.size w w' := by
  have lt := hv.t.row.len
  have lk := hv.k.len
  have lv := hv.v.len
  have HT : Hid (∀ wv, Below w.heap.size w wv → IArg wv vv.t.ao vv.t.n vv.t.c X.T) := fun wv hb => hv.t.below hb
  have HK : Hid (∀ wv, Below w.heap.size w wv → CubeAt wv vv.k.ao vv.k.n X.K) := fun wv hb => hv.k.below hb
  have HV : Hid (∀ wv, Below w.heap.size w wv → CubeAt wv vv.v.ao vv.v.n X.V) := fun wv hb => hv.v.below hb
  have fit := hv.t.fit
  have mx := hv.t.max
  obtain ⟨tb, tq, hto, -⟩ := hv.t.row.cells (by omega)
  clear hv
  obtain ⟨⟨ta, tn, tc⟩, ⟨ka, kn, kc⟩, ⟨va, vn, vc⟩⟩ := vv
  unfold VwV.cells Sl.v
  simp only at *
  subst hto
  have lt' : tn ≤ 4096 := by omega
  have lk' : kn ≤ 4096 := by omega
  have lv' : vn ≤ 4096 := by omega
  have lk3 : (X.K.map (List.take n)).length = kn := by rw [List.length_map]; exact lk
  have lv3 : (X.V.map (List.take n)).length = vn := by rw [List.length_map]; exact lv
  rw [lt] at hnt hT
  clear lt lk lv hK hV
  have h0 : ¬ (n : Int) < 0 := by omega
  have h0' : ¬ (n : Int) = 0 := by omega
  have h0b : ((n : Int) == 0) = false := by simpa using h0'
  have hmn : ¬ (tn : Int) < (n : Int) := by omega
  have X0 := blk_new w 46 #[.slice (some ⟨tb, tq, none⟩) tn tc, .slice ka kn kc, .slice va vn vc]
  have B0 : Below w.heap.size w (w.alloc (.cells #[.slice (some ⟨tb, tq, none⟩) tn tc, .slice ka kn kc, .slice va vn vc] 46)) := (Below.refl _ _).alloc (Nat.le_refl _) _
  generalize hw0 : w.alloc (.cells #[.slice (some ⟨tb, tq, none⟩) tn tc, .slice ka kn kc, .slice va vn vc] 46) = w0 at *
  have lt0 := X0.lt
  have X1 := blk_new w0 46 #[.slice none 0 0, .slice none 0 0, .slice none 0 0]
  have B1 : Below w0.heap.size w0 (w0.alloc (.cells #[.slice none 0 0, .slice none 0 0, .slice none 0 0] 46)) := (Below.refl _ _).alloc (Nat.le_refl _) _
  generalize hw1 : w0.alloc (.cells #[.slice none 0 0, .slice none 0 0, .slice none 0 0] 46) = w1 at *
  replace X0 := X0.below B1
  have D := below_then B0 B1
  clear B0 B1
  have lt1 := X1.lt
  have a0 : w1.cell? ⟨w.heap.size, 0, none⟩ = some (.slice (some ⟨tb, tq, none⟩) tn tc) := X0.cell 0 rfl
  go_enter Tryd.func11, Tryd.ntmps11
  go_wp2_with fail
  clear hw0 hw1 a0
  replace X0 := X0.below ((Below.refl _ _).drew)
  replace X1 := X1.below ((Below.refl _ _).drew)
  replace D := D.drew
  replace lt1 : w0.heap.size < w1.drew.heap.size := lt1
  refine wp_region_held_drew (S := fun w' => Blk w' w.heap.size 46 #[.slice (some ⟨tb, tq, none⟩) tn tc, .slice ka kn kc, .slice va vn vc]) (by kernel_rfl) (X0) (fun hHeld => ?_)
  generalize hA : w1.drew = wA at *
  clear hA
  refine wpAnyH_take (i := 0) (v := (.pointer (some ⟨w.heap.size, 0, none⟩))) rfl (by kernel_rfl) (by kernel_rfl) (by kernel_rfl) (fun _ _ _ h => h) (Or.inl ⟨by rfl, ?_⟩) (by assumption) ?_
  · intro w' hSw
    go_simp
  simp only [List.getElem_toArray, List.getElem_cons_zero, Act.put, List.setIfInBounds_toArray, List.set_cons_zero, List.set_cons_succ]
  refine wpAnyH_take (i := 1) (v := (.slice (some ⟨tb, tq, none⟩) tn tc)) rfl (by kernel_rfl) (by kernel_rfl) (by kernel_rfl) (fun _ _ _ h => h) (Or.inl ⟨by rfl, ?_⟩) (by assumption) ?_
  · intro w' hSw
    have cc0 : w'.cell? ⟨w.heap.size, 0, none⟩ = some (.slice (some ⟨tb, tq, none⟩) tn tc) := hSw.cell 0 rfl
    go_simp
  simp only [List.getElem_toArray, List.getElem_cons_succ, List.getElem_cons_zero, Act.put, List.setIfInBounds_toArray, List.set_cons_zero, List.set_cons_succ]
  refine wpAnyH_take (i := 2) (v := (.int .i64 (n : Int))) rfl (by kernel_rfl) (by kernel_rfl) (by kernel_rfl) (fun _ _ _ h => h) (Or.inl ⟨by rfl, ?_⟩) (by assumption) ?_
  · intro w' hSw
    go_simp
  simp only [List.getElem_toArray, List.getElem_cons_succ, List.getElem_cons_zero, Act.put, List.setIfInBounds_toArray, List.set_cons_zero, List.set_cons_succ]
  refine wpAnyH_take (i := 3) (v := (.slice (some ⟨tb, tq, none⟩) n tc)) rfl (by kernel_rfl) (by kernel_rfl) (by kernel_rfl) (fun _ _ _ h => h) (Or.inl ⟨by rfl, ?_⟩) (by assumption) ?_
  · intro w' hSw
    (go_simp; intro hbad; exfalso; omega)
  simp only [List.getElem_toArray, List.getElem_cons_succ, List.getElem_cons_zero, Act.put, List.setIfInBounds_toArray, List.set_cons_zero, List.set_cons_succ]
  refine wpAnyH_take (i := 5) (v := (.pointer (some ⟨w.heap.size, 1, none⟩))) rfl (by kernel_rfl) (by kernel_rfl) (by kernel_rfl) (fun _ _ _ h => h) (Or.inl ⟨by rfl, ?_⟩) (by assumption) ?_
  · intro w' hSw
    go_simp
  simp only [List.getElem_toArray, List.getElem_cons_succ, List.getElem_cons_zero, Act.put, List.setIfInBounds_toArray, List.set_cons_zero, List.set_cons_succ]
  refine wpAnyH_take (i := 6) (v := (.pointer (some ⟨w.heap.size, 1, none⟩))) rfl (by kernel_rfl) (by kernel_rfl) (by kernel_rfl) (fun _ _ _ h => h) (Or.inl ⟨by rfl, ?_⟩) (by assumption) ?_
  · intro w' hSw
    go_simp
  simp only [List.getElem_toArray, List.getElem_cons_succ, List.getElem_cons_zero, Act.put, List.setIfInBounds_toArray, List.set_cons_zero, List.set_cons_succ]
  refine wpAnyH_take (i := 7) (v := (.slice ka kn kc)) rfl (by kernel_rfl) (by kernel_rfl) (by kernel_rfl) (fun _ _ _ h => h) (Or.inl ⟨by rfl, ?_⟩) (by assumption) ?_
  · intro w' hSw
    have cc1 : w'.cell? ⟨w.heap.size, 1, none⟩ = some (.slice ka kn kc) := hSw.cell 1 rfl
    go_simp
  simp only [List.getElem_toArray, List.getElem_cons_succ, List.getElem_cons_zero, Act.put, List.setIfInBounds_toArray, List.set_cons_zero, List.set_cons_succ]
  refine wpAnyH_take (i := 8) (v := (.int .i64 (n : Int))) rfl (by kernel_rfl) (by kernel_rfl) (by kernel_rfl) (fun _ _ _ h => h) (Or.inl ⟨by rfl, ?_⟩) (by assumption) ?_
  · intro w' hSw
    go_simp
  simp only [List.getElem_toArray, List.getElem_cons_succ, List.getElem_cons_zero, Act.put, List.setIfInBounds_toArray, List.set_cons_zero, List.set_cons_succ]
  refine wpAnyH_take (i := 10) (v := (.pointer (some ⟨w.heap.size, 1, none⟩))) rfl (by kernel_rfl) (by kernel_rfl) (by kernel_rfl) (fun _ _ _ h => h) (Or.inl ⟨by rfl, ?_⟩) (by assumption) ?_
  · intro w' hSw
    go_simp
  simp only [List.getElem_toArray, List.getElem_cons_succ, List.getElem_cons_zero, Act.put, List.setIfInBounds_toArray, List.set_cons_zero, List.set_cons_succ]
  refine wpAnyH_take (i := 11) (v := (.pointer (some ⟨w.heap.size, 2, none⟩))) rfl (by kernel_rfl) (by kernel_rfl) (by kernel_rfl) (fun _ _ _ h => h) (Or.inl ⟨by rfl, ?_⟩) (by assumption) ?_
  · intro w' hSw
    go_simp
  simp only [List.getElem_toArray, List.getElem_cons_succ, List.getElem_cons_zero, Act.put, List.setIfInBounds_toArray, List.set_cons_zero, List.set_cons_succ]
  refine wpAnyH_take (i := 12) (v := (.slice va vn vc)) rfl (by kernel_rfl) (by kernel_rfl) (by kernel_rfl) (fun _ _ _ h => h) (Or.inl ⟨by rfl, ?_⟩) (by assumption) ?_
  · intro w' hSw
    have cc2 : w'.cell? ⟨w.heap.size, 2, none⟩ = some (.slice va vn vc) := hSw.cell 2 rfl
    go_simp
  simp only [List.getElem_toArray, List.getElem_cons_succ, List.getElem_cons_zero, Act.put, List.setIfInBounds_toArray, List.set_cons_zero, List.set_cons_succ]
  refine wpAnyH_take (i := 13) (v := (.int .i64 (n : Int))) rfl (by kernel_rfl) (by kernel_rfl) (by kernel_rfl) (fun _ _ _ h => h) (Or.inl ⟨by rfl, ?_⟩) (by assumption) ?_
  · intro w' hSw
    go_simp
  simp only [List.getElem_toArray, List.getElem_cons_succ, List.getElem_cons_zero, Act.put, List.setIfInBounds_toArray, List.set_cons_zero, List.set_cons_succ]
  refine wpAnyH_ready (rs := [4]) (by kernel_rfl) (by simp) ?_
  refine AllReadyH.cons rfl (fun Kc hKc => ?_) AllReadyH.nil
  simp only [List.getElem_toArray, List.getElem_cons_succ, List.getElem_cons_zero]
  rw [if_pos (by rfl)]
  go_wp2_with fail
  refine (iclone_any (some ⟨tb, tq, none⟩) n tc (X.T.take n) _ ((HT.out _ D).take hnt) (by omega)).mono ?_
  rintro e w2 ⟨tv, rfl, OT, B2⟩
  have zA2 := B2.size
  replace X0 := X0.below B2
  replace X1 := X1.below B2
  replace D := below_then D B2
  go_wp2_with fail
  refine hKc.out _ _ (X0) (fun hHeld => ?_)
  clear hKc Kc
  refine wpAnyH_ready (rs := [9]) (by kernel_rfl) (by simp) ?_
  refine AllReadyH.cons rfl (fun Kc hKc => ?_) AllReadyH.nil
  simp only [List.getElem_toArray, List.getElem_cons_succ, List.getElem_cons_zero]
  rw [if_pos (by rfl)]
  go_wp2_with fail
  refine (firstRows_any ka kn kc n X.K _ (HK.out _ D) lk' hn1 (by omega) hrk).mono ?_
  rintro e w3 ⟨rfl, NK, B3⟩
  replace OT := owns_below OT B3
  have z3 := B3.size
  replace X0 := X0.below B3
  replace X1 := X1.below B3
  replace D := below_then D B3
  go_wp2_with fail
  refine hKc.out _ _ (X0) (fun hHeld => ?_)
  clear hKc Kc
  refine wpAnyH_ready (rs := [14]) (by kernel_rfl) (by simp) ?_
  refine AllReadyH.cons rfl (fun Kc hKc => ?_) AllReadyH.nil
  simp only [List.getElem_toArray, List.getElem_cons_succ, List.getElem_cons_zero]
  rw [if_pos (by rfl)]
  go_wp2_with fail
  refine (firstRows_any va vn vc n X.V _ (HV.out _ D) lv' hn1 (by omega) hrv).mono ?_
  rintro e w4 ⟨rfl, NV, B4⟩
  replace OT := owns_below OT B4
  replace NK := NK.below B4
  replace X0 := X0.below B4
  replace X1 := X1.below B4
  replace D := below_then D B4
  go_wp2_with fail
  refine hKc.out _ _ (X0) (fun hHeld => ?_)
  clear hKc Kc
  obtain ⟨ta2, tc2, rfl⟩ : ∃ a c, tv = .slice a n c := by
    rcases OT.2 with ⟨h3, h4⟩ | ⟨g, cap, cur, hv, _⟩
    · exact ⟨none, 0, by rw [h3, h4]⟩
    · exact ⟨_, _, hv⟩
  refine wpAnyH_take (i := 15) (v := (.agg #[.slice (some ⟨w2.heap.size, 0, none⟩) kn kn, .slice (some ⟨w3.heap.size, 0, none⟩) vn vn])) rfl (by kernel_rfl) (by kernel_rfl) (by kernel_rfl) (fun _ _ _ h => h) (Or.inl ⟨by rfl, ?_⟩) (by assumption) ?_
  · intro w' hSw
    go_simp
  simp only [List.getElem_toArray, List.getElem_cons_succ, List.getElem_cons_zero, Act.put, List.setIfInBounds_toArray, List.set_cons_zero, List.set_cons_succ]
  refine wpAnyH_take (i := 16) (v := (.agg #[.slice ta2 n tc2, .slice (some ⟨w2.heap.size, 0, none⟩) kn kn, .slice (some ⟨w3.heap.size, 0, none⟩) vn vn])) rfl (by kernel_rfl) (by kernel_rfl) (by kernel_rfl) (fun _ _ _ h => h) (Or.inl ⟨by rfl, ?_⟩) (by assumption) ?_
  · intro w' hSw
    go_simp
  simp only [List.getElem_toArray, List.getElem_cons_succ, List.getElem_cons_zero, Act.put, List.setIfInBounds_toArray, List.set_cons_zero, List.set_cons_succ]
  refine wpAnyH_ready (rs := [17]) (by kernel_rfl) (by simp) ?_
  refine AllReadyH.cons rfl (fun Kc hKc => ?_) AllReadyH.nil
  simp only [List.getElem_toArray, List.getElem_cons_succ, List.getElem_cons_zero]
  rw [if_pos (by rfl)]
  have hall : Array.all (#[.slice ta2 n tc2, .slice (some ⟨w2.heap.size, 0, none⟩) kn kn, .slice (some ⟨w3.heap.size, 0, none⟩) vn vn] : Array Value) (fun v => v.oneCell') = true := by simp [Value.oneCell']
  refine wp_store_row 46 _ _ rfl w0.heap.size #[.slice ta2 n tc2, .slice (some ⟨w2.heap.size, 0, none⟩) kn kn, .slice (some ⟨w3.heap.size, 0, none⟩) vn vn] rfl rfl 46 _ X1 Tryd.infoV rfl hall ?_
  refine hKc.out _ _ (Blk.of_block X0 (setRow_other _ _ _ _ (by omega))) (fun hHeld => ?_)
  clear hKc Kc
  refine wpAnyH_done (by kernel_rfl) ?_ _
  clear hHeld
  go_wp2
  refine bodyPost_ret (results_cell_row rfl _ _ w0.heap.size 46 _ _ _ rfl (X1.row _) Tryd.underlying46 rfl Tryd.infoV) rfl ?_
  have hsm2 : ∀ k, -9223372036854775808 ≤ el (X.T.take n) k ∧ el (X.T.take n) k ≤ 9223372036854775807 := ((HT.out w (Below.refl _ _)).take hnt).row.small
  have CK := (Hangs.row (NK.cube lk3 (by omega) (Nat.le_refl _)) (g := w0.heap.size) (by show ¬ (_ ≤ _); omega) #[.slice ta2 n tc2, .slice (some ⟨w2.heap.size, 0, none⟩) kn kn, .slice (some ⟨w3.heap.size, 0, none⟩) vn vn])
  have CV := (Hangs.row (NV.cube lv3 (by omega) (Nat.le_refl _)) (g := w0.heap.size) (by show ¬ (_ ≤ _); omega) #[.slice ta2 n tc2, .slice (some ⟨w2.heap.size, 0, none⟩) kn kn, .slice (some ⟨w3.heap.size, 0, none⟩) vn vn])
  have so : ∀ (b : Nat) (x : Array Value), b ≠ w0.heap.size → (w4.setRow w0.heap.size x).heap[b]? = w4.heap[b]? := fun b x hb => setRow_other _ _ _ _ hb
  have OT2 := owns_mono OT (Nat.le_refl _) (fun b hb => so b #[.slice ta2 n tc2, .slice (some ⟨w2.heap.size, 0, none⟩) kn kn, .slice (some ⟨w3.heap.size, 0, none⟩) vn vn] (by have := (OT.lt b hb).1; omega))
  refine ⟨⟨⟨ta2, n, tc2⟩, ⟨some ⟨w2.heap.size, 0, none⟩, kn, kn⟩, ⟨some ⟨w3.heap.size, 0, none⟩, vn, vn⟩⟩, rfl, ?_, below_setRow D (by omega) _⟩
  intro wz hz
  obtain ⟨x1, y1, e1, IT⟩ := IOwn.arg (A := X.T.take n) (owns_mono OT2 (Nat.le_refl _) (fun b hb => hz b (by have := (OT2.lt b hb).1; show _ ≤ _; omega) (OT2.lt b hb).2)) hsm2
  simp only [Value.slice.injEq, true_and] at e1
  obtain ⟨rfl, rfl⟩ := e1
  exact ⟨IT, CK wz (fun b hb hl => hz b (by show _ ≤ _; have hb' : _ ≤ b := hb; omega) hl), CV wz (fun b hb hl => hz b (by show _ ≤ _; have hb' : _ ≤ b := hb; omega) hl)⟩
end Go.Proofs.YtpecklilkieffaaDoor

/- The cut of a view of tokens is the view of the first ones. -/
namespace Go.Proofs.YtpecklilkieffaaDoor
theorem map_take_getD {C E : List (List (List Int))} {L n : Nat} (h1 : C.length = L) (h2 : E.length = L) (h : ∀ l, l < L → (E.getD l []).take n = (C.getD l []).take n) : E.map (List.take n) = C.map (List.take n) := by
  apply List.ext_getElem?
  intro i
  rw [List.getElem?_map, List.getElem?_map]
  by_cases hi : i < L
  · have := h i hi
    rw [List.getD_eq_getElem?_getD, List.getD_eq_getElem?_getD, List.getElem?_eq_getElem (by omega), List.getElem?_eq_getElem (by omega)] at this
    rw [List.getElem?_eq_getElem (by omega), List.getElem?_eq_getElem (by omega)]
    simpa using this
  · rw [List.getElem?_eq_none (by omega), List.getElem?_eq_none (by omega)]
theorem cut_feed {M : Mdl} {V D H Hd L : Nat} {X : Vw} {tok n : Nat} (hf : VwFit V D L X) (h1 : 1 ≤ n) (hn : n ≤ X.T.length) : cutV (feedV M D H Hd L X tok) n = cutV X n := by
  have kl : ∀ l, l < L → (X.K.getD l []).length = X.T.length ∧ ∀ t, t < X.T.length → (rowOf (X.K.getD l []) t).length = D := fun l h => fit_list hf.k hf.ks h
  have vl : ∀ l, l < L → (X.V.getD l []).length = X.T.length ∧ ∀ t, t < X.T.length → (rowOf (X.V.getD l []) t).length = D := fun l h => fit_list hf.v hf.vs h
  have hk : X.K.length = L := by rw [hf.k, if_neg (by omega)]
  have hv : X.V.length = L := by rw [hf.v, if_neg (by omega)]
  unfold cutV feedV
  simp only [Vw.mk.injEq]
  refine ⟨List.take_append_of_le_length hn, map_take_getD hk (by unfold newK; simp) fun l hl => ?_, map_take_getD hv (by unfold newV; simp) fun l hl => ?_⟩
  · unfold newK
    rw [List.getD_eq_getElem?_getD, List.getElem?_map, List.getElem?_range hl]
    exact List.take_append_of_le_length (by rw [(kl l hl).1]; exact hn)
  · unfold newV
    rw [List.getD_eq_getElem?_getD, List.getElem?_map, List.getElem?_range hl]
    exact List.take_append_of_le_length (by rw [(vl l hl).1]; exact hn)
theorem cut_all {M : Mdl} {V D H Hd L n : Nat} (h1 : 1 ≤ n) {A : List Int} : ∀ {X : Vw}, VwFit V D L X → A.all (tokB V) = true → X.T.length + A.length ≤ 128 → n ≤ X.T.length → cutV (feedAll M D H Hd L X A) n = cutV X n := by
  induction A with
  | nil => intro X hf _ _ _; rfl
  | cons a A ih =>
    intro X hf ha hl hn
    simp only [List.all_cons, Bool.and_eq_true] at ha
    simp only [List.length_cons] at hl
    have ht : 0 ≤ a ∧ a < V := by have := ha.1; unfold tokB at this; simpa using this
    show cutV (feedAll M D H Hd L (feedV M D H Hd L X a.toNat) A) n = _
    rw [ih (fit_feed hf (by omega) (by omega)) ha.2 (by unfold feedV; simp; omega) (by unfold feedV; simp; omega)]
    exact cut_feed hf h1 hn
theorem cut_whole {V D L : Nat} {X : Vw} (hf : VwFit V D L X) : cutV X X.T.length = X := by
  have hm : ∀ {C : List (List (List Int))}, (∀ R ∈ C, R.length = X.T.length ∧ ∀ t, t < X.T.length → (rowOf R t).length = D) → C.map (List.take X.T.length) = C := fun {C} h => by
    have : C.map (List.take X.T.length) = C.map id := List.map_congr_left fun R hR => List.take_of_length_le (by rw [(h R hR).1]; exact Nat.le_refl _)
    rw [this, List.map_id]
  obtain ⟨T, K, W⟩ := X
  unfold cutV
  simp only [Vw.mk.injEq] at *
  exact ⟨List.take_of_length_le (Nat.le_refl _), hm hf.ks, hm hf.vs⟩
/-- The cut of the view of P at n is the view of the first n of P. -/
theorem cut_feedAll {M : Mdl} {V D H Hd L n : Nat} {P : List Int} (h1 : 1 ≤ n) (hn : n ≤ P.length) (hP : P.all (tokB V) = true) (hl : P.length ≤ 128) (hf : VwFit V D L noX) : cutV (feedAll M D H Hd L noX P) n = feedAll M D H Hd L noX (P.take n) := by
  have ha : (P.take n).all (tokB V) = true ∧ (P.drop n).all (tokB V) = true := by
    have := hP
    rw [← List.take_append_drop n P, List.all_append, Bool.and_eq_true] at this
    exact this
  have l1 : (P.take n).length = n := by rw [List.length_take]; omega
  have l2 : (P.drop n).length = P.length - n := List.length_drop
  have hfn : VwFit V D L (feedAll M D H Hd L noX (P.take n)) := feedAll_fit hf ha.1 (by show 0 + _ ≤ _; omega)
  have hlen : (feedAll M D H Hd L noX (P.take n)).T.length = n := by rw [feedAll_len]; show 0 + _ = _; omega
  have e : feedAll M D H Hd L noX P = feedAll M D H Hd L (feedAll M D H Hd L noX (P.take n)) (P.drop n) := by rw [← feedAll_append, List.take_append_drop]
  rw [e, cut_all h1 hfn ha.2 (by omega) (by omega)]
  have := cut_whole hfn
  rw [hlen] at this
  exact this
end Go.Proofs.YtpecklilkieffaaDoor

/- Rows of rows of the call's own: a copy of at most so many rows of at most 40 numbers. -/
namespace Go.Proofs.YtpecklilkieffaaDoor
open Go.ChangeShapes Go.WideShapes Go.ChangeAt Go.RowKit
theorem rowOf_snoc (R : List (List Int)) (Y : List Int) (t : Nat) : rowOf (R ++ [Y]) t = if t < R.length then rowOf R t else if t = R.length then Y else [] := by
  unfold rowOf
  simp only [List.getD_eq_getElem?_getD]
  by_cases h : t < R.length
  · rw [if_pos h, List.getElem?_append_left h]
  · rw [if_neg h, List.getElem?_append_right (by omega)]
    by_cases e : t = R.length
    · subst e; simp
    · rw [if_neg e, List.getElem?_eq_none (by simp; omega)]; rfl
/-- Block g is a row of rows, all of the call's own, one above the other. -/
structure OwnGrid (w : World) (B g k cap : Nat) (R : List (List Int)) : Prop where
  base : B ≤ g
  len : R.length = k
  own : ∃ vs, w.ownsRow B 29 1 (.slice (some ⟨g, 0, none⟩) k cap) k vs ∧ ∃ gs : Nat → Nat, (∀ t, t < k → ∃ m c, vs[t]? = some (.slice (some ⟨gs t, 0, none⟩) m c) ∧ Fresh w B (gs t) m c (rowOf R t)) ∧ ∀ t u, t < u → u < k → gs t < gs u
theorem own_block {w : World} {B e g k cap : Nat} {vs : List Value} (h : w.ownsRow B e 1 (.slice (some ⟨g, 0, none⟩) k cap) k vs) : B ≤ g ∧ ∃ cur, w.heap[g]? = some (.cells cur e (0, 0)) := by
  rcases h.2 with ⟨h3, _⟩ | ⟨g', c', cur, hv, hg, hh, _⟩
  · cases h3
  · simp only [Value.slice.injEq, Option.some.injEq, Addr.mk.injEq, and_true] at hv
    obtain ⟨rfl, -⟩ := hv
    exact ⟨hg, cur, hh⟩
theorem OwnGrid.grid {w : World} {B g k cap : Nat} {R : List (List Int)} (h : OwnGrid w B g k cap R) (hk : k ≤ 9223372036854775807) : GridAt w (some ⟨g, 0, none⟩) k R := by
  obtain ⟨vs, h1, gs, h2, _⟩ := h.own
  refine ⟨h.len, hk, fun _ => ⟨g, 0, rfl, fun t ht => ?_⟩⟩
  obtain ⟨m, c, e, F⟩ := h2 t ht
  have hc := h1.cells (g := g) rfl t _ e
  have e2 : (Addr.mk g 0 none).add t = ⟨g, t, none⟩ := by simp [Addr.add]; intro h; exact h.symm
  rw [e2] at hc
  exact ⟨_, _, _, by rw [Nat.zero_add]; exact hc, F.arg⟩
theorem OwnGrid.below {w w' : World} {B g k cap : Nat} {R : List (List Int)} (h : OwnGrid w B g k cap R) (hb : Below w.heap.size w w') : OwnGrid w' B g k cap R := by
  obtain ⟨vs, h1, gs, h2, h3⟩ := h.own
  exact ⟨h.base, h.len, vs, owns_below h1 hb, gs, fun t ht => let ⟨m, c, e, F⟩ := h2 t ht; ⟨m, c, e, F.below hb⟩, h3⟩
theorem ownGrid_empty (w : World) : OwnGrid (w.alloc (.cells #[] 29)) w.heap.size w.heap.size 0 0 [] :=
  ⟨Nat.le_refl _, rfl, [], ⟨rfl, Or.inr ⟨w.heap.size, 0, #[], rfl, Nat.le_refl _, heap_alloc_new _ _, Nat.le_refl _, by decide, rfl, rfl⟩⟩, fun t => t, fun t ht => by omega, fun t u _ hu => by omega⟩
/-- append(out, row), out a row of rows of the call's own, the row a newer one. -/
theorem wpList_append_grid {w : World} {ops : Array Oper} {rest : List Oper} {o : Oper} {a : Act} {Q : Exit → Act → World → Prop} (hgd : o.guard = none) (s x : Operand)
    (ho : o.op = .call { callee := .builtin .append, args := #[s, x], argTypes := #[74, 74] })
    (B g k cap : Nat) (R : List (List Int)) (hs : a.eval s = .slice (some ⟨g, 0, none⟩) k cap) (hF : OwnGrid w B g k cap R) (w1 : World) (hF1 : OwnGrid w1 B g k cap R) (hold : Below w1.heap.size w1 w)
    (bo g1 m1 c1 : Nat) (Y : List Int) (hx : a.eval x = .slice (some ⟨bo, 0, none⟩) 1 1) (hX : w.cell? ⟨bo, 0, none⟩ = some (.slice (some ⟨g1, 0, none⟩) m1 c1)) (hY : Fresh w B g1 m1 c1 Y) (hg1 : w1.heap.size ≤ g1)
    (hlen : k + 1 ≤ 1048576) (hB : B ≤ w.heap.size)
    (h : ∀ g' cap' w', OwnGrid w' B g' (k + 1) cap' (R ++ [Y]) → Below B w w' → wpList Tryd.prog ops Q rest (a.put o.dst (.slice (some ⟨g', 0, none⟩) (k + 1) cap')) w') : wpList Tryd.prog ops Q (o :: rest) a w := by
  obtain ⟨i0, hi, hz0, hz1, hz2⟩ := info_parts Tryd.infoRow
  obtain ⟨vs, h1', gs, h2', h3⟩ := hF1.own
  have h1 := owns_below h1' hold
  have h2 : ∀ t, t < k → ∃ m c, vs[t]? = some (.slice (some ⟨gs t, 0, none⟩) m c) ∧ Fresh w B (gs t) m c (rowOf R t) := fun t ht => let ⟨m, c, e, F⟩ := h2' t ht; ⟨m, c, e, F.below hold⟩
  have hlt : ∀ t, t < k → gs t < w1.heap.size := fun t ht => let ⟨m, c, e, F⟩ := h2' t ht; F.lt
  refine wpList_append_own w hgd s x 74 ho B 29 i0 (.slice none 0 0) 1 24 Tryd.underlying74 hi hz0 hz1 hz2 rfl (by decide) _ k _ hs h1 ⟨bo, 0, none⟩ 1 1 [.slice (some ⟨g1, 0, none⟩) m1 c1] hx rfl ?_ (by intro u hu; simp at hu; subst hu; rfl) (by unfold maxLen; omega) (by omega) hB ?_
  · intro j u hj
    match j, hj with
    | 0, hj =>
      simp at hj
      subst hj
      have e2 : (Addr.mk bo 0 none).add 0 = ⟨bo, 0, none⟩ := by simp [Addr.add]
      rw [e2, hX]
  · intro v' w' hown hg hnil
    have hb : Below B w w' := (Below.refl _ _).grown hg hB (fun k hk => by simp [Value.ownBlock] at hk; subst hk; exact hF.base)
    obtain ⟨_, cur, hcur⟩ := own_block h1
    have keep : ∀ {b m c : Nat} {Z : List Int}, Fresh w B b m c Z → Fresh w' B b m c Z := fun {b m c Z} F => F.of_block (hg.block b F.lt (by
      intro e
      simp [Value.ownBlock] at e
      subst e
      obtain ⟨c2, hb2, _⟩ := F.row
      rw [hcur] at hb2
      simp at hb2))
    have hlv : vs.length = k := by have := h1.1; omega
    have hown2 := hown
    obtain ⟨_, h4⟩ := hown2
    rcases h4 with ⟨_, h5⟩ | ⟨g', c', cur', hv, hg2, hr⟩
    · omega
    · subst hv
      refine h g' c' w' ⟨hg2, by simp [hF.len], _, hown, fun t => if t < k then gs t else g1, fun t ht => ?_, fun t u htu hu => ?_⟩ hb
      · rw [rowOf_snoc, hF.len]
        by_cases htk : t < k
        · obtain ⟨m3, c3, e3, F3⟩ := h2 t htk
          simp only [if_pos htk]
          exact ⟨m3, c3, by rw [List.getElem?_append_left (by omega)]; exact e3, keep F3⟩
        · obtain rfl : t = k := by omega
          simp only [Nat.lt_irrefl, if_false, if_pos]
          exact ⟨m1, c1, by rw [List.getElem?_append_right (by omega), hlv]; simp, keep hY⟩
      · simp only []
        rw [if_pos (show t < k by omega)]
        by_cases huk : u < k
        · rw [if_pos huk]; exact h3 t u htu huk
        · rw [if_neg huk]; have := hlt t (by omega); omega
theorem cellRow_new (w : World) (v : Value) : (w.alloc (.cells #[v] 29)).cell? ⟨w.heap.size, 0, none⟩ = some v := by
  have e := heap_alloc_new w (.cells #[v] 29)
  unfold World.cell?
  simp only [e]
  rfl
theorem take_snoc {R : List (List Int)} {k : Nat} (hk : k < R.length) : (R.take (k + 1)).map (List.take 40) = (R.take k).map (List.take 40) ++ [(rowOf R k).take 40] := by
  unfold rowOf
  rw [List.take_add_one, List.map_append, List.getD_eq_getElem?_getD, List.getElem?_eq_getElem hk]
  rfl
/-- At most lim rows of at most 40 numbers. -/
def rowsN (R : List (List Int)) (lim : Nat) : List (List Int) := (R.take lim).map (List.take 40)
theorem rowsN_len (R : List (List Int)) (lim t : Nat) : (rowOf (rowsN R lim) t).length ≤ 40 := by
  unfold rowOf rowsN
  rw [List.getD_eq_getElem?_getD]
  cases e : ((R.take lim).map (List.take 40))[t]? with
  | none => simp
  | some x =>
    obtain ⟨y, _, rfl⟩ := List.mem_map.1 (List.mem_of_getElem? e)
    simp
    omega
end Go.Proofs.YtpecklilkieffaaDoor

/- What is fed one by one is what is made from the beginning: the views, as lists; a small view is told whole. -/
namespace Go.Proofs.YtpecklilkieffaaDoor
theorem rows_whole {R : List (List Int)} {D : Nat} (h1 : R.length ≤ 130) (hD : D ≤ 40) (h2 : ∀ t, t < R.length → (rowOf R t).length = D) : rowsN R 130 = R := by
  unfold rowsN
  rw [List.take_of_length_le h1]
  apply List.ext_getElem?
  intro i
  rw [List.getElem?_map]
  by_cases hi : i < R.length
  · have := h2 i hi
    unfold rowOf at this
    rw [List.getD_eq_getElem?_getD, List.getElem?_eq_getElem hi] at this
    rw [List.getElem?_eq_getElem hi]
    simp only [Option.getD_some] at this
    simp only [Option.map_some, Option.some.injEq]
    exact List.take_of_length_le (by omega)
  · rw [List.getElem?_eq_none (by omega)]; rfl
theorem fit_whole {V : Int} {D L : Nat} {X : Vw} (hf : VwFit V D L X) (hD : D ≤ 40) : (∀ R ∈ X.K, rowsN R 130 = R) ∧ ∀ R ∈ X.V, rowsN R 130 = R := by
  have hm := hf.most
  exact ⟨fun R hR => rows_whole (by rw [(hf.ks R hR).1]; omega) hD (fun t ht => (hf.ks R hR).2 t (by rw [← (hf.ks R hR).1]; exact ht)), fun R hR => rows_whole (by rw [(hf.vs R hR).1]; omega) hD (fun t ht => (hf.vs R hR).2 t (by rw [← (hf.vs R hR).1]; exact ht))⟩
theorem list_eq {C E : List (List (List Int))} {L : Nat} (h1 : C.length = L) (h2 : E.length = L) (h : ∀ l, l < L → C.getD l [] = E.getD l []) : C = E := by
  apply List.ext_getElem?
  intro i
  by_cases hi : i < L
  · have := h i hi
    rw [List.getD_eq_getElem?_getD, List.getD_eq_getElem?_getD, List.getElem?_eq_getElem (by omega), List.getElem?_eq_getElem (by omega)] at this
    rw [List.getElem?_eq_getElem (by omega), List.getElem?_eq_getElem (by omega)]
    simpa using this
  · rw [List.getElem?_eq_none (by omega), List.getElem?_eq_none (by omega)]
/-- The view of P, fed one by one, holds the lists that are made from the beginning. -/
theorem feed_full {M : Mdl} {V D H Hd L : Nat} {P : List Int} (hP : P.all (tokB V) = true) (h0 : 1 ≤ P.length) (hl : P.length ≤ 128) (hf : VwFit V D L noX) :
    (feedAll M D H Hd L noX P).T = P ∧ (feedAll M D H Hd L noX P).K = fullK M D H Hd L P ∧ (feedAll M D H Hd L noX P).V = fullV M D H Hd L P := by
  have hc : Cached M D H Hd L (feedAll M D H Hd L noX P) ([] ++ P) := cached_all P (cached_none M D H Hd L) fun x hx => by
    have := List.all_eq_true.1 hP x hx
    unfold tokB at this
    have : 0 ≤ x ∧ x < V := by simpa using this
    exact this.1
  rw [List.nil_append] at hc
  have hfn : VwFit V D L (feedAll M D H Hd L noX P) := feedAll_fit hf hP (by show 0 + _ ≤ _; omega)
  have hlen : (feedAll M D H Hd L noX P).T.length = P.length := by rw [hc.1]
  refine ⟨hc.1, list_eq (by rw [hfn.k, if_neg (by omega)]) (by unfold fullK; simp) fun l h => ?_, list_eq (by rw [hfn.v, if_neg (by omega)]) (by unfold fullV; simp) fun l h => ?_⟩
  · rw [hc.2.1 l h]
    unfold fullK
    rw [List.getD_eq_getElem?_getD, List.getElem?_map, List.getElem?_range h]
    rfl
  · rw [hc.2.2 l h]
    unfold fullV
    rw [List.getD_eq_getElem?_getD, List.getElem?_map, List.getElem?_range h]
    rfl
end Go.Proofs.YtpecklilkieffaaDoor

/- Package step: Cut of a view at nought: the empty view. -/
namespace Go.Proofs.YtpecklilkieffaaDoor
open Go.ChangeShapes Go.WideShapes Go.ChangeAt Go.RowKit

/-- step.Cut at no token: the zero View. -/
theorem scut_zero (vv : VwV) (X : Vw) (w : World) (hv : VwAt w vv X) (hT : X.T.length ≤ 4096) :
   Calls Tryd.prog 11 #[.agg vv.cells, .int .i64 0] w fun e w' => e = .returned (.agg #[.slice none 0 0, .slice none 0 0, .slice none 0 0]) ∧ Below w.heap.size w w' := by
  have lt := hv.t.row.len
  clear hv
  obtain ⟨⟨ta, tn, tc⟩, ⟨ka, kn, kc⟩, ⟨va, vn, vc⟩⟩ := vv
  unfold VwV.cells Sl.v
  simp only at *
  have lt' : tn ≤ 4096 := by omega
  clear lt hT
  have hmn : ¬ (tn : Int) < 0 := by omega
  have X0 := blk_new w 46 #[.slice ta tn tc, .slice ka kn kc, .slice va vn vc]
  have B0 : Below w.heap.size w (w.alloc (.cells #[.slice ta tn tc, .slice ka kn kc, .slice va vn vc] 46)) := (Below.refl _ _).alloc (Nat.le_refl _) _
  generalize hw0 : w.alloc (.cells #[.slice ta tn tc, .slice ka kn kc, .slice va vn vc] 46) = w0 at *
  have lt0 := X0.lt
  have X1 := blk_new w0 46 #[.slice none 0 0, .slice none 0 0, .slice none 0 0]
  have B1 : Below w0.heap.size w0 (w0.alloc (.cells #[.slice none 0 0, .slice none 0 0, .slice none 0 0] 46)) := (Below.refl _ _).alloc (Nat.le_refl _) _
  generalize hw1 : w0.alloc (.cells #[.slice none 0 0, .slice none 0 0, .slice none 0 0] 46) = w1 at *
  replace X0 := X0.below B1
  have D := below_then B0 B1
  clear B0 B1
  have a0 : w1.cell? ⟨w.heap.size, 0, none⟩ = some (.slice ta tn tc) := X0.cell 0 rfl
  go_enter Tryd.func11, Tryd.ntmps11
  have hall : Array.all (#[.slice none 0 0, .slice none 0 0, .slice none 0 0] : Array Value) (fun v => v.oneCell') = true := by simp [Value.oneCell']
  go_wp2_with (refine wpList_store_row rfl 46 _ _ rfl w0.heap.size #[.slice none 0 0, .slice none 0 0, .slice none 0 0] rfl rfl 46 _ X1 Tryd.infoV rfl hall ?_)
  refine bodyPost_ret (results_cell_row rfl _ _ w0.heap.size 46 _ _ _ rfl (X1.row _) Tryd.underlying46 rfl Tryd.infoV) rfl ?_
  exact ⟨rfl, below_setRow D (by omega) _⟩
end Go.Proofs.YtpecklilkieffaaDoor

/- TillerSpeaks: how far the answer that is spoken again has come. -/
namespace Go.Proofs.YtpecklilkieffaaDoor
open Go.ChangeShapes Go.WideShapes Go.ChangeAt Go.RowKit
theorem spk_take (M : Mdl) (V D H Hd L : Nat) (P : List Int) {m j : Nat} (hj : j ≤ m) : (P ++ runY M V D H Hd L P m).take (P.length + j) = P ++ runY M V D H Hd L P j := by
  rw [List.take_append, List.take_of_length_le (by omega : P.length ≤ P.length + j), Nat.add_sub_cancel_left]
  obtain ⟨d, rfl⟩ : ∃ d, m = j + d := ⟨m - j, by omega⟩
  rw [runY_take]
theorem spk_snoc {A : List Int} {i : Nat} (h : i < A.length) : A.take (i + 1) = A.take i ++ [el A i] := by
  rw [List.take_succ_eq_append_getElem h]
  congr 2
  unfold el
  rw [List.getD_eq_getElem?_getD, List.getElem?_eq_getElem h]
  rfl
theorem spk_feed (M : Mdl) (D H Hd L : Nat) (X : Vw) {A : List Int} {i : Nat} (h : i < A.length) : feedV M D H Hd L (feedAll M D H Hd L X (A.take i)) (el A i).toNat = feedAll M D H Hd L X (A.take (i + 1)) := by
  rw [spk_snoc h, feedAll_append]
  rfl
theorem spk_lik (M : Mdl) (V D H Hd L : Nat) {A : List Int} {i : Nat} (h : i < A.length) : likR M V D (feedX M D H Hd L (feedAll M D H Hd L noX (A.take i)) (el A i).toNat) = likAt M V D H Hd L noX (A.take (i + 1)) (A.take (i + 1)).length := by
  have hl : (A.take (i + 1)).length = i + 1 := by rw [List.length_take]; omega
  rw [hl]
  show _ = likR M V D (feedX M D H Hd L (feedAll M D H Hd L noX ((A.take (i + 1)).take i)) (el (A.take (i + 1)) i).toNat)
  rw [List.take_take, Nat.min_eq_left (by omega)]
  have e : el (A.take (i + 1)) i = el A i := by
    unfold el
    rw [List.getD_eq_getElem?_getD, List.getD_eq_getElem?_getD, List.getElem?_take_of_lt (by omega)]
  rw [e]
/-- The token that is liked best behind the i-th of the prompt and its answer. -/
theorem spk_next (M : Mdl) (V D H Hd L : Nat) (P : List Int) {m j : Nat} (hP : P ≠ []) (hj : j ≤ m) : amax (likR M V D (feedX M D H Hd L (feedAll M D H Hd L noX ((P ++ runY M V D H Hd L P m).take (P.length + j - 1))) (el (P ++ runY M V D H Hd L P m) (P.length + j - 1)).toNat)) V = nextT M V D H Hd L (P ++ runY M V D H Hd L P j) := by
  have p1 := List.length_pos_iff.2 hP
  rw [spk_lik M V D H Hd L (by rw [List.length_append, runY_len]; omega), show P.length + j - 1 + 1 = P.length + j by omega, spk_take M V D H Hd L P hj]
  rfl
/-- How many are spoken when i of the prompt and its answer are fed. -/
def spkN (p m i : Nat) : Nat := min (i + 1 - p) m
theorem spkN_first {p m i : Nat} (h : i + 1 ≤ p) : spkN p m i = 0 := by unfold spkN; omega
theorem spkN_last {p m i : Nat} (h : i = p + m) : spkN p m i = m := by unfold spkN; omega
theorem spkN_quiet {p m i : Nat} (h : i + 1 < p) : spkN p m (i + 1) = spkN p m i := by unfold spkN; omega
/-- One more: where the place has come to the prompt's last. -/
theorem spkN_on {p m i : Nat} (h : p ≤ i + 1) (hm : spkN p m i < m) : spkN p m (i + 1) = spkN p m i + 1 ∧ i = p + spkN p m i - 1 := by unfold spkN at *; omega
theorem spkN_over {p m i : Nat} (h : ¬ spkN p m i < m) : spkN p m (i + 1) = spkN p m i ∧ spkN p m i = m := by unfold spkN at *; omega
theorem spkN_le {p m i : Nat} : spkN p m i ≤ m := by unfold spkN; omega
end Go.Proofs.YtpecklilkieffaaDoor
