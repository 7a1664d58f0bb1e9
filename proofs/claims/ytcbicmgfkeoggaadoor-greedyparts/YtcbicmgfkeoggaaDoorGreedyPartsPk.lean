/- The given statement on GreedyParts: at every input the law returns true and its arguments read as before; the listed table lies as the program's text lays it (the card ties it). -/
import Derived.Test.YtcbicmgfkeoggaaDoorPk7
import Derived.Test.YtcbicmgfkeoggaaDoorPk4
import Derived.Test.YtcbicmgfkeoggaaDoorPk3
import Derived.Test.YtcbicmgfkeoggaaDoorPk5
import Derived.Test.YtcbicmgfkeoggaaDoorRows
import Derived.Test.YtcbicmgfkeoggaaDoorCards
import Derived.Test.YtcbicmgfkeoggaaDoorTie
import Derived.Test.YtcbicmgfkeoggaaDoorPk8
import Derived.ProofKit
import Derived.Carry
import Derived.LaidMore
import Derived.OpenShut
import Derived.Stop.Joined
import Derived.SevenTiedAt
/- An answer, token by token: what is fed in parts is what is fed at once. -/
namespace Go.Proofs.YtcbicmgfkeoggaaDoor
open Go.ChangeShapes Go.WideShapes Go.ChangeAt Go.RowKit
theorem feedAll_append (M : Mdl) (D H Hd L : Nat) (X : Vw) (A B : List Int) : feedAll M D H Hd L X (A ++ B) = feedAll M D H Hd L (feedAll M D H Hd L X A) B := by
  unfold feedAll
  rw [List.foldl_append]
theorem lik_split (M : Mdl) (V D H Hd L : Nat) (Q T : List Int) (hT : T ≠ []) : likAt M V D H Hd L (feedAll M D H Hd L noX Q) T T.length = likAt M V D H Hd L noX (Q ++ T) (Q ++ T).length := by
  obtain ⟨m, hm⟩ : ∃ m, T.length = m + 1 := ⟨T.length - 1, by have := List.length_pos_iff.2 hT; omega⟩
  have h2 : (Q ++ T).length = (Q.length + m) + 1 := by rw [List.length_append, hm]; omega
  rw [hm, h2]
  show likR M V D (feedX M D H Hd L (feedAll M D H Hd L (feedAll M D H Hd L noX Q) (T.take m)) (el T m).toNat) = likR M V D (feedX M D H Hd L (feedAll M D H Hd L noX ((Q ++ T).take (Q.length + m))) (el (Q ++ T) (Q.length + m)).toNat)
  have et : (Q ++ T).take (Q.length + m) = Q ++ T.take m := by rw [List.take_append, List.take_of_length_le (by omega : Q.length ≤ Q.length + m), Nat.add_sub_cancel_left]
  rw [el_append_right, et, ← feedAll_append]
/-- The token that is liked best behind a row of them. -/
def nextT (M : Mdl) (V D H Hd L : Nat) (A : List Int) : Int := amax (likAt M V D H Hd L noX A A.length) V
def runY (M : Mdl) (V D H Hd L : Nat) (P : List Int) : Nat → List Int
  | 0 => []
  | j + 1 => runY M V D H Hd L P j ++ [nextT M V D H Hd L (P ++ runY M V D H Hd L P j)]
theorem runS_inv (M : Mdl) (V D H Hd L : Nat) (P : List Int) (hP : P ≠ []) : ∀ j, (runS M V D H Hd L P j).Y = runY M V D H Hd L P j ∧ (runS M V D H Hd L P j).T ≠ [] ∧ ∃ Q, (runS M V D H Hd L P j).X = feedAll M D H Hd L noX Q ∧ Q ++ (runS M V D H Hd L P j).T = P ++ (runS M V D H Hd L P j).Y
  | 0 => ⟨rfl, hP, [], rfl, by show [] ++ P = P ++ []; simp⟩
  | j + 1 => by
    obtain ⟨h1, h2, Q, h3, h4⟩ := runS_inv M V D H Hd L P hP j
    have e : likAt M V D H Hd L (runS M V D H Hd L P j).X (runS M V D H Hd L P j).T (runS M V D H Hd L P j).T.length = likAt M V D H Hd L noX (P ++ runY M V D H Hd L P j) (P ++ runY M V D H Hd L P j).length := by
      rw [h3, lik_split M V D H Hd L Q _ h2, h4, h1]
    have eY : (runS M V D H Hd L P (j + 1)).Y = runY M V D H Hd L P j ++ [nextT M V D H Hd L (P ++ runY M V D H Hd L P j)] := by
      show (runS M V D H Hd L P j).Y ++ [amax _ V] = _
      rw [e, h1]
      rfl
    have eT : (runS M V D H Hd L P (j + 1)).T = [nextT M V D H Hd L (P ++ runY M V D H Hd L P j)] := by
      show [amax _ V] = _
      rw [e]
      rfl
    refine ⟨eY, by rw [eT]; simp, P ++ runY M V D H Hd L P j, ?_, ?_⟩
    · show feedAll M D H Hd L (runS M V D H Hd L P j).X (runS M V D H Hd L P j).T = _
      rw [h3, ← feedAll_append, h4, h1]
    · rw [eT, eY, List.append_assoc]
theorem runY_len (M : Mdl) (V D H Hd L : Nat) (P : List Int) : ∀ j, (runY M V D H Hd L P j).length = j
  | 0 => rfl
  | j + 1 => by
    show (runY M V D H Hd L P j ++ [nextT M V D H Hd L (P ++ runY M V D H Hd L P j)]).length = _
    rw [List.length_append, runY_len M V D H Hd L P j]
    rfl
theorem runY_take (M : Mdl) (V D H Hd L : Nat) (P : List Int) (n : Nat) : ∀ i, (runY M V D H Hd L P (n + i)).take n = runY M V D H Hd L P n
  | 0 => by rw [Nat.add_zero]; exact List.take_of_length_le (by rw [runY_len]; omega)
  | i + 1 => by
    show (runY M V D H Hd L P (n + i) ++ [_]).take n = _
    rw [List.take_append_of_le_length (by rw [runY_len]; omega)]
    exact runY_take M V D H Hd L P n i
theorem runY_shift (M : Mdl) (V D H Hd L : Nat) (P : List Int) (n : Nat) : ∀ i, runY M V D H Hd L (P ++ runY M V D H Hd L P n) i = (runY M V D H Hd L P (n + i)).drop n
  | 0 => by rw [Nat.add_zero, List.drop_of_length_le (by rw [runY_len]; omega)]; rfl
  | i + 1 => by
    have ih := runY_shift M V D H Hd L P n i
    show runY M V D H Hd L (P ++ runY M V D H Hd L P n) i ++ [_] = (runY M V D H Hd L P (n + i) ++ [_]).drop n
    rw [List.drop_append_of_le_length (by rw [runY_len]; omega), ih]
    have e : P ++ runY M V D H Hd L P n ++ (runY M V D H Hd L P (n + i)).drop n = P ++ runY M V D H Hd L P (n + i) := by
      rw [List.append_assoc, ← runY_take M V D H Hd L P n i, List.take_append_drop]
    rw [e]
    rfl
theorem runY_toks (M : Mdl) {V D H Hd L : Nat} (hV : 1 ≤ V) (P : List Int) : ∀ j, (runY M V D H Hd L P j).all (tokB V) = true
  | 0 => rfl
  | j + 1 => by
    show (runY M V D H Hd L P j ++ [_]).all (tokB V) = true
    rw [List.all_append, runY_toks M hV P j, Bool.true_and]
    simp only [List.all_cons, List.all_nil, Bool.and_true]
    unfold tokB nextT
    exact decide_eq_true (amax_tok _ hV)
/-- The answer's length: the first at which it is over. -/
theorem run_first {M : Mdl} {V D H Hd L : Nat} {P : List Int} {most n : Int} {j : Nat} (h2 : ∀ i, i < j → overB (runY M V D H Hd L P i) most = false) {m : Nat} (hn : n = m) (hm : m ≤ j) {i : Nat} (k1 : overB (runY M V D H Hd L P i) n = true) (k2 : ∀ t, t < i → overB (runY M V D H Hd L P t) n = false) : i = m := by
  have e : ∀ t, t < m → overB (runY M V D H Hd L P t) n = false := fun t ht => by
    have := h2 t (by omega)
    unfold overB at this ⊢
    rw [Bool.or_eq_false_iff] at this ⊢
    exact ⟨decide_eq_false (by rw [runY_len]; omega), this.2⟩
  have e2 : overB (runY M V D H Hd L P m) n = true := by unfold overB; rw [decide_eq_true (by rw [runY_len]; omega)]; rfl
  rcases Nat.lt_trichotomy i m with h | h | h
  · rw [e i h] at k1; cases k1
  · exact h
  · rw [k2 m h] at e2; cases e2
/-- The end of an answer that was gone on from. -/
theorem over_drop {M : Mdl} {V D H Hd L : Nat} {P : List Int} {most : Int} {n i : Nat} (hi : 1 ≤ i) : overB ((runY M V D H Hd L P (n + i)).drop n) (most - n) = overB (runY M V D H Hd L P (n + i)) most := by
  have hl : ((runY M V D H Hd L P (n + i)).drop n).length = i := by rw [List.length_drop, runY_len]; omega
  have hl2 := runY_len M V D H Hd L P (n + i)
  unfold overB endB
  rw [hl, hl2, el_drop]
  have e1 : decide (most - (n : Int) ≤ (i : Int)) = decide (most ≤ ((n + i : Nat) : Int)) := by
    by_cases h : most - (n : Int) ≤ (i : Int)
    · rw [decide_eq_true h, decide_eq_true (by omega)]
    · rw [decide_eq_false h, decide_eq_false (by omega)]
  rw [e1, decide_eq_true (by omega : 0 < i), decide_eq_true (by omega : 0 < n + i), show n + (i - 1) = n + i - 1 by omega]
end Go.Proofs.YtcbicmgfkeoggaaDoor

/- Small shapes, and rows of tokens that are the same. -/
namespace Go.Proofs.YtcbicmgfkeoggaaDoor
open Go.ChangeShapes Go.WideShapes Go.ChangeAt Go.RowKit
/-- Is a shape a small one? -/
def smallN (D H L : Int) : Int := if 8 < D ∨ 8 < H ∨ 2 < L then 0 else 1
theorem small8_any (V D Hd H L : Int) (w : World) : Calls Tryd.prog 10 #[.agg (cfgC V D Hd H L)] w fun e w' => e = .returned (.int .i64 (smallN D H L)) ∧ Below w.heap.size w w' := by
  have X0 := blk_new w 23 (cfgC V D Hd H L)
  have B0 : Below w.heap.size w (w.alloc (.cells (cfgC V D Hd H L) 23)) := (Below.refl _ _).alloc (Nat.le_refl _) _
  unfold cfgC at *
  generalize hw0 : w.alloc (.cells #[.int .i64 V, .int .i64 D, .int .i64 Hd, .int .i64 H, .int .i64 L] 23) = w0 at *
  have a1 : w0.cell? ⟨w.heap.size, 1, none⟩ = some (.int .i64 D) := X0.cell 1 rfl
  have a3 : w0.cell? ⟨w.heap.size, 3, none⟩ = some (.int .i64 H) := X0.cell 3 rfl
  have a4 : w0.cell? ⟨w.heap.size, 4, none⟩ = some (.int .i64 L) := X0.cell 4 rfl
  have HN : Hid (smallN D H L = if 8 < D ∨ 8 < H ∨ 2 < L then 0 else 1) := rfl
  generalize smallN D H L = res at *
  by_cases h1 : 8 < D
  · have HF : Hid (res = 0) := by show _ = _; rw [HN.out, if_pos (Or.inl h1)]
    clear HN
    go_enter Tryd.func10, Tryd.ntmps10
    go_wp2
    go_ret
    exact ⟨ret_int HF.out.symm, B0⟩
  · by_cases h2 : 8 < H
    · have HF : Hid (res = 0) := by show _ = _; rw [HN.out, if_pos (Or.inr (Or.inl h2))]
      clear HN
      go_enter Tryd.func10, Tryd.ntmps10
      go_wp2
      go_ret
      exact ⟨ret_int HF.out.symm, B0⟩
    · by_cases h3 : 2 < L
      · have HF : Hid (res = 0) := by show _ = _; rw [HN.out, if_pos (Or.inr (Or.inr h3))]
        clear HN
        go_enter Tryd.func10, Tryd.ntmps10
        go_wp2
        go_ret
        exact ⟨ret_int HF.out.symm, B0⟩
      · have HF : Hid (res = 1) := by show _ = _; rw [HN.out, if_neg (by omega)]
        clear HN
        go_enter Tryd.func10, Tryd.ntmps10
        go_wp2
        go_ret
        exact ⟨ret_int HF.out.symm, B0⟩
theorem refSameI_eq (ao bo : Option Addr) (n ca cb : Nat) (A : List Int) (w : World) (hA : IRowAt w ao n A) (hB : IRowAt w bo n A) :
   Calls Tryd.prog 24 #[.slice ao n ca, .slice bo n cb] w fun e w' => e = .returned (.bool true) ∧ ∃ m, w' = w.drewN m := by
  have hn := hA.max
  go_enter Tryd.func24, Tryd.ntmps24
  go_wp2
  go_loopg [13] n (fun r i wr => ∃ k : Nat, k ≤ n ∧ r = n - k ∧ i = .int .i64 k ∧ ∃ m, wr = w.drewN m)
  case atStart => exact ⟨0, by omega, by omega, rfl, 0, rfl⟩
  case round =>
    obtain ⟨k, hk, rfl, rfl, m0, hw0⟩ := hrel
    replace hA : IRowAt wr ao n A := hw0 ▸ hA.below (below_drewN (Below.refl _ _) m0)
    replace hB : IRowAt wr bo n A := hw0 ▸ hB.below (below_drewN (Below.refl _ _) m0)
    have HW : Hid (wr = w.drewN m0) := hw0
    clear hw0
    by_cases hlt : k < n
    · obtain ⟨b, o, rfl, hc⟩ := hA.cells (by omega)
      obtain ⟨b', o', rfl, hc'⟩ := hB.cells (by omega)
      have c1 := hc k hlt
      have c2 := hc' k hlt
      clear hA hB hc hc'
      go_wp2_with fail
      go_quiet (fail)
      go_wp2
      go_roundg (n - (k + 1))
      case measure => omega
      case rel => exact ⟨k + 1, by omega, rfl, by go_num, m0 + nq, by rw [HW.out, World.drewN_drewN]⟩
    · obtain rfl : k = n := by omega
      go_wp2
      go_ret
      exact ⟨rfl, m0, HW.out⟩
theorem refSameI2 (ao bo : Option Addr) (n1 n2 n ca cb : Nat) (A B : List Int) (w : World) (h1 : n1 = n) (h2 : n2 = n) (hAB : A = B) (hA : IRowAt w ao n A) (hB : IRowAt w bo n B) :
   Calls Tryd.prog 24 #[.slice ao n1 ca, .slice bo n2 cb] w fun e w' => e = .returned (.bool true) ∧ ∃ m, w' = w.drewN m := by
  subst h1 h2 hAB
  exact refSameI_eq ao bo _ ca cb A w hA hB
theorem IArg.drop {w : World} {b o n ca : Nat} {A : List Int} (h : IArg w (some ⟨b, o, none⟩) n ca A) {m : Nat} (hm : m ≤ n) : IRowAt w (some ⟨b, o + m, none⟩) (n - m) (A.drop m) := by
  have hl := h.row.len
  refine ⟨by rw [List.length_drop]; omega, by have := h.row.max; omega, fun k => ?_, fun hn => ?_⟩
  · rw [el_drop]; exact h.row.small _
  · obtain ⟨b', o', e, hc⟩ := h.row.cells (by omega)
    simp only [Option.some.injEq, Addr.mk.injEq, and_true] at e
    obtain ⟨rfl, rfl⟩ := e
    refine ⟨b, o + m, rfl, fun t ht => ?_⟩
    rw [el_drop, Nat.add_assoc]
    exact hc _ (by omega)
end Go.Proofs.YtcbicmgfkeoggaaDoor

/- An answer for fewer tokens is the beginning of one for more, and may be gone on from: the walk. -/
namespace Go.Proofs.YtcbicmgfkeoggaaDoor
open Go.ChangeShapes Go.WideShapes Go.ChangeAt Go.RowKit
/-- The length of what is said behind a part of the answer. -/
theorem parts_len {M : Mdl} {V D H Hd L : Nat} {P : List Int} {most : Int} {i j r : Nat} (hm : (i : Int) < most) (hij : i < j) (k1 : overB (runY M V D H Hd L P j) most = true) (k2 : ∀ q, q < j → overB (runY M V D H Hd L P q) most = false) (t1 : overB (runY M V D H Hd L (P ++ runY M V D H Hd L P i) r) (most - (i : Int)) = true) (t2 : ∀ q, q < r → overB (runY M V D H Hd L (P ++ runY M V D H Hd L P i) q) (most - (i : Int)) = false) : r = j - i := by
  have h0 : overB (runY M V D H Hd L (P ++ runY M V D H Hd L P i) 0) (most - (i : Int)) = false := by
    show overB [] (most - (i : Int)) = false
    unfold overB endB
    simp
    omega
  have hq : ∀ q, 1 ≤ q → overB (runY M V D H Hd L (P ++ runY M V D H Hd L P i) q) (most - (i : Int)) = overB (runY M V D H Hd L P (i + q)) most := fun q h => by
    rw [runY_shift]
    exact over_drop h
  rcases Nat.lt_trichotomy r (j - i) with h | h | h
  · rcases Nat.eq_zero_or_pos r with e | e
    · subst e; rw [h0] at t1; cases t1
    · rw [hq r e, k2 _ (by omega)] at t1; cases t1
  · exact h
  · have := t2 (j - i) h
    rw [hq _ (by omega), show i + (j - i) = j by omega, k1] at this
    cases this
set_option maxRecDepth 100000 in
set_option maxHeartbeats 1600000 in
theorem greedyParts_walk (C : Cfg) (sd : Int) (a1 : Option Addr) (n1 c1 : Nat) (Z1 : List Int) (most nn : Int) (w : World) (hC : C.Ok) (bs : 0 ≤ sd ∧ sd ≤ 18446744073709551615) (h1 : IArg w a1 n1 c1 Z1) (_bm : -9223372036854775808 ≤ most ∧ most ≤ 9223372036854775807) (_bn : -9223372036854775808 ≤ nn ∧ nn ≤ 9223372036854775807) (hT : Tab w) :
   Calls Tryd.prog 7 #[C.val, .int .u64 sd, .slice a1 n1 c1, .int .i64 most, .int .i64 nn] w fun e w' => e = .returned (.bool true) ∧ Below w.heap.size w w' := by
  obtain ⟨seed, rfl⟩ : ∃ n : Nat, sd = n := ⟨sd.toNat, by omega⟩
  have hsd : seed < 18446744073709551616 := by omega
  clear bs
  have HT : Hid (∀ wv, Below w.heap.size w wv → Tab wv) := fun wv hb => hT.next hb
  have CW := fun (wv : World) (hb : Below w.heap.size w wv) => gawake_any wv (HT.out wv hb)
  have CF1 := fun (wv : World) (hb : Below w.heap.size w wv) => few8_any a1 n1 c1 Z1 8 wv (h1.below hb) (by omega)
  have s1 : ∀ k, -9223372036854775808 ≤ el (Z1.take 8) k ∧ el (Z1.take 8) k ≤ 9223372036854775807 := fun k => by
    rcases Nat.lt_or_ge k 8 with h | h
    · rw [el_take h]; exact h1.row.small k
    · rw [el_over (by rw [List.length_take]; omega)]; omega
  have hP8 : (Z1.take 8).length ≤ 8 := by rw [List.length_take]; omega
  have M0 := fun wv => make_gen C hC seed hsd wv
  have CS := fun wv => small8_any C.V C.D C.Hd C.H C.L wv
  have hu : ∀ C : Cfg, cfgC C.V C.D C.Hd C.H C.L = #[.int .i64 C.V, .int .i64 C.D, .int .i64 C.Hd, .int .i64 C.H, .int .i64 C.L] := fun _ => rfl
  unfold Cfg.val at *
  rw [hu] at M0 CS ⊢
  clear hT h1 hC
  have X0 := blk_new w 23 #[.int .i64 C.V, .int .i64 C.D, .int .i64 C.Hd, .int .i64 C.H, .int .i64 C.L]
  have B0 : Below w.heap.size w (w.alloc (.cells #[.int .i64 C.V, .int .i64 C.D, .int .i64 C.Hd, .int .i64 C.H, .int .i64 C.L] 23)) := (Below.refl _ _).alloc (Nat.le_refl _) _
  generalize hw0 : w.alloc (.cells #[.int .i64 C.V, .int .i64 C.D, .int .i64 C.Hd, .int .i64 C.H, .int .i64 C.L] 23) = w0 at *
  go_enter Tryd.func7, Tryd.ntmps7
  go_wp2_with fail
  refine (CF1 _ B0).mono ?_
  rintro e w1 ⟨b1, kq, rfl, O1, B1⟩
  generalize Z1.take 8 = P at *
  obtain ⟨l1, hl1⟩ : ∃ l1, P.length = l1 := ⟨_, rfl⟩
  have HL1 : Hid (P.length = l1) := hl1
  rw [hl1] at O1 hP8 ⊢
  clear hl1
  have D1 := below_then B0 B1
  replace X0 := X0.below B1
  clear hw0 CF1 B0 B1
  obtain ⟨x1, y1, e1, I1⟩ := IOwn.arg O1 s1
  simp only [Value.slice.injEq, true_and] at e1
  obtain ⟨rfl, rfl⟩ := e1
  have HI : Hid (∀ wv, Below w1.heap.size w1 wv → IArg wv (some ⟨b1, 0, none⟩) l1 kq P) := fun wv hb => I1.below hb
  clear O1 I1
  have a0 : w1.cell? ⟨w.heap.size, 0, none⟩ = some (.int .i64 C.V) := X0.cell 0 rfl
  have a1 : w1.cell? ⟨w.heap.size, 1, none⟩ = some (.int .i64 C.D) := X0.cell 1 rfl
  have a2 : w1.cell? ⟨w.heap.size, 2, none⟩ = some (.int .i64 C.Hd) := X0.cell 2 rfl
  have a3 : w1.cell? ⟨w.heap.size, 3, none⟩ = some (.int .i64 C.H) := X0.cell 3 rfl
  have a4 : w1.cell? ⟨w.heap.size, 4, none⟩ = some (.int .i64 C.L) := X0.cell 4 rfl
  go_wp2_with fail
  refine (M0 w1).mono ?_
  rintro e w2 ⟨ws, q, rfl, MM, B2⟩
  replace X0 := X0.below B2
  have E2 := B2
  have D2 := below_then D1 B2
  clear a0 a1 a2 a3 a4 M0 B2 D1
  have siz := MM.size
  have one := MM.one
  have XZ := blk_new w2 32 #[.int .i64 0, .int .i64 0, .slice none 0 0, .slice none 0 0, .slice none 0 0, .int .i64 0, .int .i64 0, .slice none 0 0]
  have BZ : Below w2.heap.size w2 (w2.alloc (.cells #[.int .i64 0, .int .i64 0, .slice none 0 0, .slice none 0 0, .slice none 0 0, .int .i64 0, .int .i64 0, .slice none 0 0] 32)) := (Below.refl _ _).alloc (Nat.le_refl _) _
  generalize hwz : w2.alloc (.cells #[.int .i64 0, .int .i64 0, .slice none 0 0, .slice none 0 0, .slice none 0 0, .int .i64 0, .int .i64 0, .slice none 0 0] 32) = wz at *
  have X1 := XZ.row ws
  have BR := below_setRow BZ (Nat.le_refl _) ws
  generalize hwy : wz.setRow w2.heap.size ws = wy at *
  replace X0 := X0.below BR
  replace MM := MM.below BR
  have D3 := below_then D2 BR
  have E3 := below_then E2 BR
  have a0 : wy.cell? ⟨w.heap.size, 0, none⟩ = some (.int .i64 C.V) := X0.cell 0 rfl
  have a1 : wy.cell? ⟨w.heap.size, 1, none⟩ = some (.int .i64 C.D) := X0.cell 1 rfl
  have a2 : wy.cell? ⟨w.heap.size, 2, none⟩ = some (.int .i64 C.Hd) := X0.cell 2 rfl
  have a3 : wy.cell? ⟨w.heap.size, 3, none⟩ = some (.int .i64 C.H) := X0.cell 3 rfl
  have a4 : wy.cell? ⟨w.heap.size, 4, none⟩ = some (.int .i64 C.L) := X0.cell 4 rfl
  by_cases hq : q = 0
  · subst hq
    obtain ⟨V, D, Hd, H, L, ge, gB, gl, go, e1, e2, e3, e4, e5, hcs, MW⟩ := MM.ok rfl
    have hsh : shapeN V D Hd H L = 0 := by rw [← e1, ← e2, ← e3, ← e4, ← e5]; exact MM.err.symm
    obtain ⟨bs, GD⟩ := made_good (Hd := Hd) MW hsh
    have hws : (mkW V D L ge gB gl go).cells = ws := by rw [hcs]; rfl
    obtain ⟨VV, DD, HHd, HH, LL⟩ := C
    simp only at e1 e2 e3 e4 e5
    subst e1 e2 e3 e4 e5
    have GDM : Good wy V D Hd H L (mkW V D L ge gB gl go) bs (mdlS seed V D H L) := GD
    have hk := shape_ok hsh
    generalize mdlS seed V D H L = M at *
    generalize hWW : mkW V D L ge gB gl go = WW at *
    clear MM MW hcs GD hWW
    have RO := fun (wv : World) (hg : Good wv V D Hd H L WW bs M) (hT : Tab wv) (ao : Option Addr) (n ca : Nat) (Q : List Int) (mo : Int) (ha : IArg wv ao n ca Q) (hq : askedN V Q mo = 0) => run_ok V D Hd H L WW bs M ao n ca Q mo wv hg ha hT hq
    have RB := fun (wv : World) (hg : Good wv V D Hd H L WW bs M) (ao : Option Addr) (n ca : Nat) (Q : List Int) (mo : Int) (ha : IArg wv ao n ca Q) (hq : askedN V Q mo ≠ 0) => run_bad V D Hd H L WW bs M ao n ca Q mo wv hg ha hq
    rw [hws] at RO RB
    unfold cfgC at RO RB
    clear hws
    go_wp2_with (refine wpList_store_row rfl 32 _ _ rfl w2.heap.size ws rfl rfl 32 _ XZ (by rw [siz]; exact Tryd.infoW) (by rw [siz]; rfl) one ?_; rw [hwy])
    refine (CS _).mono ?_
    rintro e w4 ⟨rfl, B4⟩
    replace X0 := X0.below B4
    replace X1 := X1.below B4
    have G4 := GDM.below B4
    have D4 := below_then D3 B4
    have E4 := below_then E3 B4
    clear a0 a1 a2 a3 a4 hwz hwy XZ BZ BR CS D2 D3 E2 E3 GDM B4
    generalize smallN (D : Int) (H : Int) (L : Int) = sq at *
    by_cases hs0 : sq = 0
    · subst hs0
      go_wp2_with fail
      refine (CW _ D4).mono ?_
      rintro e wq ⟨rfl, Bq⟩
      go_wp2
      go_ret
      exact ⟨rfl, below_then D4 Bq⟩
    · have hs0' : (sq == 0) = false := by simpa using hs0
      by_cases hm : 10 < most
      · skip
        go_wp2_with fail
        refine (CW _ D4).mono ?_
        rintro e wq ⟨rfl, Bq⟩
        go_wp2
        go_ret
        exact ⟨rfl, below_then D4 Bq⟩
      · have hm' : ¬ 10 < most := hm
        have a0 : w4.cell? ⟨w.heap.size, 0, none⟩ = some (.int .i64 (V : Int)) := X0.cell 0 rfl
        have a1 : w4.cell? ⟨w.heap.size, 1, none⟩ = some (.int .i64 (D : Int)) := X0.cell 1 rfl
        have a2 : w4.cell? ⟨w.heap.size, 2, none⟩ = some (.int .i64 (Hd : Int)) := X0.cell 2 rfl
        have a3 : w4.cell? ⟨w.heap.size, 3, none⟩ = some (.int .i64 (H : Int)) := X0.cell 3 rfl
        have a4 : w4.cell? ⟨w.heap.size, 4, none⟩ = some (.int .i64 (L : Int)) := X0.cell 4 rfl
        have I4 := HI.out w4 E4
        by_cases hqa : askedN V P most = 0
        · obtain ⟨p1, p2, p3⟩ := asked_ok hqa
          obtain ⟨pp1, pp2, pp3⟩ := prompt_ok p1
          have hP0 : P ≠ [] := by rintro rfl; simp at pp1
          have EY : Hid (∀ i, (runS M V D H Hd L P i).Y = runY M V D H Hd L P i) := fun i => (runS_inv M V D H Hd L P hP0 i).1
          have YB : Hid (∀ Q i k, Q ≠ [] → -9223372036854775808 ≤ el (runY M V D H Hd L Q i) k ∧ el (runY M V D H Hd L Q i) k ≤ 9223372036854775807) := fun Q i k hQ => by
            rw [← (runS_inv M V D H Hd L Q hQ i).1]
            exact runS_yb M V D H Hd L Q (by omega) (by omega) i k
          rw [HL1.out] at pp1 pp2 p3
          have C5 := RO w4 G4 (HT.out _ D4) _ _ _ P most I4 hqa
          go_wp2_with (refine wpList_load_row rfl 32 _ rfl w2.heap.size rfl 32 ws (0, 0) _ X1 Tryd.underlying32 rfl (by rw [siz]; exact Tryd.infoW) ?_)
          refine C5.mono ?_
          rintro e w5 ⟨j, ya, yc, rfl, O5, k1, k2, B5⟩
          rw [EY.out] at O5 k1
          replace k2 : ∀ i, i < j → overB (runY M V D H Hd L P i) most = false := fun i hi => by rw [← EY.out]; exact k2 i hi
          have hj1 : 1 ≤ j := by
            rcases Nat.eq_zero_or_pos j with h | h
            · subst h
              have e0 : runY M V D H Hd L P 0 = [] := rfl
              rw [e0] at k1
              unfold overB endB at k1
              simp at k1
              omega
            · exact h
          have hjm : (j : Int) ≤ most := by
            have := over_not (k2 (j - 1) (by omega))
            rw [runY_len] at this
            omega
          obtain ⟨yb, rfl⟩ : ∃ yb, ya = some ⟨yb, 0, none⟩ := by
            rcases O5.2 with ⟨_, h⟩ | ⟨g, cap, cur, hv, _⟩
            · omega
            · simp only [Value.slice.injEq, true_and] at hv
              exact ⟨g, hv.1⟩
          obtain ⟨x2, y2, e2, AY⟩ := IOwn.arg O5 (fun k => YB.out P j k hP0)
          simp only [Value.slice.injEq, true_and] at e2
          obtain ⟨rfl, rfl⟩ := e2
          have fit := AY.fit
          replace X0 := X0.below B5
          replace X1 := X1.below B5
          have G5 := G4.below B5
          have D5 := below_then D4 B5
          have E5 := below_then E4 B5
          have CO := over_any (some ⟨yb, 0, none⟩) j yc (runY M V D H Hd L P j) most w5 AY.row
          rw [k1] at CO
          clear a0 a1 a2 a3 a4 C5 G4 D4 E4 B5 I4 O5
          have hj1' : ¬ ((j : Int) < 1) := by omega
          have hj2' : ¬ (most < (j : Int)) := by omega
          have OVA : Hid (∀ wv, Below w5.heap.size w5 wv → Calls Tryd.prog 23 #[.slice (some ⟨yb, 0, none⟩) j yc, .int .i64 most] wv fun e w' => e = .returned (.bool true) ∧ w' = wv) := fun wv hb => by
            have := over_any (some ⟨yb, 0, none⟩) j yc (runY M V D H Hd L P j) most wv (AY.row.below hb)
            rw [k1] at this
            exact this
          by_cases hn1 : nn < 1
          · go_upto_region 9 with (go_at_call 23; refine CO.mono ?_; rintro e w6 ⟨rfl, h6⟩; replace h6 := h6.symm; subst h6)
            go_wp2_with fail
            refine (CW _ D5).mono ?_
            rintro e w7 ⟨rfl, B7⟩
            have C7 := OVA.out w7 B7
            have hj3 : 1 ≤ (j : Int) := by omega
            clear CO
            go_wp2_with (go_at_call 23; refine C7.mono ?_; rintro e w8 ⟨rfl, h8⟩; replace h8 := h8.symm; subst h8)
            go_ret
            exact ⟨rfl, below_then D5 B7⟩
          · by_cases hn2 : (j : Int) < nn
            · go_upto_region 9 with (go_at_call 23; refine CO.mono ?_; rintro e w6 ⟨rfl, h6⟩; replace h6 := h6.symm; subst h6)
              go_wp2_with fail
              refine (CW _ D5).mono ?_
              rintro e w7 ⟨rfl, B7⟩
              have C7 := OVA.out w7 B7
              have hj3 : 1 ≤ (j : Int) := by omega
              clear CO
              go_wp2_with (go_at_call 23; refine C7.mono ?_; rintro e w8 ⟨rfl, h8⟩; replace h8 := h8.symm; subst h8)
              go_ret
              exact ⟨rfl, below_then D5 B7⟩
            · obtain ⟨m, rfl⟩ : ∃ m : Nat, nn = m := ⟨nn.toNat, by omega⟩
              have hmj : m ≤ j := by omega
              have aq : askedN V P (m : Int) = 0 := by
                unfold askedN
                rw [if_neg (by rw [p1]; simp), if_neg (by omega), if_neg (by rw [HL1.out]; omega)]
              have a0 : w5.cell? ⟨w.heap.size, 0, none⟩ = some (.int .i64 (V : Int)) := X0.cell 0 rfl
              have a1 : w5.cell? ⟨w.heap.size, 1, none⟩ = some (.int .i64 (D : Int)) := X0.cell 1 rfl
              have a2 : w5.cell? ⟨w.heap.size, 2, none⟩ = some (.int .i64 (Hd : Int)) := X0.cell 2 rfl
              have a3 : w5.cell? ⟨w.heap.size, 3, none⟩ = some (.int .i64 (H : Int)) := X0.cell 3 rfl
              have a4 : w5.cell? ⟨w.heap.size, 4, none⟩ = some (.int .i64 (L : Int)) := X0.cell 4 rfl
              have C6 := RO w5 G5 (HT.out _ D5) _ _ _ P (m : Int) (HI.out w5 E5) aq
              go_wp2_with (first | (go_at_call 23; refine CO.mono ?_; rintro e w6 ⟨rfl, h6⟩; replace h6 := h6.symm; subst h6) | (refine wpList_load_row rfl 32 _ rfl w2.heap.size rfl 32 ws (0, 0) _ X1 Tryd.underlying32 rfl (by rw [siz]; exact Tryd.infoW) ?_))
              refine C6.mono ?_
              rintro e w6 ⟨i, za, zc, rfl, O6, r1, r2, B6⟩
              rw [EY.out] at O6 r1
              obtain rfl : i = m := run_first k2 rfl hmj r1 (fun t ht => by rw [← EY.out]; exact r2 t ht)
              obtain ⟨x3, y3, e3, AZ⟩ := IOwn.arg O6 (fun k => YB.out P i k hP0)
              simp only [Value.slice.injEq, true_and] at e3
              obtain ⟨rfl, rfl⟩ := e3
              have AY6 := AY.below B6
              have SM := refSameI2 za (some ⟨yb, 0, none⟩) i i i zc yc (runY M V D H Hd L P i) ((runY M V D H Hd L P j).take i) w6 rfl rfl (by
                have := runY_take M V D H Hd L P i (j - i)
                rw [show i + (j - i) = j by omega] at this
                exact this.symm) AZ.row (AY6.take hmj).row
              replace X0 := X0.below B6
              replace X1 := X1.below B6
              have G6 := G5.below B6
              have D6 := below_then D5 B6
              have E6 := below_then E5 B6
              clear a0 a1 a2 a3 a4 C6 CO O6 r1 r2 B6 G5 D5 E5 aq
              have f1 : (i : Int) ≤ (yc : Int) := by omega
              by_cases hij : i = j
              · have hij' : ((i : Int) == (j : Int)) = true := by simp [hij]
                have HIJ : Hid (i = j) := hij
                clear hij
                go_upto_region 14 with (go_at_call 24; refine SM.mono ?_; rintro e w7 ⟨rfl, mq, h7⟩; have D7 : Below w.heap.size w w7 := (by rw [h7]; exact below_drewN D6 mq); clear h7)
                go_wp2_with fail
                refine (CW _ D7).mono ?_
                rintro e wq ⟨rfl, Bq⟩
                go_wp2
                go_ret
                exact ⟨rfl, below_then D7 Bq⟩
              · have hij' : ((i : Int) == (j : Int)) = false := by simp; omega
                go_upto_region 15 with (go_at_call 24; refine SM.mono ?_; rintro e w7 ⟨rfl, mq, h7⟩; have E7 : Below w6.heap.size w6 w7 := (by rw [h7]; exact below_drewN (Below.refl _ _) mq); clear h7)
                clear SM
                have D7 := below_then D6 E7
                have E7' := below_then E6 E7
                have G7 := G6.below E7
                replace X0 := X0.below E7
                replace X1 := X1.below E7
                have AY7 := AY6.below E7
                clear D6 E6 G6 AY6 E7
                have hil : i < j := by omega
                have PB := HI.out w7 E7'
                have TB := AY7.take (m := i) (by omega)
                have EQ : Hid ((runY M V D H Hd L P j).take i = runY M V D H Hd L P i) := by
                  have := runY_take M V D H Hd L P i (j - i)
                  rw [show i + (j - i) = j by omega] at this
                  exact this
                rw [EQ.out] at TB
                have hq2 : Hid (askedN V (P ++ runY M V D H Hd L P i) (most - (i : Int)) = 0) := by
                  show _ = _
                  have hlen : (P ++ runY M V D H Hd L P i).length = l1 + i := by rw [List.length_append, HL1.out, runY_len]
                  have hp : promptN V (P ++ runY M V D H Hd L P i) = 0 := by
                    unfold promptN
                    rw [hlen, if_neg (by omega), if_neg (by omega)]
                    have : (P ++ runY M V D H Hd L P i).all (tokB V) = true := by rw [List.all_append, pp3, runY_toks M (by omega)]; rfl
                    rw [if_pos this]
                  unfold askedN
                  rw [if_neg (by rw [hp]; simp), if_neg (by omega), if_neg (by rw [hlen]; omega)]
                have hQ0 : P ++ runY M V D H Hd L P i ≠ [] := by intro h; exact hP0 (List.append_eq_nil_iff.1 h).1
                have esub : IntKind.i64.wrap (most - (i : Int)) = most - (i : Int) := wrap_in (by omega)
                replace X0 := X0.below ((Below.refl _ _).drew)
                replace X1 := X1.below ((Below.refl _ _).drew)
                replace D7 := D7.drew
                replace G7 := G7.below ((Below.refl _ _).drew)
                replace PB := PB.below ((Below.refl _ _).drew)
                replace TB := TB.below ((Below.refl _ _).drew)
                replace AY7 := AY7.below ((Below.refl _ _).drew)
                obtain ⟨i0, hi, hz0, hz1, hz2⟩ := info_parts Tryd.infoInt
                refine wp_region_held_drew (S := fun w' => Blk w' w.heap.size 23 #[.int .i64 (V : Int), .int .i64 (D : Int), .int .i64 (Hd : Int), .int .i64 (H : Int), .int .i64 (L : Int)] ∧ Blk w' w2.heap.size 32 ws) (by kernel_rfl) (⟨X0, X1⟩) (fun hHeld => ?_)
                generalize hA : w7.drew = wA at *
                clear hA
                refine wpAnyH_take (i := 0) (v := (.agg #[.int .i64 (V : Int), .int .i64 (D : Int), .int .i64 (Hd : Int), .int .i64 (H : Int), .int .i64 (L : Int)])) rfl (by kernel_rfl) (by kernel_rfl) (by kernel_rfl) (fun _ _ _ h => h) (Or.inl ⟨by rfl, ?_⟩) (by assumption) ?_
                · intro w' hSw
                  have cc0 : w'.cell? ⟨w.heap.size, 0, none⟩ = some (.int .i64 (V : Int)) := hSw.1.cell 0 rfl
                  have cc1 : w'.cell? ⟨w.heap.size, 1, none⟩ = some (.int .i64 (D : Int)) := hSw.1.cell 1 rfl
                  have cc2 : w'.cell? ⟨w.heap.size, 2, none⟩ = some (.int .i64 (Hd : Int)) := hSw.1.cell 2 rfl
                  have cc3 : w'.cell? ⟨w.heap.size, 3, none⟩ = some (.int .i64 (H : Int)) := hSw.1.cell 3 rfl
                  have cc4 : w'.cell? ⟨w.heap.size, 4, none⟩ = some (.int .i64 (L : Int)) := hSw.1.cell 4 rfl
                  go_simp
                simp only [List.getElem_toArray, List.getElem_cons_zero, Act.put, List.setIfInBounds_toArray, List.set_cons_zero, List.set_cons_succ]
                refine wpAnyH_take (i := 1) (v := (.agg ws)) rfl (by kernel_rfl) (by kernel_rfl) (by kernel_rfl) (fun _ _ _ h => h) (Or.inl ⟨by rfl, ?_⟩) (by assumption) ?_
                · intro w' hSw
                  exact yield_row 32 _ rfl w2.heap.size rfl ws (load_w hSw.2 siz)
                simp only [List.getElem_toArray, List.getElem_cons_succ, List.getElem_cons_zero, Act.put, List.setIfInBounds_toArray, List.set_cons_zero, List.set_cons_succ]
                refine wpAnyH_take (i := 3) (v := (.slice (some ⟨b1, 0, none⟩) l1 kq)) rfl (by kernel_rfl) (by kernel_rfl) (by kernel_rfl) (fun _ _ _ h => h) (Or.inl ⟨by rfl, ?_⟩) (by assumption) ?_
                · intro w' hSw
                  go_simp
                simp only [List.getElem_toArray, List.getElem_cons_succ, List.getElem_cons_zero, Act.put, List.setIfInBounds_toArray, List.set_cons_zero, List.set_cons_succ]
                refine wpAnyH_take (i := 5) (v := (.slice (some ⟨yb, 0, none⟩) j yc)) rfl (by kernel_rfl) (by kernel_rfl) (by kernel_rfl) (fun _ _ _ h => h) (Or.inl ⟨by rfl, ?_⟩) (by assumption) ?_
                · intro w' hSw
                  go_simp
                simp only [List.getElem_toArray, List.getElem_cons_succ, List.getElem_cons_zero, Act.put, List.setIfInBounds_toArray, List.set_cons_zero, List.set_cons_succ]
                refine wpAnyH_take (i := 6) (v := (.int .i64 (i : Int))) rfl (by kernel_rfl) (by kernel_rfl) (by kernel_rfl) (fun _ _ _ h => h) (Or.inl ⟨by rfl, ?_⟩) (by assumption) ?_
                · intro w' hSw
                  go_simp
                simp only [List.getElem_toArray, List.getElem_cons_succ, List.getElem_cons_zero, Act.put, List.setIfInBounds_toArray, List.set_cons_zero, List.set_cons_succ]
                refine wpAnyH_take (i := 7) (v := (.slice (some ⟨yb, 0, none⟩) i yc)) rfl (by kernel_rfl) (by kernel_rfl) (by kernel_rfl) (fun _ _ _ h => h) (Or.inl ⟨by rfl, ?_⟩) (by assumption) ?_
                · intro w' hSw
                  go_simp
                simp only [List.getElem_toArray, List.getElem_cons_succ, List.getElem_cons_zero, Act.put, List.setIfInBounds_toArray, List.set_cons_zero, List.set_cons_succ]
                refine wpAnyH_take (i := 9) (v := (.int .i64 most)) rfl (by kernel_rfl) (by kernel_rfl) (by kernel_rfl) (fun _ _ _ h => h) (Or.inl ⟨by rfl, ?_⟩) (by assumption) ?_
                · intro w' hSw
                  go_simp
                simp only [List.getElem_toArray, List.getElem_cons_succ, List.getElem_cons_zero, Act.put, List.setIfInBounds_toArray, List.set_cons_zero, List.set_cons_succ]
                refine wpAnyH_take (i := 10) (v := (.int .i64 (i : Int))) rfl (by kernel_rfl) (by kernel_rfl) (by kernel_rfl) (fun _ _ _ h => h) (Or.inl ⟨by rfl, ?_⟩) (by assumption) ?_
                · intro w' hSw
                  go_simp
                simp only [List.getElem_toArray, List.getElem_cons_succ, List.getElem_cons_zero, Act.put, List.setIfInBounds_toArray, List.set_cons_zero, List.set_cons_succ]
                refine wpAnyH_take (i := 11) (v := (.int .i64 (most - (i : Int)))) rfl (by kernel_rfl) (by kernel_rfl) (by kernel_rfl) (fun _ _ _ h => h) (Or.inl ⟨by rfl, ?_⟩) (by assumption) ?_
                · intro w' hSw
                  go_simp
                simp only [List.getElem_toArray, List.getElem_cons_succ, List.getElem_cons_zero, Act.put, List.setIfInBounds_toArray, List.set_cons_zero, List.set_cons_succ]
                refine wpAnyH_ready (rs := [2]) (by kernel_rfl) (by simp) ?_
                refine AllReadyH.cons rfl (fun Kc hKc => ?_) AllReadyH.nil
                simp only [List.getElem_toArray, List.getElem_cons_succ, List.getElem_cons_zero]
                rw [if_pos (by rfl)]
                go_wp2_with fail
                have OE : (wA.alloc (.cells #[] 3)).ownsRow wA.heap.size 3 1 (.slice (some ⟨wA.heap.size, 0, none⟩) 0 0) 0 [] := World.ownsRow_made wA #[] 0 (Nat.le_refl _) (by decide) rfl
                have EA : Below wA.heap.size wA (wA.alloc (.cells #[] 3)) := (Below.refl _ _).alloc (Nat.le_refl _) _
                generalize hB : wA.alloc (.cells #[] 3) = wB at *
                have zB := EA.size
                refine hKc.out _ _ ⟨X0.below EA, X1.below EA⟩ (fun hHeld => ?_)
                clear hKc Kc hB
                refine wpAnyH_ready (rs := [4]) (by kernel_rfl) (by simp) ?_
                refine AllReadyH.cons rfl (fun Kc hKc => ?_) AllReadyH.nil
                simp only [List.getElem_toArray, List.getElem_cons_succ, List.getElem_cons_zero]
                rw [if_pos (by rfl)]
                refine wp_append_own wB _ _ 25 rfl wA.heap.size 3 i0 (.int .i64 0) 1 8 Tryd.underlying25 hi hz0 hz1 hz2 rfl (by decide) _ 0 [] rfl OE ⟨b1, 0, none⟩ l1 kq (P.map (Value.int .i64)) rfl (by rw [List.length_map, HL1.out]; omega) (PB.below EA).row.vals (ints_oneCell _ _) (by unfold maxLen; omega) (by omega) (by omega) ?_
                intro v1 w10 O10 G10 M10
                obtain ⟨va, vc, rfl⟩ := owns_slice O10
                rw [Nat.zero_add, List.nil_append] at O10
                have EB : Below wA.heap.size wA w10 := EA.trans ((Below.refl _ _).grown G10 (by omega) (fun k hk => (OE.lt k hk).1))
                have z10 := EB.size
                rw [Nat.zero_add] at *
                refine hKc.out _ _ ⟨X0.below EB, X1.below EB⟩ (fun hHeld => ?_)
                clear hKc Kc OE EA G10 M10
                refine wpAnyH_ready (rs := [8]) (by kernel_rfl) (by simp) ?_
                refine AllReadyH.cons rfl (fun Kc hKc => ?_) AllReadyH.nil
                simp only [List.getElem_toArray, List.getElem_cons_succ, List.getElem_cons_zero]
                rw [if_pos (by rfl)]
                refine wp_append_own w10 _ _ 25 rfl wA.heap.size 3 i0 (.int .i64 0) 1 8 Tryd.underlying25 hi hz0 hz1 hz2 rfl (by decide) _ l1 _ rfl O10 ⟨yb, 0, none⟩ i yc ((runY M V D H Hd L P i).map (Value.int .i64)) rfl (by rw [List.length_map, runY_len]; omega) (TB.below EB).row.vals (ints_oneCell _ _) (by unfold maxLen; omega) (by omega) (by omega) ?_
                intro v2 w11 O11 G11 M11
                obtain ⟨vd, ve, rfl⟩ := owns_slice O11
                rw [← List.map_append] at O11
                have EC : Below wA.heap.size wA w11 := EB.trans ((Below.refl _ _).grown G11 (by omega) (fun k hk => (O10.lt k hk).1))
                refine hKc.out _ _ ⟨X0.below EC, X1.below EC⟩ (fun hHeld => ?_)
                clear hKc Kc O10 G11 M11 EB
                obtain ⟨x5, y5, e5, AQ⟩ := IOwn.arg (A := P ++ runY M V D H Hd L P i) O11 (fun k => by
                  rcases Nat.lt_or_ge k P.length with h | h
                  · rw [el_append_left h]; exact s1 k
                  · obtain ⟨d, rfl⟩ : ∃ d, k = P.length + d := ⟨k - P.length, by omega⟩
                    rw [el_append_right]; exact YB.out P i d hP0)
                simp only [Value.slice.injEq, true_and] at e5
                obtain ⟨rfl, rfl⟩ := e5
                have D11 := below_then D7 EC
                have C12 := RO w11 (G7.below EC) (HT.out _ D11) _ _ _ _ (most - (i : Int)) AQ hq2.out
                refine wpAnyH_ready (rs := [12]) (by kernel_rfl) (by simp) ?_
                refine AllReadyH.cons rfl (fun Kc hKc => ?_) AllReadyH.nil
                simp only [List.getElem_toArray, List.getElem_cons_succ, List.getElem_cons_zero]
                rw [if_pos (by rfl)]
                go_wp2_with fail
                refine C12.mono ?_
                rintro e w12 ⟨r, ua, uc, rfl, O12, t1, t2, B12⟩
                have EY2 : Hid (∀ q, (runS M V D H Hd L (P ++ runY M V D H Hd L P i) q).Y = runY M V D H Hd L (P ++ runY M V D H Hd L P i) q) := fun q => (runS_inv M V D H Hd L _ hQ0 q).1
                rw [EY2.out] at O12 t1
                have hr : r = j - i := parts_len (P := P) (by omega) hil k1 k2 t1 (fun q hq => by rw [← EY2.out]; exact t2 q hq)
                obtain ⟨x6, y6, e6, AU⟩ := IOwn.arg O12 (fun k => YB.out _ r k hQ0)
                simp only [Value.slice.injEq, true_and] at e6
                obtain ⟨rfl, rfl⟩ := e6
                have D12 := below_then D11 B12
                have AY12 := (AY7.below EC).below B12
                go_wp2_with fail
                refine hKc.out _ _ ⟨(X0.below EC).below B12, (X1.below EC).below B12⟩ (fun hHeld => ?_)
                clear hKc Kc O12 t1 t2 O11 AQ C12 D11
                refine wpAnyH_take (i := 13) (v := (.tuple #[.slice ua r uc, .int .i64 0])) rfl (by kernel_rfl) (by kernel_rfl) (by kernel_rfl) (fun _ _ _ h => h) (Or.inl ⟨by rfl, ?_⟩) (by assumption) ?_
                · intro w' hSw
                  go_simp
                simp only [List.getElem_toArray, List.getElem_cons_succ, List.getElem_cons_zero, Act.put, List.setIfInBounds_toArray, List.set_cons_zero, List.set_cons_succ]
                refine wpAnyH_take (i := 14) (v := (.slice ua r uc)) rfl (by kernel_rfl) (by kernel_rfl) (by kernel_rfl) (fun _ _ _ h => h) (Or.inl ⟨by rfl, ?_⟩) (by assumption) ?_
                · intro w' hSw
                  go_simp
                simp only [List.getElem_toArray, List.getElem_cons_succ, List.getElem_cons_zero, Act.put, List.setIfInBounds_toArray, List.set_cons_zero, List.set_cons_succ]
                refine wpAnyH_take (i := 15) (v := (.int .i64 0)) rfl (by kernel_rfl) (by kernel_rfl) (by kernel_rfl) (fun _ _ _ h => h) (Or.inl ⟨by rfl, ?_⟩) (by assumption) ?_
                · intro w' hSw
                  go_simp
                simp only [List.getElem_toArray, List.getElem_cons_succ, List.getElem_cons_zero, Act.put, List.setIfInBounds_toArray, List.set_cons_zero, List.set_cons_succ]
                refine wpAnyH_take (i := 16) (v := (.slice ua r uc)) rfl (by kernel_rfl) (by kernel_rfl) (by kernel_rfl) (fun _ _ _ h => h) (Or.inl ⟨by rfl, ?_⟩) (by assumption) ?_
                · intro w' hSw
                  go_simp
                simp only [List.getElem_toArray, List.getElem_cons_succ, List.getElem_cons_zero, Act.put, List.setIfInBounds_toArray, List.set_cons_zero, List.set_cons_succ]
                refine wpAnyH_take (i := 17) (v := (.int .i64 0)) rfl (by kernel_rfl) (by kernel_rfl) (by kernel_rfl) (fun _ _ _ h => h) (Or.inl ⟨by rfl, ?_⟩) (by assumption) ?_
                · intro w' hSw
                  go_simp
                simp only [List.getElem_toArray, List.getElem_cons_succ, List.getElem_cons_zero, Act.put, List.setIfInBounds_toArray, List.set_cons_zero, List.set_cons_succ]
                refine wpAnyH_done (by kernel_rfl) ?_ _
                clear hHeld X0 X1 G7 PB TB D7
                have C9 := CW w12 D12
                go_wp2_with fail
                refine C9.mono ?_
                rintro e w13 ⟨rfl, B13⟩
                have D13 := below_then D12 B13
                have f3 : (i : Int) ≤ (j : Int) := by omega
                have f4 : ¬ yc = i := by omega
                have SN := refSameI2 ua (some ⟨yb, 0 + i, none⟩) (j - i) (j - i) (j - i) uc (yc - i) (runY M V D H Hd L (P ++ runY M V D H Hd L P i) r) ((runY M V D H Hd L P j).drop i) w13 rfl rfl (by
                  rw [runY_shift, hr, show i + (j - i) = j by omega]) (by rw [hr] at AU; rw [hr]; exact (AU.below B13).row) ((AY12.below B13).drop (by omega))
                rw [Nat.zero_add] at SN
                clear C9 AU AY12
                go_wp2_with (go_at_call 24; refine SN.mono ?_; rintro e w14 ⟨rfl, mr, h14⟩; have D14 : Below w.heap.size w w14 := (by rw [h14]; exact below_drewN D13 mr); clear h14)
                go_ret
                exact ⟨rfl, D14⟩
        · have hqb := RB w4 G4 _ _ _ P most I4 hqa
          have hqa' : (askedN V P most == 0) = false := by simpa using hqa
          generalize askedN V P most = qa at *
          go_wp2_with (refine wpList_load_row rfl 32 _ rfl w2.heap.size rfl 32 ws (0, 0) _ X1 Tryd.underlying32 rfl (by rw [siz]; exact Tryd.infoW) ?_)
          refine hqb.mono ?_
          rintro e w5 ⟨rfl, B5⟩
          have D5 := below_then D4 B5
          clear a0 a1 a2 a3 a4
          go_wp2_with fail
          refine (CW _ D5).mono ?_
          rintro e wq ⟨rfl, Bq⟩
          go_wp2
          go_ret
          exact ⟨rfl, below_then D5 Bq⟩
  · have hq' : (q == 0) = false := by simpa using hq
    go_wp2_with (refine wpList_store_row rfl 32 _ _ rfl w2.heap.size ws rfl rfl 32 _ XZ (by rw [siz]; exact Tryd.infoW) (by rw [siz]; rfl) one ?_; rw [hwy])
    refine (CW _ D3).mono ?_
    rintro e w4 ⟨rfl, B4⟩
    go_wp2
    go_ret
    exact ⟨rfl, below_then D3 B4⟩
end Go.Proofs.YtcbicmgfkeoggaaDoor

/- The given statement on GreedyParts: at every input the law returns true and its arguments read as before; the listed table lies as the program's text lays it (the card ties it). -/
namespace Go.Proofs.YtcbicmgfkeoggaaDoor.greedyParts
open Go.ChangeShapes Go.WideShapes Go.ChangeAt Go.WideMaps Go.WideElems Go.RowKit
set_option linter.unusedVariables false
abbrev lst : List (String × DataW Unit) := Rows.greedyPartsRow.laid
theorem door_met (os : Os) (args : Array Value) : laidMetH Tryd.prog lst ((World.doorLaid Tryd.prog 14 os).forCall (fun _ _ => 0) ⟨#[], args, []⟩).memory :=
  laidMetH_of_parts3 (fuel := 8) (laidMet_of_run' 8 (by kernel_rfl) (by kernel_rfl)) (by kernel_rfl) (by kernel_rfl)
set_option maxRecDepth 100000 in
theorem lifted (os : Os) (started : os.Started) (H : Type) (enc : TypeId × Value → H) :
    ReturnsInHanded {} Tryd.checked os 7 .any (fun w args => (Rows.greedyPartsSpec.pre enc Tryd.prog Tryd.f7 [] false w args ∧ laidMetH Tryd.prog lst w) ∧ sizedMet enc Tryd.prog Tryd.f7 (OpenSpec.ofChange Rows.greedyPartsSpec) false w args)
      (Rows.greedyPartsSpec.post enc Tryd.prog Tryd.f7 false true false false) := by
  refine returnsInHanded_of_change_and (C := Tryd.checked) (X := fun w _ => laidMetH Tryd.prog lst w) (fun _ _ _ hh h => h.of_heap hh) Tryd.own started (by kernel_rfl) Tryd.func7
    (ChangeSpec.witness_shaped (enc := enc) (C := Tryd.checked) (os := os) (X := fun w _ => laidMetH Tryd.prog lst w) false (World.doorLaid Tryd.prog 14 os) #[.agg #[.int .i64 0, .int .i64 0, .int .i64 0, .int .i64 0, .int .i64 0], .int .u64 0, .slice none 0 0, .int .i64 0, .int .i64 0] 8 rfl (World.shaped_of_RefB (by kernel_rfl) (by kernel_rfl)) (by kernel_rfl) (by kernel_rfl) (by kernel_rfl) (door_met os _)) ?_
  intro W base args ds gs before hval0 hW _ _ hL _
  have hval : ∀ (j : Nat) t v, Tryd.f7.params[j]? = some t → args[j]? = some v → Value.okWide Tryd.prog W .any base t v := hval0
  have hW' := hW
  obtain ⟨p, q, hA0, hV, rfl, _, _⟩ := hW
  have hA : DataW.TrodAll enc Tryd.prog W 0 (fun _ => true) true Tryd.f7.params.toList args.toList ds p := hA0
  rw [Tryd.params7] at hA hval
  obtain ⟨v0, vs0, d0, ds0, p0, q0, hargs, rfl, rfl, h0, r0⟩ := trodAll_cons hA
  obtain ⟨v1, vs1, d1, ds1, p1, q1, rfl, rfl, rfl, h1, r1⟩ := trodAll_cons r0
  obtain ⟨v2, vs2, d2, ds2, p2, q2, rfl, rfl, rfl, h2, r2⟩ := trodAll_cons r1
  obtain ⟨v3, vs3, d3, ds3, p3, q3, rfl, rfl, rfl, h3, r3⟩ := trodAll_cons r2
  obtain ⟨v4, vs4, d4, ds4, p4, q4, rfl, rfl, rfl, h4, r4⟩ := trodAll_cons r3
  obtain ⟨rfl, rfl, rfl⟩ := trodAll_nil r4
  obtain rfl : args = #[v0, v1, v2, v3, v4] := by cases args; simp_all
  obtain ⟨rfl, rfl⟩ := trodVars_none hV
  have k0 := h0
  obtain ⟨C0, rfl, g0⟩ := viewCfg (hval 0 _ v0 rfl rfl) h0
  have k1 := h1
  obtain ⟨a1, rfl, rfl, rfl, w1⟩ := open_int Tryd.underlying24 (hval 1 24 v1 rfl rfl) h1
  have b1 := bounds_u64 w1
  have k2 := h2
  obtain ⟨a2, n2, c2, Z2, rfl, g2⟩ := viewI (hval 2 _ v2 rfl rfl) h2
  have k3 := h3
  obtain ⟨a3, rfl, rfl, rfl, w3⟩ := open_int Tryd.underlying3 (hval 3 3 v3 rfl rfl) h3
  have b3 := bounds_i64 w3
  have k4 := h4
  obtain ⟨a4, rfl, rfl, rfl, w4⟩ := open_int Tryd.underlying3 (hval 4 3 v4 rfl rfl) h4
  have b4 := bounds_i64 w4
  clear hA0 hval0
  simp only [List.append_nil] at hW'
  have hlt : ∀ x ∈ p0 ++ p2, x.block < W.heap.size := fun x hx => by
    have hx2 := hx
    exact hW'.lt x (by grind)
  refine (greedyParts_walk C0 a1 a2 n2 c2 Z2 a3 a4 W g0 b1 g2 b3 b4 (tab_of_laid hL)).mono fun e W' ⟨he, hb⟩ => ?_
  subst he
  exact ⟨_, rfl, _, _, _, [], _, [], hW', trodAll_mk1 (shut_bool Tryd.underlying4 true), trodAll_cons_mk (Below.trod Tryd.laidOut (by kernel_rfl) (of_decide_eq_true (by kernel_rfl)) k0 hb (fun x hx => hlt x (by simp [hx]))) (trodAll_cons_mk (shut_int Tryd.underlying24 w1) (trodAll_cons_mk (Below.trod Tryd.laidOut (by kernel_rfl) (of_decide_eq_true (by kernel_rfl)) k2 hb (fun x hx => hlt x (by simp [hx]))) (trodAll_cons_mk (shut_int Tryd.underlying3 w3) (trodAll_cons_mk (shut_int Tryd.underlying3 w4) trodAll_mk0)))), rfl, hb.frame _, fun h => by cases h⟩
theorem row_holds : Rows.GreedyPartsSaid :=
  OpenClaim.holds_of_wide 7 Tryd.f7 rfl rfl rfl rfl rfl rfl rfl ⟨rfl, rfl, rfl, rfl, rfl⟩ rfl rfl rfl rfl rfl (by kernel_rfl) Tryd.func7 (by kernel_rfl)
    (of_decide_eq_true (by kernel_rfl)) (by unfold Func.isWrapper; first | (rw [if_pos (by decide +kernel)]; kernel_rfl) | (rw [if_neg (by decide +kernel)]; exact ⟨rfl, rfl⟩))
    (fun os started H enc _ => lifted os started H enc)
/-- The given statement. -/
theorem card_holds : Rows.GreedyPartsCardSaid :=
  Claim7.holds_tied_plain_at .later [] [.data] true (true, "fbe80f2afbd55e80cd452f0a326efe67d4b9912c148d55caef3d482b5b67f082") false
    row_holds (fun _ h => by cases h) (by kernel_rfl) (fun _ h => by cases h) greedyParts_row_tie rfl ⟨rfl, rfl⟩ (by kernel_rfl) rfl
    (fun f fn hf hfn => by
      obtain rfl : f = 7 := Option.some.inj ((show Tryd.prog.funcNamed Rows.greedyPartsRow.func = some 7 by kernel_rfl).symm.trans hf) |>.symm
      obtain rfl : fn = Tryd.f7 := (Option.some.inj (Tryd.func7.symm.trans hfn)).symm
      exact ⟨by kernel_rfl, fun j t ht => by
        rw [Tryd.params7] at ht
        have hm : t ∈ [23, 24, 25, 3, 3] := by simpa using Array.mem_of_getElem? ht
        have hall : ([23, 24, 25, 3, 3].all fun u => !Tryd.prog.wantsStandIn u) = true := by kernel_rfl
        exact (show Tryd.prog.wantsStandIn t = false by simpa using List.all_eq_true.1 hall t hm)⟩)
    (by kernel_rfl)
end Go.Proofs.YtcbicmgfkeoggaaDoor.greedyParts
namespace Go.Proofs.YtcbicmgfkeoggaaDoor
theorem greedyParts_holds : Rows.GreedyPartsCardSaid := greedyParts.card_holds
#print axioms greedyParts_holds
end Go.Proofs.YtcbicmgfkeoggaaDoor
