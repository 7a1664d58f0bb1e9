/- Contracts of the program's functions, part 10 of 10: what each call returns and leaves of memory. -/
import Derived.Test.YtpplnjmjldhlbaaPk9
import Derived.Test.YtpplnjmjldhlbaaPk7
import Derived.Deep.MidRow
import Derived.Test.YtpplnjmjldhlbaaPk3
import Derived.Deep.Matrix
import Derived.Deep.Slices
import Derived.Lib.SmallJoins
/- Pages as bytes: what reads as a page is that page's bytes. -/
namespace Go.Proofs.Ytpplnjmjldhlbaa
open Go.ChangeShapes Go.WideShapes Go.ChangeAt Go.RowKit
theorem toI_two (n : Nat) (h : n < 4294967296) : toI n = (n : Int) ∨ toI n = (n : Int) - 4294967296 := by
  unfold toI
  simp only [IntKind.wrap, IntKind.bits, IntKind.signed]
  simp
  omega
theorem byteOf_eq {x : Int} {b : UInt8} (h : x % 256 = (b.toNat : Int)) : byteOf x = b := by
  apply UInt8.toNat_inj.1
  rw [byteOf_nat, h]
  exact Int.toNat_natCast _
theorem num_again (a b c d : UInt8) : numB (toI (valB [a, b, c, d])) = [a, b, c, d] := by
  have ha := a.toNat_lt
  have hb := b.toNat_lt
  have hc := c.toNat_lt
  have hd := d.toNat_lt
  have e : valB [a, b, c, d] = ((a.toNat * 256 + b.toNat) * 256 + c.toNat) * 256 + d.toNat := by
    show (((0 * 256 + a.toNat) * 256 + b.toNat) * 256 + c.toNat) * 256 + d.toNat = _
    omega
  have h := toI_two (valB [a, b, c, d]) (by rw [e]; omega)
  generalize toI (valB [a, b, c, d]) = x at *
  rw [e] at h
  unfold numB
  rw [byteOf_eq (b := a) (by omega), byteOf_eq (b := b) (by omega), byteOf_eq (b := c) (by omega), byteOf_eq (b := d) (by omega)]
theorem chunk (l : List UInt8) (k : Nat) (h : 4 * (k + 1) ≤ l.length) : numB (numAt l k) = (l.drop (4 * k)).take 4 := by
  unfold numAt
  have hl : 4 ≤ (l.drop (4 * k)).length := by rw [List.length_drop]; omega
  generalize l.drop (4 * k) = s at *
  match s, hl with
  | a :: b :: c :: d :: rest, _ => exact num_again a b c d
theorem row_chunk (l : List UInt8) (k0 : Nat) : ∀ d, 4 * (k0 + d) ≤ l.length → rowB (rowT l d k0) = (l.drop (4 * k0)).take (4 * d)
  | 0, _ => by rfl
  | d + 1, h => by
    have ih := row_chunk l k0 d (by omega)
    unfold rowT at *
    rw [tab_next]
    unfold rowB at *
    rw [List.flatMap_append, ih, show 4 * (d + 1) = 4 * d + 4 by omega, List.take_add, List.drop_drop]
    have c := chunk l (k0 + d) (by omega)
    rw [show 4 * (k0 + d) = 4 * k0 + 4 * d by omega] at c
    rw [← c]
    simp
theorem grid_chunk (l : List UInt8) (d c : Nat) : ∀ P, 4 * (c + P * d) ≤ l.length → gridB ((List.range P).map fun t => rowT l d (c + t * d)) = (l.drop (4 * c)).take (4 * (P * d))
  | 0, _ => by rw [Nat.zero_mul]; rfl
  | P + 1, h => by
    rw [Nat.succ_mul P] at h
    have ih := grid_chunk l d c P (by omega)
    unfold gridB at *
    rw [map_range_succJ, List.flatMap_append, ih, Nat.succ_mul P, Nat.mul_add, List.take_add, List.drop_drop]
    have e := row_chunk l (c + P * d) d (by omega)
    rw [Nat.mul_add] at e
    rw [← e]
    simp
theorem cube_chunk (l : List UInt8) (P d : Nat) : ∀ m, 4 * (m * (P * d)) ≤ l.length → cubeB (cubeT l m P d) = l.take (4 * (m * (P * d)))
  | 0, _ => by rw [Nat.zero_mul]; rfl
  | m + 1, h => by
    rw [Nat.succ_mul m] at h
    have ih := cube_chunk l P d m (by omega)
    unfold cubeT cubeB at *
    rw [map_range_succJ, List.flatMap_append, ih, Nat.succ_mul m, Nat.mul_add, List.take_add]
    have e := grid_chunk l d (m * (P * d)) P (by omega)
    rw [← e]
    simp
theorem map_byte (l : List UInt8) : (l.map fun b => (b.toNat : Int)).map byteOf = l := by
  rw [List.map_map]
  refine (List.map_congr_left (fun b _ => ?_)).trans (List.map_id _)
  show byteOf (b.toNat : Int) = b
  exact byteOf_eq (by have := b.toNat_lt; omega)
/-- What reads as a page is the page's bytes. -/
theorem read_again {Vo D L : Int} {l : List UInt8} {X : Pg} (h : rdS Vo D L l = (0, X)) : pageB X = l ∧ ckN Vo D L X = 0 ∧ L ≤ 4 ∧ D ≤ 32 := by
  match l, h with
  | [], h => exact absurd (congrArg Prod.fst h) (by show ¬ (11 : Int) = 0; omega)
  | [_], h => exact absurd (congrArg Prod.fst h) (by show ¬ (11 : Int) = 0; omega)
  | a :: b :: r, h =>
    have ha := a.toNat_lt
    have hb := b.toNat_lt
    change rd2 Vo D L a.toNat b.toNat r = (0, X) at h
    unfold rd2 at h
    by_cases h1 : r.length < a.toNat
    · rw [if_pos h1] at h; exact absurd (congrArg Prod.fst h) (by show ¬ (11 : Int) = 0; omega)
    rw [if_neg h1] at h
    by_cases h2 : 4 < L.toNat ∨ 32 < D.toNat ∨ r.length - a.toNat ≠ 8 * (a.toNat - b.toNat) * L.toNat * D.toNat
    · rw [if_pos h2] at h; exact absurd (congrArg Prod.fst h) (by show ¬ (6 : Int) = 0; omega)
    rw [if_neg h2] at h
    by_cases h3 : ckN Vo D L (pgT L.toNat D.toNat a.toNat b.toNat r) = 0
    rotate_left
    · rw [if_neg h3] at h; exact absurd (congrArg Prod.fst h) h3
    rw [if_pos h3] at h
    obtain rfl : pgT L.toNat D.toNat a.toNat b.toNat r = X := congrArg Prod.snd h
    refine ⟨?_, h3, by omega, by omega⟩
    have h4 : r.length - a.toNat = 8 * (a.toNat - b.toNat) * L.toNat * D.toNat := by
      rcases Nat.lt_or_ge 0 1 with _ | _
      · by_cases e : r.length - a.toNat = 8 * (a.toNat - b.toNat) * L.toNat * D.toNat
        · exact e
        · exact absurd (Or.inr (Or.inr e)) h2
      · omega
    obtain ⟨P, hP⟩ : ∃ P, P = a.toNat - b.toNat := ⟨_, rfl⟩
    obtain ⟨m, hm⟩ : ∃ m, m = L.toNat := ⟨_, rfl⟩
    obtain ⟨d, hd⟩ : ∃ d, d = D.toNat := ⟨_, rfl⟩
    rw [← hP, ← hm, ← hd] at h4
    have h5 : 8 * P * m * d = 8 * (m * (P * d)) := by rw [Nat.mul_assoc 8 P m, Nat.mul_assoc 8, Nat.mul_comm P m, Nat.mul_assoc m P d]
    rw [h5] at h4
    have hl : (r.drop a.toNat).length = 8 * (m * (P * d)) := by rw [List.length_drop, h4]
    have hT : ((r.take a.toNat).map fun b => (b.toNat : Int)).length = a.toNat := by rw [List.length_map, List.length_take]; omega
    rw [pageB_form, ← hm, ← hd]
    unfold pgT
    rw [← hP]
    show byteOf ((((r.take a.toNat).map fun b => (b.toNat : Int)).length : Nat) : Int) :: byteOf ((b.toNat : Nat) : Int) :: (((r.take a.toNat).map fun b => (b.toNat : Int)).map byteOf ++ (cubeB (cubeT (r.drop a.toNat) m P d) ++ cubeB (cubeT ((r.drop a.toNat).drop (4 * (m * (P * d)))) m P d))) = a :: b :: r
    rw [hT, map_byte, byteOf_eq (b := a) (by omega), byteOf_eq (b := b) (by omega), cube_chunk _ _ _ _ (by omega), cube_chunk _ _ _ _ (by rw [List.length_drop]; omega),
      List.take_of_length_le (l := (r.drop a.toNat).drop (4 * (m * (P * d)))) (by rw [List.length_drop]; omega), List.take_append_drop, List.take_append_drop]
theorem cut_ok {C : List (List (List Int))} (h1 : C.length ≤ 5) (h2 : ∀ R ∈ C, R.length ≤ 20 ∧ ∀ r ∈ R, r.length ≤ 40) : cutC C 20 = C := by
  unfold cutC
  rw [List.take_of_length_le h1]
  refine (List.map_congr_left (fun R hR => ?_)).trans (List.map_id _)
  unfold rowsN
  rw [List.take_of_length_le (h2 R hR).1]
  exact (List.map_congr_left (fun r h9 => List.take_of_length_le ((h2 R hR).2 r h9))).trans (List.map_id _)
theorem page_whole {Vo D L : Int} {X : Pg} (h : ckN Vo D L X = 0) (hL : L ≤ 4) (hD : D ≤ 32) : cutPg X = X := by
  obtain ⟨h1, h2, h3, h4, h5, h6⟩ := ck_zero h
  have p := plB_true h1
  have kk := rfB_spec h5
  have vv := rfB_spec h6
  unfold cutPg
  rw [List.take_of_length_le (by omega), cut_ok (by omega) (fun R hR => ⟨by have := (kk R hR).1; omega, fun r hr => by have := (kk R hR).2 r hr; omega⟩), cut_ok (by omega) (fun R hR => ⟨by have := (vv R hR).1; omega, fun r hr => by have := (vv R hR).2 r hr; omega⟩)]
theorem flat_bound {α β : Type} (f : α → List β) (k : Nat) : ∀ l : List α, (∀ x ∈ l, (f x).length ≤ k) → (l.flatMap f).length ≤ l.length * k
  | [], _ => by simp
  | x :: l, h => by
    rw [List.flatMap_cons, List.length_append, List.length_cons, Nat.succ_mul]
    have h1 := h x List.mem_cons_self
    have h2 := flat_bound f k l (fun y hy => h y (List.mem_cons_of_mem _ hy))
    omega
theorem cube_size {C : List (List (List Int))} (h1 : C.length ≤ 5) (h2 : ∀ R ∈ C, R.length ≤ 20 ∧ ∀ r ∈ R, r.length ≤ 40) : (cubeB C).length ≤ 16000 := by
  have g : ∀ R ∈ C, (gridB R).length ≤ 3200 := fun R hR => by
    have h := flat_bound rowB 160 R (fun r hr => by rw [rowB_len]; have := (h2 R hR).2 r hr; omega)
    have := (h2 R hR).1
    unfold gridB
    omega
  have h := flat_bound gridB 3200 C g
  unfold cubeB
  omega
theorem cut_dims (C : List (List (List Int))) (n : Nat) : (cutC C n).length ≤ 5 ∧ ∀ R ∈ cutC C n, R.length ≤ n ∧ ∀ r ∈ R, r.length ≤ 40 := by
  refine ⟨cutC_at_most _ _, fun R hR => ?_⟩
  unfold cutC at hR
  obtain ⟨R0, _, rfl⟩ := List.mem_map.1 hR
  unfold rowsN
  refine ⟨by rw [List.length_map, List.length_take]; omega, fun r hr => ?_⟩
  obtain ⟨r0, _, rfl⟩ := List.mem_map.1 hr
  rw [List.length_take]
  omega
theorem ck_none {Vo D D' L : Int} {X : Pg} (hk : X.K = []) (hv : X.V = []) : ckN Vo D L X = ckN Vo D' L X := by
  unfold ckN
  rw [hk, hv]
  rfl
/-- What was written reads back, of any configuration. -/
theorem page_backI {Vo D L : Int} {X : Pg} (h : ckN Vo D L X = 0) (hs : ∀ R ∈ X.K, ∀ r ∈ R, ∀ x ∈ r, -2147483648 ≤ x ∧ x ≤ 2147483647) (hv : ∀ R ∈ X.V, ∀ r ∈ R, ∀ x ∈ r, -2147483648 ≤ x ∧ x ≤ 2147483647) (hVo : Vo ≤ 256) (hD : D ≤ 32) (hL : L ≤ 4) :
    rdS Vo D L (pageB X) = (0, X) := by
  obtain ⟨h1, h2, h3, h4, h5, h6⟩ := ck_zero h
  have p := plB_true h1
  obtain ⟨m, rfl⟩ : ∃ m : Nat, L = (m : Int) := ⟨L.toNat, by omega⟩
  by_cases hd : 0 ≤ D
  · obtain ⟨d, rfl⟩ : ∃ d : Nat, D = (d : Int) := ⟨D.toNat, by omega⟩
    exact page_back h hs hv hVo (by omega) (by omega)
  · have kk := rfB_spec h5
    have hK : X.K = [] := by
      cases e : X.K with
      | nil => rfl
      | cons R Ks =>
        have h9 := kk R (by rw [e]; exact List.mem_cons_self)
        cases e2 : R with
        | nil => rw [e2] at h9; have := h9.1; simp at this; omega
        | cons r0 rs => have := h9.2 r0 (by rw [e2]; exact List.mem_cons_self); omega
    have hm0 : m = 0 := by rw [hK] at h2; simpa using h2.symm
    subst hm0
    have hV : X.V = [] := List.length_eq_zero_iff.1 (by omega)
    have h0 : ckN Vo ((0 : Nat) : Int) ((0 : Nat) : Int) X = 0 := by rw [← h]; exact ck_none hK hV
    have g := page_back h0 hs hv hVo (by omega) (by omega)
    rw [pageB_form] at g ⊢
    change rd2 _ _ _ _ _ _ = _ at g
    show rd2 _ _ _ _ _ _ = _
    unfold rd2 at g ⊢
    rw [show D.toNat = 0 by omega]
    rw [show ((0 : Nat) : Int).toNat = 0 from rfl] at g ⊢
    have e : ∀ t f r, ckN Vo D ((0 : Nat) : Int) (pgT 0 0 t f r) = ckN Vo ((0 : Nat) : Int) ((0 : Nat) : Int) (pgT 0 0 t f r) := fun t f r => ck_none rfl rfl
    rw [e]
    exact g
end Go.Proofs.Ytpplnjmjldhlbaa

/- Package block: the pages of a view are right, and join to it. -/
namespace Go.Proofs.Ytpplnjmjldhlbaa
open Go.ChangeShapes Go.WideShapes Go.ChangeAt Go.RowKit
theorem partR_len {R : List (List Int)} {fr to' : Nat} (h : to' ≤ R.length) : (partR R fr to').length = to' - fr := by
  unfold partR
  rw [List.length_take, List.length_drop]
  omega
theorem partR_mem {R : List (List Int)} {fr to' : Nat} {r : List Int} (h : r ∈ partR R fr to') : r ∈ R := List.mem_of_mem_drop (List.mem_of_mem_take h)
theorem rows_len {R : List (List Int)} {D n : Nat} (h1 : R.length = n) (h : ∀ t, t < n → (rowOf R t).length = D) : ∀ r ∈ R, r.length = D := fun r hr => by
  obtain ⟨t, ht, rfl⟩ := List.getElem_of_mem hr
  have := h t (by omega)
  unfold rowOf at this
  rw [List.getD_eq_getElem?_getD, List.getElem?_eq_getElem ht] at this
  exact this
theorem rfB_part {C : List (List (List Int))} {n D fr to' : Nat} (h : ∀ R ∈ C, R.length = n ∧ ∀ t, t < n → (rowOf R t).length = D) (h1 : fr < to') (h2 : to' ≤ n) : rfB (C.map fun R => partR R fr to') ((to' : Int) - (fr : Int)) D = true := by
  refine rfB_true fun t Q hQ => ?_
  obtain ⟨R, hR, rfl⟩ := List.mem_map.1 (List.mem_of_getElem? hQ)
  obtain ⟨q1, q2⟩ := h R hR
  have hl : (partR R fr to').length = to' - fr := partR_len (by omega)
  refine rfR_true (by rw [hl]; omega) fun j hj => ?_
  have := rows_len q1 q2 _ (partR_mem (rowOf_mem hj))
  omega
theorem pg_ok {V : Int} {D L : Nat} {X : Vw} {fr to' : Nat} (hf : VwFit V D L X) (h1 : fr < to') (h2 : to' ≤ X.T.length) (h3 : to' - fr ≤ 16) : ckN V D L (pgOf X fr to') = 0 := by
  have hm := hf.most
  have hT : (pgOf X fr to').T.length = to' := by show (X.T.take to').length = _; rw [List.length_take]; omega
  have hK : (pgOf X fr to').K.length = L := by show (X.K.map _).length = _; rw [List.length_map, hf.k, if_neg (by omega)]
  have hV : (pgOf X fr to').V.length = L := by show (X.V.map _).length = _; rw [List.length_map, hf.v, if_neg (by omega)]
  have hF : (pgOf X fr to').F = (fr : Int) := rfl
  have hA : (pgOf X fr to').T.all (tokB V) = true := by
    rw [List.all_eq_true]
    intro x hx
    exact List.all_eq_true.1 hf.toks x (List.mem_of_mem_take hx)
  have hp : plB to' (fr : Int) = true := by
    unfold plB
    simp only [Bool.and_eq_true, decide_eq_true_eq]
    omega
  unfold ckN
  rw [hT, hF, hK, hV, hp, if_neg (by simp), if_pos hA, if_pos ⟨rfB_part hf.ks h1 h2, rfB_part hf.vs h1 h2⟩]
/-- The beginning of a view. -/
def cutX (X : Vw) (n : Nat) : Vw := ⟨X.T.take n, X.K.map fun R => R.take n, X.V.map fun R => R.take n⟩
def cut0 (X : Vw) (n : Nat) : Vw := if n = 0 then noVw else cutX X n
theorem take_part (R : List (List Int)) {fr to' : Nat} (h : fr ≤ to') : R.take fr ++ partR R fr to' = R.take to' := by
  unfold partR
  rw [show to' = fr + (to' - fr) by omega, List.take_add, show fr + (to' - fr) - fr = to' - fr by omega]
theorem catC_part (C : List (List (List Int))) {fr to' : Nat} (h : fr ≤ to') : catC (C.map fun R => R.take fr) (C.map fun R => partR R fr to') = C.map fun R => R.take to' := by
  refine List.ext_getElem (by rw [catC_len, List.length_map, List.length_map]) fun i h1 h2 => ?_
  rw [List.length_map] at h2
  have e : (catC (C.map fun R => R.take fr) (C.map fun R => partR R fr to')).getD i [] = (C.map fun R => R.take fr).getD i [] ++ (C.map fun R => partR R fr to').getD i [] := catC_at (by rw [List.length_map]; exact h2)
  rw [List.getD_eq_getElem?_getD, List.getElem?_eq_getElem h1, List.getD_eq_getElem?_getD, List.getElem?_map, List.getElem?_eq_getElem h2, List.getD_eq_getElem?_getD, List.getElem?_map, List.getElem?_eq_getElem h2] at e
  simp only [Option.getD_some, Option.map_some] at e
  rw [e, List.getElem_map, take_part _ h]
theorem catC_nil (C : List (List (List Int))) {to' : Nat} : catC [] (C.map fun R => partR R 0 to') = C.map fun R => R.take to' := by
  refine List.ext_getElem (by rw [catC_len, List.length_map, List.length_map]) fun i h1 h2 => ?_
  rw [List.length_map] at h2
  have e : (catC [] (C.map fun R => partR R 0 to')).getD i [] = ([] : List (List (List Int))).getD i [] ++ (C.map fun R => partR R 0 to').getD i [] := catC_at (by rw [List.length_map]; exact h2)
  rw [List.getD_eq_getElem?_getD, List.getElem?_eq_getElem h1, List.getD_eq_getElem?_getD (l := C.map _), List.getElem?_map, List.getElem?_eq_getElem h2] at e
  simp only [Option.getD_some, Option.map_some] at e
  rw [e, List.getElem_map]
  unfold partR
  simp
/-- One page more. -/
theorem jn_step {V : Int} {D L : Nat} {X : Vw} {fr to' : Nat} (l : List Pg) (hf : VwFit V D L X) (h1 : fr < to') (h2 : to' ≤ X.T.length) (h3 : to' - fr ≤ 16) : jnS V D L (cut0 X fr) (pgOf X fr to' :: l) = jnS V D L (cut0 X to') l := by
  have hk := pg_ok hf h1 h2 h3
  have eT : (pgOf X fr to').T.take (pgOf X fr to').F.toNat = X.T.take fr := by
    show (X.T.take to').take ((fr : Int).toNat) = _
    rw [List.take_take]
    congr 1
    omega
  have hc : (cut0 X fr).T = X.T.take fr := by
    unfold cut0
    split
    · rename_i h0; rw [h0]; rfl
    · rfl
  show (if _ then _ else if _ then _ else _) = _
  rw [if_neg (by rw [hk]; simp), if_pos (by rw [eT, hc])]
  congr 1
  unfold cut0
  rw [if_neg (by omega : ¬ to' = 0)]
  split
  · rename_i h0
    subst h0
    show (⟨X.T.take to', catC [] _, catC [] _⟩ : Vw) = _
    rw [show (pgOf X 0 to').K = X.K.map fun R => partR R 0 to' from rfl, show (pgOf X 0 to').V = X.V.map fun R => partR R 0 to' from rfl, catC_nil, catC_nil]
    rfl
  · show (⟨X.T.take to', catC (X.K.map fun R => R.take fr) _, catC (X.V.map fun R => R.take fr) _⟩ : Vw) = _
    rw [show (pgOf X fr to').K = X.K.map fun R => partR R fr to' from rfl, show (pgOf X fr to').V = X.V.map fun R => partR R fr to' from rfl, catC_part _ (by omega), catC_part _ (by omega)]
    rfl
theorem cutx_all {V : Int} {D L : Nat} {X : Vw} (hf : VwFit V D L X) : cut0 X X.T.length = X := by
  unfold cut0
  split
  · rename_i h0
    have hk := hf.k
    have hv := hf.v
    rw [if_pos h0] at hk hv
    obtain ⟨T, K, V2⟩ := X
    simp only at h0 hk hv
    rw [List.length_eq_zero_iff.1 h0, List.length_eq_zero_iff.1 hk, List.length_eq_zero_iff.1 hv]
    rfl
  · unfold cutX
    have e : ∀ C : List (List (List Int)), (∀ R ∈ C, R.length = X.T.length) → (C.map fun R => R.take X.T.length) = C := fun C hC => by
      rw [show (C.map fun R => R.take X.T.length) = C.map id from List.map_congr_left fun R hR => by rw [← hC R hR, List.take_length]; rfl, List.map_id]
    rw [e X.K fun R hR => (hf.ks R hR).1, e X.V fun R hR => (hf.vs R hR).1, List.take_length]
theorem drop_pages (X : Vw) (page NP k : Nat) (hk : k < NP) : (pagesOf X page NP).drop k = pgOf X (k * page) (min ((k + 1) * page) X.T.length) :: (pagesOf X page NP).drop (k + 1) := by
  have hl := pagesOf_len X page NP
  have hat := pagesOf_at X page NP k hk
  rw [List.drop_eq_getElem_cons (by rw [hl]; exact hk)]
  congr 1
  rw [List.getElem?_eq_getElem (by rw [hl]; exact hk)] at hat
  exact Option.some.inj hat
/-- The pages of a view, joined from the k-th on behind its beginning. -/
theorem jn_from {V : Int} {D L : Nat} {X : Vw} {page : Nat} (hf : VwFit V D L X) (hp1 : 1 ≤ page) (hp2 : page ≤ 16) : ∀ (r k : Nat), k + r = pageN X.T.length page → jnS V D L (cut0 X (min (k * page) X.T.length)) ((pagesOf X page (pageN X.T.length page)).drop k) = (0, X)
  | 0, k, h => by
    rw [List.drop_eq_nil_of_le (by rw [pagesOf_len]; omega)]
    have : X.T.length ≤ k * page := by
      rcases Nat.lt_or_ge (k * page) X.T.length with q | q
      · have := (pageN_lt hp1).1 q; omega
      · exact q
    rw [Nat.min_eq_right this, cutx_all hf]
    rfl
  | r + 1, k, h => by
    have hk : k < pageN X.T.length page := by omega
    have hlt := (pageN_lt hp1 (n := X.T.length) (k := k)).2 hk
    have hs : (k + 1) * page = k * page + page := Nat.succ_mul k page
    rw [drop_pages X page _ k hk, Nat.min_eq_left (Nat.le_of_lt hlt), jn_step _ hf (by omega) (by omega) (by omega)]
    exact jn_from hf hp1 hp2 r (k + 1) (by omega)
theorem jn_all {V : Int} {D L : Nat} {X : Vw} {page : Nat} (hf : VwFit V D L X) (hp1 : 1 ≤ page) (hp2 : page ≤ 16) : jnS V D L noVw (pagesOf X page (pageN X.T.length page)) = (0, X) := by
  have := jn_from hf hp1 hp2 (pageN X.T.length page) 0 (by omega)
  rw [List.drop_zero, Nat.zero_mul, Nat.zero_min] at this
  exact this
end Go.Proofs.Ytpplnjmjldhlbaa

/- Package block: Split of so many tokens that there is no page; the law's small, ref0. -/
namespace Go.Proofs.Ytpplnjmjldhlbaa
open Go.ChangeShapes Go.WideShapes Go.ChangeAt Go.RowKit
set_option maxRecDepth 100000 in
set_option maxHeartbeats 3200000 in
theorem split_bad (Vo D Hd H L : Int) (ta : Option Addr) (tn tz : Nat) (ka : Option Addr) (kn kz : Nat) (va : Option Addr) (vn vz : Nat) (page : Int) (w : World) (hp : page < 1 ∨ 16 < page) :
   Calls Try.prog 7 #[.agg (cfgC Vo D Hd H L), .agg #[.slice ta tn tz, .slice ka kn kz, .slice va vn vz], .int .i64 page] w fun e w' => e = .returned (.tuple #[.slice none 0 0, .int .i64 1]) ∧ Below w.heap.size w w' := by
  rw [show cfgC Vo D Hd H L = #[.int .i64 Vo, .int .i64 D, .int .i64 Hd, .int .i64 H, .int .i64 L] from rfl]
  have B0 : Below w.heap.size w (w.alloc (.cells #[.int .i64 Vo, .int .i64 D, .int .i64 Hd, .int .i64 H, .int .i64 L] 23)) := (Below.refl _ _).alloc (Nat.le_refl _) _
  generalize hw0 : w.alloc (.cells #[.int .i64 Vo, .int .i64 D, .int .i64 Hd, .int .i64 H, .int .i64 L] 23) = w0 at *
  have B1 : Below w0.heap.size w0 (w0.alloc (.cells #[.slice ta tn tz, .slice ka kn kz, .slice va vn vz] 29)) := (Below.refl _ _).alloc (Nat.le_refl _) _
  generalize hw1 : w0.alloc (.cells #[.slice ta tn tz, .slice ka kn kz, .slice va vn vz] 29) = w1 at *
  have BB := below_then B0 B1
  go_enter Try.func7, Try.ntmps7
  by_cases h1 : page < 1
  · go_wp2_with fail
    go_ret2
    exact ⟨rfl, BB⟩
  · have h2 : (16 : Int) < page := by omega
    go_wp2_with fail
    go_ret2
    exact ⟨rfl, BB⟩
def smC : Array Value := #[.int .i64 9, .int .i64 1, .int .i64 1, .int .i64 1, .int .i64 1]
set_option maxRecDepth 100000 in
set_option maxHeartbeats 1600000 in
theorem small11_any (w : World) : Calls Try.prog 29 #[] w fun e w' => e = .returned (.agg smC) ∧ Below w.heap.size w w' := by
  have XZ := blk_new w 23 #[.int .i64 0, .int .i64 0, .int .i64 0, .int .i64 0, .int .i64 0]
  have BZ : Below w.heap.size w (w.alloc (.cells #[.int .i64 0, .int .i64 0, .int .i64 0, .int .i64 0, .int .i64 0] 23)) := (Below.refl _ _).alloc (Nat.le_refl _) _
  generalize hwz : w.alloc (.cells #[.int .i64 0, .int .i64 0, .int .i64 0, .int .i64 0, .int .i64 0] 23) = wz at *
  have hlr : (loadVar 23 ⟨w.heap.size, 0, none⟩).run Try.prog (wz.setRow w.heap.size smC) = .ok (.agg smC) (wz.setRow w.heap.size smC) := run_loadVar_row _ _ _ _ smC _ _ (XZ.row smC) Try.underlying23 rfl (by exact Try.infoC)
  have BF := below_setRow BZ (Nat.le_refl _) smC
  go_enter Try.func29, Try.ntmps29
  go_wp2_with (refine wpList_store_row rfl 23 _ _ rfl w.heap.size smC rfl rfl 23 _ XZ (by exact Try.infoC) rfl (by simp [smC, Value.oneCell']) ?_)
  refine bodyPost_ret (results_cB (by rfl) _ _ _ _ rfl hlr) rfl ?_
  exact ⟨rfl, BF⟩
end Go.Proofs.Ytpplnjmjldhlbaa

/- Package block: law 11's ref0 and awake. -/
namespace Go.Proofs.Ytpplnjmjldhlbaa
open Go.ChangeShapes Go.WideShapes Go.ChangeAt Go.RowKit
theorem num_arg {w : World} {g : Nat} {x : Int} (h : Blk w g 71 #[.int .i32 x]) (hx : -2147483648 ≤ x ∧ x ≤ 2147483647) : Arg w (some ⟨g, 0, none⟩) 1 1 [x] :=
  (show Fresh w g g 1 1 [x] from ⟨Nat.le_refl _, rfl, Nat.le_refl _, by omega, fun y hy => by
    rw [List.mem_singleton] at hy
    subst hy
    exact hx, ⟨_, h, rfl, fun t ht => by
    obtain rfl : t = 0 := (by omega)
    rfl⟩⟩).arg
theorem grid_of {w : World} {g : Nat} {cs : Array Value} {R : List (List Int)} (h : Blk w g 72 cs) (hn : R.length ≤ 4096) (hr : ∀ t, t < R.length → ∃ gr n, cs[t]? = some (.slice (some ⟨gr, 0, none⟩) n n) ∧ Arg w (some ⟨gr, 0, none⟩) n n (rowOf R t)) : GridAt w (some ⟨g, 0, none⟩) R.length R :=
  ⟨rfl, by omega, fun _ => ⟨g, 0, rfl, fun t ht => by
    obtain ⟨gr, n, e, A⟩ := hr t ht
    exact ⟨_, n, n, by rw [Nat.zero_add]; exact h.cell t e, A⟩⟩⟩
theorem cube_one {w : World} {g gr : Nat} {R : List (List Int)} (h : Blk w g 73 #[.slice (some ⟨gr, 0, none⟩) R.length R.length]) (hn : R.length ≤ 4096) (G : GridAt w (some ⟨gr, 0, none⟩) R.length R) : CubeAt w (some ⟨g, 0, none⟩) 1 [R] :=
  ⟨rfl, by omega, fun _ => ⟨g, 0, rfl, fun t X hX => by
    have ht : t = 0 := by have := (List.getElem?_eq_some_iff.1 hX).1; simpa using this
    subst ht
    simp at hX
    subst hX
    exact ⟨_, R.length, R.length, h.cell 0 rfl, (fun h => by cases h), Nat.le_refl _, by omega, G⟩⟩⟩
theorem ints_of {w : World} {g : Nat} {A : List Int} (h : Blk w g 3 (A.map (Value.int .i64)).toArray) (hn : A.length ≤ 4096) (hs : ∀ k, -9223372036854775808 ≤ el A k ∧ el A k ≤ 9223372036854775807) : IArg w (some ⟨g, 0, none⟩) A.length A.length A :=
  ⟨⟨rfl, by omega, hs, fun _ => ⟨g, 0, rfl, fun t ht => by
    rw [Nat.zero_add]
    refine h.cell t ?_
    unfold el
    rw [List.getD_eq_getElem?_getD, List.getElem?_eq_getElem ht]
    simp [ht]⟩⟩, Nat.le_refl _, by omega, fun h => by cases h⟩
set_option maxRecDepth 100000 in
set_option maxHeartbeats 3200000 in
theorem ref11_any (w : World) : Calls Try.prog 30 #[] w fun e w' => ∃ p : PgV, e = .returned (.agg p.cells) ∧ PgAt w' p ⟨[5], 0, [[[1]]], [[[-1]]]⟩ ∧ Below w.heap.size w w' := by
  have X0 := blk_new w 47 #[.slice none 0 0, .int .i64 0, .slice none 0 0, .slice none 0 0]
  have BB : Below w.heap.size w (w.alloc (.cells #[.slice none 0 0, .int .i64 0, .slice none 0 0, .slice none 0 0] 47)) := (Below.refl _ _).alloc (Nat.le_refl _) _
  have z0 : (w.alloc (.cells #[.slice none 0 0, .int .i64 0, .slice none 0 0, .slice none 0 0] 47)).heap.size = w.heap.size + 1 := by simp
  generalize hw0 : w.alloc (.cells #[.slice none 0 0, .int .i64 0, .slice none 0 0, .slice none 0 0] 47) = w0 at *
  have X1 := blk_new w0 3 #[.int .i64 5]
  have Bz : Below w0.heap.size w0 (w0.alloc (.cells #[.int .i64 5] 3)) := (Below.refl _ _).alloc (Nat.le_refl _) _
  have z1 : (w0.alloc (.cells #[.int .i64 5] 3)).heap.size = w.heap.size + 2 := by simp; omega
  rw [z0] at X1
  replace BB := below_then BB Bz
  replace X0 := X0.below Bz
  clear Bz
  generalize hv1 : w0.alloc (.cells #[.int .i64 5] 3) = v1 at *
  have X2 := blk_new v1 71 #[.int .i32 1]
  have Bz : Below v1.heap.size v1 (v1.alloc (.cells #[.int .i32 1] 71)) := (Below.refl _ _).alloc (Nat.le_refl _) _
  have z2 : (v1.alloc (.cells #[.int .i32 1] 71)).heap.size = w.heap.size + 3 := by simp; omega
  rw [z1] at X2
  replace X1 := X1.below Bz
  replace BB := below_then BB Bz
  replace X0 := X0.below Bz
  clear Bz
  generalize hv2 : v1.alloc (.cells #[.int .i32 1] 71) = v2 at *
  have X3 := blk_new v2 72 #[.slice (some ⟨w.heap.size + 2, 0, none⟩) 1 1]
  have Bz : Below v2.heap.size v2 (v2.alloc (.cells #[.slice (some ⟨w.heap.size + 2, 0, none⟩) 1 1] 72)) := (Below.refl _ _).alloc (Nat.le_refl _) _
  have z3 : (v2.alloc (.cells #[.slice (some ⟨w.heap.size + 2, 0, none⟩) 1 1] 72)).heap.size = w.heap.size + 4 := by simp; omega
  rw [z2] at X3
  replace X1 := X1.below Bz
  replace X2 := X2.below Bz
  replace BB := below_then BB Bz
  replace X0 := X0.below Bz
  clear Bz
  generalize hv3 : v2.alloc (.cells #[.slice (some ⟨w.heap.size + 2, 0, none⟩) 1 1] 72) = v3 at *
  have X4 := blk_new v3 73 #[.slice (some ⟨w.heap.size + 3, 0, none⟩) 1 1]
  have Bz : Below v3.heap.size v3 (v3.alloc (.cells #[.slice (some ⟨w.heap.size + 3, 0, none⟩) 1 1] 73)) := (Below.refl _ _).alloc (Nat.le_refl _) _
  have z4 : (v3.alloc (.cells #[.slice (some ⟨w.heap.size + 3, 0, none⟩) 1 1] 73)).heap.size = w.heap.size + 5 := by simp; omega
  rw [z3] at X4
  replace X1 := X1.below Bz
  replace X2 := X2.below Bz
  replace X3 := X3.below Bz
  replace BB := below_then BB Bz
  replace X0 := X0.below Bz
  clear Bz
  generalize hv4 : v3.alloc (.cells #[.slice (some ⟨w.heap.size + 3, 0, none⟩) 1 1] 73) = v4 at *
  have X5 := blk_new v4 71 #[.int .i32 (-1)]
  have Bz : Below v4.heap.size v4 (v4.alloc (.cells #[.int .i32 (-1)] 71)) := (Below.refl _ _).alloc (Nat.le_refl _) _
  have z5 : (v4.alloc (.cells #[.int .i32 (-1)] 71)).heap.size = w.heap.size + 6 := by simp; omega
  rw [z4] at X5
  replace X1 := X1.below Bz
  replace X2 := X2.below Bz
  replace X3 := X3.below Bz
  replace X4 := X4.below Bz
  replace BB := below_then BB Bz
  replace X0 := X0.below Bz
  clear Bz
  generalize hv5 : v4.alloc (.cells #[.int .i32 (-1)] 71) = v5 at *
  have X6 := blk_new v5 72 #[.slice (some ⟨w.heap.size + 5, 0, none⟩) 1 1]
  have Bz : Below v5.heap.size v5 (v5.alloc (.cells #[.slice (some ⟨w.heap.size + 5, 0, none⟩) 1 1] 72)) := (Below.refl _ _).alloc (Nat.le_refl _) _
  have z6 : (v5.alloc (.cells #[.slice (some ⟨w.heap.size + 5, 0, none⟩) 1 1] 72)).heap.size = w.heap.size + 7 := by simp; omega
  rw [z5] at X6
  replace X1 := X1.below Bz
  replace X2 := X2.below Bz
  replace X3 := X3.below Bz
  replace X4 := X4.below Bz
  replace X5 := X5.below Bz
  replace BB := below_then BB Bz
  replace X0 := X0.below Bz
  clear Bz
  generalize hv6 : v5.alloc (.cells #[.slice (some ⟨w.heap.size + 5, 0, none⟩) 1 1] 72) = v6 at *
  have X7 := blk_new v6 73 #[.slice (some ⟨w.heap.size + 6, 0, none⟩) 1 1]
  have Bz : Below v6.heap.size v6 (v6.alloc (.cells #[.slice (some ⟨w.heap.size + 6, 0, none⟩) 1 1] 73)) := (Below.refl _ _).alloc (Nat.le_refl _) _
  have z7 : (v6.alloc (.cells #[.slice (some ⟨w.heap.size + 6, 0, none⟩) 1 1] 73)).heap.size = w.heap.size + 8 := by simp; omega
  rw [z6] at X7
  replace X1 := X1.below Bz
  replace X2 := X2.below Bz
  replace X3 := X3.below Bz
  replace X4 := X4.below Bz
  replace X5 := X5.below Bz
  replace X6 := X6.below Bz
  replace BB := below_then BB Bz
  replace X0 := X0.below Bz
  clear Bz
  generalize hv7 : v6.alloc (.cells #[.slice (some ⟨w.heap.size + 6, 0, none⟩) 1 1] 73) = v7 at *
  have hlr : (loadVar 47 ⟨w.heap.size, 0, none⟩).run Try.prog (v7.setRow w.heap.size #[.slice (some ⟨w.heap.size + 1, 0, none⟩) 1 1, .int .i64 0, .slice (some ⟨w.heap.size + 4, 0, none⟩) 1 1, .slice (some ⟨w.heap.size + 7, 0, none⟩) 1 1]) = .ok (.agg #[.slice (some ⟨w.heap.size + 1, 0, none⟩) 1 1, .int .i64 0, .slice (some ⟨w.heap.size + 4, 0, none⟩) 1 1, .slice (some ⟨w.heap.size + 7, 0, none⟩) 1 1]) (v7.setRow w.heap.size #[.slice (some ⟨w.heap.size + 1, 0, none⟩) 1 1, .int .i64 0, .slice (some ⟨w.heap.size + 4, 0, none⟩) 1 1, .slice (some ⟨w.heap.size + 7, 0, none⟩) 1 1]) := load_pg (X0.row _) rfl
  have BF := below_setRow BB (Nat.le_refl _) #[.slice (some ⟨w.heap.size + 1, 0, none⟩) 1 1, .int .i64 0, .slice (some ⟨w.heap.size + 4, 0, none⟩) 1 1, .slice (some ⟨w.heap.size + 7, 0, none⟩) 1 1]
  have oth : ∀ b, b ≠ w.heap.size → (v7.setRow w.heap.size #[.slice (some ⟨w.heap.size + 1, 0, none⟩) 1 1, .int .i64 0, .slice (some ⟨w.heap.size + 4, 0, none⟩) 1 1, .slice (some ⟨w.heap.size + 7, 0, none⟩) 1 1]).heap[b]? = v7.heap[b]? := fun b hb => setRow_other _ _ _ _ hb
  replace X1 := X1.of_block (oth _ (by omega))
  replace X2 := X2.of_block (oth _ (by omega))
  replace X3 := X3.of_block (oth _ (by omega))
  replace X4 := X4.of_block (oth _ (by omega))
  replace X5 := X5.of_block (oth _ (by omega))
  replace X6 := X6.of_block (oth _ (by omega))
  replace X7 := X7.of_block (oth _ (by omega))
  go_enter Try.func30, Try.ntmps30
  go_wp2_with (refine wpList_store_row rfl 47 _ _ rfl w.heap.size #[.slice (some ⟨w.heap.size + 1, 0, none⟩) 1 1, .int .i64 0, .slice (some ⟨w.heap.size + 4, 0, none⟩) 1 1, .slice (some ⟨w.heap.size + 7, 0, none⟩) 1 1] rfl rfl 47 _ X0 (by exact Try.infoPg) rfl (by simp [Value.oneCell']) ?_)
  refine bodyPost_ret (results_cB (by rfl) _ _ _ _ rfl hlr) rfl ?_
  refine ⟨⟨⟨(some ⟨w.heap.size + 1, 0, none⟩), 1, 1⟩, 0, ⟨(some ⟨w.heap.size + 4, 0, none⟩), 1, 1⟩, ⟨(some ⟨w.heap.size + 7, 0, none⟩), 1, 1⟩⟩, rfl, ⟨?_, rfl, ?_, ?_⟩, BF⟩
  · exact ints_of (A := [5]) X1 (by simp) (fun k => by
      rcases k with _ | k
      · simp [el]
      · rw [el_over (by simp)]; omega)
  · exact cube_one (R := [[1]]) X4 (by simp) (grid_of (R := [[1]]) X3 (by simp) (fun t ht => by
      obtain rfl : t = 0 := by simpa using ht
      exact ⟨_, 1, rfl, num_arg X2 (by omega)⟩))
  · exact cube_one (R := [[-1]]) X7 (by simp) (grid_of (R := [[-1]]) X6 (by simp) (fun t ht => by
      obtain rfl : t = 0 := by simpa using ht
      exact ⟨_, 1, rfl, num_arg X5 (by omega)⟩))
theorem fit11 : VwFit 9 1 1 ⟨[5, 6, 7], [[[1], [2], [3]]], [[[4], [5], [6]]]⟩ := ⟨by decide, by decide, rfl, rfl, fun R hR => by
    simp only [List.mem_singleton] at hR
    subst hR
    exact ⟨rfl, fun t ht => by
      have ht3 : t < 3 := ht
      match t, ht3 with
      | 0, _ => rfl
      | 1, _ => rfl
      | 2, _ => rfl⟩, fun R hR => by
    simp only [List.mem_singleton] at hR
    subst hR
    exact ⟨rfl, fun t ht => by
      have ht3 : t < 3 := ht
      match t, ht3 with
      | 0, _ => rfl
      | 1, _ => rfl
      | 2, _ => rfl⟩⟩
set_option maxRecDepth 100000 in
set_option maxHeartbeats 6400000 in
theorem awake11_any (w : World) : Calls Try.prog 9 #[] w fun e w' => e = .returned (.bool true) ∧ Below w.heap.size w w' := by
  have BB : Below w.heap.size w w := Below.refl _ _
  have X1 := blk_new w 3 #[.int .i64 5, .int .i64 6, .int .i64 7]
  have Bz : Below w.heap.size w (w.alloc (.cells #[.int .i64 5, .int .i64 6, .int .i64 7] 3)) := (Below.refl _ _).alloc (Nat.le_refl _) _
  have z1 : (w.alloc (.cells #[.int .i64 5, .int .i64 6, .int .i64 7] 3)).heap.size = w.heap.size + 1 := by simp
  replace BB := below_then BB Bz
  clear Bz
  generalize hv1 : w.alloc (.cells #[.int .i64 5, .int .i64 6, .int .i64 7] 3) = v1 at *
  have X2 := blk_new v1 71 #[.int .i32 1]
  have Bz : Below v1.heap.size v1 (v1.alloc (.cells #[.int .i32 1] 71)) := (Below.refl _ _).alloc (Nat.le_refl _) _
  have z2 : (v1.alloc (.cells #[.int .i32 1] 71)).heap.size = w.heap.size + 2 := by simp; omega
  rw [z1] at X2
  replace X1 := X1.below Bz
  replace BB := below_then BB Bz
  clear Bz
  generalize hv2 : v1.alloc (.cells #[.int .i32 1] 71) = v2 at *
  have X3 := blk_new v2 71 #[.int .i32 2]
  have Bz : Below v2.heap.size v2 (v2.alloc (.cells #[.int .i32 2] 71)) := (Below.refl _ _).alloc (Nat.le_refl _) _
  have z3 : (v2.alloc (.cells #[.int .i32 2] 71)).heap.size = w.heap.size + 3 := by simp; omega
  rw [z2] at X3
  replace X1 := X1.below Bz
  replace X2 := X2.below Bz
  replace BB := below_then BB Bz
  clear Bz
  generalize hv3 : v2.alloc (.cells #[.int .i32 2] 71) = v3 at *
  have X4 := blk_new v3 71 #[.int .i32 3]
  have Bz : Below v3.heap.size v3 (v3.alloc (.cells #[.int .i32 3] 71)) := (Below.refl _ _).alloc (Nat.le_refl _) _
  have z4 : (v3.alloc (.cells #[.int .i32 3] 71)).heap.size = w.heap.size + 4 := by simp; omega
  rw [z3] at X4
  replace X1 := X1.below Bz
  replace X2 := X2.below Bz
  replace X3 := X3.below Bz
  replace BB := below_then BB Bz
  clear Bz
  generalize hv4 : v3.alloc (.cells #[.int .i32 3] 71) = v4 at *
  have X5 := blk_new v4 72 #[.slice (some ⟨w.heap.size + 1, 0, none⟩) 1 1, .slice (some ⟨w.heap.size + 2, 0, none⟩) 1 1, .slice (some ⟨w.heap.size + 3, 0, none⟩) 1 1]
  have Bz : Below v4.heap.size v4 (v4.alloc (.cells #[.slice (some ⟨w.heap.size + 1, 0, none⟩) 1 1, .slice (some ⟨w.heap.size + 2, 0, none⟩) 1 1, .slice (some ⟨w.heap.size + 3, 0, none⟩) 1 1] 72)) := (Below.refl _ _).alloc (Nat.le_refl _) _
  have z5 : (v4.alloc (.cells #[.slice (some ⟨w.heap.size + 1, 0, none⟩) 1 1, .slice (some ⟨w.heap.size + 2, 0, none⟩) 1 1, .slice (some ⟨w.heap.size + 3, 0, none⟩) 1 1] 72)).heap.size = w.heap.size + 5 := by simp; omega
  rw [z4] at X5
  replace X1 := X1.below Bz
  replace X2 := X2.below Bz
  replace X3 := X3.below Bz
  replace X4 := X4.below Bz
  replace BB := below_then BB Bz
  clear Bz
  generalize hv5 : v4.alloc (.cells #[.slice (some ⟨w.heap.size + 1, 0, none⟩) 1 1, .slice (some ⟨w.heap.size + 2, 0, none⟩) 1 1, .slice (some ⟨w.heap.size + 3, 0, none⟩) 1 1] 72) = v5 at *
  have X6 := blk_new v5 73 #[.slice (some ⟨w.heap.size + 4, 0, none⟩) 3 3]
  have Bz : Below v5.heap.size v5 (v5.alloc (.cells #[.slice (some ⟨w.heap.size + 4, 0, none⟩) 3 3] 73)) := (Below.refl _ _).alloc (Nat.le_refl _) _
  have z6 : (v5.alloc (.cells #[.slice (some ⟨w.heap.size + 4, 0, none⟩) 3 3] 73)).heap.size = w.heap.size + 6 := by simp; omega
  rw [z5] at X6
  replace X1 := X1.below Bz
  replace X2 := X2.below Bz
  replace X3 := X3.below Bz
  replace X4 := X4.below Bz
  replace X5 := X5.below Bz
  replace BB := below_then BB Bz
  clear Bz
  generalize hv6 : v5.alloc (.cells #[.slice (some ⟨w.heap.size + 4, 0, none⟩) 3 3] 73) = v6 at *
  have X7 := blk_new v6 71 #[.int .i32 4]
  have Bz : Below v6.heap.size v6 (v6.alloc (.cells #[.int .i32 4] 71)) := (Below.refl _ _).alloc (Nat.le_refl _) _
  have z7 : (v6.alloc (.cells #[.int .i32 4] 71)).heap.size = w.heap.size + 7 := by simp; omega
  rw [z6] at X7
  replace X1 := X1.below Bz
  replace X2 := X2.below Bz
  replace X3 := X3.below Bz
  replace X4 := X4.below Bz
  replace X5 := X5.below Bz
  replace X6 := X6.below Bz
  replace BB := below_then BB Bz
  clear Bz
  generalize hv7 : v6.alloc (.cells #[.int .i32 4] 71) = v7 at *
  have X8 := blk_new v7 71 #[.int .i32 5]
  have Bz : Below v7.heap.size v7 (v7.alloc (.cells #[.int .i32 5] 71)) := (Below.refl _ _).alloc (Nat.le_refl _) _
  have z8 : (v7.alloc (.cells #[.int .i32 5] 71)).heap.size = w.heap.size + 8 := by simp; omega
  rw [z7] at X8
  replace X1 := X1.below Bz
  replace X2 := X2.below Bz
  replace X3 := X3.below Bz
  replace X4 := X4.below Bz
  replace X5 := X5.below Bz
  replace X6 := X6.below Bz
  replace X7 := X7.below Bz
  replace BB := below_then BB Bz
  clear Bz
  generalize hv8 : v7.alloc (.cells #[.int .i32 5] 71) = v8 at *
  have X9 := blk_new v8 71 #[.int .i32 6]
  have Bz : Below v8.heap.size v8 (v8.alloc (.cells #[.int .i32 6] 71)) := (Below.refl _ _).alloc (Nat.le_refl _) _
  have z9 : (v8.alloc (.cells #[.int .i32 6] 71)).heap.size = w.heap.size + 9 := by simp; omega
  rw [z8] at X9
  replace X1 := X1.below Bz
  replace X2 := X2.below Bz
  replace X3 := X3.below Bz
  replace X4 := X4.below Bz
  replace X5 := X5.below Bz
  replace X6 := X6.below Bz
  replace X7 := X7.below Bz
  replace X8 := X8.below Bz
  replace BB := below_then BB Bz
  clear Bz
  generalize hv9 : v8.alloc (.cells #[.int .i32 6] 71) = v9 at *
  have X10 := blk_new v9 72 #[.slice (some ⟨w.heap.size + 6, 0, none⟩) 1 1, .slice (some ⟨w.heap.size + 7, 0, none⟩) 1 1, .slice (some ⟨w.heap.size + 8, 0, none⟩) 1 1]
  have Bz : Below v9.heap.size v9 (v9.alloc (.cells #[.slice (some ⟨w.heap.size + 6, 0, none⟩) 1 1, .slice (some ⟨w.heap.size + 7, 0, none⟩) 1 1, .slice (some ⟨w.heap.size + 8, 0, none⟩) 1 1] 72)) := (Below.refl _ _).alloc (Nat.le_refl _) _
  have z10 : (v9.alloc (.cells #[.slice (some ⟨w.heap.size + 6, 0, none⟩) 1 1, .slice (some ⟨w.heap.size + 7, 0, none⟩) 1 1, .slice (some ⟨w.heap.size + 8, 0, none⟩) 1 1] 72)).heap.size = w.heap.size + 10 := by simp; omega
  rw [z9] at X10
  replace X1 := X1.below Bz
  replace X2 := X2.below Bz
  replace X3 := X3.below Bz
  replace X4 := X4.below Bz
  replace X5 := X5.below Bz
  replace X6 := X6.below Bz
  replace X7 := X7.below Bz
  replace X8 := X8.below Bz
  replace X9 := X9.below Bz
  replace BB := below_then BB Bz
  clear Bz
  generalize hv10 : v9.alloc (.cells #[.slice (some ⟨w.heap.size + 6, 0, none⟩) 1 1, .slice (some ⟨w.heap.size + 7, 0, none⟩) 1 1, .slice (some ⟨w.heap.size + 8, 0, none⟩) 1 1] 72) = v10 at *
  have X11 := blk_new v10 73 #[.slice (some ⟨w.heap.size + 9, 0, none⟩) 3 3]
  have Bz : Below v10.heap.size v10 (v10.alloc (.cells #[.slice (some ⟨w.heap.size + 9, 0, none⟩) 3 3] 73)) := (Below.refl _ _).alloc (Nat.le_refl _) _
  have z11 : (v10.alloc (.cells #[.slice (some ⟨w.heap.size + 9, 0, none⟩) 3 3] 73)).heap.size = w.heap.size + 11 := by simp; omega
  rw [z10] at X11
  replace X1 := X1.below Bz
  replace X2 := X2.below Bz
  replace X3 := X3.below Bz
  replace X4 := X4.below Bz
  replace X5 := X5.below Bz
  replace X6 := X6.below Bz
  replace X7 := X7.below Bz
  replace X8 := X8.below Bz
  replace X9 := X9.below Bz
  replace X10 := X10.below Bz
  replace BB := below_then BB Bz
  clear Bz
  generalize hv11 : v10.alloc (.cells #[.slice (some ⟨w.heap.size + 9, 0, none⟩) 3 3] 73) = v11 at *
  have HV : Hid (∀ wx, Below v11.heap.size v11 wx → VwAt wx ⟨⟨(some ⟨w.heap.size, 0, none⟩), 3, 3⟩, ⟨(some ⟨w.heap.size + 5, 0, none⟩), 1, 1⟩, ⟨(some ⟨w.heap.size + 10, 0, none⟩), 1, 1⟩⟩ ⟨[5, 6, 7], [[[1], [2], [3]]], [[[4], [5], [6]]]⟩) := fun wx hb => VwAt.below ⟨ints_of (A := [5, 6, 7]) X1 (by simp) (fun k => by
      rcases k with _ | _ | _ | k
      · simp [el]
      · simp [el]
      · simp [el]
      · rw [el_over (by simp)]; omega), cube_one (R := [[1], [2], [3]]) X6 (by simp) (grid_of (R := [[1], [2], [3]]) X5 (by simp) (fun t ht => by
      have ht3 : t < 3 := ht
      match t, ht3 with
      | 0, _ => exact ⟨_, 1, rfl, num_arg X2 (by omega)⟩
      | 1, _ => exact ⟨_, 1, rfl, num_arg X3 (by omega)⟩
      | 2, _ => exact ⟨_, 1, rfl, num_arg X4 (by omega)⟩)), cube_one (R := [[4], [5], [6]]) X11 (by simp) (grid_of (R := [[4], [5], [6]]) X10 (by simp) (fun t ht => by
      have ht3 : t < 3 := ht
      match t, ht3 with
      | 0, _ => exact ⟨_, 1, rfl, num_arg X7 (by omega)⟩
      | 1, _ => exact ⟨_, 1, rfl, num_arg X8 (by omega)⟩
      | 2, _ => exact ⟨_, 1, rfl, num_arg X9 (by omega)⟩))⟩ hb
  clear X1 X2 X3 X4 X5 X6 X7 X8 X9 X10 X11
  have XZ := blk_new v11 29 #[.slice none 0 0, .slice none 0 0, .slice none 0 0]
  have BZ : Below v11.heap.size v11 (v11.alloc (.cells #[.slice none 0 0, .slice none 0 0, .slice none 0 0] 29)) := (Below.refl _ _).alloc (Nat.le_refl _) _
  rw [z11] at XZ
  generalize hwz : v11.alloc (.cells #[.slice none 0 0, .slice none 0 0, .slice none 0 0] 29) = wz at *
  have XV := XZ.row #[.slice (some ⟨w.heap.size, 0, none⟩) 3 3, .slice (some ⟨w.heap.size + 5, 0, none⟩) 1 1, .slice (some ⟨w.heap.size + 10, 0, none⟩) 1 1]
  have BR := below_setRow BZ (by omega : v11.heap.size ≤ w.heap.size + 11) #[.slice (some ⟨w.heap.size, 0, none⟩) 3 3, .slice (some ⟨w.heap.size + 5, 0, none⟩) 1 1, .slice (some ⟨w.heap.size + 10, 0, none⟩) 1 1]
  generalize hwy : wz.setRow (w.heap.size + 11) #[.slice (some ⟨w.heap.size, 0, none⟩) 3 3, .slice (some ⟨w.heap.size + 5, 0, none⟩) 1 1, .slice (some ⟨w.heap.size + 10, 0, none⟩) 1 1] = w3 at *
  have HSP : Hid (∀ wx, Below v11.heap.size v11 wx → Calls Try.prog 7 #[.agg #[.int .i64 9, .int .i64 1, .int .i64 1, .int .i64 1, .int .i64 1], .agg #[.slice (some ⟨w.heap.size, 0, none⟩) 3 3, .slice (some ⟨w.heap.size + 5, 0, none⟩) 1 1, .slice (some ⟨w.heap.size + 10, 0, none⟩) 1 1], .int .i64 2] wx fun e w' => ∃ a c, e = .returned (.tuple #[.slice a 2 c, .int .i64 0]) ∧ New wx.heap.size w' (fun w => PgsAt w ⟨a, 2, c⟩ [⟨[5, 6], 0, [[[1], [2]]], [[[4], [5]]]⟩, ⟨[5, 6, 7], 2, [[[3]]], [[[6]]]⟩]) ∧ Below wx.heap.size wx w') := fun wx hb =>
    split_any 9 1 1 1 1 ⟨⟨(some ⟨w.heap.size, 0, none⟩), 3, 3⟩, ⟨(some ⟨w.heap.size + 5, 0, none⟩), 1, 1⟩, ⟨(some ⟨w.heap.size + 10, 0, none⟩), 1, 1⟩⟩ ⟨[5, 6, 7], [[[1], [2], [3]]], [[[4], [5], [6]]]⟩ 2 wx (HV.out wx hb) fit11 (by omega) (by omega) (by omega) (by omega)
  have D3 := BR
  clear BZ
  have HBB : Hid (Below w.heap.size w v11) := BB
  go_enter Try.func9, Try.ntmps9
  go_upto_region 2 with (refine wpList_store_row rfl 29 _ _ rfl (w.heap.size + 11) #[.slice (some ⟨w.heap.size, 0, none⟩) 3 3, .slice (some ⟨w.heap.size + 5, 0, none⟩) 1 1, .slice (some ⟨w.heap.size + 10, 0, none⟩) 1 1] rfl rfl 29 _ XZ (by exact Try.infoV) rfl (by simp [Value.oneCell']) ?_; rw [hwy])
  clear hwz hwy XZ BR hv1 hv2 hv3 hv4 hv5 hv6 hv7 hv8 hv9 hv10 hv11 z1 z2 z3 z4 z5 z6 z7 z8 z9 z10 z11 BB
  have BD : Below w3.heap.size w3 w3.drew := (Below.refl _ w3).drew
  have XDv := XV.below BD
  have DD := below_then D3 BD
  refine wp_region_held_drew (S := fun w' => Blk w' (w.heap.size + 11) 29 #[.slice (some ⟨w.heap.size, 0, none⟩) 3 3, .slice (some ⟨w.heap.size + 5, 0, none⟩) 1 1, .slice (some ⟨w.heap.size + 10, 0, none⟩) 1 1]) (by kernel_rfl) (XDv) (fun hHeld => ?_)
  generalize hA : w3.drew = wA at *
  clear hA XV D3 BD
  refine wpAnyH_take (i := 1) (v := (.agg #[.slice (some ⟨w.heap.size, 0, none⟩) 3 3, .slice (some ⟨w.heap.size + 5, 0, none⟩) 1 1, .slice (some ⟨w.heap.size + 10, 0, none⟩) 1 1])) rfl (by kernel_rfl) (by kernel_rfl) (by kernel_rfl) (fun _ _ _ h => h) (Or.inl ⟨by rfl, ?_⟩) (by assumption) ?_
  · intro w' hSw
    have e0 : w'.cell? ⟨w.heap.size + 11, 0, none⟩ = _ := hSw.cell 0 rfl
    have e1 : w'.cell? ⟨w.heap.size + 11, 1, none⟩ = _ := hSw.cell 1 rfl
    have e2 : w'.cell? ⟨w.heap.size + 11, 2, none⟩ = _ := hSw.cell 2 rfl
    go_simp
  simp only [List.getElem_toArray, List.getElem_cons_succ, List.getElem_cons_zero, Act.put, List.setIfInBounds_toArray, List.set_cons_zero, List.set_cons_succ]
  refine wpAnyH_ready (rs := [0]) (by kernel_rfl) (by simp) ?_
  refine AllReadyH.cons rfl (fun Kc hKc => ?_) AllReadyH.nil
  simp only [List.getElem_toArray, List.getElem_cons_zero]
  rw [if_pos (by rfl)]
  go_wp2_with fail
  refine (small11_any wA).mono ?_
  rintro e w4 ⟨rfl, B4⟩
  rw [show smC = #[.int .i64 9, .int .i64 1, .int .i64 1, .int .i64 1, .int .i64 1] from rfl]
  have X4' := XDv.below B4
  have D4 := below_then DD B4
  go_wp2_with fail
  refine hKc.out _ _ (X4') (fun hHeld => ?_)
  clear hKc Kc
  have SP := HSP.out w4 D4
  refine wpAnyH_ready (rs := [2]) (by kernel_rfl) (by simp) ?_
  refine AllReadyH.cons rfl (fun Kc hKc => ?_) AllReadyH.nil
  simp only [List.getElem_toArray, List.getElem_cons_succ, List.getElem_cons_zero]
  rw [if_pos (by rfl)]
  go_wp2_with fail
  refine SP.mono ?_
  clear SP
  rintro e w5 ⟨a, c, rfl, N5, B5⟩
  have X5' := X4'.below B5
  have D5 := below_then D4 B5
  have P5 := N5.now
  go_wp2_with fail
  refine hKc.out _ _ (X5') (fun hHeld => ?_)
  clear hKc Kc
  refine wpAnyH_take (i := 3) (v := (.tuple #[.slice a 2 c, .int .i64 0])) rfl (by kernel_rfl) (by kernel_rfl) (by kernel_rfl) (fun _ _ _ h => h) (Or.inl ⟨by rfl, ?_⟩) (by assumption) ?_
  · intro w' hSw
    go_simp
  simp only [List.getElem_toArray, List.getElem_cons_succ, List.getElem_cons_zero, Act.put, List.setIfInBounds_toArray, List.set_cons_zero, List.set_cons_succ]
  refine wpAnyH_take (i := 4) (v := (.slice a 2 c)) rfl (by kernel_rfl) (by kernel_rfl) (by kernel_rfl) (fun _ _ _ h => h) (Or.inl ⟨by rfl, ?_⟩) (by assumption) ?_
  · intro w' hSw
    go_simp
  simp only [List.getElem_toArray, List.getElem_cons_succ, List.getElem_cons_zero, Act.put, List.setIfInBounds_toArray, List.set_cons_zero, List.set_cons_succ]
  refine wpAnyH_take (i := 5) (v := (.int .i64 0)) rfl (by kernel_rfl) (by kernel_rfl) (by kernel_rfl) (fun _ _ _ h => h) (Or.inl ⟨by rfl, ?_⟩) (by assumption) ?_
  · intro w' hSw
    go_simp
  simp only [List.getElem_toArray, List.getElem_cons_succ, List.getElem_cons_zero, Act.put, List.setIfInBounds_toArray, List.set_cons_zero, List.set_cons_succ]
  refine wpAnyH_ready (rs := [6]) (by kernel_rfl) (by simp) ?_
  refine AllReadyH.cons rfl (fun Kc hKc => ?_) AllReadyH.nil
  simp only [List.getElem_toArray, List.getElem_cons_succ, List.getElem_cons_zero]
  rw [if_pos (by rfl)]
  go_wp2_with fail
  refine hKc.out _ _ X5' (fun hHeld => ?_)
  clear hKc Kc
  refine wpAnyH_ready (rs := [7]) (by kernel_rfl) (by simp) ?_
  refine AllReadyH.cons rfl (fun Kc hKc => ?_) AllReadyH.nil
  simp only [List.getElem_toArray, List.getElem_cons_succ, List.getElem_cons_zero]
  rw [if_pos (by rfl)]
  go_wp2_with fail
  refine hKc.out _ _ X5' (fun hHeld => ?_)
  clear hKc Kc
  refine wpAnyH_done (by kernel_rfl) ?_ _
  go_wp2_with fail
  refine (small11_any _).mono ?_
  rintro e w6 ⟨rfl, B6⟩
  have RD := read_short 9 1 1 1 1 [] w6 (by simp)
  rw [show smC = #[.int .i64 9, .int .i64 1, .int .i64 1, .int .i64 1, .int .i64 1] from rfl]
  go_wp2_with fail
  refine RD.mono ?_
  rintro e w7 ⟨rfl, B7⟩
  have XN := blk_new w7 47 #[.slice none 0 0, .int .i64 0, .slice none 0 0, .slice none 0 0]
  have BN : Below w7.heap.size w7 (w7.alloc (.cells #[.slice none 0 0, .int .i64 0, .slice none 0 0, .slice none 0 0] 47)) := (Below.refl _ _).alloc (Nat.le_refl _) _
  generalize hwn : w7.alloc (.cells #[.slice none 0 0, .int .i64 0, .slice none 0 0, .slice none 0 0] 47) = w8 at *
  have BM := below_setRow BN (Nat.le_refl _) noP
  generalize hwm : w8.setRow w7.heap.size noP = w9 at *
  have D9 := below_then (below_then (below_then D5 B6) B7) BM
  have P9 := ((P5.below B6).below B7).below BM
  go_wp2_with (refine wpList_store_row rfl 47 _ _ rfl w7.heap.size noP rfl rfl 47 _ XN (by exact Try.infoPg) rfl (by simp [noP, Value.oneCell']) ?_; rw [hwm])
  refine (small11_any _).mono ?_
  clear hwn hwm XN BN BM
  rintro e wa ⟨rfl, Ba⟩
  rw [show smC = #[.int .i64 9, .int .i64 1, .int .i64 1, .int .i64 1, .int .i64 1] from rfl]
  go_wp2_with fail
  refine (ref11_any _).mono ?_
  rintro e wb ⟨p, rfl, PR, Bb⟩
  have BY := bytes_ok 9 1 1 1 1 p _ wb PR (by decide) (by decide) (by decide)
  rw [show txt (pageB ⟨[5], 0, [[[1]]], [[[-1]]]⟩) = ⟨#[1, 0, 5, 0, 0, 0, 1, 255, 255, 255, 255]⟩ by rfl] at BY
  obtain ⟨⟨p1, p2, p3⟩, pf, ⟨p4, p5, p6⟩, ⟨p7, p8, p9⟩⟩ := p
  rw [show PgV.cells ⟨⟨p1, p2, p3⟩, pf, ⟨p4, p5, p6⟩, ⟨p7, p8, p9⟩⟩ = #[.slice p1 p2 p3, .int .i64 pf, .slice p4 p5 p6, .slice p7 p8 p9] from rfl] at BY ⊢
  go_wp2_with fail
  refine BY.mono ?_
  rintro e wc ⟨rfl, Bc⟩
  have Dc := below_then (below_then (below_then D9 Ba) Bb) Bc
  have Pc := ((P9.below Ba).below Bb).below Bc
  clear PR BY P9 P5 N5
  obtain ⟨g, o, e5, hc⟩ := Pc.cells (Nat.succ_pos 1)
  have e5' : a = some ⟨g, o, none⟩ := e5
  subst e5'
  obtain ⟨⟨⟨t1, t2, t3⟩, tf, tk, tv⟩, rr, PA⟩ := hc 1 _ rfl
  have h2 : (3 : Nat) = t2 := PA.t.row.len
  have h3 : tf = 2 := PA.f
  subst h2 h3
  have k0 : wc.cell? ⟨g, o + 4, none⟩ = some (.slice t1 3 t3) := rr 0 _ rfl
  have k1 : wc.cell? ⟨g, o + 4 + 1, none⟩ = some (.int .i64 2) := rr 1 _ rfl
  have k1' : wc.cell? ⟨g, o + 5, none⟩ = some (.int .i64 2) := k1
  go_wp2_with fail
  go_ret
  exact ⟨rfl, below_then HBB.out Dc⟩
end Go.Proofs.Ytpplnjmjldhlbaa

/- Package block: Read of any bytes; what laws over a made view's pages share. -/
namespace Go.Proofs.Ytpplnjmjldhlbaa
open Go.ChangeShapes Go.WideShapes Go.ChangeAt Go.RowKit
theorem read_any (Vo D Hd H L : Int) (l : List UInt8) (w : World) (hl : l.length ≤ 16777216) (hD : -9223372036854775808 ≤ D ∧ D ≤ 9223372036854775807) (hL : -9223372036854775808 ≤ L ∧ L ≤ 9223372036854775807) :
   Calls Try.prog 22 #[.agg (cfgC Vo D Hd H L), .string (txt l)] w fun e w' => ∃ p : PgV, e = .returned (.tuple #[.agg p.cells, .int .i64 (rdS Vo D L l).1]) ∧ New w.heap.size w' (fun w => PgAt w p (rdS Vo D L l).2) ∧ Below w.heap.size w w' := by
  have short : l.length < 2 → rdS Vo D L l = (11, noPg) → Calls Try.prog 22 #[.agg (cfgC Vo D Hd H L), .string (txt l)] w fun e w' => ∃ p : PgV, e = .returned (.tuple #[.agg p.cells, .int .i64 (rdS Vo D L l).1]) ∧ New w.heap.size w' (fun w => PgAt w p (rdS Vo D L l).2) ∧ Below w.heap.size w w' := fun h1 h2 => by
    rw [h2]
    refine (read_short Vo D Hd H L l w h1).mono ?_
    rintro e w' ⟨rfl, B⟩
    exact ⟨⟨⟨none, 0, 0⟩, 0, ⟨none, 0, 0⟩, ⟨none, 0, 0⟩⟩, rfl, fun w9 _ => noPg_at w9, B⟩
  match l with
  | [] => exact short (by simp) rfl
  | [_] => exact short (by simp) rfl
  | a :: b :: r => exact read_two Vo D Hd H L a b r w (by simp at hl; omega) hD hL
theorem row_small {w : World} {ao : Option Addr} {n c : Nat} {A : List Int} (h : Arg w ao n c A) : ∀ x ∈ A, -2147483648 ≤ x ∧ x ≤ 2147483647 := fun x hx => h.row.small x hx
theorem grid_small {w : World} {ao : Option Addr} {n : Nat} {R : List (List Int)} (h : GridAt w ao n R) : ∀ r ∈ R, ∀ x ∈ r, -2147483648 ≤ x ∧ x ≤ 2147483647 := fun r hr => by
  obtain ⟨t, ht, rfl⟩ := List.getElem_of_mem hr
  have hl := h.len
  obtain ⟨b, o, _, hc⟩ := h.cells (by omega)
  obtain ⟨ro, m, c, _, A⟩ := hc t (by omega)
  have e : rowOf R t = R[t] := by unfold rowOf; rw [List.getD_eq_getElem?_getD, List.getElem?_eq_getElem ht]; rfl
  rw [e] at A
  exact row_small A
theorem cube_small {w : World} {ao : Option Addr} {n : Nat} {C : List (List (List Int))} (h : CubeAt w ao n C) : ∀ R ∈ C, ∀ r ∈ R, ∀ x ∈ r, -2147483648 ≤ x ∧ x ≤ 2147483647 := fun R hR => by
  obtain ⟨t, ht⟩ := List.getElem?_of_mem hR
  have hlt := (List.getElem?_eq_some_iff.1 ht).1
  have hl := h.len
  obtain ⟨b, o, _, hc⟩ := h.cells (by omega)
  obtain ⟨ro, m, c, _, _, _, _, G⟩ := hc t R ht
  exact grid_small G
theorem pageN_zero {page : Nat} (h : 1 ≤ page) : pageN 0 page = 0 := by unfold pageN; exact Nat.div_eq_of_lt (by omega)
theorem pageN_quo (n page : Nat) (h : 1 ≤ page) : ((n : Int) + (page : Int) - 1).tdiv (page : Int) = (pageN n page : Int) := by
  unfold pageN
  rw [show (n : Int) + (page : Int) - 1 = ((n + page - 1 : Nat) : Int) by omega]
  exact rfl
theorem pageN_le (n page : Nat) (h : 1 ≤ page) : pageN n page ≤ n := by
  unfold pageN
  rcases Nat.eq_zero_or_pos n with e | e
  · subst e; rw [Nat.div_eq_of_lt (by omega)]; exact Nat.le_refl _
  · have : n + page - 1 < (n + 1) * page := by
      rw [Nat.succ_mul]
      have := Nat.le_mul_of_pos_right n h
      omega
    have := (Nat.div_lt_iff_lt_mul (by omega : 0 < page)).2 this
    omega
end Go.Proofs.Ytpplnjmjldhlbaa

/- Rows of the document's blocks, of the call's own, that grow. -/
namespace Go.Proofs.Ytpplnjmjldhlbaa
open Go.ChangeShapes Go.WideShapes Go.ChangeAt Go.RowKit
theorem Try.infoTgr : (Try.prog.info? 44).map (fun i => (i.zero, i.size, i.bytes)) = some (some (.agg #[.slice none 0 0, .int .i64 0, .slice none 0 0, .slice none 0 0]), 4, 80) := by kernel_rfl
/-- The blocks ahead of y and from s on, but not a value's own. -/
def offW (y s : Nat) (u : Value) (b : Nat) : Prop := (b < y ∨ s ≤ b) ∧ u.ownBlock ≠ some b
theorem Tn.offW {y s : Nat} {u u' : Value} {w w' : World} (hG : w.grownBy w' u.ownBlock) (hN : ∀ g, u'.ownBlock = some g → u.ownBlock = some g ∨ w.heap.size ≤ g) : Tn (offW y s u) (offW y s u') w w' :=
  ⟨hG.size, fun b hb hp => ⟨⟨hp.1, fun e => by rcases hN b e with a | a; exact hp.2 a; omega⟩, hG.block b hb (fun e => hp.2 e.symm)⟩⟩
/-- A row of pages of the call's own; its pages hang on blocks from s on. -/
def OwnTg (w : World) (B y s : Nat) (u : Value) (l : List Pg) : Prop :=
  ∃ pvs : List PgV, w.ownsRow B 44 4 u l.length (flatP pvs) ∧ pvs.length = l.length ∧ ∀ (t : Nat) (X : Pg), l[t]? = some X → ∃ p, pvs[t]? = some p ∧ Hangs (offW y s u) w (fun w => PgAt w p X)
theorem ownTg_nil (w : World) (B y s : Nat) : OwnTg w B y s (.slice none 0 0) [] := ⟨[], World.ownsRow_nil _ _ _ _, rfl, fun t X h => by simp at h⟩
theorem OwnTg.below {w w' : World} {B y s : Nat} {u : Value} {l : List Pg} (h : OwnTg w B y s u l) (hb : Below w.heap.size w w') : OwnTg w' B y s u l := by
  obtain ⟨pvs, O, hl, hp⟩ := h
  exact ⟨pvs, owns4 O (fun b e => hb.block b (owns4_lt O e).2), hl, fun t X hX => let ⟨p, e, H⟩ := hp t X hX; ⟨p, e, H.below hb⟩⟩
theorem OwnTg.lt {w : World} {B y s : Nat} {u : Value} {l : List Pg} (h : OwnTg w B y s u l) {b : Nat} (hb : u.ownBlock = some b) : B ≤ b ∧ b < w.heap.size := by
  obtain ⟨pvs, O, _⟩ := h
  exact owns4_lt O hb
theorem OwnTg.form {w : World} {B y s : Nat} {u : Value} {l : List Pg} (h : OwnTg w B y s u l) : ∃ a c, u = .slice a l.length c := by
  obtain ⟨pvs, O, _⟩ := h
  rcases O.2 with ⟨h1, h2⟩ | ⟨g, cap, cur, hv, _⟩
  · exact ⟨none, 0, by rw [h1, h2]⟩
  · exact ⟨_, _, hv⟩
/-- append(l, page), as one operation. -/
theorem wp_append_tg {w : World} {o : Oper} {a : Act} {K : Act → World → Prop} {Q : Exit → Act → World → Prop} (s' x : Operand)
    (ho : o.op = .call { callee := .builtin .append, args := #[s', x], argTypes := #[40, 40] })
    (B y s : Nat) (u : Value) (l : List Pg) (n : Nat) (hn : l.length = n) (hs : a.eval s' = u) (hF : OwnTg w B y s u l) (bo : Nat) (p : PgV) (X : Pg) (hx : a.eval x = .slice (some ⟨bo, 0, none⟩) 1 1) (hX : Blk w bo 44 p.cells) (hp : Hangs (offW y s u) w (fun w => PgAt w p X))
    (hlen : n + 1 ≤ 1000000) (hB : B ≤ w.heap.size)
    (h : ∀ ea ec w', OwnTg w' B y s (.slice ea (n + 1) ec) (l ++ [X]) → w.grownBy w' u.ownBlock → (∀ g, (Value.slice ea (n + 1) ec).ownBlock = some g → u.ownBlock = some g ∨ w.heap.size ≤ g) → K (a.put o.dst (.slice ea (n + 1) ec)) w') : o.wp Try.prog a w K Q := by
  subst hn
  obtain ⟨i0, hi, hzz⟩ := Option.map_eq_some_iff.1 Try.infoTgr
  simp only [Prod.mk.injEq] at hzz
  obtain ⟨hz0, hz1, hz2⟩ := hzz
  obtain ⟨pvs, O, hl, hq⟩ := hF
  refine wp_append_own2 w s' x 40 ho B 44 i0 _ 4 80 Try.underlying40 hi hz0 hz1 hz2 rfl (by decide) u l.length (flatP pvs) hs O ⟨bo, 0, none⟩ 1 1 p.cells.toList hx rfl ?_ ?_ (by unfold maxLen; omega) (by omega) hB ?_
  · intro j v hj
    rw [Addr.add_mid, Nat.zero_add]
    exact hX.cell j (by simpa using hj)
  · intro v hv
    exact (Array.all_eq_true_iff_forall_mem.1 (pg_one p)) v (by simpa using hv)
  · intro v' w' O1 G1 _ N1
    have N2 : ∀ g, v'.ownBlock = some g → u.ownBlock = some g ∨ w.heap.size ≤ g := fun g e => by
      rcases N1 g e with b | b
      · exact Or.inl b
      · exact Or.inr (by omega)
    have T := Tn.offW (y := y) (s := s) G1 N2
    have F : OwnTg w' B y s v' (l ++ [X]) := by
      refine ⟨pvs ++ [p], by rw [flatP_snoc, List.length_append, List.length_singleton]; exact O1, by simp [hl], fun t Y hY => ?_⟩
      rcases Nat.lt_or_ge t l.length with h1 | h1
      · rw [List.getElem?_append_left h1] at hY
        obtain ⟨q, e, H⟩ := hq t Y hY
        exact ⟨q, by rw [List.getElem?_append_left (by omega)]; exact e, H.turn T⟩
      · rw [List.getElem?_append_right h1] at hY
        have e0 : t - l.length = 0 := by
          rcases Nat.eq_zero_or_pos (t - l.length) with e | e
          · exact e
          · rw [List.getElem?_eq_none (by simp; omega)] at hY; cases hY
        rw [e0] at hY
        simp at hY
        subst hY
        exact ⟨p, by rw [List.getElem?_append_right (by omega), hl, e0]; rfl, hp.turn T⟩
    obtain ⟨ea, ec, e4⟩ := F.form
    rw [List.length_append, List.length_singleton] at e4
    subst e4
    exact h ea ec w' F G1 N2
/-- append(l, page). -/
theorem wpList_append_tg {w : World} {ops : Array Oper} {rest : List Oper} {o : Oper} {a : Act} {Q : Exit → Act → World → Prop} (hgd : o.guard = none) (s' x : Operand)
    (ho : o.op = .call { callee := .builtin .append, args := #[s', x], argTypes := #[40, 40] })
    (B y s : Nat) (u : Value) (l : List Pg) (n : Nat) (hn : l.length = n) (hs : a.eval s' = u) (hF : OwnTg w B y s u l) (bo : Nat) (p : PgV) (X : Pg) (hx : a.eval x = .slice (some ⟨bo, 0, none⟩) 1 1) (hX : Blk w bo 44 p.cells) (hp : Hangs (offW y s u) w (fun w => PgAt w p X))
    (hlen : n + 1 ≤ 1000000) (hB : B ≤ w.heap.size)
    (h : ∀ ea ec w', OwnTg w' B y s (.slice ea (n + 1) ec) (l ++ [X]) → w.grownBy w' u.ownBlock → (∀ g, (Value.slice ea (n + 1) ec).ownBlock = some g → u.ownBlock = some g ∨ w.heap.size ≤ g) → wpList Try.prog ops Q rest (a.put o.dst (.slice ea (n + 1) ec)) w') : wpList Try.prog ops Q (o :: rest) a w :=
  wpList_plain hgd fun _ hK => wp_append_tg s' x ho B y s u l n hn hs hF bo p X hx hX hp hlen hB (fun ea ec w' h1 h2 h3 => hK _ _ (h ea ec w' h1 h2 h3))
/-- What a row of pages hangs on. -/
theorem OwnTg.new {w : World} {B y s : Nat} {a : Option Addr} {n c : Nat} {l : List Pg} (h : OwnTg w B y s (.slice a n c) l) (hn : n ≤ 1000000) (hB : s ≤ B) : Hangs (fun b => b < y ∨ s ≤ b) w (fun w => PgsAt w ⟨a, n, c⟩ l) := by
  obtain ⟨pvs, O, hl, hq⟩ := h
  have hln : l.length = n := by
    obtain ⟨a2, c2, e⟩ := OwnTg.form (⟨pvs, O, hl, hq⟩ : OwnTg w B y s (.slice a n c) l)
    simp only [Value.slice.injEq] at e
    exact e.2.1.symm
  intro w2 h2
  have O2 := owns4 O (fun b e => h2 b (Or.inr (Nat.le_trans hB (owns4_lt O e).1)) (owns4_lt O e).2)
  have hfit : n ≤ c := by
    rcases O.2 with ⟨q1, q2⟩ | ⟨g, cap, cur, q1, _, _, q4, _⟩
    · omega
    · simp only [Value.slice.injEq] at q1
      obtain ⟨-, -, rfl⟩ := q1
      omega
  refine ⟨hln, hn, hfit, fun hn0 => ?_⟩
  have hn1 : 0 < n := hn0
  rcases O2.2 with ⟨q1, q2⟩ | ⟨g, cap, cur, q1, _⟩
  · omega
  · simp only [Value.slice.injEq] at q1
    obtain ⟨rfl, -, rfl⟩ := q1
    refine ⟨g, 0, rfl, fun t X hX => ?_⟩
    obtain ⟨p, e, H⟩ := hq t X hX
    refine ⟨p, fun j v hv => ?_, H w2 fun b hb hl2 => h2 b hb.1 hl2⟩
    have hc := O2.cells (g := g) rfl (t * 4 + j) v (flatP_at pvs t p e j v hv)
    rw [Addr.add_mid] at hc
    rw [Nat.zero_add] at hc ⊢
    exact hc
end Go.Proofs.Ytpplnjmjldhlbaa

/- Rows of blocks of any numbers as the document's, at most so many. -/
namespace Go.Proofs.Ytpplnjmjldhlbaa
open Go.ChangeShapes Go.WideShapes Go.ChangeAt Go.RowKit
theorem ownTg_none (w : World) (y s : Nat) : OwnTg (w.alloc (.cells #[] 44)) w.heap.size y s (.slice (some ⟨w.heap.size, 0, none⟩) 0 0) [] := ⟨[], World.ownsRow_made w #[] 0 (Nat.le_refl _) (by decide) rfl, rfl, fun t X h => by simp at h⟩
/-- A row of blocks as it comes in. -/
structure PgsR (w : World) (s : Sl) (l : List Pg) : Prop where
  len : l.length = s.n
  max : s.n ≤ 9223372036854775807
  cells : 0 < s.n → ∃ g o, s.ao = some ⟨g, o, none⟩ ∧ ∀ (t : Nat) (X : Pg), l[t]? = some X → ∃ p : PgV, w.rangeAt g (o + t * 4) p.cells.toList ∧ PgR w p X
theorem PgsR.below {w w' : World} {s : Sl} {l : List Pg} (h : PgsR w s l) (hb : Below w.heap.size w w') : PgsR w' s l := by
  refine ⟨h.len, h.max, fun hn => ?_⟩
  obtain ⟨g, o, e, hc⟩ := h.cells hn
  refine ⟨g, o, e, fun t X hX => ?_⟩
  obtain ⟨p, h1, h2⟩ := hc t X hX
  exact ⟨p, pg_range h1 hb, h2.below hb⟩
set_option maxRecDepth 100000 in
set_option maxHeartbeats 3200000 in
theorem row11_any (s : Sl) (l : List Pg) (lim : Nat) (w : World) (hs : PgsR w s l) (hlim : lim ≤ 1000) :
   Calls Try.prog 16 #[s.v, .int .i64 (lim : Int)] w fun e w' => ∃ s2 : Sl, e = .returned s2.v ∧ PgsAt w' s2 ((l.map cutPg).take lim) ∧ Below w.heap.size w w' := by
  have HS : Hid (∀ wv, Below w.heap.size w wv → PgsR wv s l) := fun wv hb => hs.below hb
  have hlen := hs.len
  have hmax := hs.max
  obtain ⟨ao, n, ca⟩ := s
  simp only at hlen hmax
  clear hs
  obtain ⟨m, hm⟩ : ∃ m, m = min lim n := ⟨_, rfl⟩
  have HM : Hid (m = min lim n) := hm
  have HL : Hid (l.length = n) := hlen
  have OT : OwnTg (w.alloc (.cells #[] 44)) w.heap.size 0 w.heap.size (.slice (some ⟨w.heap.size, 0, none⟩) 0 0) [] := ownTg_none w _ _
  have D1 : Below w.heap.size w (w.alloc (.cells #[] 44)) := (Below.refl _ _).alloc (Nat.le_refl _) _
  generalize hw1 : w.alloc (.cells #[] 44) = w1 at *
  unfold Sl.v
  simp only
  clear hm hlen
  go_enter Try.func16, Try.ntmps16
  go_upto_region 3 with fail
  clear hw1
  go_loopg [5, 6] (m + 1) (fun r s5 s6 wr => ∃ (k : Nat) (u : Value), k ≤ m ∧ r = m - k + 1 ∧ s6 = .int .i64 (k : Int) ∧ s5 = u ∧ OwnTg wr w.heap.size 0 w.heap.size u ((l.take k).map cutPg) ∧ Below w.heap.size w wr)
  case atStart => exact ⟨0, _, by omega, by omega, rfl, rfl, by rw [List.take_zero]; exact OT, D1⟩
  case round =>
    clear OT D1
    obtain ⟨k, u, hk, rfl, rfl, hu, OT, DR⟩ := hrel
    obtain rfl := hu.symm
    clear hu
    have hm2 := HM.out
    by_cases hlt : k < m
    · have h1 : (k : Int) < (n : Int) := by omega
      have h2 : (k : Int) < (lim : Int) := by omega
      have SR := HS.out _ DR
      obtain ⟨g, o, e, hc⟩ := SR.cells (by show 0 < n; omega)
      simp only at e
      subst e
      obtain ⟨X, hX⟩ : ∃ X, l[k]? = some X := ⟨_, List.getElem?_eq_getElem (show k < l.length by rw [HL.out]; omega)⟩
      obtain ⟨p, r0, PR⟩ := hc k X hX
      have TL := told11_any p X wr PR
      have HTK : Hid ((l.take (k + 1)).map cutPg = (l.take k).map cutPg ++ [cutPg X]) := by
        show _ = _
        rw [List.take_add_one, hX]; simp
      have hlk : ((l.take k).map cutPg).length = k := by rw [List.length_map, List.length_take, HL.out]; omega
      have zr := DR.size
      have OL : ∀ b, u.ownBlock = some b → b < wr.heap.size := fun b e => (OT.lt e).2
      clear hc SR hX PR
      obtain ⟨⟨p1, p2, p3⟩, pf, ⟨p4, p5, p6⟩, ⟨p7, p8, p9⟩⟩ := p
      rw [show (PgV.cells ⟨⟨p1, p2, p3⟩, pf, ⟨p4, p5, p6⟩, ⟨p7, p8, p9⟩⟩) = #[.slice p1 p2 p3, .int .i64 pf, .slice p4 p5 p6, .slice p7 p8 p9] from rfl] at r0 TL
      clear hm2
      go_wp2_with (refine wpList_load_mid rfl 47 _ rfl g (o + k * 4) rfl [.slice p1 p2 p3, .int .i64 pf, .slice p4 p5 p6, .slice p7 p8 p9] _ r0 Try.underlying47 rfl (by exact Try.infoPg) ?_)
      refine TL.mono ?_
      rintro e w3 ⟨⟨⟨q1, q2, q3⟩, qf, ⟨q4, q5, q6⟩, ⟨q7, q8, q9⟩⟩, rfl, N3, B3⟩
      rw [show (PgV.cells ⟨⟨q1, q2, q3⟩, qf, ⟨q4, q5, q6⟩, ⟨q7, q8, q9⟩⟩) = #[.slice q1 q2 q3, .int .i64 qf, .slice q4 q5 q6, .slice q7 q8 q9] from rfl]
      have HP : Hangs (offW 0 w.heap.size u) w3 (fun w => PgAt w ⟨⟨q1, q2, q3⟩, qf, ⟨q4, q5, q6⟩, ⟨q7, q8, q9⟩⟩ (cutPg X)) := Hangs.mono N3 (fun b _ hb => by
        have hb' : wr.heap.size ≤ b := hb
        exact ⟨Or.inr (by omega), fun e => by have := OL b e; omega⟩)
      replace OT := OT.below B3
      have D3 := below_then DR B3
      have CN := blk_new w3 44 #[.slice q1 q2 q3, .int .i64 qf, .slice q4 q5 q6, .slice q7 q8 q9]
      have BA : Below w3.heap.size w3 (w3.alloc (.cells #[.slice q1 q2 q3, .int .i64 qf, .slice q4 q5 q6, .slice q7 q8 q9] 44)) := (Below.refl _ _).alloc (Nat.le_refl _) _
      generalize hwa : w3.alloc (.cells #[.slice q1 q2 q3, .int .i64 qf, .slice q4 q5 q6, .slice q7 q8 q9] 44) = wa at *
      replace OT := OT.below BA
      replace HP := Hangs.below HP BA
      have DA := below_then D3 BA
      have za := DA.size
      clear TL N3 B3 BA DR D3
      go_wp2_with (at_builtin; refine wpList_append_tg rfl _ _ rfl w.heap.size 0 w.heap.size u ((l.take k).map cutPg) k hlk rfl OT w3.heap.size ⟨⟨q1, q2, q3⟩, qf, ⟨q4, q5, q6⟩, ⟨q7, q8, q9⟩⟩ (cutPg X) rfl CN HP (by omega) (by omega) ?_; intro ea ec w5 O5 G5 N5)
      have D5 : Below w.heap.size w w5 := DA.grown G5 (by omega) (fun g e => (OT.lt e).1)
      go_roundg (m - (k + 1) + 1)
      case measure => omega
      case rel => exact ⟨k + 1, _, by omega, by omega, by go_num, rfl, by rw [HTK.out]; exact O5, D5⟩
    · obtain rfl : k = m := by omega
      obtain ⟨a, c, e9⟩ := OT.form
      rw [List.length_map, List.length_take, HL.out, show min k n = k by omega] at e9
      subst e9
      have HN : Hid ((OwnTg wr w.heap.size 0 w.heap.size (.slice a k c) ((l.take k).map cutPg))) := OT
      have HTT : Hid (l.take lim = l.take k) := by
        show _ = _
        rcases Nat.lt_or_ge lim n with h | h
        · rw [show k = lim by omega]
        · rw [List.take_of_length_le (by rw [HL.out]; exact h), List.take_of_length_le (by rw [HL.out]; omega)]
      by_cases hn : k < n
      · have h1 : (k : Int) < (n : Int) := by omega
        have h2 : ¬ (k : Int) < (lim : Int) := by omega
        clear hm2 OT
        go_wp2_with fail
        go_ret
        exact ⟨⟨a, k, c⟩, rfl, by rw [← List.map_take, HTT.out]; exact (HN.out.new (by have := HM.out; omega) (Nat.le_refl _)).now, DR⟩
      · have h1 : ¬ (k : Int) < (n : Int) := by omega
        clear hm2 OT
        go_wp2_with fail
        go_ret
        exact ⟨⟨a, k, c⟩, rfl, by rw [← List.map_take, HTT.out]; exact (HN.out.new (by have := HM.out; omega) (Nat.le_refl _)).now, DR⟩
end Go.Proofs.Ytpplnjmjldhlbaa

/- An argument that is a row of whole numbers, opened once: nil, empty or not. -/
namespace Go.Proofs.Ytpplnjmjldhlbaa
open Go.ChangeShapes Go.WideShapes Go.ChangeAt Go.RowKit
theorem Try.cellsInt : Try.prog.cellsOf 3 = 1 := by kernel_rfl
theorem viewI_cells {H : Type} {enc : TypeId × Value → H} {W : World} {fuel : Nat} {cs : List Value} {x : DataW H × List MemPlace}
    (hf : DataW.trod enc Try.prog W 0 (fun _ => true) true fuel 24 cs = some x) :
    ∃ (a0 : Option Addr) (len cap : Nat) (Z : List Int), cs = [.slice a0 len cap] ∧ IArg W a0 len cap Z := by
  rcases open_ints Try.underlying24 Try.underlying3 Try.cellsInt hf with ⟨hcs, hx⟩ | ⟨a, len', cap', zs, hcs, _, hl, hm, hz, hx, hcell, hwz⟩
  · exact ⟨none, 0, 0, [], hcs, iarg_nil _⟩
  · simp only [if_true] at hz
    unfold maxLen at hm
    refine ⟨some a, len', cap', zs.take len', hcs, ⟨by simp; omega, by omega, fun k => ?_, fun hn => ?_⟩, hl, by omega, fun h => by cases h⟩
    · rcases Nat.lt_or_ge k (zs.take len').length with hk | hk
      · exact bounds_i64 (hwz _ (List.mem_of_mem_take (el_mem hk)))
      · rw [el_over hk]; omega
    · obtain ⟨b, o, s⟩ := a
      have h0 := hcell 0 (by omega)
      have hs : s = none := by simpa [Addr.add] using World.cell?_spot h0
      subst hs
      refine ⟨b, o, rfl, fun t ht => ?_⟩
      have e : (Addr.mk b o none).add t = ⟨b, o + t, none⟩ := by simp [Addr.add]
      rw [← e, hcell t (by omega), el_take ht]
      rfl
set_option maxRecDepth 100000 in
theorem viewI {H : Type} {enc : TypeId × Value → H} {W : World} {b0 : Nat} {v : Value} {d : DataW H} {p : List MemPlace} (hv : Value.okWide Try.prog W .any b0 24 v)
    (h : DataW.Trod enc Try.prog W 0 (fun _ => true) true 24 v d p) : ∃ (a0 : Option Addr) (len cap : Nat) (Z : List Int), v = .slice a0 len cap ∧ IArg W a0 len cap Z := by
  obtain ⟨a0, la, ca, rfl⟩ := okWide_slice Try.underlying24 hv
  obtain ⟨f, hf⟩ := h
  obtain ⟨a1, l1, c1, Z, e, hA⟩ := viewI_cells hf
  simp [Value.cells] at e
  obtain ⟨rfl, rfl, rfl⟩ := e
  exact ⟨_, _, _, Z, rfl, hA⟩
end Go.Proofs.Ytpplnjmjldhlbaa

/- Arguments that are rows of rows of fixed numbers, lists of them, and views, opened once. -/
namespace Go.Proofs.Ytpplnjmjldhlbaa
open Go.ChangeShapes Go.WideShapes Go.ChangeAt Go.RowKit
theorem Try.cellsRowR : Try.prog.cellsOf 72 = 1 := by kernel_rfl
theorem Try.cellsGridR : Try.prog.cellsOf 73 = 1 := by kernel_rfl
theorem viewRow_cells {H : Type} {enc : TypeId × Value → H} {W : World} {fuel : Nat} {cs : List Value} {x : DataW H × List MemPlace}
    (hf : DataW.trod enc Try.prog W 0 (fun _ => true) true fuel 72 cs = some x) :
    ∃ (a0 : Option Addr) (len cap : Nat) (Z : List Int), cs = [.slice a0 len cap] ∧ ArgR W a0 len cap Z := by
  rcases open_ints Try.underlying72 Try.underlying71 Try.cellsNum hf with ⟨hcs, hx⟩ | ⟨a, len', cap', zs, hcs, _, hl, hm, hz, hx, hcell, hwz⟩
  · exact ⟨none, 0, 0, [], hcs, RowAt.nil _ _, Nat.le_refl _, by omega, fun _ => rfl⟩
  · simp only [if_true] at hz
    unfold maxLen at hm
    refine ⟨some a, len', cap', zs.take len', hcs, ⟨by simp; omega, by omega, fun y hy => bounds_i32 (hwz y (List.mem_of_mem_take hy)), fun hn => ?_⟩, hl, by omega, fun h => by cases h⟩
    obtain ⟨b, o, s⟩ := a
    have h0 := hcell 0 (by omega)
    have hs : s = none := by simpa [Addr.add] using World.cell?_spot h0
    subst hs
    refine ⟨b, o, rfl, fun t ht => ?_⟩
    have e : (Addr.mk b o none).add t = ⟨b, o + t, none⟩ := by simp [Addr.add]
    rw [← e, hcell t (by omega), el_take ht]
    rfl
theorem viewGrid_cells {H : Type} {enc : TypeId × Value → H} {W : World} {fuel : Nat} {cs : List Value} {x : DataW H × List MemPlace}
    (hf : DataW.trod enc Try.prog W 0 (fun _ => true) true fuel 73 cs = some x) :
    ∃ (a0 : Option Addr) (len cap : Nat) (Z : List (List Int)), cs = [.slice a0 len cap] ∧ (a0 = none → cap = 0) ∧ len ≤ cap ∧ cap ≤ 9223372036854775807 ∧ GridR W a0 len Z := by
  rcases Deep.open_slice1 Try.underlying73 Try.cellsRowR hf with ⟨hcs, hx⟩ | ⟨a, len, cap, m, n, V, D, Pl, rfl, hb, hl, hm, hmm, rfl, hx⟩
  · exact ⟨none, 0, 0, [], hcs, fun _ => rfl, Nat.le_refl _, by omega, GridR.nil _ _⟩
  · simp only [if_true] at hmm
    subst hmm
    unfold maxLen at hm
    have each : ∀ i, i < m → ∃ z : (Option Addr × Nat × Nat × List Int), W.cell? (a.add i) = some (.slice z.1 z.2.1 z.2.2.1) ∧ ArgR W z.1 z.2.1 z.2.2.1 z.2.2.2 := fun i hi => by
      obtain ⟨h1, h2⟩ := hx i hi
      obtain ⟨a0, l, c, Z, e, hA⟩ := viewRow_cells h2
      simp only [List.cons.injEq, and_true] at e
      exact ⟨(a0, l, c, Z), by rw [h1, e], hA⟩
    obtain ⟨q, hq⟩ := Deep.choose_lt each
    refine ⟨some a, len, m, (List.range len).map fun t => (q t).2.2.2, rfl, (fun h => by cases h), hl, by omega, by simp, by omega, fun hn => ?_⟩
    obtain ⟨b, o, s⟩ := a
    have h0 := (hq 0 (by omega)).1
    have hs : s = none := by simpa [Addr.add] using World.cell?_spot h0
    subst hs
    refine ⟨b, o, rfl, fun t ht => ?_⟩
    obtain ⟨h1, h2⟩ := hq t (by omega)
    have e : (Addr.mk b o none).add t = ⟨b, o + t, none⟩ := by simp [Addr.add]
    have er : rowOf ((List.range len).map fun t => (q t).2.2.2) t = (q t).2.2.2 := by unfold rowOf; simp [List.getD_eq_getElem?_getD, ht]
    rw [er, ← e]
    exact ⟨_, _, _, h1, h2⟩
theorem viewCube_cells {H : Type} {enc : TypeId × Value → H} {W : World} {fuel : Nat} {cs : List Value} {x : DataW H × List MemPlace}
    (hf : DataW.trod enc Try.prog W 0 (fun _ => true) true fuel 25 cs = some x) :
    ∃ (a0 : Option Addr) (len cap : Nat) (Z : List (List (List Int))), cs = [.slice a0 len cap] ∧ (a0 = none → cap = 0) ∧ len ≤ cap ∧ cap ≤ 9223372036854775807 ∧ CubeR W a0 len Z := by
  rcases Deep.open_slice1 Try.underlying25 Try.cellsGridR hf with ⟨hcs, hx⟩ | ⟨a, len, cap, m, n, V, D, Pl, rfl, hb, hl, hm, hmm, rfl, hx⟩
  · exact ⟨none, 0, 0, [], hcs, fun _ => rfl, Nat.le_refl _, by omega, CubeR.nil _ _⟩
  · simp only [if_true] at hmm
    subst hmm
    unfold maxLen at hm
    have each : ∀ i, i < m → ∃ z : (Option Addr × Nat × Nat × List (List Int)), W.cell? (a.add i) = some (.slice z.1 z.2.1 z.2.2.1) ∧ (z.1 = none → z.2.2.1 = 0) ∧ z.2.1 ≤ z.2.2.1 ∧ z.2.2.1 ≤ 9223372036854775807 ∧ GridR W z.1 z.2.1 z.2.2.2 := fun i hi => by
      obtain ⟨h1, h2⟩ := hx i hi
      obtain ⟨a0, l, c, Z, e, e1, e2, e3, hA⟩ := viewGrid_cells h2
      simp only [List.cons.injEq, and_true] at e
      exact ⟨(a0, l, c, Z), by rw [h1, e], e1, e2, e3, hA⟩
    obtain ⟨q, hq⟩ := Deep.choose_lt each
    refine ⟨some a, len, m, (List.range len).map fun t => (q t).2.2.2, rfl, (fun h => by cases h), hl, by omega, by simp, by omega, fun hn => ?_⟩
    obtain ⟨b, o, s⟩ := a
    have h0 := (hq 0 (by omega)).1
    have hs : s = none := by simpa [Addr.add] using World.cell?_spot h0
    subst hs
    refine ⟨b, o, rfl, fun t R hR => ?_⟩
    have ht : t < len := by have := (List.getElem?_eq_some_iff.1 hR).1; simpa using this
    obtain ⟨h1, h2, h3, h4, h5⟩ := hq t (by omega)
    have e : (Addr.mk b o none).add t = ⟨b, o + t, none⟩ := by simp [Addr.add]
    have er : R = (q t).2.2.2 := by simpa [ht] using hR.symm
    rw [er, ← e]
    exact ⟨_, _, _, h1, h2, h3, h4, h5⟩
theorem Try.cellsSl3 : Try.prog.cellsOf 24 = 1 := by kernel_rfl
theorem Try.cellsCubeR : Try.prog.cellsOf 25 = 1 := by kernel_rfl
theorem Try.cellsCacheR : Try.prog.cellsOf 27 = 2 := by kernel_rfl
theorem Try.cellsViewR : Try.prog.cellsOf 29 = 3 := by kernel_rfl
set_option maxRecDepth 100000 in
theorem viewCache_cells {H : Type} {enc : TypeId × Value → H} {W : World} {fuel : Nat} {cs : List Value} {x : DataW H × List MemPlace}
    (hf : DataW.trod enc Try.prog W 0 (fun _ => true) true fuel 27 cs = some x) :
    ∃ (k v : Sl) (K V : List (List (List Int))), cs = [k.v, v.v] ∧ CubeR W k.ao k.n K ∧ CubeR W v.ao v.n V := by
  obtain ⟨y0, y1, n, rfl, hl, h0, h1⟩ := trod_struct2 Try.underlying27 hf
  rw [Try.cellsCacheR] at hl
  match cs, hl with
  | [c0, c1], _ =>
    simp [Try.cellsCubeR] at h0 h1
    obtain ⟨a0, l0, q0, Z0, e0, -, -, -, k0⟩ := viewCube_cells h0
    obtain ⟨a1, l1, q1, Z1, e1, -, -, -, k1⟩ := viewCube_cells h1
    simp only [List.cons.injEq, and_true] at e0 e1
    subst e0 e1
    exact ⟨⟨a0, l0, q0⟩, ⟨a1, l1, q1⟩, Z0, Z1, rfl, k0, k1⟩
set_option maxRecDepth 100000 in
theorem viewVw_cells {H : Type} {enc : TypeId × Value → H} {W : World} {fuel : Nat} {cs : List Value} {x : DataW H × List MemPlace}
    (hf : DataW.trod enc Try.prog W 0 (fun _ => true) true fuel 29 cs = some x) :
    ∃ (v : VwV) (X : Vw), cs = v.cells.toList ∧ VwR W v X := by
  obtain ⟨y0, y1, n, rfl, hl, h0, h1⟩ := trod_struct2 Try.underlying29 hf
  rw [Try.cellsViewR] at hl
  match cs, hl with
  | [c0, c1, c2], _ =>
    simp [Try.cellsSl3, Try.cellsCacheR] at h0 h1
    obtain ⟨a0, l0, q0, Z0, e0, k0⟩ := viewI_cells h0
    obtain ⟨k, v, K, V, e1, k1, k2⟩ := viewCache_cells h1
    simp only [List.cons.injEq, and_true] at e0 e1
    obtain ⟨rfl, rfl⟩ := e1
    subst e0
    exact ⟨⟨⟨a0, l0, q0⟩, k, v⟩, ⟨Z0, K, V⟩, rfl, k0, k1, k2⟩
set_option maxRecDepth 100000 in
theorem viewVw {H : Type} {enc : TypeId × Value → H} {W : World} {b0 : Nat} {v : Value} {d : DataW H} {p : List MemPlace} (hv : Value.okWide Try.prog W .any b0 29 v)
    (h : DataW.Trod enc Try.prog W 0 (fun _ => true) true 29 v d p) : ∃ (vv : VwV) (X : Vw), v = .agg vv.cells ∧ VwR W vv X := by
  obtain ⟨cs, rfl, hsz⟩ := okWide_struct Try.underlying29 hv
  obtain ⟨f, hf⟩ := h
  obtain ⟨vv, X, e, hA⟩ := viewVw_cells hf
  refine ⟨vv, X, ?_, hA⟩
  simp only [Value.cells] at e
  congr 1
  exact Array.toList_inj.1 e
end Go.Proofs.Ytpplnjmjldhlbaa

/- Arguments that are blocks and rows of blocks, opened once. -/
namespace Go.Proofs.Ytpplnjmjldhlbaa
open Go.ChangeShapes Go.WideShapes Go.ChangeAt Go.RowKit
theorem Try.cellsIntP : Try.prog.cellsOf 3 = 1 := by kernel_rfl
theorem Try.cellsPg : Try.prog.cellsOf 47 = 4 := by kernel_rfl
def FB (x : Int) : Prop := -9223372036854775808 ≤ x ∧ x ≤ 9223372036854775807
set_option maxRecDepth 100000 in
theorem viewPg_cells {H : Type} {enc : TypeId × Value → H} {W : World} {fuel : Nat} {cs : List Value} {x : DataW H × List MemPlace}
    (hf : DataW.trod enc Try.prog W 0 (fun _ => true) true fuel 47 cs = some x) :
    ∃ (p : PgV) (X : Pg), cs = p.cells.toList ∧ PgR W p X ∧ FB X.F := by
  obtain ⟨y0, y1, y2, n, rfl, hl, h0, h1, h2⟩ := Deep.trod_struct3 Try.underlying47 hf
  rw [Try.cellsPg] at hl
  match cs, hl with
  | [c0, c1, c2, c3], _ =>
    simp [Try.cellsSl3, Try.cellsIntP, Try.cellsCacheR] at h0 h1 h2
    obtain ⟨a0, l0, q0, Z0, e0, k0⟩ := viewI_cells h0
    obtain ⟨f, e1, _, w1⟩ := DataW.trod_int Try.underlying3 h1
    obtain ⟨k, v, K, V, e2, k1, k2⟩ := viewCache_cells h2
    simp only [List.cons.injEq, and_true] at e0 e1 e2
    obtain ⟨rfl, rfl⟩ := e2
    subst e0 e1
    exact ⟨⟨⟨a0, l0, q0⟩, f, k, v⟩, ⟨Z0, f, K, V⟩, rfl, ⟨k0, rfl, k1, k2⟩, bounds_i64 w1⟩
set_option maxRecDepth 100000 in
theorem viewPg {H : Type} {enc : TypeId × Value → H} {W : World} {b0 : Nat} {v : Value} {d : DataW H} {p : List MemPlace} (hv : Value.okWide Try.prog W .any b0 47 v)
    (h : DataW.Trod enc Try.prog W 0 (fun _ => true) true 47 v d p) : ∃ (vv : PgV) (X : Pg), v = .agg vv.cells ∧ (PgR W vv X ∧ FB X.F) := by
  obtain ⟨cs, rfl, hsz⟩ := okWide_struct Try.underlying47 hv
  obtain ⟨f, hf⟩ := h
  obtain ⟨vv, X, e, hA⟩ := viewPg_cells hf
  refine ⟨vv, X, ?_, hA⟩
  simp only [Value.cells] at e
  congr 1
  exact Array.toList_inj.1 e
set_option maxRecDepth 100000 in
theorem viewPgs_cells {H : Type} {enc : TypeId × Value → H} {W : World} {fuel : Nat} {cs : List Value} {x : DataW H × List MemPlace}
    (hf : DataW.trod enc Try.prog W 0 (fun _ => true) true fuel 33 cs = some x) : ∃ (s : Sl) (l : List Pg), cs = [s.v] ∧ (PgsR W s l ∧ ∀ X ∈ l, FB X.F) := by
  rcases Deep.open_slice Try.underlying33 hf with ⟨hcs, hx⟩ | ⟨a, len, cap, m, n, D, Pl, hcs, hb, hl, hm, hmm, rfl, hx⟩
  · exact ⟨⟨none, 0, 0⟩, [], hcs, ⟨rfl, by show 0 ≤ _; omega, fun h => absurd h (by show ¬ 0 < 0; omega)⟩, fun X hX => by cases hX⟩
  · simp only [if_true] at hmm
    subst hmm
    unfold maxLen at hm
    have each : ∀ i, i < m → ∃ z : PgV × Pg, (∀ j v, z.1.cells.toList[j]? = some v → W.cell? (a.add (i * 4 + j)) = some v) ∧ PgR W z.1 z.2 ∧ FB z.2.F := by
      intro i hi
      obtain ⟨cs', h1, h2⟩ := hx i hi
      rw [Try.cellsPg] at h1
      obtain ⟨_, hlen, hcell⟩ := World.cells?_some h1
      obtain ⟨b, y, rfl, hA, hB⟩ := viewPg_cells h2
      refine ⟨(b, y), fun j v hj => ?_, hA, hB⟩
      have hj2 : j < 4 := (List.getElem?_eq_some_iff.1 hj).1
      have cj := hcell j (by omega)
      rw [Deep.add_add] at cj
      rw [cj]
      exact hj
    haveI : Inhabited (PgV × Pg) := ⟨(⟨⟨none, 0, 0⟩, 0, ⟨none, 0, 0⟩, ⟨none, 0, 0⟩⟩, ⟨[], 0, [], []⟩)⟩
    obtain ⟨q, hq⟩ := Deep.choose_lt each
    have hat : ∀ {t : Nat} {x : Pg}, ((List.range len).map fun t => (q t).2)[t]? = some x → t < len ∧ x = (q t).2 := fun {t x} h => by
      have ht : t < len := by have := (List.getElem?_eq_some_iff.1 h).1; simpa using this
      exact ⟨ht, by simpa [ht] using h.symm⟩
    refine ⟨⟨some a, len, m⟩, (List.range len).map fun t => (q t).2, hcs, ⟨by simp, by show len ≤ _; omega, fun hn => ?_⟩, fun X hX => ?_⟩
    · have hn' : 0 < len := hn
      obtain ⟨b, o, s⟩ := a
      have h0 := (hq 0 (by omega)).1 0 _ rfl
      have hs : s = none := by simpa [Addr.add] using World.cell?_spot h0
      subst hs
      refine ⟨b, o, rfl, fun t x hx => ?_⟩
      obtain ⟨ht, rfl⟩ := hat hx
      refine ⟨(q t).1, fun j v hj => ?_, (hq t (by omega)).2.1⟩
      have := (hq t (by omega)).1 j v hj
      have e : (Addr.mk b o none).add (t * 4 + j) = ⟨b, o + t * 4 + j, none⟩ := by simp [Addr.add, Nat.add_assoc]
      rw [← e]
      exact this
    · obtain ⟨t, ht, rfl⟩ := List.mem_map.1 hX
      exact (hq t (by have := List.mem_range.1 ht; omega)).2.2
theorem viewPgs {H : Type} {enc : TypeId × Value → H} {W : World} {b0 : Nat} {v : Value} {d : DataW H} {p : List MemPlace} (hv : Value.okWide Try.prog W .any b0 33 v)
    (h : DataW.Trod enc Try.prog W 0 (fun _ => true) true 33 v d p) : ∃ (s : Sl) (l : List Pg), v = s.v ∧ (PgsR W s l ∧ ∀ X ∈ l, FB X.F) := by
  obtain ⟨a0, la, ca, rfl⟩ := okWide_slice Try.underlying33 hv
  obtain ⟨f, hf⟩ := h
  obtain ⟨s, l, e, hA⟩ := viewPgs_cells hf
  simp only [Value.cells, List.cons.injEq, and_true] at e
  exact ⟨s, l, e, hA⟩
end Go.Proofs.Ytpplnjmjldhlbaa
