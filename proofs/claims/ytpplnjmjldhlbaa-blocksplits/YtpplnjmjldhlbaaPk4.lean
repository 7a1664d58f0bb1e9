/- Contracts of the program's functions, part 4 of 9: what each call returns and leaves of memory. -/
import Derived.Test.YtpplnjmjldhlbaaPk3
import Derived.Test.YtpplnjmjldhlbaaPk2
import Derived.Deep.CutRange
/- Package step: goOn: the view behind one token more. -/
namespace Go.Proofs.Ytpplnjmjldhlbaa
open Go.ChangeShapes Go.WideShapes Go.ChangeAt Go.RowKit
def layD : Lay := ⟨[], [], [], [], [], [], [], []⟩
def layAt (M : Mdl) (l : Nat) : Lay := M.Ls.getD l layD
/-- The row that l layers make of a first one, behind the lists K and V of n rows each. -/
def xRow (M : Mdl) (D H Hd n : Nat) (K V : List (List (List Int))) (x : List Int) : Nat → List Int
  | 0 => x
  | l + 1 => oneR (layAt M l) D H Hd (xRow M D H Hd n K V x l) (K.getD l []) (V.getD l []) n
def newK (M : Mdl) (D H Hd n L : Nat) (K V : List (List (List Int))) (x : List Int) : List (List (List Int)) := (List.range L).map fun l => K.getD l [] ++ [keyR (layAt M l) D (xRow M D H Hd n K V x l)]
def newV (M : Mdl) (D H Hd n L : Nat) (K V : List (List (List Int))) (x : List Int) : List (List (List Int)) := (List.range L).map fun l => V.getD l [] ++ [valR (layAt M l) D (xRow M D H Hd n K V x l)]
theorem newK_at (M : Mdl) (D H Hd n L : Nat) (K V : List (List (List Int))) (x : List Int) {l : Nat} (h : l < L) : (newK M D H Hd n L K V x).getD l [] = K.getD l [] ++ [keyR (layAt M l) D (xRow M D H Hd n K V x l)] := by
  unfold newK
  rw [List.getD_eq_getElem?_getD, List.getElem?_map, List.getElem?_range h]
  rfl
theorem newV_at (M : Mdl) (D H Hd n L : Nat) (K V : List (List (List Int))) (x : List Int) {l : Nat} (h : l < L) : (newV M D H Hd n L K V x).getD l [] = V.getD l [] ++ [valR (layAt M l) D (xRow M D H Hd n K V x l)] := by
  unfold newV
  rw [List.getD_eq_getElem?_getD, List.getElem?_map, List.getElem?_range h]
  rfl
/-- The view behind one token more, and the row that the last layer makes of it. -/
def feedV (M : Mdl) (D H Hd L : Nat) (X : Vw) (tok : Nat) : Vw := ⟨X.T ++ [(tok : Int)], newK M D H Hd X.T.length L X.K X.V (begR M.E D tok X.T.length), newV M D H Hd X.T.length L X.K X.V (begR M.E D tok X.T.length)⟩
def feedX (M : Mdl) (D H Hd L : Nat) (X : Vw) (tok : Nat) : List Int := xRow M D H Hd X.T.length X.K X.V (begR M.E D tok X.T.length) L
/-- The blocks that a new view's lists may hang on. -/
def offB (w : World) (gk gv gN : Nat) (tv : Value) (b : Nat) : Prop := w.heap.size + 3 < b ∧ b ≠ gk ∧ b ≠ gv ∧ b ≠ gN ∧ tv.ownBlock ≠ some b
theorem yield_row {w : World} {a : Act} {o : Oper} (ty : TypeId) (x : Operand) (ho : o.op = .load ty x) (g : Nat) (hx : a.eval x = .pointer (some ⟨g, 0, none⟩)) (cs : Array Value) (hl : (loadVar ty ⟨g, 0, none⟩).run Try.prog w = .ok (.agg cs) w) : (execOp a.eval o).run Try.prog w = .ok (.value (.agg cs)) w := by
  unfold execOp
  simp only [ho, hx, Instr.loadAt, Instr.sureAddr, Sem.run_bind, Sem.run_pure, Result.andThen_ok, hl]
theorem Fresh.arg_off {wr w : World} {B g n c : Nat} {A : List Int} {gk gv gN : Nat} {tv : Value} (h : Fresh wr B g n c A) (hB : w.heap.size + 3 < B) (h1 : g ≠ gk) (h2 : g ≠ gv) (h3 : g ≠ gN) (h4 : tv.ownBlock ≠ some g) : Hangs (offB w gk gv gN tv) wr fun w => Arg w (some ⟨g, 0, none⟩) n c A :=
  (h.hangs.mono fun b _ e => by subst e; have := h.base; exact ⟨by omega, h1, h2, h3, h4⟩).imp fun _ h => h.arg
theorem kv_made (w : World) (L : Nat) (p : Nat → Prop) (A C : List (List (List Int))) (hC : C = []) : KV (w.alloc (.cells (madeCells #[.slice none 0 0] L) 73)) w.heap.size L 0 p A C := by
  subst hC
  refine ⟨_, heap_alloc_new _ _, by simp [madeCells], fun t ht => by omega, fun t _ ht => ⟨none, 0, [], ?_, fun _ => rfl, fun _ _ => gridV_nil _ _⟩⟩
  simp [madeCells, ht, Nat.mod_one]
theorem getD_set_true (l : Array Bool) (z : Nat) : (l.setIfInBounds z true).getD z true = true := by
  rcases Nat.lt_or_ge z l.size with h | h
  · simp [h]
  · simp [h]
theorem cell_keep {w w' : World} {a : Addr} {v : Value} (h : w.cell? a = some v) (hb : Below w.heap.size w w') : w'.cell? a = some v := by
  rw [World.cell?_of_block (hb.block _ (World.block_lt_of_cell? w _ h))]
  exact h
theorem Hangs.grown {p : Nat → Prop} {w w' : World} {Φ : World → Prop} (h : Hangs p w Φ) {r : Option Nat} (hg : w.grownBy w' r) (hr : ∀ b, p b → some b ≠ r) : Hangs p w' Φ := fun w2 h2 =>
  h w2 fun b h3 h4 => (h2 b h3 (Nat.lt_of_lt_of_le h4 hg.size)).trans (hg.block b h4 (hr b h3))
theorem KV.grown {w w' : World} {g m i : Nat} {p : Nat → Prop} {A C : List (List (List Int))} (h : KV w g m i p A C) {r : Option Nat} (hg : w.grownBy w' r) (hr : ∀ b, p b → some b ≠ r) (hgr : some g ≠ r) : KV w' g m i p A C := by
  have hl := h.lt
  obtain ⟨cs, h1, h2, h3, h4⟩ := h.row
  exact ⟨cs, (hg.block g hl hgr).trans h1, h2, fun t ht => let ⟨ro, n, c, vs, e, q1, q2, q3, N⟩ := h3 t ht; ⟨ro, n, c, vs, e, q1, q2, q3, N.grown hg hr⟩, fun t ht h5 => let ⟨ro, n, vs, e, q1, N⟩ := h4 t ht h5; ⟨ro, n, vs, e, q1, N.grown hg hr⟩⟩
/-- Lists that were all told anew, as they read. -/
theorem KV.cube {w : World} {g m : Nat} {p : Nat → Prop} {A C : List (List (List Int))} (h : KV w g m m p A C) (hl : A.length = m) (hm : m ≤ 9223372036854775807) {B : Nat} (hp : ∀ b, p b → B ≤ b) (hB : B ≤ g) : New B w fun w => CubeAt w (some ⟨g, 0, none⟩) m A := by
  intro w2 h2
  have hlt := h.lt
  obtain ⟨cs, h1, hs, h3, _⟩ := h.row
  have hg := (h2 g hB hlt).trans h1
  refine ⟨hl, hm, fun _ => ⟨g, 0, rfl, fun t R hR => ?_⟩⟩
  have ht : t < m := by rw [← hl]; exact (List.getElem?_eq_some_iff.1 hR).1
  obtain ⟨ro, n, c, vs, e, q1, q2, q3, N⟩ := h3 t ht
  have eR : A.getD t [] = R := by rw [List.getD_eq_getElem?_getD, hR]; rfl
  rw [eR] at N
  refine ⟨ro, n, c, ?_, q1, q2, q3, (N w2 fun b hb hb2 => h2 b (hp b hb) hb2).grid⟩
  rw [Nat.zero_add]
  unfold World.cell?
  simp only [hg]
  exact e
theorem owns_slice {w : World} {B n : Nat} {e : TypeId} {v : Value} {xs : List Value} (h : w.ownsRow B e 1 v n xs) : ∃ a c, v = .slice a n c := by
  rcases h.2 with ⟨h3, h4⟩ | ⟨g, cap, cur, hv, _⟩
  · exact ⟨none, 0, by rw [h3, h4]⟩
  · exact ⟨_, _, hv⟩
/-- What lists of a view that fits are like. -/
theorem fit_list {D L n : Nat} {K : List (List (List Int))} (hk : K.length = if n = 0 then 0 else L) (ks : ∀ R ∈ K, R.length = n ∧ ∀ t, t < n → (rowOf R t).length = D) {l : Nat} (hl : l < L) : (K.getD l []).length = n ∧ ∀ t, t < n → (rowOf (K.getD l []) t).length = D := by
  by_cases h0 : n = 0
  · rw [if_pos h0] at hk
    obtain rfl : K = [] := List.length_eq_zero_iff.1 hk
    subst h0
    exact ⟨rfl, fun t ht => by omega⟩
  · rw [if_neg h0] at hk
    have e : K.getD l [] = K[l]'(by omega) := by rw [List.getD_eq_getElem?_getD, List.getElem?_eq_getElem (by omega)]; rfl
    rw [e]
    exact ks _ (List.getElem_mem _)
end Go.Proofs.Ytpplnjmjldhlbaa

/- lists: a copy of lists of rows, of the call's own. -/
namespace Go.Proofs.Ytpplnjmjldhlbaa
open Go.ChangeShapes Go.WideShapes Go.ChangeAt Go.RowKit
theorem OwnGrid.hangs {w : World} {B g k cap : Nat} {R : List (List Int)} (h : OwnGrid w B g k cap R) (hk : k ≤ 9223372036854775807) : Hangs (fun b => B ≤ b) w (fun w => GridAt w (some ⟨g, 0, none⟩) k R) := by
  intro w2 h2
  obtain ⟨vs, h1, gs, h3, h4⟩ := h.own
  have hl : g < w.heap.size := by obtain ⟨_, cur, hc⟩ := own_block h1; exact (Array.getElem?_eq_some_iff.1 hc).1
  refine OwnGrid.grid (B := B) (cap := cap) ⟨h.base, h.len, vs, owns_mono h1 (Nat.le_refl _) (fun b hb => ?_), gs, fun t ht => ?_, h4⟩ hk
  · simp [Value.ownBlock] at hb
    subst hb
    exact h2 _ h.base hl
  · obtain ⟨m, c, e, F⟩ := h3 t ht
    exact ⟨m, c, e, F.of_block (h2 _ F.base F.lt)⟩
theorem own_caps {w : World} {B e g k cap : Nat} {vs : List Value} (h : w.ownsRow B e 1 (.slice (some ⟨g, 0, none⟩) k cap) k vs) : k ≤ cap ∧ cap ≤ 9223372036854775807 := by
  rcases h.2 with ⟨h3, _⟩ | ⟨g', c', cur, hv, hg, hh, hnc, hcm, _⟩
  · cases h3
  · simp only [Value.slice.injEq, Option.some.injEq, Addr.mk.injEq, and_true] at hv
    obtain ⟨-, -, rfl⟩ := hv
    exact ⟨hnc, hcm⟩
/-- Block g is a list of lists, of the call's own. -/
structure OwnCube (w : World) (B g k cap : Nat) (C : List (List (List Int))) : Prop where
  base : B ≤ g
  len : C.length = k
  own : ∃ vs, w.ownsRow B 73 1 (.slice (some ⟨g, 0, none⟩) k cap) k vs ∧ ∀ (t : Nat) (R : List (List Int)), C[t]? = some R → ∃ ro m c, vs[t]? = some (.slice ro m c) ∧ (ro = none → c = 0) ∧ m ≤ c ∧ c ≤ 9223372036854775807 ∧ Hangs (fun b => B ≤ b ∧ b ≠ g) w (fun w => GridAt w ro m R)
theorem OwnCube.below {w w' : World} {B g k cap : Nat} {C : List (List (List Int))} (h : OwnCube w B g k cap C) (hb : Below w.heap.size w w') : OwnCube w' B g k cap C := by
  obtain ⟨vs, h1, h2⟩ := h.own
  exact ⟨h.base, h.len, vs, owns_below h1 hb, fun t R hR => let ⟨ro, m, c, e, h3, h4, h5, h6⟩ := h2 t R hR; ⟨ro, m, c, e, h3, h4, h5, h6.below hb⟩⟩
theorem OwnCube.lt {w : World} {B g k cap : Nat} {C : List (List (List Int))} (h : OwnCube w B g k cap C) : g < w.heap.size := by
  obtain ⟨vs, h1, _⟩ := h.own
  obtain ⟨_, cur, hc⟩ := own_block h1
  exact (Array.getElem?_eq_some_iff.1 hc).1
theorem OwnCube.cube {w : World} {B g k cap : Nat} {C : List (List (List Int))} (h : OwnCube w B g k cap C) (hk : k ≤ 9223372036854775807) : CubeAt w (some ⟨g, 0, none⟩) k C := by
  obtain ⟨vs, h1, h2⟩ := h.own
  refine ⟨h.len, hk, fun _ => ⟨g, 0, rfl, fun t R hR => ?_⟩⟩
  obtain ⟨ro, m, c, e, h3, h4, h5, h6⟩ := h2 t R hR
  have hc := h1.cells (g := g) rfl t _ e
  have e2 : (Addr.mk g 0 none).add t = ⟨g, t, none⟩ := by simp [Addr.add]; intro h; exact h.symm
  rw [e2] at hc
  exact ⟨ro, m, c, by rw [Nat.zero_add]; exact hc, h3, h4, h5, h6.now⟩
theorem OwnCube.hangs {w : World} {B g k cap : Nat} {C : List (List (List Int))} (h : OwnCube w B g k cap C) (hk : k ≤ 9223372036854775807) : New B w (fun w => CubeAt w (some ⟨g, 0, none⟩) k C) := by
  intro w2 h2
  obtain ⟨vs, h1, h3⟩ := h.own
  refine OwnCube.cube (B := B) (cap := cap) ⟨h.base, h.len, vs, owns_mono h1 (Nat.le_refl _) (fun b hb => ?_), fun t R hR => ?_⟩ hk
  · simp [Value.ownBlock] at hb
    subst hb
    exact h2 _ h.base h.lt
  · obtain ⟨ro, m, c, e, h4, h5, h6, h7⟩ := h3 t R hR
    have hs : w.heap.size ≤ w.heap.size := Nat.le_refl _
    exact ⟨ro, m, c, e, h4, h5, h6, fun w3 h8 => h7 w3 fun b hb hlt => (h8 b hb (Nat.lt_of_not_le fun hge => by
      have e1 := h2 b hb.1 hlt
      rw [Array.getElem?_eq_none hge, Array.getElem?_eq_getElem hlt] at e1
      cases e1)).trans (h2 b hb.1 hlt)⟩
theorem ownCube_empty (w : World) : OwnCube (w.alloc (.cells #[] 73)) w.heap.size w.heap.size 0 0 [] :=
  ⟨Nat.le_refl _, rfl, [], ⟨rfl, Or.inr ⟨w.heap.size, 0, #[], rfl, Nat.le_refl _, heap_alloc_new _ _, Nat.le_refl _, by decide, rfl, rfl⟩⟩, fun t R hR => by simp at hR⟩
theorem wpList_append_cube {w : World} {ops : Array Oper} {rest : List Oper} {o : Oper} {a : Act} {Q : Exit → Act → World → Prop} (hgd : o.guard = none) (s x : Operand)
    (ho : o.op = .call { callee := .builtin .append, args := #[s, x], argTypes := #[25, 25] })
    (B g k cap : Nat) (C : List (List (List Int))) (hs : a.eval s = .slice (some ⟨g, 0, none⟩) k cap) (hF : OwnCube w B g k cap C)
    (bo g1 m1 c1 : Nat) (R : List (List Int)) (hx : a.eval x = .slice (some ⟨bo, 0, none⟩) 1 1) (hX : w.cell? ⟨bo, 0, none⟩ = some (.slice (some ⟨g1, 0, none⟩) m1 c1)) (hm1 : m1 ≤ c1) (hc1 : c1 ≤ 9223372036854775807) (hY : Hangs (fun b => B ≤ b ∧ b ≠ g) w (fun w => GridAt w (some ⟨g1, 0, none⟩) m1 R))
    (hlen : k + 1 ≤ 1048576) (hB : B ≤ w.heap.size)
    (h : ∀ g' cap' w', OwnCube w' B g' (k + 1) cap' (C ++ [R]) → Below B w w' → wpList Try.prog ops Q rest (a.put o.dst (.slice (some ⟨g', 0, none⟩) (k + 1) cap')) w') : wpList Try.prog ops Q (o :: rest) a w := by
  obtain ⟨i0, hi, hz0, hz1, hz2⟩ := info_parts Try.infoList
  obtain ⟨vs, h1, h2⟩ := hF.own
  refine wpList_plain hgd fun _ hK => wp_append_own2 w s x 25 ho B 73 i0 (.slice none 0 0) 1 24 Try.underlying25 hi hz0 hz1 hz2 rfl (by decide) _ k _ hs h1 ⟨bo, 0, none⟩ 1 1 [.slice (some ⟨g1, 0, none⟩) m1 c1] hx rfl ?_ (by intro u hu; simp at hu; subst hu; rfl) (by unfold maxLen; omega) (by omega) hB ?_
  · intro j u hj
    match j, hj with
    | 0, hj =>
      simp at hj
      subst hj
      have e2 : (Addr.mk bo 0 none).add 0 = ⟨bo, 0, none⟩ := by simp [Addr.add]
      rw [e2, hX]
  · intro v' w' hown hg hnil hwh
    have hb : Below B w w' := (Below.refl _ _).grown hg hB (fun k hk => by simp [Value.ownBlock] at hk; subst hk; exact hF.base)
    have hlv : vs.length = k := by have := h1.1; omega
    have hown2 := hown
    obtain ⟨_, h4⟩ := hown2
    rcases h4 with ⟨_, h5⟩ | ⟨g', c', cur', hv, hg2, hr⟩
    · omega
    · subst hv
      have hw := hwh g' rfl
      have tr : ∀ {Φ : World → Prop}, Hangs (fun b => B ≤ b ∧ b ≠ g) w Φ → Hangs (fun b => B ≤ b ∧ b ≠ g') w' Φ := fun {Φ} hh w2 hh2 => hh w2 fun b hb1 hlt => by
        have hne : b ≠ g' := by
          rcases hw with e | e
          · simp [Value.ownBlock] at e; omega
          · omega
        exact (hh2 b ⟨hb1.1, hne⟩ (Nat.lt_of_lt_of_le hlt hg.size)).trans (hg.block b hlt (by simp [Value.ownBlock]; omega))
      refine hK _ _ (h g' c' w' ⟨hg2, by simp [hF.len], _, hown, fun t R' hR' => ?_⟩ hb)
      by_cases htk : t < k
      · rw [List.getElem?_append_left (by rw [hF.len]; exact htk)] at hR'
        obtain ⟨ro, m3, c3, e3, q1, q2, q3, q4⟩ := h2 t R' hR'
        exact ⟨ro, m3, c3, by rw [List.getElem?_append_left (by omega)]; exact e3, q1, q2, q3, tr q4⟩
      · rw [List.getElem?_append_right (by rw [hF.len]; omega), hF.len] at hR'
        have e0 : t - k = 0 := by
          rcases Nat.eq_zero_or_pos (t - k) with e | e
          · exact e
          · rw [List.getElem?_eq_none (by simp; omega)] at hR'; cases hR'
        rw [e0] at hR'
        simp at hR'
        subst hR'
        exact ⟨some ⟨g1, 0, none⟩, m1, c1, by rw [List.getElem?_append_right (by omega), hlv, e0]; rfl, (fun h => by cases h), hm1, hc1, tr hY⟩
theorem cellList_new (w : World) (v : Value) : (w.alloc (.cells #[v] 73)).cell? ⟨w.heap.size, 0, none⟩ = some v := by
  have e := heap_alloc_new w (.cells #[v] 73)
  unfold World.cell?
  simp only [e]
  rfl
end Go.Proofs.Ytpplnjmjldhlbaa

/- Told: a view as the document's, of the call's own. -/
namespace Go.Proofs.Ytpplnjmjldhlbaa
open Go.ChangeShapes Go.WideShapes Go.ChangeAt Go.RowKit
theorem take_one {C : List (List (List Int))} {k : Nat} {R : List (List Int)} (h : C[k]? = some R) : C.take (k + 1) = C.take k ++ [R] := by
  rw [List.take_add_one, h]; rfl
set_option maxHeartbeats 800000 in
theorem lists_any (ao : Option Addr) (n ca : Nat) (C : List (List (List Int))) (w : World) (hC : CubeAt w ao n C) (hn : n ≤ 5) (hr : ∀ R ∈ C, rowsN R 130 = R) :
   Calls Try.prog 26 #[.slice ao n ca] w fun e w' => ∃ g cap, e = .returned (.slice (some ⟨g, 0, none⟩) n cap) ∧ New w.heap.size w' (fun w => CubeAt w (some ⟨g, 0, none⟩) n C) ∧ Below w.heap.size w w' := by
  have hl := hC.len
  have F0 := ownCube_empty w
  have B0 : Below w.heap.size w (w.alloc (.cells #[] 73)) := (Below.refl _ _).alloc (Nat.le_refl _) _
  have HC : Hid (∀ wv, Below w.heap.size w wv → CubeAt wv ao n C) := fun wv hb => hC.below hb
  go_enter Try.func26, Try.ntmps26
  go_wp2
  generalize w.alloc (.cells #[] 73) = w0 at *
  clear hC
  go_loopg [3, 4] n (fun r s i wr => ∃ (k g cap : Nat), k ≤ n ∧ r = n - k ∧ i = .int .i64 k ∧ s = .slice (some ⟨g, 0, none⟩) k cap ∧ OwnCube wr w.heap.size g k cap (C.take k) ∧ Below w.heap.size w wr)
  case atStart => exact ⟨0, _, _, by omega, by omega, rfl, rfl, by rw [List.take_zero]; exact F0, B0⟩
  case round =>
    obtain ⟨k, g, cap, hk, rfl, rfl, rfl, F2, B2⟩ := hrel
    clear F0 B0
    by_cases hlt : k < n
    · obtain ⟨b, o, rfl, hc⟩ := (HC.out _ B2).cells (by omega)
      obtain ⟨R, hR⟩ : ∃ R, C[k]? = some R := ⟨_, List.getElem?_eq_getElem (show k < C.length by omega)⟩
      obtain ⟨ro, m1, c1, q1, -, -, -, G1⟩ := hc k R hR
      have HS : Hid (C.take (k + 1) = C.take k ++ [R]) := take_one hR
      have HRR : Hid (rowsN R 130 = R) := hr R (List.mem_of_getElem? hR)
      have s2 := B2.size
      have lg := F2.lt
      have h5 : (k : Int) < 5 := by omega
      clear hc
      go_wp2_with fail
      refine (hrows_any ro m1 c1 R 130 130 _ rfl G1 (by omega)).mono ?_
      rintro e w3 ⟨g3, n3, c3, rfl, hm3, OG, B3⟩
      rw [HRR.out] at OG
      obtain ⟨p1, p2⟩ := own_caps OG.own.choose_spec.1
      have NG := OG.hangs (by omega)
      have BL : Below w3.heap.size w3 (w3.alloc (.cells #[.slice (some ⟨g3, 0, none⟩) n3 c3] 73)) := (Below.refl _ _).alloc (Nat.le_refl _) _
      have cX := cellList_new w3 (.slice (some ⟨g3, 0, none⟩) n3 c3)
      have F4 := (F2.below B3).below BL
      have s3 := B3.size
      have s4 := BL.size
      have NG4 : Hangs (fun b => w.heap.size ≤ b ∧ b ≠ g) (w3.alloc (.cells #[.slice (some ⟨g3, 0, none⟩) n3 c3] 73)) (fun w => GridAt w (some ⟨g3, 0, none⟩) n3 R) := Hangs.mono (Hangs.below NG BL) (fun b _ hb => ⟨by omega, by omega⟩)
      have B4 := below_then (below_then B2 B3) BL
      clear NG OG F2 G1 q1
      generalize hw4 : w3.alloc (.cells #[.slice (some ⟨g3, 0, none⟩) n3 c3] 73) = w4 at *
      go_wp2_with (at_builtin; refine wpList_append_cube rfl _ _ rfl w.heap.size g k cap _ rfl (by exact F4) w3.heap.size g3 n3 c3 R rfl (by exact cX) p1 p2 (by exact NG4) (by omega) (by omega) ?_; intro g' cap' w' F7 B7)
      go_roundg (n - (k + 1))
      case measure => omega
      case rel => exact ⟨k + 1, _, _, by omega, rfl, by go_num, rfl, by rw [HS.out]; exact F7, B4.trans B7⟩
    · obtain rfl : k = n := by omega
      go_wp2
      go_ret
      rw [List.take_of_length_le (by omega)] at F2
      exact ⟨_, _, rfl, F2.hangs (by omega), B2⟩
/-- Told. -/
theorem Try.infoRV : (Try.prog.info? 31).map (·.size) = some 3 := by kernel_rfl
set_option maxRecDepth 100000 in
set_option maxHeartbeats 800000 in
theorem told9_any (vv : VwV) (X : Vw) (w : World) (hv : VwAt w vv X) (hT : X.T.length ≤ 130) (hK : X.K.length ≤ 5) (hV : X.V.length ≤ 5) (hrk : ∀ R ∈ X.K, rowsN R 130 = R) (hrv : ∀ R ∈ X.V, rowsN R 130 = R) :
   Calls Try.prog 6 #[.agg vv.cells] w fun e w' => ∃ t k v : Sl, e = .returned (.agg #[t.v, k.v, v.v]) ∧ ToldAt w' t k v X ∧ Below w.heap.size w w' := by
  have lt := hv.t.row.len
  have lk := hv.k.len
  have lv := hv.v.len
  have hsm := hv.t.row.small
  have HT : Hid (∀ wv, Below w.heap.size w wv → IArg wv vv.t.ao vv.t.n vv.t.c X.T) := fun wv hb => hv.t.below hb
  have HK : Hid (∀ wv, Below w.heap.size w wv → CubeAt wv vv.k.ao vv.k.n X.K) := fun wv hb => hv.k.below hb
  have HV : Hid (∀ wv, Below w.heap.size w wv → CubeAt wv vv.v.ao vv.v.n X.V) := fun wv hb => hv.v.below hb
  clear hv
  obtain ⟨⟨ta, tn, tc⟩, ⟨ka, kn, kc⟩, ⟨va, vn, vc⟩⟩ := vv
  unfold VwV.cells Sl.v
  simp only at *
  have lt' : tn ≤ 130 := by omega
  have lk' : kn ≤ 5 := by omega
  have lv' : vn ≤ 5 := by omega
  clear lt lk lv hK hV
  have X0 := blk_new w 29 #[.slice ta tn tc, .slice ka kn kc, .slice va vn vc]
  have B0 : Below w.heap.size w (w.alloc (.cells #[.slice ta tn tc, .slice ka kn kc, .slice va vn vc] 29)) := (Below.refl _ _).alloc (Nat.le_refl _) _
  generalize hw0 : w.alloc (.cells #[.slice ta tn tc, .slice ka kn kc, .slice va vn vc] 29) = w0 at *
  have lt0 := X0.lt
  have X1 := blk_new w0 31 #[.slice none 0 0, .slice none 0 0, .slice none 0 0]
  have B1 : Below w0.heap.size w0 (w0.alloc (.cells #[.slice none 0 0, .slice none 0 0, .slice none 0 0] 31)) := (Below.refl _ _).alloc (Nat.le_refl _) _
  generalize hw1 : w0.alloc (.cells #[.slice none 0 0, .slice none 0 0, .slice none 0 0] 31) = w1 at *
  replace X0 := X0.below B1
  have D := below_then B0 B1
  clear B0 B1
  have lt1 := X1.lt
  go_enter Try.func6, Try.ntmps6
  go_wp2_with fail
  clear hw0 hw1
  replace X0 := X0.below ((Below.refl _ _).drew)
  replace X1 := X1.below ((Below.refl _ _).drew)
  replace D := D.drew
  replace lt1 : w0.heap.size < w1.drew.heap.size := lt1
  refine wp_region_held_drew (S := fun w' => Blk w' w.heap.size 29 #[.slice ta tn tc, .slice ka kn kc, .slice va vn vc]) (by kernel_rfl) (X0) (fun hHeld => ?_)
  generalize hA : w1.drew = wA at *
  clear hA
  refine wpAnyH_take (i := 0) (v := (.pointer (some ⟨w.heap.size, 0, none⟩))) rfl (by kernel_rfl) (by kernel_rfl) (by kernel_rfl) (fun _ _ _ h => h) (Or.inl ⟨by rfl, ?_⟩) (by assumption) ?_
  · intro w' hSw
    go_simp
  simp only [List.getElem_toArray, List.getElem_cons_zero, Act.put, List.setIfInBounds_toArray, List.set_cons_zero, List.set_cons_succ]
  refine wpAnyH_take (i := 1) (v := (.slice ta tn tc)) rfl (by kernel_rfl) (by kernel_rfl) (by kernel_rfl) (fun _ _ _ h => h) (Or.inl ⟨by rfl, ?_⟩) (by assumption) ?_
  · intro w' hSw
    have cc0 : w'.cell? ⟨w.heap.size, 0, none⟩ = some (.slice ta tn tc) := hSw.cell 0 rfl
    go_simp
  simp only [List.getElem_toArray, List.getElem_cons_succ, List.getElem_cons_zero, Act.put, List.setIfInBounds_toArray, List.set_cons_zero, List.set_cons_succ]
  refine wpAnyH_take (i := 3) (v := (.pointer (some ⟨w.heap.size, 1, none⟩))) rfl (by kernel_rfl) (by kernel_rfl) (by kernel_rfl) (fun _ _ _ h => h) (Or.inl ⟨by rfl, ?_⟩) (by assumption) ?_
  · intro w' hSw
    go_simp
  simp only [List.getElem_toArray, List.getElem_cons_succ, List.getElem_cons_zero, Act.put, List.setIfInBounds_toArray, List.set_cons_zero, List.set_cons_succ]
  refine wpAnyH_take (i := 4) (v := (.pointer (some ⟨w.heap.size, 1, none⟩))) rfl (by kernel_rfl) (by kernel_rfl) (by kernel_rfl) (fun _ _ _ h => h) (Or.inl ⟨by rfl, ?_⟩) (by assumption) ?_
  · intro w' hSw
    go_simp
  simp only [List.getElem_toArray, List.getElem_cons_succ, List.getElem_cons_zero, Act.put, List.setIfInBounds_toArray, List.set_cons_zero, List.set_cons_succ]
  refine wpAnyH_take (i := 5) (v := (.slice ka kn kc)) rfl (by kernel_rfl) (by kernel_rfl) (by kernel_rfl) (fun _ _ _ h => h) (Or.inl ⟨by rfl, ?_⟩) (by assumption) ?_
  · intro w' hSw
    have cc1 : w'.cell? ⟨w.heap.size, 1, none⟩ = some (.slice ka kn kc) := hSw.cell 1 rfl
    go_simp
  simp only [List.getElem_toArray, List.getElem_cons_succ, List.getElem_cons_zero, Act.put, List.setIfInBounds_toArray, List.set_cons_zero, List.set_cons_succ]
  refine wpAnyH_take (i := 7) (v := (.pointer (some ⟨w.heap.size, 1, none⟩))) rfl (by kernel_rfl) (by kernel_rfl) (by kernel_rfl) (fun _ _ _ h => h) (Or.inl ⟨by rfl, ?_⟩) (by assumption) ?_
  · intro w' hSw
    go_simp
  simp only [List.getElem_toArray, List.getElem_cons_succ, List.getElem_cons_zero, Act.put, List.setIfInBounds_toArray, List.set_cons_zero, List.set_cons_succ]
  refine wpAnyH_take (i := 8) (v := (.pointer (some ⟨w.heap.size, 2, none⟩))) rfl (by kernel_rfl) (by kernel_rfl) (by kernel_rfl) (fun _ _ _ h => h) (Or.inl ⟨by rfl, ?_⟩) (by assumption) ?_
  · intro w' hSw
    go_simp
  simp only [List.getElem_toArray, List.getElem_cons_succ, List.getElem_cons_zero, Act.put, List.setIfInBounds_toArray, List.set_cons_zero, List.set_cons_succ]
  refine wpAnyH_take (i := 9) (v := (.slice va vn vc)) rfl (by kernel_rfl) (by kernel_rfl) (by kernel_rfl) (fun _ _ _ h => h) (Or.inl ⟨by rfl, ?_⟩) (by assumption) ?_
  · intro w' hSw
    have cc2 : w'.cell? ⟨w.heap.size, 2, none⟩ = some (.slice va vn vc) := hSw.cell 2 rfl
    go_simp
  simp only [List.getElem_toArray, List.getElem_cons_succ, List.getElem_cons_zero, Act.put, List.setIfInBounds_toArray, List.set_cons_zero, List.set_cons_succ]
  refine wpAnyH_ready (rs := [2]) (by kernel_rfl) (by simp) ?_
  refine AllReadyH.cons rfl (fun Kc hKc => ?_) AllReadyH.nil
  simp only [List.getElem_toArray, List.getElem_cons_succ, List.getElem_cons_zero]
  rw [if_pos (by rfl)]
  go_wp2_with fail
  refine (few8_gen ta tn tc X.T X.T 130 _ (HT.out _ D) (by omega) (List.take_of_length_le (by omega)).symm).mono ?_
  rintro e w2 ⟨tb, tc2, rfl, OT, B2⟩
  have zA2 := B2.size
  replace X0 := X0.below B2
  replace X1 := X1.below B2
  replace D := below_then D B2
  go_wp2_with fail
  refine hKc.out _ _ (X0) (fun hHeld => ?_)
  clear hKc Kc
  refine wpAnyH_ready (rs := [6]) (by kernel_rfl) (by simp) ?_
  refine AllReadyH.cons rfl (fun Kc hKc => ?_) AllReadyH.nil
  simp only [List.getElem_toArray, List.getElem_cons_succ, List.getElem_cons_zero]
  rw [if_pos (by rfl)]
  go_wp2_with fail
  refine (lists_any ka kn kc X.K _ (HK.out _ D) (by omega) hrk).mono ?_
  rintro e w3 ⟨kg, kc2, rfl, NK, B3⟩
  replace OT := owns_below OT B3
  have z3 := B3.size
  replace X0 := X0.below B3
  replace X1 := X1.below B3
  replace D := below_then D B3
  go_wp2_with fail
  refine hKc.out _ _ (X0) (fun hHeld => ?_)
  clear hKc Kc
  refine wpAnyH_ready (rs := [10]) (by kernel_rfl) (by simp) ?_
  refine AllReadyH.cons rfl (fun Kc hKc => ?_) AllReadyH.nil
  simp only [List.getElem_toArray, List.getElem_cons_succ, List.getElem_cons_zero]
  rw [if_pos (by rfl)]
  go_wp2_with fail
  refine (lists_any va vn vc X.V _ (HV.out _ D) (by omega) hrv).mono ?_
  rintro e w4 ⟨vg, vc2, rfl, NV, B4⟩
  replace OT := owns_below OT B4
  replace NK := NK.below B4
  replace X0 := X0.below B4
  replace X1 := X1.below B4
  replace D := below_then D B4
  go_wp2_with fail
  refine hKc.out _ _ (X0) (fun hHeld => ?_)
  clear hKc Kc
  refine wpAnyH_take (i := 11) (v := (.agg #[.slice (some ⟨tb, 0, none⟩) X.T.length tc2, .slice (some ⟨kg, 0, none⟩) kn kc2, .slice (some ⟨vg, 0, none⟩) vn vc2])) rfl (by kernel_rfl) (by kernel_rfl) (by kernel_rfl) (fun _ _ _ h => h) (Or.inl ⟨by rfl, ?_⟩) (by assumption) ?_
  · intro w' hSw
    go_simp
  simp only [List.getElem_toArray, List.getElem_cons_succ, List.getElem_cons_zero, Act.put, List.setIfInBounds_toArray, List.set_cons_zero, List.set_cons_succ]
  refine wpAnyH_ready (rs := [12]) (by kernel_rfl) (by simp) ?_
  refine AllReadyH.cons rfl (fun Kc hKc => ?_) AllReadyH.nil
  simp only [List.getElem_toArray, List.getElem_cons_succ, List.getElem_cons_zero]
  rw [if_pos (by rfl)]
  have hall : Array.all (#[.slice (some ⟨tb, 0, none⟩) X.T.length tc2, .slice (some ⟨kg, 0, none⟩) kn kc2, .slice (some ⟨vg, 0, none⟩) vn vc2] : Array Value) (fun v => v.oneCell') = true := by simp [Value.oneCell']
  refine wp_store_row 31 _ _ rfl w0.heap.size #[.slice (some ⟨tb, 0, none⟩) X.T.length tc2, .slice (some ⟨kg, 0, none⟩) kn kc2, .slice (some ⟨vg, 0, none⟩) vn vc2] rfl rfl 31 _ X1 Try.infoRV rfl hall ?_
  refine hKc.out _ _ (Blk.of_block X0 (setRow_other _ _ _ _ (by omega))) (fun hHeld => ?_)
  clear hKc Kc
  refine wpAnyH_done (by kernel_rfl) ?_ _
  clear hHeld
  go_wp2
  refine bodyPost_ret (results_cell_row rfl _ _ w0.heap.size 31 _ _ _ rfl (X1.row _) Try.underlying31 rfl Try.infoRV) rfl ?_
  have so : ∀ (b : Nat) (x : Array Value), b ≠ w0.heap.size → (w4.setRow w0.heap.size x).heap[b]? = w4.heap[b]? := fun b x hb => setRow_other _ _ _ _ hb
  obtain ⟨x1, y1, e1, IT⟩ := IOwn.arg (A := X.T) (owns_mono OT (Nat.le_refl _) (fun b hb => so b #[.slice (some ⟨tb, 0, none⟩) X.T.length tc2, .slice (some ⟨kg, 0, none⟩) kn kc2, .slice (some ⟨vg, 0, none⟩) vn vc2] (by have := (OT.lt b hb).1; omega))) hsm
  simp only [Value.slice.injEq, true_and] at e1
  obtain ⟨rfl, rfl⟩ := e1
  refine ⟨⟨some ⟨tb, 0, none⟩, _, tc2⟩, ⟨some ⟨kg, 0, none⟩, kn, kc2⟩, ⟨some ⟨vg, 0, none⟩, vn, vc2⟩, rfl, ⟨IT, ?_, ?_⟩, below_setRow D (by omega) _⟩
  · exact (Hangs.row NK (g := w0.heap.size) (by show ¬ (_ ≤ _); omega) _).now
  · exact (Hangs.row NV (g := w0.heap.size) (by show ¬ (_ ≤ _); omega) _).now
end Go.Proofs.Ytpplnjmjldhlbaa

/- Rows, rows of rows and lists of them that came in: as they read, nothing said of what is frozen; copies of them, of the call's own. -/
namespace Go.Proofs.Ytpplnjmjldhlbaa
open Go.ChangeShapes Go.WideShapes Go.ChangeAt Go.RowKit
structure ArgR (w : World) (ao : Option Addr) (n ca : Nat) (A : List Int) : Prop where
  row : RowAt w ao n A
  fit : n ≤ ca
  max : ca ≤ 9223372036854775807
  nil : ao = none → ca = 0
theorem ArgR.below {w w' : World} {ao : Option Addr} {n ca : Nat} {A : List Int} (h : ArgR w ao n ca A) (hb : Below w.heap.size w w') : ArgR w' ao n ca A := ⟨h.row.below hb, h.fit, h.max, h.nil⟩
theorem Arg.raw {w : World} {ao : Option Addr} {n ca : Nat} {A : List Int} (h : Arg w ao n ca A) : ArgR w ao n ca A := ⟨h.row, h.fit, h.max, h.nil⟩
structure GridR (w : World) (ao : Option Addr) (n : Nat) (R : List (List Int)) : Prop where
  len : R.length = n
  max : n ≤ 9223372036854775807
  cells : 0 < n → ∃ b o, ao = some ⟨b, o, none⟩ ∧ ∀ t, t < n → ∃ ro m c, w.cell? ⟨b, o + t, none⟩ = some (.slice ro m c) ∧ ArgR w ro m c (rowOf R t)
theorem GridR.nil (w : World) (ao : Option Addr) : GridR w ao 0 [] := ⟨rfl, by omega, fun h => by omega⟩
theorem GridR.below {w w' : World} {ao : Option Addr} {n : Nat} {R : List (List Int)} (h : GridR w ao n R) (hb : Below w.heap.size w w') : GridR w' ao n R := by
  refine ⟨h.len, h.max, fun hn => ?_⟩
  obtain ⟨b, o, e, hc⟩ := h.cells hn
  refine ⟨b, o, e, fun t ht => ?_⟩
  obtain ⟨ro, m, c, h1, h2⟩ := hc t ht
  have hlt : b < w.heap.size := by simpa using World.block_lt_of_cell? w _ h1
  exact ⟨ro, m, c, by rw [hb.cell (by exact hlt)]; exact h1, h2.below hb⟩
theorem GridAt.raw {w : World} {ao : Option Addr} {n : Nat} {R : List (List Int)} (h : GridAt w ao n R) : GridR w ao n R := ⟨h.len, h.max, fun hn => by
  obtain ⟨b, o, e, hc⟩ := h.cells hn
  exact ⟨b, o, e, fun t ht => let ⟨ro, m, c, h1, h2⟩ := hc t ht; ⟨ro, m, c, h1, h2.raw⟩⟩⟩
structure CubeR (w : World) (ao : Option Addr) (m : Nat) (C : List (List (List Int))) : Prop where
  len : C.length = m
  max : m ≤ 9223372036854775807
  cells : 0 < m → ∃ b o, ao = some ⟨b, o, none⟩ ∧ ∀ (t : Nat) (R : List (List Int)), C[t]? = some R → ∃ ro n c, w.cell? ⟨b, o + t, none⟩ = some (.slice ro n c) ∧ (ro = none → c = 0) ∧ n ≤ c ∧ c ≤ 9223372036854775807 ∧ GridR w ro n R
theorem CubeR.nil (w : World) (ao : Option Addr) : CubeR w ao 0 [] := ⟨rfl, by omega, fun h => by omega⟩
theorem CubeR.below {w w' : World} {ao : Option Addr} {m : Nat} {C : List (List (List Int))} (h : CubeR w ao m C) (hb : Below w.heap.size w w') : CubeR w' ao m C := by
  refine ⟨h.len, h.max, fun hn => ?_⟩
  obtain ⟨b, o, e, hc⟩ := h.cells hn
  refine ⟨b, o, e, fun t R hR => ?_⟩
  obtain ⟨ro, n, c, h1, h2, h3, h4, h5⟩ := hc t R hR
  have hlt : b < w.heap.size := by simpa using World.block_lt_of_cell? w _ h1
  exact ⟨ro, n, c, by rw [hb.cell (by exact hlt)]; exact h1, h2, h3, h4, h5.below hb⟩
theorem CubeAt.raw {w : World} {ao : Option Addr} {m : Nat} {C : List (List (List Int))} (h : CubeAt w ao m C) : CubeR w ao m C := ⟨h.len, h.max, fun hn => by
  obtain ⟨b, o, e, hc⟩ := h.cells hn
  exact ⟨b, o, e, fun t R hR => let ⟨ro, n, c, h1, h2, h3, h4, h5⟩ := hc t R hR; ⟨ro, n, c, h1, h2, h3, h4, h5.raw⟩⟩⟩
set_option maxHeartbeats 800000 in
theorem fewR_any (ao : Option Addr) (n ca : Nat) (A : List Int) (lim : Nat) (li : Int) (w : World) (hli : li = lim) (hA : ArgR w ao n ca A) (hl : lim ≤ 5000) :
   Calls Try.prog 53 #[.slice ao n ca, .int .i64 li] w fun e w' => ∃ g n' cap, e = .returned (.slice (some ⟨g, 0, none⟩) n' cap) ∧ n' ≤ lim ∧ Fresh w' w.heap.size g n' cap (A.take lim) ∧ Below w.heap.size w w' := by
  subst hli
  have hm := hA.max
  have hf := hA.fit
  have hlen := hA.row.len
  have F0 := fresh_empty w
  have B0 : Below w.heap.size w (w.alloc (.cells #[] 71)) := (Below.refl _ _).alloc (Nat.le_refl _) _
  by_cases hgt : lim < n
  · obtain ⟨b, o, rfl, hc⟩ := hA.row.cells (by omega)
    have R := (hA.row.part 0 lim (by omega)).below B0
    rw [Nat.add_zero, List.drop_zero] at R
    clear hA hc hlen
    go_enter Try.func53, Try.ntmps53
    go_wp2_with (at_builtin; refine wpList_append_row rfl _ _ rfl w.heap.size w.heap.size 0 0 [] rfl F0 (some ⟨b, o, none⟩) lim ca (A.take lim) rfl R (fun h => by cases h) (by omega) (by simp) ?_; intro g' cap' w' F1 B1)
    rw [Nat.zero_add, List.nil_append] at *
    go_ret
    exact ⟨_, _, _, rfl, Nat.le_refl _, F1, B0.trans B1⟩
  · have R := hA.row.below B0
    have ht : A.take lim = A := List.take_of_length_le (by omega)
    rw [ht]
    have hnil := hA.nil
    clear hA ht hlen
    go_enter Try.func53, Try.ntmps53
    go_wp2_with (at_builtin; refine wpList_append_row rfl _ _ rfl w.heap.size w.heap.size 0 0 [] rfl F0 ao n ca A rfl R hnil (by omega) (by simp) ?_; intro g' cap' w' F1 B1)
    rw [Nat.zero_add, List.nil_append] at *
    go_ret
    exact ⟨_, _, _, rfl, by omega, F1, B0.trans B1⟩
set_option maxHeartbeats 1600000 in
theorem hrowsR_any (ao : Option Addr) (n ca : Nat) (R : List (List Int)) (lim : Nat) (li : Int) (w : World) (hli : li = lim) (hR : GridR w ao n R) (hlim : lim ≤ 5000) :
   Calls Try.prog 46 #[.slice ao n ca, .int .i64 li] w fun e w' => ∃ g k cap, e = .returned (.slice (some ⟨g, 0, none⟩) k cap) ∧ k ≤ lim ∧ OwnGrid w' w.heap.size g k cap (rowsN R lim) ∧ Below w.heap.size w w' := by
  subst hli
  have hn := hR.max
  have hl := hR.len
  have F0 := ownGrid_empty w
  have B0 : Below w.heap.size w (w.alloc (.cells #[] 72)) := (Below.refl _ _).alloc (Nat.le_refl _) _
  have HR : Hid (∀ wv, Below w.heap.size w wv → GridR wv ao n R) := fun wv hb => hR.below hb
  go_enter Try.func46, Try.ntmps46
  go_wp2
  generalize w.alloc (.cells #[] 72) = w0 at *
  clear hR
  go_loopg [5, 6] lim (fun r s i wr => ∃ (k g cap : Nat), k ≤ lim ∧ k ≤ n ∧ r = lim - k ∧ i = .int .i64 k ∧ s = .slice (some ⟨g, 0, none⟩) k cap ∧ OwnGrid wr w.heap.size g k cap (rowsN R k) ∧ Below w.heap.size w wr)
  case atStart => exact ⟨0, _, _, by omega, by omega, by omega, rfl, rfl, by unfold rowsN; rw [List.take_zero]; exact F0, B0⟩
  case round =>
    obtain ⟨k, g, cap, hk, hkn, rfl, rfl, rfl, F2, B2⟩ := hrel
    clear F0 B0
    by_cases hlt : k < n
    · by_cases h6 : k < lim
      · obtain ⟨b, o, rfl, hc⟩ := (HR.out _ B2).cells (by omega)
        obtain ⟨ro, m1, c1, q1, A1⟩ := hc k hlt
        have HS : Hid (rowsN R (k + 1) = rowsN R k ++ [(rowOf R k).take 40]) := take_snoc (by omega)
        have s2 := B2.size
        clear hc
        go_wp2_with (first | (go_at_call 53; refine (fewR_any _ _ _ _ 40 _ _ rfl A1 (by omega)).mono ?_; rintro e w3 ⟨g3, n3, c3, rfl, hm3, F3, B3⟩; have BL : Below w3.heap.size w3 (w3.alloc (.cells #[.slice (some ⟨g3, 0, none⟩) n3 c3] 72)) := (Below.refl _ _).alloc (Nat.le_refl _) _; have cX := cellRow_new w3 (.slice (some ⟨g3, 0, none⟩) n3 c3); have F4 := (F3.mono s2).below BL; have G4 := (F2.below B3).below BL; have s3 := B3.size; have s4 := BL.size; have B4 := below_then (below_then B2 B3) BL; have BO := below_then B3 BL; have hg3 := F3.base; generalize hw4 : w3.alloc (.cells #[.slice (some ⟨g3, 0, none⟩) n3 c3] 72) = w4 at *) | (at_builtin; refine wpList_append_grid rfl _ _ rfl w.heap.size g k cap _ rfl (by exact G4) _ (by exact F2) (by exact BO) w3.heap.size g3 n3 c3 _ rfl (by exact cX) (by exact F4) (by exact hg3) (by omega) (by omega) ?_; intro g' cap' w' F7 B7))
        go_roundg (lim - (k + 1))
        case measure => omega
        case rel => exact ⟨k + 1, _, _, by omega, by omega, rfl, by go_num, rfl, by rw [HS.out]; exact F7, B4.trans B7⟩
      · obtain rfl : k = lim := by omega
        go_wp2
        go_ret
        exact ⟨_, _, _, rfl, Nat.le_refl _, F2, B2⟩
    · obtain rfl : k = n := by omega
      have e : rowsN R k = rowsN R lim := by unfold rowsN; rw [List.take_of_length_le (by omega), List.take_of_length_le (by omega)]
      rw [e] at F2
      clear e
      go_wp2
      go_ret
      exact ⟨_, _, _, rfl, hk, F2, B2⟩
/-- At most five lists of at most lim rows of at most 40 numbers. -/
def cutC (C : List (List (List Int))) (lim : Nat) : List (List (List Int)) := (C.take 5).map fun R => rowsN R lim
theorem cutC_len (C : List (List (List Int))) (lim : Nat) : (cutC C lim).length = min 5 C.length := by unfold cutC; simp
theorem cutC_snoc {C : List (List (List Int))} {k : Nat} {R : List (List Int)} (lim : Nat) (_hk : k < 5) (h : C[k]? = some R) : ((C.take (k + 1)).map fun R => rowsN R lim) = ((C.take k).map fun R => rowsN R lim) ++ [rowsN R lim] := by
  rw [take_one h]; simp
set_option maxRecDepth 100000 in
set_option maxHeartbeats 800000 in
theorem listsR_any (ao : Option Addr) (n ca : Nat) (C : List (List (List Int))) (m5 : Nat) (Z : List (List (List Int))) (w : World) (hC : CubeR w ao n C) (hm5 : m5 = min 5 n) (hZ : Z = cutC C 130) :
   Calls Try.prog 26 #[.slice ao n ca] w fun e w' => ∃ g cap, e = .returned (.slice (some ⟨g, 0, none⟩) m5 cap) ∧ New w.heap.size w' (fun w => CubeAt w (some ⟨g, 0, none⟩) m5 Z) ∧ Below w.heap.size w w' := by
  have hl := hC.len
  have F0 := ownCube_empty w
  have B0 : Below w.heap.size w (w.alloc (.cells #[] 73)) := (Below.refl _ _).alloc (Nat.le_refl _) _
  have HC : Hid (∀ wv, Below w.heap.size w wv → CubeR wv ao n C) := fun wv hb => hC.below hb
  go_enter Try.func26, Try.ntmps26
  go_wp2
  generalize w.alloc (.cells #[] 73) = w0 at *
  have hC' := hC
  have HZ : Hid (Z = cutC C 130) := hZ
  have HM5 : Hid (m5 = min 5 n) := hm5
  clear hC hZ hm5
  have hmx := hC'.max
  go_loopg [3, 4] n (fun r s i wr => ∃ (k g cap : Nat), k ≤ n ∧ k ≤ 5 ∧ r = n - k ∧ i = .int .i64 k ∧ s = .slice (some ⟨g, 0, none⟩) k cap ∧ OwnCube wr w.heap.size g k cap ((C.take k).map fun R => rowsN R 130) ∧ Below w.heap.size w wr)
  case atStart => exact ⟨0, _, _, by omega, by omega, by omega, rfl, rfl, by rw [List.take_zero]; exact F0, B0⟩
  case round =>
    obtain ⟨k, g, cap, hk, hk5, rfl, rfl, rfl, F2, B2⟩ := hrel
    clear hC'
    clear F0 B0
    by_cases hlt : k < n ∧ k < 5
    · obtain ⟨hlt, h5⟩ := hlt
      obtain ⟨b, o, rfl, hc⟩ := (HC.out _ B2).cells (by omega)
      obtain ⟨R, hR⟩ : ∃ R, C[k]? = some R := ⟨_, List.getElem?_eq_getElem (show k < C.length by omega)⟩
      obtain ⟨ro, m1, c1, q1, -, -, -, G1⟩ := hc k R hR
      have HS : Hid (((C.take (k + 1)).map fun R => rowsN R 130) = ((C.take k).map fun R => rowsN R 130) ++ [rowsN R 130]) := cutC_snoc 130 h5 hR
      have s2 := B2.size
      have lg := F2.lt
      have h5' : (k : Int) < 5 := by omega
      clear hc
      go_wp2_with fail
      refine (hrowsR_any ro m1 c1 R 130 130 _ rfl G1 (by omega)).mono ?_
      rintro e w3 ⟨g3, n3, c3, rfl, hm3, OG, B3⟩
      obtain ⟨p1, p2⟩ := own_caps OG.own.choose_spec.1
      have NG := OG.hangs (by omega)
      have BL : Below w3.heap.size w3 (w3.alloc (.cells #[.slice (some ⟨g3, 0, none⟩) n3 c3] 73)) := (Below.refl _ _).alloc (Nat.le_refl _) _
      have cX := cellList_new w3 (.slice (some ⟨g3, 0, none⟩) n3 c3)
      have F4 := (F2.below B3).below BL
      have s3 := B3.size
      have s4 := BL.size
      have NG4 : Hangs (fun b => w.heap.size ≤ b ∧ b ≠ g) (w3.alloc (.cells #[.slice (some ⟨g3, 0, none⟩) n3 c3] 73)) (fun w => GridAt w (some ⟨g3, 0, none⟩) n3 (rowsN R 130)) := Hangs.mono (Hangs.below NG BL) (fun b _ hb => ⟨by omega, by omega⟩)
      have B4 := below_then (below_then B2 B3) BL
      clear NG OG F2 G1 q1
      generalize hw4 : w3.alloc (.cells #[.slice (some ⟨g3, 0, none⟩) n3 c3] 73) = w4 at *
      go_wp2_with (at_builtin; refine wpList_append_cube rfl _ _ rfl w.heap.size g k cap _ rfl (by exact F4) w3.heap.size g3 n3 c3 (rowsN R 130) rfl (by exact cX) p1 p2 (by exact NG4) (by omega) (by omega) ?_; intro g' cap' w' F7 B7)
      go_roundg (n - (k + 1))
      case measure => omega
      case rel => exact ⟨k + 1, _, _, by omega, by omega, rfl, by go_num, rfl, by rw [HS.out]; exact F7, B4.trans B7⟩
    · have e1 : (C.take k).map (fun R => rowsN R 130) = cutC C 130 := by
        unfold cutC
        by_cases h5 : k = 5
        · rw [h5]
        · rw [List.take_of_length_le (by omega), List.take_of_length_le (by omega)]
      have e2 : k = min 5 n := by omega
      have e3 := HM5.out
      rw [← e2] at e3
      rw [e1, ← HZ.out] at F2
      subst e3
      clear hlt
      by_cases h5 : m5 < n
      · have hk5' : (m5 : Int) = 5 := by omega
        clear e1 e2
        go_wp2
        go_ret
        exact ⟨_, _, rfl, F2.hangs (by omega), B2⟩
      · obtain rfl : m5 = n := by omega
        clear e1 e2
        go_wp2
        go_ret
        exact ⟨_, _, rfl, F2.hangs (by omega), B2⟩
end Go.Proofs.Ytpplnjmjldhlbaa

/- Told, Of and Copy of layer 9 over any view. -/
namespace Go.Proofs.Ytpplnjmjldhlbaa
open Go.ChangeShapes Go.WideShapes Go.ChangeAt Go.RowKit
/-- A view that came in. -/
structure VwR (w : World) (v : VwV) (X : Vw) : Prop where
  t : IArg w v.t.ao v.t.n v.t.c X.T
  k : CubeR w v.k.ao v.k.n X.K
  v : CubeR w v.v.ao v.v.n X.V
theorem VwR.below {w w' : World} {v : VwV} {X : Vw} (h : VwR w v X) (hb : Below w.heap.size w w') : VwR w' v X := ⟨h.t.below hb, h.k.below hb, h.v.below hb⟩
theorem VwAt.raw {w : World} {v : VwV} {X : Vw} (h : VwAt w v X) : VwR w v X := ⟨h.t, h.k.raw, h.v.raw⟩
def cutVw (X : Vw) : Vw := ⟨X.T.take 130, cutC X.K 130, cutC X.V 130⟩
theorem rowsN_twice (R : List (List Int)) (n : Nat) : rowsN (rowsN R n) n = rowsN R n := by
  unfold rowsN
  rw [← List.map_take, List.take_take, Nat.min_self, List.map_map]
  congr 1
  funext l
  show List.take 40 (List.take 40 l) = List.take 40 l
  rw [List.take_take, Nat.min_self]
theorem cutC_twice (C : List (List (List Int))) (n : Nat) : cutC (cutC C n) n = cutC C n := by
  unfold cutC
  rw [← List.map_take, List.take_take, Nat.min_self, List.map_map]
  congr 1
  funext R
  exact rowsN_twice R n
theorem cutVw_twice (X : Vw) : cutVw (cutVw X) = cutVw X := by
  unfold cutVw
  simp only [cutC_twice, List.take_take, Nat.min_self]
theorem cutC_mem {C : List (List (List Int))} {n : Nat} {R : List (List Int)} (h : R ∈ cutC C n) : R.length ≤ n ∧ (∀ t, (rowOf R t).length ≤ 40) ∧ rowsN R n = R := by
  obtain ⟨S, _, rfl⟩ := List.mem_map.1 h
  exact ⟨by unfold rowsN; rw [List.length_map, List.length_take]; omega, fun t => rowsN_len S n t, rowsN_twice S n⟩
theorem cutC_at_most (C : List (List (List Int))) (n : Nat) : (cutC C n).length ≤ 5 := by rw [cutC_len]; omega
set_option maxRecDepth 100000 in
set_option maxHeartbeats 800000 in
theorem told9R_any (vv : VwV) (X : Vw) (w : World) (hv : VwR w vv X) :
   Calls Try.prog 6 #[.agg vv.cells] w fun e w' => ∃ t k v : Sl, e = .returned (.agg #[t.v, k.v, v.v]) ∧ ToldAt w' t k v (cutVw X) ∧ Below w.heap.size w w' := by
  have hsm := hv.t.row.small
  have HT : Hid (∀ wv, Below w.heap.size w wv → IArg wv vv.t.ao vv.t.n vv.t.c X.T) := fun wv hb => hv.t.below hb
  have HK : Hid (∀ wv, Below w.heap.size w wv → CubeR wv vv.k.ao vv.k.n X.K) := fun wv hb => hv.k.below hb
  have HV : Hid (∀ wv, Below w.heap.size w wv → CubeR wv vv.v.ao vv.v.n X.V) := fun wv hb => hv.v.below hb
  clear hv
  obtain ⟨⟨ta, tn, tc⟩, ⟨ka, kn, kc⟩, ⟨va, vn, vc⟩⟩ := vv
  unfold VwV.cells Sl.v
  simp only at *
  obtain ⟨TT, hTT⟩ : ∃ TT, TT = X.T.take 130 := ⟨_, rfl⟩
  obtain ⟨KK, hKK⟩ : ∃ KK, KK = cutC X.K 130 := ⟨_, rfl⟩
  obtain ⟨VV, hVV⟩ : ∃ VV, VV = cutC X.V 130 := ⟨_, rfl⟩
  obtain ⟨kn5, hkn5⟩ : ∃ m, m = min 5 kn := ⟨_, rfl⟩
  obtain ⟨vn5, hvn5⟩ : ∃ m, m = min 5 vn := ⟨_, rfl⟩
  have hsm2 : Hid (∀ k, -9223372036854775808 ≤ el TT k ∧ el TT k ≤ 9223372036854775807) := by
    intro k
    subst hTT
    rcases Nat.lt_or_ge k 130 with h | h
    · rw [el_take h]; exact hsm k
    · rw [el_over (by rw [List.length_take]; omega)]; omega
  have HTT : Hid (TT = X.T.take 130) := hTT
  have HKK : Hid (KK = cutC X.K 130) := hKK
  have HVV : Hid (VV = cutC X.V 130) := hVV
  have HKN : Hid (kn5 = min 5 kn) := hkn5
  have HVN : Hid (vn5 = min 5 vn) := hvn5
  clear hTT hKK hVV hkn5 hvn5 hsm
  have X0 := blk_new w 29 #[.slice ta tn tc, .slice ka kn kc, .slice va vn vc]
  have B0 : Below w.heap.size w (w.alloc (.cells #[.slice ta tn tc, .slice ka kn kc, .slice va vn vc] 29)) := (Below.refl _ _).alloc (Nat.le_refl _) _
  generalize hw0 : w.alloc (.cells #[.slice ta tn tc, .slice ka kn kc, .slice va vn vc] 29) = w0 at *
  have lt0 := X0.lt
  have X1 := blk_new w0 31 #[.slice none 0 0, .slice none 0 0, .slice none 0 0]
  have B1 : Below w0.heap.size w0 (w0.alloc (.cells #[.slice none 0 0, .slice none 0 0, .slice none 0 0] 31)) := (Below.refl _ _).alloc (Nat.le_refl _) _
  generalize hw1 : w0.alloc (.cells #[.slice none 0 0, .slice none 0 0, .slice none 0 0] 31) = w1 at *
  replace X0 := X0.below B1
  have D := below_then B0 B1
  clear B0 B1
  have lt1 := X1.lt
  go_enter Try.func6, Try.ntmps6
  go_wp2_with fail
  clear hw0 hw1
  replace X0 := X0.below ((Below.refl _ _).drew)
  replace X1 := X1.below ((Below.refl _ _).drew)
  replace D := D.drew
  replace lt1 : w0.heap.size < w1.drew.heap.size := lt1
  refine wp_region_held_drew (S := fun w' => Blk w' w.heap.size 29 #[.slice ta tn tc, .slice ka kn kc, .slice va vn vc]) (by kernel_rfl) (X0) (fun hHeld => ?_)
  generalize hA : w1.drew = wA at *
  clear hA
  refine wpAnyH_take (i := 0) (v := (.pointer (some ⟨w.heap.size, 0, none⟩))) rfl (by kernel_rfl) (by kernel_rfl) (by kernel_rfl) (fun _ _ _ h => h) (Or.inl ⟨by rfl, ?_⟩) (by assumption) ?_
  · intro w' hSw
    go_simp
  simp only [List.getElem_toArray, List.getElem_cons_zero, Act.put, List.setIfInBounds_toArray, List.set_cons_zero, List.set_cons_succ]
  refine wpAnyH_take (i := 1) (v := (.slice ta tn tc)) rfl (by kernel_rfl) (by kernel_rfl) (by kernel_rfl) (fun _ _ _ h => h) (Or.inl ⟨by rfl, ?_⟩) (by assumption) ?_
  · intro w' hSw
    have cc0 : w'.cell? ⟨w.heap.size, 0, none⟩ = some (.slice ta tn tc) := hSw.cell 0 rfl
    go_simp
  simp only [List.getElem_toArray, List.getElem_cons_succ, List.getElem_cons_zero, Act.put, List.setIfInBounds_toArray, List.set_cons_zero, List.set_cons_succ]
  refine wpAnyH_take (i := 3) (v := (.pointer (some ⟨w.heap.size, 1, none⟩))) rfl (by kernel_rfl) (by kernel_rfl) (by kernel_rfl) (fun _ _ _ h => h) (Or.inl ⟨by rfl, ?_⟩) (by assumption) ?_
  · intro w' hSw
    go_simp
  simp only [List.getElem_toArray, List.getElem_cons_succ, List.getElem_cons_zero, Act.put, List.setIfInBounds_toArray, List.set_cons_zero, List.set_cons_succ]
  refine wpAnyH_take (i := 4) (v := (.pointer (some ⟨w.heap.size, 1, none⟩))) rfl (by kernel_rfl) (by kernel_rfl) (by kernel_rfl) (fun _ _ _ h => h) (Or.inl ⟨by rfl, ?_⟩) (by assumption) ?_
  · intro w' hSw
    go_simp
  simp only [List.getElem_toArray, List.getElem_cons_succ, List.getElem_cons_zero, Act.put, List.setIfInBounds_toArray, List.set_cons_zero, List.set_cons_succ]
  refine wpAnyH_take (i := 5) (v := (.slice ka kn kc)) rfl (by kernel_rfl) (by kernel_rfl) (by kernel_rfl) (fun _ _ _ h => h) (Or.inl ⟨by rfl, ?_⟩) (by assumption) ?_
  · intro w' hSw
    have cc1 : w'.cell? ⟨w.heap.size, 1, none⟩ = some (.slice ka kn kc) := hSw.cell 1 rfl
    go_simp
  simp only [List.getElem_toArray, List.getElem_cons_succ, List.getElem_cons_zero, Act.put, List.setIfInBounds_toArray, List.set_cons_zero, List.set_cons_succ]
  refine wpAnyH_take (i := 7) (v := (.pointer (some ⟨w.heap.size, 1, none⟩))) rfl (by kernel_rfl) (by kernel_rfl) (by kernel_rfl) (fun _ _ _ h => h) (Or.inl ⟨by rfl, ?_⟩) (by assumption) ?_
  · intro w' hSw
    go_simp
  simp only [List.getElem_toArray, List.getElem_cons_succ, List.getElem_cons_zero, Act.put, List.setIfInBounds_toArray, List.set_cons_zero, List.set_cons_succ]
  refine wpAnyH_take (i := 8) (v := (.pointer (some ⟨w.heap.size, 2, none⟩))) rfl (by kernel_rfl) (by kernel_rfl) (by kernel_rfl) (fun _ _ _ h => h) (Or.inl ⟨by rfl, ?_⟩) (by assumption) ?_
  · intro w' hSw
    go_simp
  simp only [List.getElem_toArray, List.getElem_cons_succ, List.getElem_cons_zero, Act.put, List.setIfInBounds_toArray, List.set_cons_zero, List.set_cons_succ]
  refine wpAnyH_take (i := 9) (v := (.slice va vn vc)) rfl (by kernel_rfl) (by kernel_rfl) (by kernel_rfl) (fun _ _ _ h => h) (Or.inl ⟨by rfl, ?_⟩) (by assumption) ?_
  · intro w' hSw
    have cc2 : w'.cell? ⟨w.heap.size, 2, none⟩ = some (.slice va vn vc) := hSw.cell 2 rfl
    go_simp
  simp only [List.getElem_toArray, List.getElem_cons_succ, List.getElem_cons_zero, Act.put, List.setIfInBounds_toArray, List.set_cons_zero, List.set_cons_succ]
  refine wpAnyH_ready (rs := [2]) (by kernel_rfl) (by simp) ?_
  refine AllReadyH.cons rfl (fun Kc hKc => ?_) AllReadyH.nil
  simp only [List.getElem_toArray, List.getElem_cons_succ, List.getElem_cons_zero]
  rw [if_pos (by rfl)]
  go_wp2_with fail
  refine (few8_gen ta tn tc X.T TT 130 _ (HT.out _ D) (by omega) HTT.out).mono ?_
  rintro e w2 ⟨tb, tc2, rfl, OT, B2⟩
  have zA2 := B2.size
  replace X0 := X0.below B2
  replace X1 := X1.below B2
  replace D := below_then D B2
  go_wp2_with fail
  refine hKc.out _ _ (X0) (fun hHeld => ?_)
  clear hKc Kc
  refine wpAnyH_ready (rs := [6]) (by kernel_rfl) (by simp) ?_
  refine AllReadyH.cons rfl (fun Kc hKc => ?_) AllReadyH.nil
  simp only [List.getElem_toArray, List.getElem_cons_succ, List.getElem_cons_zero]
  rw [if_pos (by rfl)]
  go_wp2_with fail
  refine (listsR_any ka kn kc X.K kn5 KK _ (HK.out _ D) HKN.out HKK.out).mono ?_
  rintro e w3 ⟨kg, kc2, rfl, NK, B3⟩
  replace OT := owns_below OT B3
  have z3 := B3.size
  replace X0 := X0.below B3
  replace X1 := X1.below B3
  replace D := below_then D B3
  go_wp2_with fail
  refine hKc.out _ _ (X0) (fun hHeld => ?_)
  clear hKc Kc
  refine wpAnyH_ready (rs := [10]) (by kernel_rfl) (by simp) ?_
  refine AllReadyH.cons rfl (fun Kc hKc => ?_) AllReadyH.nil
  simp only [List.getElem_toArray, List.getElem_cons_succ, List.getElem_cons_zero]
  rw [if_pos (by rfl)]
  go_wp2_with fail
  refine (listsR_any va vn vc X.V vn5 VV _ (HV.out _ D) HVN.out HVV.out).mono ?_
  rintro e w4 ⟨vg, vc2, rfl, NV, B4⟩
  replace OT := owns_below OT B4
  replace NK := NK.below B4
  replace X0 := X0.below B4
  replace X1 := X1.below B4
  replace D := below_then D B4
  go_wp2_with fail
  refine hKc.out _ _ (X0) (fun hHeld => ?_)
  clear hKc Kc
  refine wpAnyH_take (i := 11) (v := (.agg #[.slice (some ⟨tb, 0, none⟩) TT.length tc2, .slice (some ⟨kg, 0, none⟩) kn5 kc2, .slice (some ⟨vg, 0, none⟩) vn5 vc2])) rfl (by kernel_rfl) (by kernel_rfl) (by kernel_rfl) (fun _ _ _ h => h) (Or.inl ⟨by rfl, ?_⟩) (by assumption) ?_
  · intro w' hSw
    go_simp
  simp only [List.getElem_toArray, List.getElem_cons_succ, List.getElem_cons_zero, Act.put, List.setIfInBounds_toArray, List.set_cons_zero, List.set_cons_succ]
  refine wpAnyH_ready (rs := [12]) (by kernel_rfl) (by simp) ?_
  refine AllReadyH.cons rfl (fun Kc hKc => ?_) AllReadyH.nil
  simp only [List.getElem_toArray, List.getElem_cons_succ, List.getElem_cons_zero]
  rw [if_pos (by rfl)]
  have hall : Array.all (#[.slice (some ⟨tb, 0, none⟩) TT.length tc2, .slice (some ⟨kg, 0, none⟩) kn5 kc2, .slice (some ⟨vg, 0, none⟩) vn5 vc2] : Array Value) (fun v => v.oneCell') = true := by simp [Value.oneCell']
  refine wp_store_row 31 _ _ rfl w0.heap.size #[.slice (some ⟨tb, 0, none⟩) TT.length tc2, .slice (some ⟨kg, 0, none⟩) kn5 kc2, .slice (some ⟨vg, 0, none⟩) vn5 vc2] rfl rfl 31 _ X1 Try.infoRV rfl hall ?_
  refine hKc.out _ _ (Blk.of_block X0 (setRow_other _ _ _ _ (by omega))) (fun hHeld => ?_)
  clear hKc Kc
  refine wpAnyH_done (by kernel_rfl) ?_ _
  clear hHeld
  go_wp2
  refine bodyPost_ret (results_cell_row rfl _ _ w0.heap.size 31 _ _ _ rfl (X1.row _) Try.underlying31 rfl Try.infoRV) rfl ?_
  have so : ∀ (b : Nat) (x : Array Value), b ≠ w0.heap.size → (w4.setRow w0.heap.size x).heap[b]? = w4.heap[b]? := fun b x hb => setRow_other _ _ _ _ hb
  obtain ⟨x1, y1, e1, IT⟩ := IOwn.arg (A := TT) (owns_mono OT (Nat.le_refl _) (fun b hb => so b #[.slice (some ⟨tb, 0, none⟩) TT.length tc2, .slice (some ⟨kg, 0, none⟩) kn5 kc2, .slice (some ⟨vg, 0, none⟩) vn5 vc2] (by have := (OT.lt b hb).1; omega))) hsm2.out
  simp only [Value.slice.injEq, true_and] at e1
  obtain ⟨rfl, rfl⟩ := e1
  have q1 := (Hangs.row NK (g := w0.heap.size) (by show ¬ (_ ≤ _); omega) #[.slice (some ⟨tb, 0, none⟩) TT.length tc2, .slice (some ⟨kg, 0, none⟩) kn5 kc2, .slice (some ⟨vg, 0, none⟩) vn5 vc2]).now
  have q2 := (Hangs.row NV (g := w0.heap.size) (by show ¬ (_ ≤ _); omega) #[.slice (some ⟨tb, 0, none⟩) TT.length tc2, .slice (some ⟨kg, 0, none⟩) kn5 kc2, .slice (some ⟨vg, 0, none⟩) vn5 vc2]).now
  have E1 := HTT.out
  have E2 := HKK.out
  have E3 := HVV.out
  subst E1 E2 E3
  exact ⟨⟨some ⟨tb, 0, none⟩, _, tc2⟩, ⟨some ⟨kg, 0, none⟩, kn5, kc2⟩, ⟨some ⟨vg, 0, none⟩, vn5, vc2⟩, rfl, ⟨IT, q1, q2⟩, below_setRow D (by omega) _⟩
set_option maxRecDepth 100000 in
set_option maxHeartbeats 800000 in
theorem of9_gen (vv : VwV) (X : Vw) (w : World) (hv : VwR w vv X) :
   Calls Try.prog 8 #[.agg vv.cells] w fun e w' => ∃ v2 : VwV, e = .returned (.agg v2.cells) ∧ VwAt w' v2 (cutVw X) ∧ Below w.heap.size w w' := by
  have hsm := hv.t.row.small
  have HT : Hid (∀ wv, Below w.heap.size w wv → IArg wv vv.t.ao vv.t.n vv.t.c X.T) := fun wv hb => hv.t.below hb
  have HK : Hid (∀ wv, Below w.heap.size w wv → CubeR wv vv.k.ao vv.k.n X.K) := fun wv hb => hv.k.below hb
  have HV : Hid (∀ wv, Below w.heap.size w wv → CubeR wv vv.v.ao vv.v.n X.V) := fun wv hb => hv.v.below hb
  clear hv
  obtain ⟨⟨ta, tn, tc⟩, ⟨ka, kn, kc⟩, ⟨va, vn, vc⟩⟩ := vv
  unfold VwV.cells Sl.v
  simp only at *
  obtain ⟨TT, hTT⟩ : ∃ TT, TT = X.T.take 130 := ⟨_, rfl⟩
  obtain ⟨KK, hKK⟩ : ∃ KK, KK = cutC X.K 130 := ⟨_, rfl⟩
  obtain ⟨VV, hVV⟩ : ∃ VV, VV = cutC X.V 130 := ⟨_, rfl⟩
  obtain ⟨kn5, hkn5⟩ : ∃ m, m = min 5 kn := ⟨_, rfl⟩
  obtain ⟨vn5, hvn5⟩ : ∃ m, m = min 5 vn := ⟨_, rfl⟩
  have hsm2 : Hid (∀ k, -9223372036854775808 ≤ el TT k ∧ el TT k ≤ 9223372036854775807) := by
    intro k
    subst hTT
    rcases Nat.lt_or_ge k 130 with h | h
    · rw [el_take h]; exact hsm k
    · rw [el_over (by rw [List.length_take]; omega)]; omega
  have HTT : Hid (TT = X.T.take 130) := hTT
  have HKK : Hid (KK = cutC X.K 130) := hKK
  have HVV : Hid (VV = cutC X.V 130) := hVV
  have HKN : Hid (kn5 = min 5 kn) := hkn5
  have HVN : Hid (vn5 = min 5 vn) := hvn5
  clear hTT hKK hVV hkn5 hvn5 hsm
  have X0 := blk_new w 31 #[.slice ta tn tc, .slice ka kn kc, .slice va vn vc]
  have B0 : Below w.heap.size w (w.alloc (.cells #[.slice ta tn tc, .slice ka kn kc, .slice va vn vc] 31)) := (Below.refl _ _).alloc (Nat.le_refl _) _
  generalize hw0 : w.alloc (.cells #[.slice ta tn tc, .slice ka kn kc, .slice va vn vc] 31) = w0 at *
  have lt0 := X0.lt
  have X1 := blk_new w0 29 #[.slice none 0 0, .slice none 0 0, .slice none 0 0]
  have B1 : Below w0.heap.size w0 (w0.alloc (.cells #[.slice none 0 0, .slice none 0 0, .slice none 0 0] 29)) := (Below.refl _ _).alloc (Nat.le_refl _) _
  generalize hw1 : w0.alloc (.cells #[.slice none 0 0, .slice none 0 0, .slice none 0 0] 29) = w1 at *
  replace X0 := X0.below B1
  have D := below_then B0 B1
  clear B0 B1
  have lt1 := X1.lt
  go_enter Try.func8, Try.ntmps8
  go_wp2_with fail
  clear hw0 hw1
  replace X0 := X0.below ((Below.refl _ _).drew)
  replace X1 := X1.below ((Below.refl _ _).drew)
  replace D := D.drew
  replace lt1 : w0.heap.size < w1.drew.heap.size := lt1
  refine wp_region_held_drew (S := fun w' => Blk w' w.heap.size 31 #[.slice ta tn tc, .slice ka kn kc, .slice va vn vc]) (by kernel_rfl) (X0) (fun hHeld => ?_)
  generalize hA : w1.drew = wA at *
  clear hA
  refine wpAnyH_take (i := 0) (v := (.pointer (some ⟨w.heap.size, 0, none⟩))) rfl (by kernel_rfl) (by kernel_rfl) (by kernel_rfl) (fun _ _ _ h => h) (Or.inl ⟨by rfl, ?_⟩) (by assumption) ?_
  · intro w' hSw
    go_simp
  simp only [List.getElem_toArray, List.getElem_cons_zero, Act.put, List.setIfInBounds_toArray, List.set_cons_zero, List.set_cons_succ]
  refine wpAnyH_take (i := 1) (v := (.slice ta tn tc)) rfl (by kernel_rfl) (by kernel_rfl) (by kernel_rfl) (fun _ _ _ h => h) (Or.inl ⟨by rfl, ?_⟩) (by assumption) ?_
  · intro w' hSw
    have cc0 : w'.cell? ⟨w.heap.size, 0, none⟩ = some (.slice ta tn tc) := hSw.cell 0 rfl
    go_simp
  simp only [List.getElem_toArray, List.getElem_cons_succ, List.getElem_cons_zero, Act.put, List.setIfInBounds_toArray, List.set_cons_zero, List.set_cons_succ]
  refine wpAnyH_take (i := 3) (v := (.pointer (some ⟨w.heap.size, 1, none⟩))) rfl (by kernel_rfl) (by kernel_rfl) (by kernel_rfl) (fun _ _ _ h => h) (Or.inl ⟨by rfl, ?_⟩) (by assumption) ?_
  · intro w' hSw
    go_simp
  simp only [List.getElem_toArray, List.getElem_cons_succ, List.getElem_cons_zero, Act.put, List.setIfInBounds_toArray, List.set_cons_zero, List.set_cons_succ]
  refine wpAnyH_take (i := 4) (v := (.slice ka kn kc)) rfl (by kernel_rfl) (by kernel_rfl) (by kernel_rfl) (fun _ _ _ h => h) (Or.inl ⟨by rfl, ?_⟩) (by assumption) ?_
  · intro w' hSw
    have cc1 : w'.cell? ⟨w.heap.size, 1, none⟩ = some (.slice ka kn kc) := hSw.cell 1 rfl
    go_simp
  simp only [List.getElem_toArray, List.getElem_cons_succ, List.getElem_cons_zero, Act.put, List.setIfInBounds_toArray, List.set_cons_zero, List.set_cons_succ]
  refine wpAnyH_take (i := 6) (v := (.pointer (some ⟨w.heap.size, 2, none⟩))) rfl (by kernel_rfl) (by kernel_rfl) (by kernel_rfl) (fun _ _ _ h => h) (Or.inl ⟨by rfl, ?_⟩) (by assumption) ?_
  · intro w' hSw
    go_simp
  simp only [List.getElem_toArray, List.getElem_cons_succ, List.getElem_cons_zero, Act.put, List.setIfInBounds_toArray, List.set_cons_zero, List.set_cons_succ]
  refine wpAnyH_take (i := 7) (v := (.slice va vn vc)) rfl (by kernel_rfl) (by kernel_rfl) (by kernel_rfl) (fun _ _ _ h => h) (Or.inl ⟨by rfl, ?_⟩) (by assumption) ?_
  · intro w' hSw
    have cc2 : w'.cell? ⟨w.heap.size, 2, none⟩ = some (.slice va vn vc) := hSw.cell 2 rfl
    go_simp
  simp only [List.getElem_toArray, List.getElem_cons_succ, List.getElem_cons_zero, Act.put, List.setIfInBounds_toArray, List.set_cons_zero, List.set_cons_succ]
  refine wpAnyH_ready (rs := [2]) (by kernel_rfl) (by simp) ?_
  refine AllReadyH.cons rfl (fun Kc hKc => ?_) AllReadyH.nil
  simp only [List.getElem_toArray, List.getElem_cons_succ, List.getElem_cons_zero]
  rw [if_pos (by rfl)]
  go_wp2_with fail
  refine (few8_gen ta tn tc X.T TT 130 _ (HT.out _ D) (by omega) HTT.out).mono ?_
  rintro e w2 ⟨tb, tc2, rfl, OT, B2⟩
  have zA2 := B2.size
  replace X0 := X0.below B2
  replace X1 := X1.below B2
  replace D := below_then D B2
  go_wp2_with fail
  refine hKc.out _ _ (X0) (fun hHeld => ?_)
  clear hKc Kc
  refine wpAnyH_ready (rs := [5]) (by kernel_rfl) (by simp) ?_
  refine AllReadyH.cons rfl (fun Kc hKc => ?_) AllReadyH.nil
  simp only [List.getElem_toArray, List.getElem_cons_succ, List.getElem_cons_zero]
  rw [if_pos (by rfl)]
  go_wp2_with fail
  refine (listsR_any ka kn kc X.K kn5 KK _ (HK.out _ D) HKN.out HKK.out).mono ?_
  rintro e w3 ⟨kg, kc2, rfl, NK, B3⟩
  replace OT := owns_below OT B3
  have z3 := B3.size
  replace X0 := X0.below B3
  replace X1 := X1.below B3
  replace D := below_then D B3
  go_wp2_with fail
  refine hKc.out _ _ (X0) (fun hHeld => ?_)
  clear hKc Kc
  refine wpAnyH_ready (rs := [8]) (by kernel_rfl) (by simp) ?_
  refine AllReadyH.cons rfl (fun Kc hKc => ?_) AllReadyH.nil
  simp only [List.getElem_toArray, List.getElem_cons_succ, List.getElem_cons_zero]
  rw [if_pos (by rfl)]
  go_wp2_with fail
  refine (listsR_any va vn vc X.V vn5 VV _ (HV.out _ D) HVN.out HVV.out).mono ?_
  rintro e w4 ⟨vg, vc2, rfl, NV, B4⟩
  replace OT := owns_below OT B4
  replace NK := NK.below B4
  replace X0 := X0.below B4
  replace X1 := X1.below B4
  replace D := below_then D B4
  go_wp2_with fail
  refine hKc.out _ _ (X0) (fun hHeld => ?_)
  clear hKc Kc
  refine wpAnyH_take (i := 9) (v := (.agg #[.slice (some ⟨kg, 0, none⟩) kn5 kc2, .slice (some ⟨vg, 0, none⟩) vn5 vc2])) rfl (by kernel_rfl) (by kernel_rfl) (by kernel_rfl) (fun _ _ _ h => h) (Or.inl ⟨by rfl, ?_⟩) (by assumption) ?_
  · intro w' hSw
    go_simp
  simp only [List.getElem_toArray, List.getElem_cons_succ, List.getElem_cons_zero, Act.put, List.setIfInBounds_toArray, List.set_cons_zero, List.set_cons_succ]
  refine wpAnyH_take (i := 10) (v := (.agg #[.slice (some ⟨tb, 0, none⟩) TT.length tc2, .slice (some ⟨kg, 0, none⟩) kn5 kc2, .slice (some ⟨vg, 0, none⟩) vn5 vc2])) rfl (by kernel_rfl) (by kernel_rfl) (by kernel_rfl) (fun _ _ _ h => h) (Or.inl ⟨by rfl, ?_⟩) (by assumption) ?_
  · intro w' hSw
    go_simp
  simp only [List.getElem_toArray, List.getElem_cons_succ, List.getElem_cons_zero, Act.put, List.setIfInBounds_toArray, List.set_cons_zero, List.set_cons_succ]
  refine wpAnyH_ready (rs := [11]) (by kernel_rfl) (by simp) ?_
  refine AllReadyH.cons rfl (fun Kc hKc => ?_) AllReadyH.nil
  simp only [List.getElem_toArray, List.getElem_cons_succ, List.getElem_cons_zero]
  rw [if_pos (by rfl)]
  have hall : Array.all (#[.slice (some ⟨tb, 0, none⟩) TT.length tc2, .slice (some ⟨kg, 0, none⟩) kn5 kc2, .slice (some ⟨vg, 0, none⟩) vn5 vc2] : Array Value) (fun v => v.oneCell') = true := by simp [Value.oneCell']
  refine wp_store_row 29 _ _ rfl w0.heap.size #[.slice (some ⟨tb, 0, none⟩) TT.length tc2, .slice (some ⟨kg, 0, none⟩) kn5 kc2, .slice (some ⟨vg, 0, none⟩) vn5 vc2] rfl rfl 29 _ X1 Try.infoV rfl hall ?_
  refine hKc.out _ _ (Blk.of_block X0 (setRow_other _ _ _ _ (by omega))) (fun hHeld => ?_)
  clear hKc Kc
  refine wpAnyH_done (by kernel_rfl) ?_ _
  clear hHeld
  go_wp2
  refine bodyPost_ret (results_cell_row rfl _ _ w0.heap.size 29 _ _ _ rfl (X1.row _) Try.underlying29 rfl Try.infoV) rfl ?_
  have so : ∀ (b : Nat) (x : Array Value), b ≠ w0.heap.size → (w4.setRow w0.heap.size x).heap[b]? = w4.heap[b]? := fun b x hb => setRow_other _ _ _ _ hb
  obtain ⟨x1, y1, e1, IT⟩ := IOwn.arg (A := TT) (owns_mono OT (Nat.le_refl _) (fun b hb => so b #[.slice (some ⟨tb, 0, none⟩) TT.length tc2, .slice (some ⟨kg, 0, none⟩) kn5 kc2, .slice (some ⟨vg, 0, none⟩) vn5 vc2] (by have := (OT.lt b hb).1; omega))) hsm2.out
  simp only [Value.slice.injEq, true_and] at e1
  obtain ⟨rfl, rfl⟩ := e1
  have q1 := (Hangs.row NK (g := w0.heap.size) (by show ¬ (_ ≤ _); omega) #[.slice (some ⟨tb, 0, none⟩) TT.length tc2, .slice (some ⟨kg, 0, none⟩) kn5 kc2, .slice (some ⟨vg, 0, none⟩) vn5 vc2]).now
  have q2 := (Hangs.row NV (g := w0.heap.size) (by show ¬ (_ ≤ _); omega) #[.slice (some ⟨tb, 0, none⟩) TT.length tc2, .slice (some ⟨kg, 0, none⟩) kn5 kc2, .slice (some ⟨vg, 0, none⟩) vn5 vc2]).now
  have E1 := HTT.out
  have E2 := HKK.out
  have E3 := HVV.out
  subst E1 E2 E3
  exact ⟨⟨⟨some ⟨tb, 0, none⟩, _, tc2⟩, ⟨some ⟨kg, 0, none⟩, kn5, kc2⟩, ⟨some ⟨vg, 0, none⟩, vn5, vc2⟩⟩, rfl, ⟨IT, q1, q2⟩, below_setRow D (by omega) _⟩
theorem ToldAt.raw {w : World} {t k v : Sl} {X : Vw} (h : ToldAt w t k v X) : VwR w ⟨t, k, v⟩ X := ⟨h.t, h.k.raw, h.v.raw⟩
theorem of9_any (t k v : Sl) (X : Vw) (w : World) (h : ToldAt w t k v X) (hX : cutVw X = X) :
   Calls Try.prog 8 #[.agg #[t.v, k.v, v.v]] w fun e w' => ∃ v2 : VwV, e = .returned (.agg v2.cells) ∧ VwAt w' v2 X ∧ Below w.heap.size w w' := by
  have := of9_gen ⟨t, k, v⟩ X w h.raw
  rw [hX] at this
  exact this
theorem KV.cubeR {w : World} {g m : Nat} {p : Nat → Prop} {A C : List (List (List Int))} (h : KV w g m 0 p A C) (hl : C.length = m) (hm : m ≤ 9223372036854775807) (hr : ∀ R ∈ C, R.length ≤ 4096) : CubeAt w (some ⟨g, 0, none⟩) m C := by
  obtain ⟨cs, h1, h2, _, h4⟩ := h.row
  refine ⟨hl, hm, fun _ => ⟨g, 0, rfl, fun t R hR => ?_⟩⟩
  have ht : t < m := by have := (List.getElem?_eq_some_iff.1 hR).1; omega
  obtain ⟨ro, n, vs, e, q1, N⟩ := h4 t (by omega) ht
  have e2 : C.getD t [] = R := by rw [List.getD_eq_getElem?_getD, hR]; rfl
  rw [e2] at N
  have G := N.now.grid
  have hl2 := hr R (List.mem_of_getElem? hR)
  have hn := G.len
  refine ⟨ro, n, n, ?_, q1, Nat.le_refl _, by omega, G⟩
  rw [Nat.zero_add]
  unfold World.cell?
  simp only [h1]
  exact e
theorem cutVw_bounds {X : Vw} (hX : cutVw X = X) : X.T.length ≤ 130 ∧ X.K.length ≤ 5 ∧ X.V.length ≤ 5 ∧ (∀ R ∈ X.K, R.length ≤ 130 ∧ (∀ t, (rowOf R t).length ≤ 40) ∧ rowsN R 130 = R) ∧ ∀ R ∈ X.V, R.length ≤ 130 ∧ (∀ t, (rowOf R t).length ≤ 40) ∧ rowsN R 130 = R := by
  have h1 : X.T.take 130 = X.T := congrArg Vw.T hX
  have h2 : cutC X.K 130 = X.K := congrArg Vw.K hX
  have h3 : cutC X.V 130 = X.V := congrArg Vw.V hX
  refine ⟨by rw [← h1, List.length_take]; omega, by rw [← h2]; exact cutC_at_most _ _, by rw [← h3]; exact cutC_at_most _ _, fun R hR => cutC_mem (by rw [h2]; exact hR), fun R hR => cutC_mem (by rw [h3]; exact hR)⟩
/-- Told of a view that was cut: the same again. -/
theorem told9C_any (vv : VwV) (X : Vw) (w : World) (hv : VwAt w vv X) (hX : cutVw X = X) :
   Calls Try.prog 6 #[.agg vv.cells] w fun e w' => ∃ t k v : Sl, e = .returned (.agg #[t.v, k.v, v.v]) ∧ ToldAt w' t k v X ∧ Below w.heap.size w w' := by
  have := told9R_any vv X w hv.raw
  rw [hX] at this
  exact this
end Go.Proofs.Ytpplnjmjldhlbaa

/- Lists of at most 20 rows: a copy of lists of rows that came in. -/
namespace Go.Proofs.Ytpplnjmjldhlbaa
open Go.ChangeShapes Go.WideShapes Go.ChangeAt Go.RowKit
set_option maxRecDepth 100000 in
set_option maxHeartbeats 800000 in
theorem lists11_any (ao : Option Addr) (n ca : Nat) (C : List (List (List Int))) (m5 : Nat) (Z : List (List (List Int))) (w : World) (hC : CubeR w ao n C) (hm5 : m5 = min 5 n) (hZ : Z = cutC C 20) :
   Calls Try.prog 34 #[.slice ao n ca] w fun e w' => ∃ g cap, e = .returned (.slice (some ⟨g, 0, none⟩) m5 cap) ∧ New w.heap.size w' (fun w => CubeAt w (some ⟨g, 0, none⟩) m5 Z) ∧ Below w.heap.size w w' := by
  have hl := hC.len
  have F0 := ownCube_empty w
  have B0 : Below w.heap.size w (w.alloc (.cells #[] 73)) := (Below.refl _ _).alloc (Nat.le_refl _) _
  have HC : Hid (∀ wv, Below w.heap.size w wv → CubeR wv ao n C) := fun wv hb => hC.below hb
  go_enter Try.func34, Try.ntmps34
  go_wp2
  generalize w.alloc (.cells #[] 73) = w0 at *
  have hC' := hC
  have HZ : Hid (Z = cutC C 20) := hZ
  have HM5 : Hid (m5 = min 5 n) := hm5
  clear hC hZ hm5
  have hmx := hC'.max
  go_loopg [3, 4] n (fun r s i wr => ∃ (k g cap : Nat), k ≤ n ∧ k ≤ 5 ∧ r = n - k ∧ i = .int .i64 k ∧ s = .slice (some ⟨g, 0, none⟩) k cap ∧ OwnCube wr w.heap.size g k cap ((C.take k).map fun R => rowsN R 20) ∧ Below w.heap.size w wr)
  case atStart => exact ⟨0, _, _, by omega, by omega, by omega, rfl, rfl, by rw [List.take_zero]; exact F0, B0⟩
  case round =>
    obtain ⟨k, g, cap, hk, hk5, rfl, rfl, rfl, F2, B2⟩ := hrel
    clear hC'
    clear F0 B0
    by_cases hlt : k < n ∧ k < 5
    · obtain ⟨hlt, h5⟩ := hlt
      obtain ⟨b, o, rfl, hc⟩ := (HC.out _ B2).cells (by omega)
      obtain ⟨R, hR⟩ : ∃ R, C[k]? = some R := ⟨_, List.getElem?_eq_getElem (show k < C.length by omega)⟩
      obtain ⟨ro, m1, c1, q1, -, -, -, G1⟩ := hc k R hR
      have HS : Hid (((C.take (k + 1)).map fun R => rowsN R 20) = ((C.take k).map fun R => rowsN R 20) ++ [rowsN R 20]) := cutC_snoc 20 h5 hR
      have s2 := B2.size
      have lg := F2.lt
      have h5' : (k : Int) < 5 := by omega
      clear hc
      go_wp2_with fail
      refine (hrowsR_any ro m1 c1 R 20 20 _ rfl G1 (by omega)).mono ?_
      rintro e w3 ⟨g3, n3, c3, rfl, hm3, OG, B3⟩
      obtain ⟨p1, p2⟩ := own_caps OG.own.choose_spec.1
      have NG := OG.hangs (by omega)
      have BL : Below w3.heap.size w3 (w3.alloc (.cells #[.slice (some ⟨g3, 0, none⟩) n3 c3] 73)) := (Below.refl _ _).alloc (Nat.le_refl _) _
      have cX := cellList_new w3 (.slice (some ⟨g3, 0, none⟩) n3 c3)
      have F4 := (F2.below B3).below BL
      have s3 := B3.size
      have s4 := BL.size
      have NG4 : Hangs (fun b => w.heap.size ≤ b ∧ b ≠ g) (w3.alloc (.cells #[.slice (some ⟨g3, 0, none⟩) n3 c3] 73)) (fun w => GridAt w (some ⟨g3, 0, none⟩) n3 (rowsN R 20)) := Hangs.mono (Hangs.below NG BL) (fun b _ hb => ⟨by omega, by omega⟩)
      have B4 := below_then (below_then B2 B3) BL
      clear NG OG F2 G1 q1
      generalize hw4 : w3.alloc (.cells #[.slice (some ⟨g3, 0, none⟩) n3 c3] 73) = w4 at *
      go_wp2_with (at_builtin; refine wpList_append_cube rfl _ _ rfl w.heap.size g k cap _ rfl (by exact F4) w3.heap.size g3 n3 c3 (rowsN R 20) rfl (by exact cX) p1 p2 (by exact NG4) (by omega) (by omega) ?_; intro g' cap' w' F7 B7)
      go_roundg (n - (k + 1))
      case measure => omega
      case rel => exact ⟨k + 1, _, _, by omega, by omega, rfl, by go_num, rfl, by rw [HS.out]; exact F7, B4.trans B7⟩
    · have e1 : (C.take k).map (fun R => rowsN R 20) = cutC C 20 := by
        unfold cutC
        by_cases h5 : k = 5
        · rw [h5]
        · rw [List.take_of_length_le (by omega), List.take_of_length_le (by omega)]
      have e2 : k = min 5 n := by omega
      have e3 := HM5.out
      rw [← e2] at e3
      rw [e1, ← HZ.out] at F2
      subst e3
      clear hlt
      by_cases h5 : m5 < n
      · have hk5' : (m5 : Int) = 5 := by omega
        clear e1 e2
        go_wp2
        go_ret
        exact ⟨_, _, rfl, F2.hangs (by omega), B2⟩
      · obtain rfl : m5 = n := by omega
        clear e1 e2
        go_wp2
        go_ret
        exact ⟨_, _, rfl, F2.hangs (by omega), B2⟩
end Go.Proofs.Ytpplnjmjldhlbaa

/- The awake check of the laws of layer 5 is true, and the document's error of a row, where the table of steps lies as the program's text lays it. -/
namespace Go.Proofs.Ytpplnjmjldhlbaa
open Go.ChangeShapes Go.WideShapes Go.ChangeAt Go.RowKit
theorem wgt_lit0 : wgt [0, -65536] 2 0 = 43690 := by decide
theorem wgt_lit1 : wgt [0, -65536] 2 1 = 21845 := by decide
theorem mean_lit : meanN [65536, 65536] 2 = 65536 := by decide
end Go.Proofs.Ytpplnjmjldhlbaa

/- What each call of the document's package for layer 2 answers, of every input in range. -/
namespace Go.Proofs.Ytpplnjmjldhlbaa
open Go.ChangeShapes Go.WideShapes Go.ChangeAt Go.RowKit
end Go.Proofs.Ytpplnjmjldhlbaa

/- What the document's steps and powers answer, of every input in range. -/
namespace Go.Proofs.Ytpplnjmjldhlbaa
open Go.ChangeShapes Go.WideShapes Go.ChangeAt Go.RowKit
theorem refs_at (l : List Value) (i : Nat) (h : i < l.length) (e : l = stp.map fun (n : Nat) => Value.int .i64 (n : Int)) : l[i]'h = .int .i64 (stepAt i : Int) := by
  subst e
  have hl : i < stp.length := by simpa using h
  simp [stepAt, hl]
theorem below3 {w w1 w2 w3 : World} (h1 : Below w.heap.size w w1) (h2 : Below w1.heap.size w1 w2) (h3 : Below w2.heap.size w2 w3) : Below w.heap.size w w3 := below_then (below_then h1 h2) h3
end Go.Proofs.Ytpplnjmjldhlbaa

/- What the document's answers for layer 5 are: means, norms and weights. -/
namespace Go.Proofs.Ytpplnjmjldhlbaa
open Go.ChangeShapes Go.WideShapes Go.ChangeAt Go.RowKit
end Go.Proofs.Ytpplnjmjldhlbaa

/- What the document's own functions for matrices answer; a copy of a matrix; the awake check of layer 4. -/
namespace Go.Proofs.Ytpplnjmjldhlbaa
open Go.ChangeShapes Go.WideShapes Go.ChangeAt Go.RowKit
theorem tab_snoc (k : Nat) (f : Nat → Int) : tab (k + 1) f = tab k f ++ [f k] := by unfold tab; rw [List.range_succ]; simp
theorem lit_row0 : el (tab 2 fun i => dotN (rowN [65536, 131072, 0, 65536] 2 i) [65536, 65536] 2) 0 = 196608 := by decide
theorem lit_row1 : el (tab 2 fun i => dotN (rowN [65536, 131072, 0, 65536] 2 i) [65536, 65536] 2) 1 = 65536 := by decide
end Go.Proofs.Ytpplnjmjldhlbaa

/- The document's layer 8: plus, and the row of a token at a place. -/
namespace Go.Proofs.Ytpplnjmjldhlbaa
open Go.ChangeShapes Go.WideShapes Go.ChangeAt Go.RowKit
theorem w64_in {x : Int} (h : -9223372036854775808 ≤ x ∧ x ≤ 9223372036854775807) : IntKind.i64.wrap x = x := by
  rw [IntKind.wrap_i64]; omega
end Go.Proofs.Ytpplnjmjldhlbaa

/- append onto a row of the call's own: the row that was there stays as it was. -/
namespace Go.Proofs.Ytpplnjmjldhlbaa
open Go.ChangeShapes Go.WideShapes Go.ChangeAt Go.RowKit
section
variable {P : Program} (w : World)
theorem run_append_own3 (base : Nat) (t ty e : TypeId) (i : TypeInfo) (z : Value) (bytes : Nat) (ht : P.underlying t = some (.slice e)) (hi : P.info? e = some i) (hz : i.zero = some z)
    (hsize : i.size = 1) (hby : i.bytes = bytes) (hzs : z.cells.size = 1)
    (v : Value) (n : Nat) (xs : List Value) (hown : w.ownsRow base e 1 v n xs)
    (a : Addr) (m c : Nat) (news : List Value) (hl : news.length = m) (hnews : ∀ j u, news[j]? = some u → w.cell? (a.add j) = some u) (h1 : ∀ u ∈ news, u.oneCell' = true)
    (h63 : n + m ≤ maxLen) (hbytes : (n + m) * bytes ≤ 140737488355328) (hbase : base ≤ w.heap.size) :
    ∃ v' w', (Builtin.append_ #[t, t] ty #[v, .slice (some a) m c]).run P w = .ok v' w' ∧ w'.ownsRow base e 1 v' (n + m) (xs ++ news) ∧ w.grownBy w' v.ownBlock ∧ w'.ownsRow base e 1 v n xs := by
  obtain ⟨v', w', hr, h2, h3, h4⟩ := run_append_own (P := P) w base t ty e i z 1 bytes ht hi hz hsize hby hzs (by decide) v n xs hown a m c news (by omega) hnews h1 h63 hbytes hbase
  refine ⟨v', w', hr, h2, h3, ?_⟩
  have hl1 : news.length = m * i.size := by rw [hsize]; omega
  subst hby
  have hsmall : n + m ≤ 9223372036854775807 := by simp only [maxLen] at h63; omega
  rcases hown.2 with ⟨rfl, rfl⟩ | ⟨g, cap, cur, rfl, hbg, hg, hnc, hcm, hcs, htake⟩
  · have hx : xs = [] := List.eq_nil_of_length_eq_zero (by simpa using hown.1)
    subst hx
    exact World.ownsRow_nil _ _ _ _
  · have hxl : xs.length = n := by have := hown.1; omega
    by_cases hroom : n + m ≤ cap
    · have hfit : n * i.size + news.length ≤ cur.size := by rw [hl, hcs, hsize]; omega
      have hr2 := run_append_room (P := P) w t ty e i ht hi g n cap cur hg a m c news hl1 hnews h1 hroom hfit
      rw [hr] at hr2
      injection hr2 with e1 e2
      subst e2
      refine ⟨hown.1, .inr ⟨g, cap, _, rfl, hbg, setRow_heap w g cur _ e _ hg, hnc, hcm, ?_, ?_⟩⟩
      · simp only [List.size_toArray, List.length_append, List.length_take, List.length_drop, Array.length_toList, hsize]
        omega
      · rw [hsize]
        rw [htake, List.append_assoc, ← hown.1]
        exact List.take_left
    · have holds : ∀ j u, xs[j]? = some u → w.cell? ((⟨g, 0, none⟩ : Addr).add j) = some u := hown.cells (g := g) rfl
      have hr2 := run_append_grow (P := P) w t ty e i z ht hi hz ⟨g, 0, none⟩ n cap xs (by rw [hsize]; omega) holds a m c news hl1 hnews (by omega) (by omega) (growslice_fits (by omega) hbytes)
      rw [hr] at hr2
      injection hr2 with e1 e2
      subst e2
      have hlt : g < w.heap.size := (Array.getElem?_eq_some_iff.1 hg).1
      exact ⟨hown.1, .inr ⟨g, cap, cur, rfl, hbg, (heap_alloc_old w.drew _ hlt).trans hg, hnc, hcm, hcs, htake⟩⟩
end
/-- append(out, x), out a row of whole numbers of the call's own, as one operation. -/
theorem wp_append_int {w : World} {o : Oper} {a : Act} {K : Act → World → Prop} {Q : Exit → Act → World → Prop} (s x : Operand) (ho : o.op = .call { callee := .builtin .append, args := #[s, x], argTypes := #[24, 24] })
    (B : Nat) (v : Value) (n : Nat) (A : List Int) (hs : a.eval s = v) (hown : IOwn w B v n A) (bo : Nat) (y : Int) (hx : a.eval x = .slice (some ⟨bo, 0, none⟩) 1 1) (hX : w.cell? ⟨bo, 0, none⟩ = some (.int .i64 y)) (hn : n ≤ 4096) (hB : B ≤ w.heap.size)
    (h : ∀ v' w', IOwn w' B v' (n + 1) (A ++ [y]) → IOwn w' B v n A → w.grownBy w' v.ownBlock → Below B w w' → K (a.put o.dst v') w') : o.wp Try.prog a w K Q := by
  obtain ⟨i0, hi, hz0, hz1, hz2⟩ := info_parts Try.infoInt
  have hnews : ∀ j u, ([y].map (Value.int .i64))[j]? = some u → w.cell? ((Addr.mk bo 0 none).add j) = some u := by
    intro j u hj
    match j, hj with
    | 0, hj =>
      simp at hj
      subst hj
      have e2 : (Addr.mk bo 0 none).add 0 = ⟨bo, 0, none⟩ := by simp [Addr.add]
      rw [e2, hX]
  obtain ⟨v', w', hr, h2, h3, h4⟩ := run_append_own3 (P := Try.prog) w B 24 o.type 3 i0 (.int .i64 0) 8 Try.underlying24 hi hz0 hz1 hz2 rfl v n _ hown ⟨bo, 0, none⟩ 1 1 ([y].map (Value.int .i64)) rfl hnews (ints_oneCell _ _) (by unfold maxLen; omega) (by omega) hB
  unfold Oper.wp execOp
  simp only [ho, resolve, invoke, builtin, Sem.run_bind, Sem.run_pure, Result.andThen_ok, List.map_toArray, List.map_cons, List.map_nil, hs, hx, hr]
  exact h v' w' (by unfold IOwn; rw [List.map_append]; exact h2) h4 h3 ((Below.refl _ _).grown h3 hB (fun k hk => (hown.lt k hk).1))
/-- An operation that is wanted. -/
theorem wpList_run {w : World} {ops : Array Oper} {rest : List Oper} {o : Oper} {a : Act} {Q : Exit → Act → World → Prop} (hw : Region.wanted o (yielded ops a.tmps) = true) (h : ∀ K, (∀ a w, wpList Try.prog ops Q rest a w → K a w) → Oper.wp Try.prog o a w K Q) : wpList Try.prog ops Q (o :: rest) a w := by
  simp only [wpList, hw, if_true]
  exact Or.inl (h _ fun a w h => h)
end Go.Proofs.Ytpplnjmjldhlbaa

/- Lists of lists of rows that grow side by side: what each hangs on. -/
namespace Go.Proofs.Ytpplnjmjldhlbaa
open Go.ChangeShapes Go.WideShapes Go.ChangeAt Go.RowKit
theorem Arg.same {w w' : World} {ro : Option Addr} {m c : Nat} {A : List Int} (h : Arg w ro m c A) (hb : ∀ b, b < w.heap.size → w'.heap[b]? = w.heap[b]?) : Arg w' ro m c A := by
  refine ⟨⟨h.row.len, h.row.max, h.row.small, fun hn => ?_⟩, h.fit, h.max, h.nil, h.cold_of hb⟩
  obtain ⟨b, o, e, hc⟩ := h.row.cells hn
  refine ⟨b, o, e, fun t ht => ?_⟩
  have h1 := hc t ht
  rw [World.cell?_of_block (w := w) (hb b (by simpa using World.block_lt_of_cell? w _ h1))]
  exact h1
/-- From w to w' only blocks that aren't p's turned, and what was p's is p''s. -/
structure Tn (p p' : Nat → Prop) (w w' : World) : Prop where
  size : w.heap.size ≤ w'.heap.size
  keep : ∀ b, b < w.heap.size → p b → p' b ∧ w'.heap[b]? = w.heap[b]?
theorem Tn.below {p : Nat → Prop} {w w' : World} (h : Below w.heap.size w w') : Tn p p w w' := ⟨h.size, fun b hb hp => ⟨hp, h.block b hb⟩⟩
theorem Tn.trans {p p' p2 : Nat → Prop} {w w' w2 : World} (h : Tn p p' w w') (k : Tn p' p2 w' w2) : Tn p p2 w w2 :=
  ⟨Nat.le_trans h.size k.size, fun b hb hp => by
    obtain ⟨a1, a2⟩ := h.keep b hb hp
    obtain ⟨b1, b2⟩ := k.keep b (Nat.lt_of_lt_of_le hb h.size) a1
    exact ⟨b1, b2.trans a2⟩⟩
theorem Hangs.turn {p p' : Nat → Prop} {w w' : World} {Φ : World → Prop} (h : Hangs p w Φ) (t : Tn p p' w w') : Hangs p' w' Φ := fun w2 h2 =>
  h w2 fun b hb hl => by
    obtain ⟨q, e⟩ := t.keep b hl hb
    exact (h2 b q (Nat.lt_of_lt_of_le hl t.size)).trans e
/-- The blocks that aren't those of five values, nor block h, nor the one ahead of it. -/
def offO (q : Nat → Prop) (v1 v2 v3 v4 v5 : Value) (h : Nat) (b : Nat) : Prop := v1.ownBlock ≠ some b ∧ v2.ownBlock ≠ some b ∧ v3.ownBlock ≠ some b ∧ v4.ownBlock ≠ some b ∧ v5.ownBlock ≠ some b ∧ b ≠ h ∧ b + 1 ≠ h ∧ q b
theorem Tn.app1 {q : Nat → Prop} {v1 v1' v2 v3 v4 v5 : Value} {h : Nat} {w w' : World} (hG : w.grownBy w' v1.ownBlock) (hN : ∀ g, v1'.ownBlock = some g → v1.ownBlock = some g ∨ w.heap.size ≤ g) : Tn (offO q v1 v2 v3 v4 v5 h) (offO q v1' v2 v3 v4 v5 h) w w' :=
  ⟨hG.size, fun b hb hp => ⟨⟨fun e => by rcases hN b e with a | a; exact hp.1 a; omega, hp.2⟩, hG.block b hb (fun e => hp.1 e.symm)⟩⟩
theorem Tn.app2 {q : Nat → Prop} {v1 v2 v2' v3 v4 v5 : Value} {h : Nat} {w w' : World} (hG : w.grownBy w' v2.ownBlock) (hN : ∀ g, v2'.ownBlock = some g → v2.ownBlock = some g ∨ w.heap.size ≤ g) : Tn (offO q v1 v2 v3 v4 v5 h) (offO q v1 v2' v3 v4 v5 h) w w' :=
  ⟨hG.size, fun b hb hp => ⟨⟨hp.1, fun e => by rcases hN b e with a | a; exact hp.2.1 a; omega, hp.2.2⟩, hG.block b hb (fun e => hp.2.1 e.symm)⟩⟩
theorem Tn.app3 {q : Nat → Prop} {v1 v2 v3 v3' v4 v5 : Value} {h : Nat} {w w' : World} (hG : w.grownBy w' v3.ownBlock) (hN : ∀ g, v3'.ownBlock = some g → v3.ownBlock = some g ∨ w.heap.size ≤ g) : Tn (offO q v1 v2 v3 v4 v5 h) (offO q v1 v2 v3' v4 v5 h) w w' :=
  ⟨hG.size, fun b hb hp => ⟨⟨hp.1, hp.2.1, fun e => by rcases hN b e with a | a; exact hp.2.2.1 a; omega, hp.2.2.2⟩, hG.block b hb (fun e => hp.2.2.1 e.symm)⟩⟩
theorem Tn.app4 {q : Nat → Prop} {v1 v2 v3 v4 v4' v5 : Value} {h : Nat} {w w' : World} (hG : w.grownBy w' v4.ownBlock) (hN : ∀ g, v4'.ownBlock = some g → v4.ownBlock = some g ∨ w.heap.size ≤ g) : Tn (offO q v1 v2 v3 v4 v5 h) (offO q v1 v2 v3 v4' v5 h) w w' :=
  ⟨hG.size, fun b hb hp => ⟨⟨hp.1, hp.2.1, hp.2.2.1, fun e => by rcases hN b e with a | a; exact hp.2.2.2.1 a; omega, hp.2.2.2.2⟩, hG.block b hb (fun e => hp.2.2.2.1 e.symm)⟩⟩
theorem Tn.app5 {q : Nat → Prop} {v1 v2 v3 v4 v5 v5' : Value} {h : Nat} {w w' : World} (hG : w.grownBy w' v5.ownBlock) (hN : ∀ g, v5'.ownBlock = some g → v5.ownBlock = some g ∨ w.heap.size ≤ g) : Tn (offO q v1 v2 v3 v4 v5 h) (offO q v1 v2 v3 v4 v5' h) w w' :=
  ⟨hG.size, fun b hb hp => ⟨⟨hp.1, hp.2.1, hp.2.2.1, hp.2.2.2.1, fun e => by rcases hN b e with a | a; exact hp.2.2.2.2.1 a; omega, hp.2.2.2.2.2⟩, hG.block b hb (fun e => hp.2.2.2.2.1 e.symm)⟩⟩
theorem Tn.set {q : Nat → Prop} {v1 v2 v3 v4 v5 : Value} {h : Nat} (w : World) (o : Nat) (v : Value) : Tn (offO q v1 v2 v3 v4 v5 h) (offO q v1 v2 v3 v4 v5 h) w (w.setCell ⟨h, o, none⟩ v) :=
  ⟨by simp [World.setCell], fun b _ hp => ⟨hp, Below.heap_setCell _ _ _ b hp.2.2.2.2.2.1⟩⟩
/-- A new block as the fourth or the fifth. -/
theorem Tn.new4 {q : Nat → Prop} {v1 v2 v3 v5 : Value} {h k n c : Nat} (w : World) (hk : w.heap.size ≤ k) : Tn (offO q v1 v2 v3 (.slice none 0 0) v5 h) (offO q v1 v2 v3 (.slice (some ⟨k, 0, none⟩) n c) v5 h) w w :=
  ⟨Nat.le_refl _, fun b hb hp => ⟨⟨hp.1, hp.2.1, hp.2.2.1, fun e => by simp [Value.ownBlock] at e; omega, hp.2.2.2.2⟩, rfl⟩⟩
theorem Tn.new5 {q : Nat → Prop} {v1 v2 v3 v4 : Value} {h k n c : Nat} (w : World) (hk : w.heap.size ≤ k) : Tn (offO q v1 v2 v3 v4 (.slice none 0 0) h) (offO q v1 v2 v3 v4 (.slice (some ⟨k, 0, none⟩) n c) h) w w :=
  ⟨Nat.le_refl _, fun b hb hp => ⟨⟨hp.1, hp.2.1, hp.2.2.1, hp.2.2.2.1, fun e => by simp [Value.ownBlock] at e; omega, hp.2.2.2.2.2⟩, rfl⟩⟩
theorem Tn.drop {q : Nat → Prop} {v1 v2 v3 v4 v5 : Value} {h : Nat} (w : World) : Tn (offO q v1 v2 v3 v4 v5 h) (offO q v1 v2 v3 (.slice none 0 0) (.slice none 0 0) h) w w :=
  ⟨Nat.le_refl _, fun b _ hp => ⟨⟨hp.1, hp.2.1, hp.2.2.1, (fun e => by cases e), (fun e => by cases e), hp.2.2.2.2.2⟩, rfl⟩⟩
/-- The values of rows, and what they read as and hang on. -/
structure HRows (p : Nat → Prop) (w : World) (vs : List Value) (R : List (List Int)) : Prop where
  len : vs.length = R.length
  rows : ∀ t, t < R.length → ∃ ro m c, vs[t]? = some (.slice ro m c) ∧ Hangs p w (fun w => Arg w ro m c (rowOf R t))
theorem HRows.turn {p p' : Nat → Prop} {w w' : World} {vs : List Value} {R : List (List Int)} (h : HRows p w vs R) (t : Tn p p' w w') : HRows p' w' vs R :=
  ⟨h.len, fun k hk => let ⟨ro, m, c, e, A⟩ := h.rows k hk; ⟨ro, m, c, e, A.turn t⟩⟩
theorem HRows.now {p : Nat → Prop} {w : World} {vs : List Value} {R : List (List Int)} (h : HRows p w vs R) : RowsAt w vs R :=
  ⟨h.len, fun k hk => let ⟨ro, m, c, e, A⟩ := h.rows k hk; ⟨ro, m, c, e, A.now⟩⟩
theorem HRows.nil (p : Nat → Prop) (w : World) : HRows p w [] [] := ⟨rfl, fun t ht => by simp at ht⟩
theorem HRows.old {p : Nat → Prop} {w1 w : World} {vs : List Value} {R : List (List Int)} (h : RowsAt w1 vs R) (hb : Below w1.heap.size w1 w) (hp : ∀ b, b < w1.heap.size → p b) : HRows p w vs R :=
  ⟨h.len, fun k hk => let ⟨ro, m, c, e, A⟩ := h.rows k hk; ⟨ro, m, c, e, fun _ h2 => A.same fun b hb2 => (h2 b (hp b hb2) (Nat.lt_of_lt_of_le hb2 hb.size)).trans (hb.block b hb2)⟩⟩
theorem HRows.snoc {p : Nat → Prop} {w : World} {vs : List Value} {R : List (List Int)} (h : HRows p w vs R) {ro : Option Addr} {m c : Nat} {Y : List Int} (hY : Hangs p w (fun w => Arg w ro m c Y)) : HRows p w (vs ++ [.slice ro m c]) (R ++ [Y]) := by
  have hl := h.len
  refine ⟨by simp [hl], fun t ht => ?_⟩
  rw [List.length_append, List.length_singleton] at ht
  rcases Nat.lt_or_ge t R.length with h1 | h1
  · obtain ⟨ro', m', c', e, A⟩ := h.rows t h1
    refine ⟨ro', m', c', by rw [List.getElem?_append_left (by omega)]; exact e, ?_⟩
    have : rowOf (R ++ [Y]) t = rowOf R t := by unfold rowOf; simp only [List.getD_eq_getElem?_getD]; rw [List.getElem?_append_left h1]
    rw [this]
    exact A
  · obtain rfl : t = R.length := by omega
    refine ⟨ro, m, c, by rw [← hl]; simp, ?_⟩
    have : rowOf (R ++ [Y]) R.length = Y := by unfold rowOf; simp
    rw [this]
    exact hY
/-- A list of rows of the call's own hangs on its block and on what its rows hang on. -/
theorem HRows.grid {p : Nat → Prop} {w : World} {B g n cap : Nat} {vs : List Value} {R : List (List Int)} (h : HRows p w vs R) (O : w.ownsRow B 72 1 (.slice (some ⟨g, 0, none⟩) n cap) n vs) (hg : p g) (hn : n ≤ 9223372036854775807) : Hangs p w (fun w => GridAt w (some ⟨g, 0, none⟩) n R) := by
  intro w2 h2
  have hgl : g < w.heap.size := (O.lt g rfl).2
  have O2 : w2.ownsRow B 72 1 (.slice (some ⟨g, 0, none⟩) n cap) n vs := owns_mono O (Nat.le_refl _) (fun b hb => by
    simp [Value.ownBlock] at hb
    subst hb
    exact h2 _ hg hgl)
  exact grid_of_owns O2 ⟨h.len, fun k hk => let ⟨ro, m, c, e, A⟩ := h.rows k hk; ⟨ro, m, c, e, A w2 h2⟩⟩ hn
/-- Lists of lists of rows of the call's own. -/
structure OCu (w : World) (B : Nat) (p : Nat → Prop) (v : Value) (C : List (List (List Int))) : Prop where
  own : ∃ vs, w.ownsRow B 73 1 v C.length vs ∧ ∀ (t : Nat) (R : List (List Int)), C[t]? = some R → ∃ g m c, vs[t]? = some (.slice (some ⟨g, 0, none⟩) m c) ∧ m ≤ c ∧ c ≤ 9223372036854775807 ∧ p g ∧ g < w.heap.size ∧ Hangs p w (fun w => GridAt w (some ⟨g, 0, none⟩) m R)
theorem OCu.nil (w : World) (B : Nat) (p : Nat → Prop) : OCu w B p (.slice none 0 0) [] := ⟨[], World.ownsRow_nil _ _ _ _, fun t R hR => by simp at hR⟩
/-- Its own block stays, and what its lists hang on. -/
theorem OCu.turn {p p' : Nat → Prop} {w w' : World} {B : Nat} {v : Value} {C : List (List (List Int))} (h : OCu w B p v C) (t : Tn p p' w w') (hb : ∀ b, v.ownBlock = some b → w'.heap[b]? = w.heap[b]?) : OCu w' B p' v C := by
  obtain ⟨vs, h1, h2⟩ := h.own
  exact ⟨vs, owns_mono h1 (Nat.le_refl _) hb, fun k R hR => let ⟨g, m, c, e, h3, h4, hg, hl, h5⟩ := h2 k R hR; ⟨g, m, c, e, h3, h4, (t.keep g hl hg).1, Nat.lt_of_lt_of_le hl t.size, h5.turn t⟩⟩
theorem OCu.form {w : World} {B : Nat} {p : Nat → Prop} {v : Value} {C : List (List (List Int))} (h : OCu w B p v C) : ∃ a c, v = .slice a C.length c ∧ C.length ≤ c ∧ c ≤ 9223372036854775807 := by
  obtain ⟨vs, h1, _⟩ := h.own
  rcases h1.2 with ⟨h2, h3⟩ | ⟨g, cap, cur, h3, h4, h5, h6, h7, _⟩
  · rw [h3]; exact ⟨none, 0, h2, Nat.le_refl _, by omega⟩
  · exact ⟨_, _, h3, h6, by unfold maxLen at h7; exact h7⟩
theorem OCu.lt {w : World} {B : Nat} {p : Nat → Prop} {v : Value} {C : List (List (List Int))} (h : OCu w B p v C) : ∀ g, v.ownBlock = some g → B ≤ g ∧ g < w.heap.size := by
  obtain ⟨vs, h1, _⟩ := h.own
  exact fun g e => h1.lt g e
theorem OCu.ne_blk {w : World} {B b : Nat} {p : Nat → Prop} {T' : TypeId} {v : Value} {C : List (List (List Int))} {cs : Array Value} (h : OCu w B p v C) (h' : w.heap[b]? = some (.cells cs T' (0, 0))) (hT : (73 : TypeId) ≠ T') : v.ownBlock ≠ some b := by
  intro e
  obtain ⟨vs, h1, _⟩ := h.own
  rcases h1.2 with ⟨h2, h3⟩ | ⟨g', cap, cur, h3, h4, h5, _⟩
  · rw [h2] at e; cases e
  · rw [h3] at e
    simp only [Value.ownBlock, Option.some.injEq] at e
    subst e
    rw [h'] at h5
    injection h5 with h5
    injection h5 with _ e2 _
    exact hT e2.symm
/-- append of a list of rows onto lists of lists, in a region or out of it. -/
theorem wp_append_cu {w : World} {o : Oper} {a : Act} {K : Act → World → Prop} {Q : Exit → Act → World → Prop} (s x : Operand)
    (ho : o.op = .call { callee := .builtin .append, args := #[s, x], argTypes := #[25, 25] })
    (B : Nat) (p : Nat → Prop) (v : Value) (C : List (List (List Int))) (n : Nat) (hn : C.length = n) (hs : a.eval s = v) (hF : OCu w B p v C)
    (bo g1 m1 c1 : Nat) (R : List (List Int)) (hx : a.eval x = .slice (some ⟨bo, 0, none⟩) 1 1) (hX : w.cell? ⟨bo, 0, none⟩ = some (.slice (some ⟨g1, 0, none⟩) m1 c1)) (hm1 : m1 ≤ c1) (hc1 : c1 ≤ 9223372036854775807) (hpg : p g1) (hgl : g1 < w.heap.size) (hY : Hangs p w (fun w => GridAt w (some ⟨g1, 0, none⟩) m1 R))
    (hlen : n + 1 ≤ 1048576) (hB : B ≤ w.heap.size)
    (h : ∀ ea ec w', (∀ p', Tn p p' w w' → OCu w' B p' (.slice ea (n + 1) ec) (C ++ [R])) → w.grownBy w' v.ownBlock → (∀ g, (Value.slice ea (n + 1) ec).ownBlock = some g → v.ownBlock = some g ∨ w.heap.size ≤ g) → K (a.put o.dst (.slice ea (n + 1) ec)) w') : o.wp Try.prog a w K Q := by
  subst hn
  obtain ⟨i0, hi, hz0, hz1, hz2⟩ := info_parts Try.infoList
  obtain ⟨vs, h1, h2⟩ := hF.own
  refine wp_append_own2 w s x 25 ho B 73 i0 (.slice none 0 0) 1 24 Try.underlying25 hi hz0 hz1 hz2 rfl (by decide) v C.length vs hs h1 ⟨bo, 0, none⟩ 1 1 [.slice (some ⟨g1, 0, none⟩) m1 c1] hx rfl ?_ (by intro u hu; simp at hu; subst hu; rfl) (by unfold maxLen; omega) (by omega) hB ?_
  · intro j u hj
    match j, hj with
    | 0, hj =>
      simp at hj
      subst hj
      have e2 : (Addr.mk bo 0 none).add 0 = ⟨bo, 0, none⟩ := by simp [Addr.add]
      rw [e2, hX]
  · intro v' w' hown hg hnil hwh
    have hlv : vs.length = C.length := by have := h1.1; omega
    have hlen2 : (C ++ [R]).length = C.length + 1 := by simp
    have mk : ∀ p', Tn p p' w w' → OCu w' B p' v' (C ++ [R]) := fun p' t => ⟨vs ++ [.slice (some ⟨g1, 0, none⟩) m1 c1], by rw [hlen2]; exact hown, fun k R' hR' => by
      by_cases htk : k < C.length
      · rw [List.getElem?_append_left htk] at hR'
        obtain ⟨g3, m3, c3, e3, q1, q2, q4, q5, q3⟩ := h2 k R' hR'
        exact ⟨g3, m3, c3, by rw [List.getElem?_append_left (by omega)]; exact e3, q1, q2, (t.keep g3 q5 q4).1, Nat.lt_of_lt_of_le q5 t.size, q3.turn t⟩
      · rw [List.getElem?_append_right (by omega)] at hR'
        have e0 : k - C.length = 0 := by
          rcases Nat.eq_zero_or_pos (k - C.length) with e | e
          · exact e
          · rw [List.getElem?_eq_none (by simp; omega)] at hR'; cases hR'
        rw [e0] at hR'
        simp at hR'
        subst hR'
        exact ⟨g1, m1, c1, by rw [List.getElem?_append_right (by omega), hlv, e0]; rfl, hm1, hc1, (t.keep g1 hgl hpg).1, Nat.lt_of_lt_of_le hgl t.size, hY.turn t⟩⟩
    obtain ⟨ea, ec, e4⟩ := owns_slice hown
    subst e4
    exact h ea ec w' mk hg (fun g e => by rcases hwh g e with b | b; exact Or.inl b; exact Or.inr (by omega))
theorem wpList_append_cu {w : World} {ops : Array Oper} {rest : List Oper} {o : Oper} {a : Act} {Q : Exit → Act → World → Prop} (hgd : o.guard = none) (s x : Operand)
    (ho : o.op = .call { callee := .builtin .append, args := #[s, x], argTypes := #[25, 25] })
    (B : Nat) (p : Nat → Prop) (v : Value) (C : List (List (List Int))) (n : Nat) (hn : C.length = n) (hs : a.eval s = v) (hF : OCu w B p v C)
    (bo g1 m1 c1 : Nat) (R : List (List Int)) (hx : a.eval x = .slice (some ⟨bo, 0, none⟩) 1 1) (hX : w.cell? ⟨bo, 0, none⟩ = some (.slice (some ⟨g1, 0, none⟩) m1 c1)) (hm1 : m1 ≤ c1) (hc1 : c1 ≤ 9223372036854775807) (hpg : p g1) (hgl : g1 < w.heap.size) (hY : Hangs p w (fun w => GridAt w (some ⟨g1, 0, none⟩) m1 R))
    (hlen : n + 1 ≤ 1048576) (hB : B ≤ w.heap.size)
    (h : ∀ ea ec w', (∀ p', Tn p p' w w' → OCu w' B p' (.slice ea (n + 1) ec) (C ++ [R])) → w.grownBy w' v.ownBlock → (∀ g, (Value.slice ea (n + 1) ec).ownBlock = some g → v.ownBlock = some g ∨ w.heap.size ≤ g) → wpList Try.prog ops Q rest (a.put o.dst (.slice ea (n + 1) ec)) w') : wpList Try.prog ops Q (o :: rest) a w :=
  wpList_plain hgd fun _ hK => wp_append_cu s x ho B p v C n hn hs hF bo g1 m1 c1 R hx hX hm1 hc1 hpg hgl hY hlen hB fun ea ec w' h1 h2 h3 => hK _ _ (h ea ec w' h1 h2 h3)
/-- append of rows onto a row of rows of the call's own. -/
theorem wp_append_hr {w : World} {o : Oper} {a : Act} {K : Act → World → Prop} {Q : Exit → Act → World → Prop} (s x : Operand)
    (ho : o.op = .call { callee := .builtin .append, args := #[s, x], argTypes := #[73, 73] })
    (B : Nat) (v : Value) (n : Nat) (vs : List Value) (hs : a.eval s = v) (O : w.ownsRow B 72 1 v n vs)
    (ad : Addr) (m c : Nat) (ns : List Value) (hx : a.eval x = .slice (some ad) m c) (hl : ns.length = m) (hn : ∀ j u, ns[j]? = some u → w.cell? (ad.add j) = some u) (h1 : ∀ u ∈ ns, u.oneCell' = true)
    (hlen : n + m ≤ 1048576) (hB : B ≤ w.heap.size)
    (h : ∀ ea ec w', w'.ownsRow B 72 1 (.slice ea (n + m) ec) (n + m) (vs ++ ns) → w.grownBy w' v.ownBlock → (∀ g, (Value.slice ea (n + m) ec).ownBlock = some g → v.ownBlock = some g ∨ w.heap.size ≤ g) → (1 ≤ n + m → ∃ g, ea = some ⟨g, 0, none⟩) → K (a.put o.dst (.slice ea (n + m) ec)) w') : o.wp Try.prog a w K Q := by
  obtain ⟨i0, hi, hz0, hz1, hz2⟩ := info_parts Try.infoRow
  refine wp_append_own2 w s x 73 ho B 72 i0 (.slice none 0 0) 1 24 Try.underlying73 hi hz0 hz1 hz2 rfl (by decide) v n vs hs O ad m c ns hx (by omega) hn h1 (by unfold maxLen; omega) (by omega) hB ?_
  intro v' w' O1 G1 _ N1
  have O2 := O1
  rcases O2.2 with ⟨h2, h3⟩ | ⟨g, cap, cur, h3, h4⟩
  · subst h2
    have e0 : n + m = 0 := h3
    have q := h none 0 w' (by rw [e0]; rw [e0] at O1; exact O1) G1 (fun g e => by simp [Value.ownBlock] at e) (fun hh => absurd hh (by omega))
    rw [e0] at q
    exact q
  · subst h3
    exact h _ cap w' O1 G1 (fun g' e => by rcases N1 g' e with b | b; exact Or.inl b; exact Or.inr (by omega)) (fun _ => ⟨g, rfl⟩)
theorem wpList_append_hr {w : World} {ops : Array Oper} {rest : List Oper} {o : Oper} {a : Act} {Q : Exit → Act → World → Prop} (hgd : o.guard = none) (s x : Operand)
    (ho : o.op = .call { callee := .builtin .append, args := #[s, x], argTypes := #[73, 73] })
    (B : Nat) (v : Value) (n : Nat) (vs : List Value) (hs : a.eval s = v) (O : w.ownsRow B 72 1 v n vs)
    (ad : Addr) (m c : Nat) (ns : List Value) (hx : a.eval x = .slice (some ad) m c) (hl : ns.length = m) (hn : ∀ j u, ns[j]? = some u → w.cell? (ad.add j) = some u) (h1 : ∀ u ∈ ns, u.oneCell' = true)
    (hlen : n + m ≤ 1048576) (hB : B ≤ w.heap.size)
    (h : ∀ ea ec w', w'.ownsRow B 72 1 (.slice ea (n + m) ec) (n + m) (vs ++ ns) → w.grownBy w' v.ownBlock → (∀ g, (Value.slice ea (n + m) ec).ownBlock = some g → v.ownBlock = some g ∨ w.heap.size ≤ g) → (1 ≤ n + m → ∃ g, ea = some ⟨g, 0, none⟩) → wpList Try.prog ops Q rest (a.put o.dst (.slice ea (n + m) ec)) w') : wpList Try.prog ops Q (o :: rest) a w :=
  wpList_plain hgd fun _ hK => wp_append_hr s x ho B v n vs hs O ad m c ns hx hl hn h1 hlen hB fun ea ec w' h1 h2 h3 h4 => hK _ _ (h ea ec w' h1 h2 h3 h4)
/-- Lists of lists as they are handed in. -/
structure DCube (w : World) (s : Sl) (C : List (List (List Int))) : Prop where
  len : C.length = s.n
  fit : s.n ≤ s.c
  max : s.c ≤ 9223372036854775807
  small : s.n ≤ 1000
  cells : 0 < s.n → ∃ b o, s.ao = some ⟨b, o, none⟩ ∧ ∀ (t : Nat) (R : List (List Int)), C[t]? = some R → ∃ b1 o1 n c, w.cell? ⟨b, o + t, none⟩ = some (.slice (some ⟨b1, o1, none⟩) n c) ∧ n ≤ c ∧ c ≤ 9223372036854775807 ∧ GridAt w (some ⟨b1, o1, none⟩) n R
theorem DCube.below {w w' : World} {s : Sl} {C : List (List (List Int))} (h : DCube w s C) (hb : Below w.heap.size w w') : DCube w' s C := by
  refine ⟨h.len, h.fit, h.max, h.small, fun hn => ?_⟩
  obtain ⟨b, o, e, hc⟩ := h.cells hn
  refine ⟨b, o, e, fun t R hR => ?_⟩
  obtain ⟨b1, o1, n, c, h1, h2, h3, h4⟩ := hc t R hR
  have hlt : b < w.heap.size := by simpa using World.block_lt_of_cell? w _ h1
  exact ⟨b1, o1, n, c, by rw [hb.cell (by exact hlt)]; exact h1, h2, h3, h4.below hb⟩
theorem dcube_nil (w : World) : DCube w ⟨none, 0, 0⟩ [] := ⟨rfl, Nat.le_refl _, by decide, by decide, fun h => absurd h (by decide)⟩
theorem DCube.cube {w : World} {s : Sl} {C : List (List (List Int))} (h : DCube w s C) : CubeAt w s.ao s.n C := by
  refine ⟨h.len, by have := h.small; omega, fun hn => ?_⟩
  obtain ⟨b, o, e, hc⟩ := h.cells hn
  refine ⟨b, o, e, fun t R hR => ?_⟩
  obtain ⟨b1, o1, n, c, h1, h2, h3, h4⟩ := hc t R hR
  exact ⟨_, n, c, h1, (fun e => by cases e), h2, h3, h4⟩
/-- Lists of lists as they are handed in, and what they hang on. -/
structure PCube (p : Nat → Prop) (w : World) (s : Sl) (C : List (List (List Int))) : Prop where
  len : C.length = s.n
  fit : s.n ≤ s.c
  max : s.c ≤ 9223372036854775807
  small : s.n ≤ 1000
  cells : 0 < s.n → ∃ b o, s.ao = some ⟨b, o, none⟩ ∧ p b ∧ ∀ (t : Nat) (R : List (List Int)), C[t]? = some R → ∃ b1 o1 n c, w.cell? ⟨b, o + t, none⟩ = some (.slice (some ⟨b1, o1, none⟩) n c) ∧ n ≤ c ∧ c ≤ 9223372036854775807 ∧ p b1 ∧ Hangs p w (fun w => GridAt w (some ⟨b1, o1, none⟩) n R)
theorem PCube.dcube {p : Nat → Prop} {w : World} {s : Sl} {C : List (List (List Int))} (h : PCube p w s C) : DCube w s C := by
  refine ⟨h.len, h.fit, h.max, h.small, fun hn => ?_⟩
  obtain ⟨b, o, e, hp, hc⟩ := h.cells hn
  refine ⟨b, o, e, fun t R hR => ?_⟩
  obtain ⟨b1, o1, n, c, h1, h2, h3, h4, h5⟩ := hc t R hR
  exact ⟨b1, o1, n, c, h1, h2, h3, h5.now⟩
theorem PCube.turn {p p' : Nat → Prop} {w w' : World} {s : Sl} {C : List (List (List Int))} (h : PCube p w s C) (T : Tn p p' w w') (hpp : ∀ b, p b → p' b) : PCube p' w' s C := by
  refine ⟨h.len, h.fit, h.max, h.small, fun hn => ?_⟩
  obtain ⟨b, o, e, hp, hc⟩ := h.cells hn
  refine ⟨b, o, e, hpp b hp, fun t R hR => ?_⟩
  obtain ⟨b1, o1, n, c, h1, h2, h3, h4, h5⟩ := hc t R hR
  have hlt : b < w.heap.size := by simpa using World.block_lt_of_cell? w _ h1
  exact ⟨b1, o1, n, c, by rw [World.cell?_of_block (w := w) (a := ⟨b, o + t, none⟩) (T.keep b hlt hp).2]; exact h1, h2, h3, hpp b1 h4, h5.turn T⟩
theorem PCube.below {p : Nat → Prop} {w w' : World} {s : Sl} {C : List (List (List Int))} (h : PCube p w s C) (hb : Below w.heap.size w w') : PCube p w' s C := h.turn (Tn.below hb) fun _ h => h
theorem pcube_nil (p : Nat → Prop) (w : World) : PCube p w ⟨none, 0, 0⟩ [] := ⟨rfl, Nat.le_refl _, by decide, by decide, fun h => absurd h (by decide)⟩
theorem GridAt.same {w w' : World} {b1 o1 n : Nat} {R : List (List Int)} (h : GridAt w (some ⟨b1, o1, none⟩) n R) (hb : ∀ b, b < w.heap.size → w'.heap[b]? = w.heap[b]?) : GridAt w' (some ⟨b1, o1, none⟩) n R := by
  refine ⟨h.len, h.max, fun hn => ?_⟩
  obtain ⟨b, o, e, hc⟩ := h.cells hn
  refine ⟨b, o, e, fun t ht => ?_⟩
  obtain ⟨ro, m, c, h1, h2⟩ := hc t ht
  exact ⟨ro, m, c, by rw [World.cell?_of_block (w := w) (a := ⟨b, o + t, none⟩) (hb b (by simpa using World.block_lt_of_cell? w _ h1))]; exact h1, h2.same hb⟩
/-- Rows that hang on p, in a world in which p's blocks stand. -/
theorem HRows.oldp {p P : Nat → Prop} {w1 w : World} {vs : List Value} {b1 o1 n : Nat} {R : List (List Int)} (hr : RowsAt w1 vs R) (hv : ∀ j u, vs[j]? = some u → w1.cell? ((Addr.mk b1 o1 none).add j) = some u) (hG : Hangs p w1 (fun w => GridAt w (some ⟨b1, o1, none⟩) n R)) (hp1 : p b1) (hb : Below w1.heap.size w1 w) (hP : ∀ b, b < w1.heap.size → p b → P b) : HRows P w vs R := by
  refine ⟨hr.len, fun t ht => ?_⟩
  obtain ⟨ro, m, c, e, A⟩ := hr.rows t ht
  refine ⟨ro, m, c, e, fun w2 h2 => ?_⟩
  have hs : ∀ b, p b → b < w1.heap.size → w2.heap[b]? = w1.heap[b]? := fun b hpb hl => (h2 b (hP b hl hpb) (Nat.lt_of_lt_of_le hl hb.size)).trans (hb.block b hl)
  have hg := hG w2 hs
  have hn : R.length = n := hg.len
  obtain ⟨b', o', e', hc⟩ := hg.cells (by omega)
  simp only [Option.some.injEq, Addr.mk.injEq, and_true] at e'
  obtain ⟨rfl, rfl⟩ := e'
  obtain ⟨ro', m', c', k1, k2⟩ := hc t (by omega)
  have c0 := hv t _ e
  have e2 : (Addr.mk b1 o1 none).add t = ⟨b1, o1 + t, none⟩ := by simp [Addr.add]
  rw [e2] at c0
  have hl1 : b1 < w1.heap.size := by simpa using World.block_lt_of_cell? w1 _ c0
  rw [World.cell?_of_block (w := w1) (a := ⟨b1, o1 + t, none⟩) (hs b1 hp1 hl1), c0] at k1
  simp only [Option.some.injEq, Value.slice.injEq] at k1
  obtain ⟨rfl, rfl, rfl⟩ := k1
  exact k2
theorem OCu.pcube {w : World} {B : Nat} {p : Nat → Prop} {v : Value} {C : List (List (List Int))} (h : OCu w B p v C) (hl : C.length ≤ 1000) {P : Nat → Prop} (hP : ∀ b, p b → P b) (hB : ∀ b, B ≤ b → P b) : ∃ s : Sl, v = s.v ∧ s.n = C.length ∧ PCube P w s C := by
  obtain ⟨a, c, e, h1, h2⟩ := h.form
  refine ⟨⟨a, C.length, c⟩, e, rfl, rfl, h1, h2, hl, fun hn => ?_⟩
  obtain ⟨vs, O, hc⟩ := h.own
  rcases O.2 with ⟨h3, h4⟩ | ⟨g, cap, cur, h3, h4⟩
  · have : 0 < C.length := hn
    omega
  · rw [h3] at e
    simp only [Value.slice.injEq] at e
    refine ⟨g, 0, by rw [← e.1], hB g h4.1, fun t R hR => ?_⟩
    obtain ⟨g1, m, c1, e1, q1, q2, q4, q5, q3⟩ := hc t R hR
    have := O.cells (g := g) (by rw [h3]; rfl) t _ e1
    have e2 : (Addr.mk g 0 none).add t = ⟨g, t, none⟩ := by simp [Addr.add]; intro h; exact h.symm
    rw [e2] at this
    exact ⟨g1, 0, m, c1, by rw [Nat.zero_add]; exact this, q1, q2, hP g1 q4, q3.mono fun b _ hb => hP b hb⟩
theorem var3 (w : World) (T : TypeId) (z row : Array Value) : Blk (w.alloc (.cells z T)) w.heap.size T z ∧ Blk ((w.alloc (.cells z T)).setRow w.heap.size row) w.heap.size T row ∧ Below w.heap.size w ((w.alloc (.cells z T)).setRow w.heap.size row) ∧ ((w.alloc (.cells z T)).setRow w.heap.size row).heap.size = w.heap.size + 1 :=
  ⟨blk_new w T z, (blk_new w T z).row row, below_setRow ((Below.refl _ _).alloc (Nat.le_refl _) _) (Nat.le_refl _) _, by simp⟩
theorem OCu.ne_rows {w : World} {B B' n : Nat} {p : Nat → Prop} {v u : Value} {vs : List Value} {C : List (List (List Int))} (h : OCu w B p v C) (O : w.ownsRow B' 72 1 u n vs) (g : Nat) (e : v.ownBlock = some g) : u.ownBlock ≠ some g := by
  intro e2
  rcases O.2 with ⟨h2, h3⟩ | ⟨g', cap, cur, h3, h4, h5, _⟩
  · rw [h2] at e2; cases e2
  · rw [h3] at e2
    simp only [Value.ownBlock, Option.some.injEq] at e2
    subst e2
    exact h.ne_blk (show w.heap[g']? = some (.cells cur 72 (0, 0)) from h5) (by decide) e
end Go.Proofs.Ytpplnjmjldhlbaa

/- Package block: addRows (copies of rows behind those that are there), rowsOf (a part of each list of rows). -/
namespace Go.Proofs.Ytpplnjmjldhlbaa
open Go.ChangeShapes Go.WideShapes Go.ChangeAt Go.RowKit
theorem cellRowB (w : World) (v : Value) : (w.alloc (.cells #[v] 72)).cell? ⟨w.heap.size, 0, none⟩ = some v := by
  have e := heap_alloc_new w (.cells #[v] 72)
  unfold World.cell?
  simp only [e]
  rfl
theorem one_at0 {w : World} {k : Nat} {v : Value} (h : w.cell? ⟨k, 0, none⟩ = some v) : ∀ j u, [v][j]? = some u → w.cell? ((Addr.mk k 0 none).add j) = some u := by
  intro j u hj
  match j, hj with
  | 0, hj =>
    simp at hj
    subst hj
    have e2 : (Addr.mk k 0 none).add 0 = ⟨k, 0, none⟩ := by simp [Addr.add]
    rw [e2, h]
/-- The blocks from s on that are not a value's own. -/
def offV (s : Nat) (u : Value) (b : Nat) : Prop := s ≤ b ∧ u.ownBlock ≠ some b
theorem Tn.offV {s : Nat} {u u' : Value} {w w' : World} (hG : w.grownBy w' u.ownBlock) (hN : ∀ g, u'.ownBlock = some g → u.ownBlock = some g ∨ w.heap.size ≤ g) : Tn (offV s u) (offV s u') w w' :=
  ⟨hG.size, fun b hb hp => ⟨⟨hp.1, fun e => by rcases hN b e with a | a; exact hp.2 a; omega⟩, hG.block b hb (fun e => hp.2 e.symm)⟩⟩
theorem grown_below {w w1 w2 : World} {r : Option Nat} (h : w.grownBy w1 r) (hb : Below w1.heap.size w1 w2) : w.grownBy w2 r :=
  ⟨hb.os.trans h.os, hb.tape.trans h.tape, hb.output.trans h.output, Nat.le_trans h.size hb.size, fun k hk hr => (hb.block k (Nat.lt_of_lt_of_le hk h.size)).trans (h.block k hk hr)⟩
theorem grown_trans {w w1 w2 : World} {r r1 : Option Nat} (h : w.grownBy w1 r) (h1 : w1.grownBy w2 r1) (hr : ∀ g, r1 = some g → r = some g ∨ w.heap.size ≤ g) : w.grownBy w2 r :=
  ⟨h1.os.trans h.os, h1.tape.trans h.tape, h1.output.trans h.output, Nat.le_trans h.size h1.size, fun k hk hk2 => (h1.block k (Nat.lt_of_lt_of_le hk h.size) (fun e => by
    rcases hr k e.symm with a | a
    · exact hk2 a.symm
    · omega)).trans (h.block k hk hk2)⟩
theorem grown_refl (w : World) (r : Option Nat) : w.grownBy w r := ⟨rfl, rfl, rfl, Nat.le_refl _, fun _ _ _ => rfl⟩
/-- addRows: copies of rows, behind those of a row of the call's own. -/
theorem take_rowOf {R : List (List Int)} {j : Nat} (h : j < R.length) : R.take (j + 1) = R.take j ++ [rowOf R j] := by
  unfold rowOf
  rw [List.take_add_one, List.getD_eq_getElem?_getD, List.getElem?_eq_getElem h]
  rfl
set_option maxRecDepth 100000 in
set_option maxHeartbeats 1600000 in
theorem addRows_any (B : Nat) (v : Value) (k : Nat) (vs : List Value) (ao : Option Addr) (m ca : Nat) (R : List (List Int)) (w : World) (O : w.ownsRow B 72 1 v k vs) (hR : ∀ wv, w.grownBy wv v.ownBlock → GridAt wv ao m R) (hl : ∀ t, t < m → (rowOf R t).length ≤ 1048576) (hk : k + m ≤ 4096) (hB : B ≤ w.heap.size) :
   Calls Try.prog 51 #[v, .slice ao m ca] w fun e w' => ∃ a c, e = .returned (.slice a (k + m) c) ∧ (∃ ns, w'.ownsRow B 72 1 (.slice a (k + m) c) (k + m) (vs ++ ns) ∧ HRows (offV w.heap.size (.slice a (k + m) c)) w' ns R) ∧ w.grownBy w' v.ownBlock ∧ ∀ g, (Value.slice a (k + m) c).ownBlock = some g → v.ownBlock = some g ∨ w.heap.size ≤ g := by
  have HR : Hid (∀ wv, w.grownBy wv v.ownBlock → GridAt wv ao m R) := hR
  have hlen := (hR w (grown_refl _ _)).len
  clear hR
  go_enter Try.func51, Try.ntmps51
  go_wp2
  go_loopg [0, 9] m (fun r s0 s9 wr => ∃ (j : Nat) (u : Value) (ns : List Value), j ≤ m ∧ r = m - j ∧ s9 = .int .i64 (j : Int) ∧ s0 = u ∧ wr.ownsRow B 72 1 u (k + j) (vs ++ ns) ∧ HRows (offV w.heap.size u) wr ns (R.take j) ∧ w.grownBy wr v.ownBlock ∧ ∀ g, u.ownBlock = some g → v.ownBlock = some g ∨ w.heap.size ≤ g)
  case atStart => exact ⟨0, v, [], by omega, by omega, rfl, rfl, by rw [List.append_nil]; exact O, by rw [List.take_zero]; exact HRows.nil _ _, grown_refl _ _, fun g h => Or.inl h⟩
  case round =>
    obtain ⟨j, u, ns, hj, rfl, rfl, hu, O1, H1, G1, N1⟩ := hrel
    have hu2 := hu.symm
    subst hu2
    clear O
    by_cases hlt : j < m
    · obtain ⟨b, o, rfl, hc⟩ := (HR.out wr G1).cells (by omega)
      obtain ⟨ro, n1, c1, q1, A1⟩ := hc j hlt
      have hn1 : n1 ≤ 1048576 := by rw [← A1.row.len]; exact hl j hlt
      have CL := clone_arg ro n1 c1 _ wr A1 hn1
      have hsz := G1.size
      clear hc A1
      go_upto_region 4 with fail
      clear q1
      go_wp2_with fail
      refine CL.mono ?_
      rintro e w1 ⟨ro', c', rfl, NA, B1⟩
      clear CL
      have O2 := owns_below O1 B1
      have H2 := H1.turn (Tn.below B1)
      have G2 := grown_below G1 B1
      have BA : Below w1.heap.size w1 (w1.alloc (.cells #[.slice ro' n1 c'] 72)) := (Below.refl _ _).alloc (Nat.le_refl _) _
      have CN := cellRowB w1 (.slice ro' n1 c')
      generalize hw2 : w1.alloc (.cells #[.slice ro' n1 c'] 72) = w2 at *
      have O3 := owns_below O2 BA
      have H3 := H2.turn (Tn.below BA)
      have G3 := grown_below G2 BA
      have N3 : Hangs (offV w.heap.size u) w2 (fun w => Arg w ro' n1 c' (rowOf R j)) := Hangs.mono (NA.below BA) fun b _ hb => ⟨Nat.le_trans hsz hb, fun e => by
        have := (O1.lt b e).2; omega⟩
      have hs1 := B1.size
      have hs2 := BA.size
      clear O1 O2 H1 H2 G1 G2 NA
      go_wp2_with (at_builtin; refine wpList_append_hr rfl _ _ rfl B u (k + j) (vs ++ ns) rfl (by exact O3) ⟨w1.heap.size, 0, none⟩ 1 1 [.slice ro' n1 c'] rfl rfl (one_at0 CN) (by intro x hx; simp at hx; subst hx; rfl) (by omega) (by omega) ?_; intro ea ec w3 O4 G4 N4 E4)
      go_roundg (m - (j + 1))
      case measure => omega
      case rel =>
        have T := Tn.offV (s := w.heap.size) G4 N4
        refine ⟨j + 1, _, ns ++ [.slice ro' n1 c'], by omega, rfl, by go_num, rfl, by rw [← List.append_assoc]; exact O4, ?_, grown_trans G3 G4 (fun g h => N1 g h), fun g h => ?_⟩
        · rw [take_rowOf (by rw [hlen]; exact hlt)]
          exact (H3.turn T).snoc (N3.turn T)
        · rcases N4 g h with a | a
          · exact N1 g a
          · exact Or.inr (by omega)
    · obtain rfl : m = j := by omega
      go_wp2
      go_ret
      have e9 : R.take m = R := List.take_of_length_le (by omega)
      rw [e9] at H1
      obtain ⟨a, c, e8⟩ := owns_slice O1
      subst e8
      exact ⟨a, c, rfl, ⟨ns, O1, H1⟩, G1, N1⟩
end Go.Proofs.Ytpplnjmjldhlbaa
