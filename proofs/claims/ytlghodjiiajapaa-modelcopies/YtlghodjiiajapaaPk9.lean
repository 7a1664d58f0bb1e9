/- Contracts of the program's functions, part 9 of 9: what each call returns and leaves of memory. -/
import Derived.Test.YtlghodjiiajapaaPk4
import Derived.Test.YtlghodjiiajapaaPk2
import Derived.Test.YtlghodjiiajapaaPk5
import Derived.Test.YtlghodjiiajapaaPk3
import Derived.Deep.Matrix
import Derived.Deep.Slices
import Derived.Lib.SmallJoins
/- A made model as numbers that fit, and what becomes of them where one row is of another length. -/
namespace Go.Proofs.Ytlghodjiiajapaa
open Go.ChangeShapes Go.WideShapes Go.ChangeAt Go.RowKit
def rs (g n : Nat) : Sl := ⟨some ⟨g, 0, none⟩, n, n⟩
def mkB (D H f q k v o s u d : Nat) : Bk := ⟨rs f D, ⟨D, D, rs q (D * D)⟩, ⟨D, D, rs k (D * D)⟩, ⟨D, D, rs v (D * D)⟩, ⟨D, D, rs o (D * D)⟩, rs s D, ⟨H, D, rs u (H * D)⟩, ⟨D, H, rs d (D * H)⟩⟩
theorem mkB_cells (D H f q k v o s u d : Nat) : (mkB D H f q k v o s u d).cells = madeB D H f q k v o s u d := rfl
def mkW (V D L ge gB gl go : Nat) : Wt := ⟨⟨V, D, rs ge (V * D)⟩, rs gB L, rs gl D, ⟨V, D, rs go (V * D)⟩⟩
theorem mkW_cells (V D L ge gB gl go : Nat) : (mkW V D L ge gB gl go).cells = wCells V D (rv ge (V * D)) (rv gB L) (rv gl D) (rv go (V * D)) V D := rfl
theorem i64_nat {n : Nat} (h : n ≤ 4096) : I64 (n : Int) := by unfold I64; omega
theorem mkB_ok {D H f q k v o s u d : Nat} (h1 : D ≤ 4096) (h2 : H ≤ 4096) : (mkB D H f q k v o s u d).Ok :=
  ⟨by show D ≤ _; omega, ⟨i64_nat h1, i64_nat h1⟩, ⟨i64_nat h1, i64_nat h1⟩, ⟨i64_nat h1, i64_nat h1⟩, ⟨i64_nat h1, i64_nat h1⟩, by show D ≤ _; omega, ⟨i64_nat h2, i64_nat h1⟩, ⟨i64_nat h1, i64_nat h2⟩⟩
theorem mkW_ok {V D L ge gB gl go : Nat} (h1 : V ≤ 4096) (h2 : D ≤ 4096) : (mkW V D L ge gB gl go).Ok := ⟨⟨i64_nat h1, i64_nat h2⟩, by show D ≤ _; omega, ⟨i64_nat h1, i64_nat h2⟩⟩
theorem sides_yes {r c : Nat} (g : Nat) (h1 : 1 ≤ r) (h2 : r ≤ 128) (h3 : 1 ≤ c) (h4 : c ≤ 128) : sidesB ⟨r, c, rs g (r * c)⟩ r c = true := by
  unfold sidesB
  rw [decide_eq_true ⟨chk_ok h1 h2 h3 h4 rfl, rfl, rfl⟩]
theorem sides_no {r c : Nat} (s : Sl) (R K : Int) (h : s.n ≠ r * c) : sidesB ⟨r, c, s⟩ R K = false := by
  unfold sidesB
  refine decide_eq_false fun hh => ?_
  obtain ⟨r', c', e1, e2, _, _, _, _, e3⟩ := chk_zero hh.1
  simp only at e1 e2 e3
  obtain rfl : r = r' := by omega
  obtain rfl : c = c' := by omega
  exact h e3
theorem mkB_fits {D H f q k v o s u d : Nat} (h1 : 1 ≤ D) (h2 : D ≤ 128) (h3 : 1 ≤ H) (h4 : H ≤ 128) : bkB D H (mkB D H f q k v o s u d) = true := by
  unfold bkB mkB
  simp only [rs]
  have e1 := fun g => sides_yes (r := D) (c := D) g h1 h2 h1 h2
  have e2 := sides_yes (r := H) (c := D) u h3 h4 h1 h2
  have e3 := sides_yes (r := D) (c := H) d h1 h2 h3 h4
  unfold rs at e1 e2 e3
  rw [e1, e1, e1, e1, e2, e3]
  simp
/-- A made model's layers. -/
structure MadeL (w : World) (B seed i0 gB D H L : Nat) (bs : List Bk) : Prop where
  len : bs.length = L
  at_ : ∀ (t : Nat) (x : Bk), bs[t]? = some x → w.rangeAt gB (t * 20) x.cells.toList ∧ ∃ f q k v o s u d, x = mkB D H f q k v o s u d ∧ MadeB w B seed (i0 + t * lenB D H) D H f q k v o s u d
theorem madeL_of {w : World} {B seed i0 gB D H : Nat} : ∀ (L : Nat), (∀ j, j < L → ∃ f q k v o s u d, w.rangeAt gB (j * 20) (madeB D H f q k v o s u d).toList ∧ MadeB w B seed (i0 + j * lenB D H) D H f q k v o s u d) → ∃ bs, MadeL w B seed i0 gB D H L bs
  | 0, _ => ⟨[], rfl, fun t x h => by simp at h⟩
  | L + 1, h => by
    obtain ⟨bs, hl, ha⟩ := madeL_of L (fun j hj => h j (by omega))
    obtain ⟨f, q, k, v, o, s, u, d, hr, hm⟩ := h L (by omega)
    refine ⟨bs ++ [mkB D H f q k v o s u d], by simp [hl], fun t x hx => ?_⟩
    rcases Nat.lt_or_ge t L with h1 | h1
    · rw [List.getElem?_append_left (by omega)] at hx
      exact ha t x hx
    · rw [List.getElem?_append_right (by omega)] at hx
      have ht : t - bs.length = 0 := by
        rcases Nat.eq_zero_or_pos (t - bs.length) with h2 | h2
        · exact h2
        · rw [List.getElem?_eq_none (by simp; omega)] at hx; cases hx
      rw [ht] at hx
      simp at hx
      subst hx
      obtain rfl : t = L := by omega
      exact ⟨hr, f, q, k, v, o, s, u, d, rfl, hm⟩
theorem MadeL.blocks {w : World} {B seed i0 gB D H L : Nat} {bs : List Bk} (h : MadeL w B seed i0 gB D H L bs) (hL : L ≤ 4) (h1 : D ≤ 4096) (h2 : H ≤ 4096) : BlocksAt w (rs gB L) bs :=
  ⟨h.len, by show L ≤ _; omega, fun x hx => by
    obtain ⟨t, ht⟩ := List.mem_iff_getElem?.1 hx
    obtain ⟨_, f, q, k, v, o, s, u, d, rfl, _⟩ := h.at_ t x ht
    exact mkB_ok h1 h2, fun _ => ⟨gB, 0, rfl, fun t x hx => by rw [Nat.zero_add]; exact (h.at_ t x hx).1⟩⟩
theorem MadeL.below {w w' : World} {B seed i0 gB D H L : Nat} {bs : List Bk} (h : MadeL w B seed i0 gB D H L bs) (hg : gB < w.heap.size) (hb : Below w.heap.size w w') : MadeL w' B seed i0 gB D H L bs :=
  ⟨h.len, fun t x hx => by
    obtain ⟨r, f, q, k, v, o, s, u, d, e, m⟩ := h.at_ t x hx
    exact ⟨rangeAt_block r (hb.block gB hg), f, q, k, v, o, s, u, d, e, m.of (Nat.le_refl _) (fun F => hb.block _ F.lt)⟩⟩
/-- A made model fits. -/
theorem made_fits {w : World} {C : Cfg} {B seed i0 V D H L ge gB gl go : Nat} {bs : List Bk} (h : MadeL w B seed i0 gB D H L bs) (e1 : C.V = V) (e2 : C.D = D) (e4 : C.H = H) (e5 : C.L = L) (hs : shapeN C.V C.D C.Hd C.H C.L = 0) :
    checkN C.V C.D C.Hd C.H C.L (mkW V D L ge gB gl go) bs = 0 := by
  have hk := shape_ok hs
  unfold checkN
  rw [if_neg (by rw [hs]; simp), e1, e2, e4, e5]
  have : fitsB V D H L (mkW V D L ge gB gl go) bs = true := by
    unfold fitsB mkW
    simp only [rs]
    have s1 := sides_yes (r := V) (c := D) ge (by omega) (by omega) (by omega) (by omega)
    have s2 := sides_yes (r := V) (c := D) go (by omega) (by omega) (by omega) (by omega)
    unfold rs at s1 s2
    rw [s1, s2]
    simp only [decide_true, Bool.true_and, List.all_eq_true]
    intro x hx
    obtain ⟨t, ht⟩ := List.mem_iff_getElem?.1 hx
    obtain ⟨_, f, q, k, v, o, s, u, d, rfl, _⟩ := h.at_ t x ht
    exact mkB_fits (by omega) (by omega) (by omega) (by omega)
  rw [if_pos this]
theorem check_four {V D Hd H L : Int} {W : Wt} {bs : List Bk} (hs : shapeN V D Hd H L = 0) (hf : fitsB V D H L W bs = false) : checkN V D Hd H L W bs = 4 := by
  unfold checkN
  rw [if_neg (by rw [hs]; simp), if_neg (by rw [hf]; simp)]
/-- A cell of a range is written over. -/
theorem rangeAt_set {w : World} {g o : Nat} {cs : List Value} (h : w.rangeAt g o cs) {i : Nat} (hi : i < cs.length) (v : Value) : (w.setCell ⟨g, o + i, none⟩ v).rangeAt g o (cs.set i v) := fun j u hj => by
  rw [List.getElem?_set] at hj
  by_cases e : i = j
  · subst e
    rw [if_pos rfl, if_pos hi] at hj
    have := h i _ (List.getElem?_eq_getElem hi)
    rw [World.cell?_setCell_same _ _ _ this, ← hj]
  · rw [if_neg e] at hj
    rw [World.cell?_setCell_other _ _ _ _ (by simp <;> omega)]
    exact h j u hj
theorem rangeAt_apart {w : World} {g o : Nat} {cs : List Value} (h : w.rangeAt g o cs) {i : Nat} (hi : i < o ∨ o + cs.length ≤ i) (v : Value) : (w.setCell ⟨g, i, none⟩ v).rangeAt g o cs := fun j u hj => by
  have hjl : j < cs.length := (List.getElem?_eq_some_iff.1 hj).1
  rw [World.cell?_setCell_other _ _ _ _ (by simp <;> omega)]
  exact h j u hj
/-- The layers where one cell of the last is written over. -/
theorem MadeL.last {w : World} {B seed i0 gB D H L : Nat} {bs : List Bk} (h : MadeL w B seed i0 gB D H L bs) (h0 : 1 ≤ L) (hL : L ≤ 4) (h1 : D ≤ 4096) (h2 : H ≤ 4096) {x x' : Bk} (hx : bs[L - 1]? = some x) {i : Nat} (hi : i < 20) (s : Sl) (hc : x'.cells.toList = x.cells.toList.set i s.v) (ho : x'.Ok) (hb : bkB D H x' = false) :
    ∃ bs', BlocksAt (w.setCell ⟨gB, (L - 1) * 20 + i, none⟩ s.v) (rs gB L) bs' ∧ bs'.all (bkB D H) = false := by
  have hlen := h.len
  refine ⟨bs.set (L - 1) x', ⟨by simp [hlen, rs], by show L ≤ _; omega, fun y hy => ?_, fun _ => ⟨gB, 0, rfl, fun t y hy => ?_⟩⟩, ?_⟩
  · rcases List.mem_or_eq_of_mem_set hy with hy | rfl
    · obtain ⟨t, ht⟩ := List.mem_iff_getElem?.1 hy
      obtain ⟨_, f, q, k, v, o, s, u, d, rfl, _⟩ := h.at_ t y ht
      exact mkB_ok h1 h2
    · exact ho
  · rw [Nat.zero_add]
    rw [List.getElem?_set] at hy
    by_cases e : L - 1 = t
    · subst e
      rw [if_pos rfl, if_pos (by omega)] at hy
      obtain rfl := Option.some.inj hy
      rw [hc]
      exact rangeAt_set (h.at_ (L - 1) x hx).1 hi _
    · rw [if_neg e] at hy
      have ht : t < bs.length := (List.getElem?_eq_some_iff.1 hy).1
      exact rangeAt_apart (h.at_ t y hy).1 (Or.inr (by show t * 20 + 20 ≤ _; omega)) _
  · rw [← Bool.not_eq_true]
    intro ha
    have := List.all_eq_true.1 ha x' (List.mem_iff_getElem?.2 ⟨L - 1, by rw [List.getElem?_set, if_pos rfl, if_pos (by omega)]⟩)
    rw [hb] at this
    cases this
/-- A row of a made model that may be written over: what Check answers then. -/
structure Wanted (w : World) (g9 : Nat) (C : Cfg) (base ga oa gd n : Nat) : Prop where
  cell : w.cell? ⟨ga, oa, none⟩ = some (.slice (some ⟨gd, 0, none⟩) n n)
  froz : w.frozen? ⟨ga, oa, none⟩ = false
  row : ∃ B A, Fresh w B gd n n A
  pos : 1 ≤ n ∧ n ≤ 4096
  low : base ≤ ga
  eff : ∀ w', Below w.heap.size w w' → ∀ s : Sl, s.n ≠ n → s.n ≤ 9223372036854775807 → ∃ W' bs', Blk (w'.setCell ⟨ga, oa, none⟩ s.v) g9 29 W'.cells ∧ W'.Ok ∧ BlocksAt (w'.setCell ⟨ga, oa, none⟩ s.v) W'.b bs' ∧ checkN C.V C.D C.Hd C.H C.L W' bs' = 4
theorem Wanted.below {w w' : World} {g9 : Nat} {C : Cfg} {base ga oa gd n : Nat} (h : Wanted w g9 C base ga oa gd n) (hb : Below w.heap.size w w') : Wanted w' g9 C base ga oa gd n := by
  have hlt : ga < w.heap.size := by simpa using World.block_lt_of_cell? w _ h.cell
  obtain ⟨B, A, F⟩ := h.row
  exact ⟨(hb.cell (p := ⟨ga, oa, none⟩) hlt).trans h.cell, (World.frozen?_of_block (w := w) (hb.block ga hlt)).trans h.froz, ⟨B, A, F.below hb⟩, h.pos, h.low, fun w2 h2 => h.eff w2 (below_then hb h2)⟩
/-- Where the rows of a model lie. -/
def ptrN (g9 gB L : Nat) : Nat → Nat × Nat
  | 0 => (g9, 2)
  | 1 => (g9, 4)
  | 2 => (g9, 7)
  | 3 => (gB, (L - 1) * 20 + 0)
  | 4 => (gB, (L - 1) * 20 + 3)
  | 5 => (gB, (L - 1) * 20 + 6)
  | 6 => (gB, (L - 1) * 20 + 9)
  | 7 => (gB, (L - 1) * 20 + 12)
  | 8 => (gB, (L - 1) * 20 + 13)
  | 9 => (gB, (L - 1) * 20 + 16)
  | _ => (gB, (L - 1) * 20 + 19)
theorem blocks_other {w : World} {b : Sl} {bs : List Bk} {gB : Nat} (h : BlocksAt w b bs) (hb : ∀ g o, b.ao = some ⟨g, o, none⟩ → g = gB) {a : Addr} (ha : gB ≠ a.block) (v : Value) : BlocksAt (w.setCell a v) b bs := by
  refine ⟨h.len, h.max, h.ok, fun hn => ?_⟩
  obtain ⟨g, o, e, hc⟩ := h.cells hn
  refine ⟨g, o, e, fun t x hx => rangeAt_block (hc t x hx) (Below.heap_setCell _ _ _ _ (by rw [hb g o e]; exact ha))⟩
section
variable {w : World} {C : Cfg} {B seed i0 V D H L ge gB gl go g9 base : Nat} {bs : List Bk}
theorem wanted_top (h : MadeL w B seed i0 gB D H L bs) (X : Blk w g9 29 (mkW V D L ge gB gl go).cells) (hne : gB ≠ g9) (hgB : gB < w.heap.size) (hlow : base ≤ g9)
    (e1 : C.V = V) (e2 : C.D = D) (e4 : C.H = H) (e5 : C.L = L) (hs : shapeN C.V C.D C.Hd C.H C.L = 0) (i gd n : Nat)
    (hc : (mkW V D L ge gB gl go).cells[i]? = some (.slice (some ⟨gd, 0, none⟩) n n)) (hF : ∃ B A, Fresh w B gd n n A) (hn : 1 ≤ n ∧ n ≤ 4096)
    (he : ∀ s : Sl, s.n ≠ n → s.n ≤ 9223372036854775807 → ∃ W' : Wt, W'.cells = (mkW V D L ge gB gl go).cells.setIfInBounds i s.v ∧ W'.Ok ∧ W'.b = rs gB L ∧ fitsB V D H L W' bs = false) :
    Wanted w g9 C base g9 i gd n := by
  have hk := shape_ok hs
  refine ⟨X.cell i hc, X.frozen i, hF, hn, hlow, fun w' hb s h1 h2 => ?_⟩
  obtain ⟨W', c1, c2, c3, c4⟩ := he s h1 h2
  refine ⟨W', bs, ?_, c2, ?_, ?_⟩
  · rw [c1]; exact (X.below hb).set i _
  · rw [c3]
    exact blocks_other ((h.below hgB hb).blocks (by omega) (by omega) (by omega)) (fun g o e => by cases e; rfl) (by exact hne) _
  · rw [e1, e2, e4, e5] at hs ⊢
    exact check_four hs c4
theorem wanted_deep (h : MadeL w B seed i0 gB D H L bs) (X : Blk w g9 29 (mkW V D L ge gB gl go).cells) (hne : gB ≠ g9) (hgB : gB < w.heap.size) (hfr : ∀ o, w.frozen? ⟨gB, o, none⟩ = false) (hlow : base ≤ gB)
    (e1 : C.V = V) (e2 : C.D = D) (e4 : C.H = H) (e5 : C.L = L) (hs : shapeN C.V C.D C.Hd C.H C.L = 0) (x : Bk) (hx : bs[L - 1]? = some x) (i gd n : Nat) (hi : i < 20)
    (hc : x.cells.toList[i]? = some (.slice (some ⟨gd, 0, none⟩) n n)) (hF : ∃ B A, Fresh w B gd n n A) (hn : 1 ≤ n ∧ n ≤ 4096)
    (he : ∀ s : Sl, s.n ≠ n → s.n ≤ 9223372036854775807 → ∃ x' : Bk, x'.cells.toList = x.cells.toList.set i s.v ∧ x'.Ok ∧ bkB D H x' = false) :
    Wanted w g9 C base gB ((L - 1) * 20 + i) gd n := by
  have hk := shape_ok hs
  refine ⟨(h.at_ (L - 1) x hx).1 i _ hc, hfr _, hF, hn, hlow, fun w' hb s h1 h2 => ?_⟩
  obtain ⟨x', c1, c2, c3⟩ := he s h1 h2
  obtain ⟨bs', b1, b2⟩ := (h.below hgB hb).last (by omega) (by omega) (by omega) (by omega) hx hi s c1 c2 c3
  refine ⟨mkW V D L ge gB gl go, bs', (X.below hb).other (by show g9 ≠ gB; omega) _, mkW_ok (by omega) (by omega), b1, ?_⟩
  rw [e1, e2, e4, e5] at hs ⊢
  refine check_four hs ?_
  unfold fitsB
  rw [b2]
  simp
theorem wanted_all (M : MadeW w B seed V D H L ge gB gl go) (h : MadeL w B seed i0 gB D H L bs) (X : Blk w g9 29 (mkW V D L ge gB gl go).cells) (hl1 : base ≤ g9) (hl2 : base ≤ B)
    (e1 : C.V = V) (e2 : C.D = D) (e4 : C.H = H) (e5 : C.L = L) (hs : shapeN C.V C.D C.Hd C.H C.L = 0) (i : Nat) (hi : i < 11) :
    ∃ gd n, Wanted w g9 C base (ptrN g9 gB L i).1 (ptrN g9 gB L i).2 gd n := by
  have hk := shape_ok hs
  obtain ⟨cs, hB, _⟩ := M.bl
  have hgB : gB < w.heap.size := (Array.getElem?_eq_some_iff.1 hB).1
  have hne : gB ≠ g9 := by
    rintro rfl
    unfold Blk at X
    rw [hB] at X
    simp at X
  have hfr : ∀ o, w.frozen? ⟨gB, o, none⟩ = false := fun o => Blk.frozen (T := 53) (cs := cs) hB o
  have hlow : base ≤ gB := Nat.le_trans hl2 M.base
  have p1 : 1 ≤ V * D ∧ V * D ≤ 4096 := ⟨Nat.mul_pos (by omega) (by omega), Nat.le_trans (Nat.mul_le_mul (show V ≤ 64 by omega) (show D ≤ 32 by omega)) (by omega)⟩
  have p2 : 1 ≤ D * D ∧ D * D ≤ 4096 := ⟨Nat.mul_pos (by omega) (by omega), Nat.le_trans (Nat.mul_le_mul (show D ≤ 32 by omega) (show D ≤ 32 by omega)) (by omega)⟩
  have p3 : 1 ≤ H * D ∧ H * D ≤ 4096 := ⟨Nat.mul_pos (by omega) (by omega), Nat.le_trans (Nat.mul_le_mul (show H ≤ 64 by omega) (show D ≤ 32 by omega)) (by omega)⟩
  have p4 : 1 ≤ D * H ∧ D * H ≤ 4096 := ⟨Nat.mul_pos (by omega) (by omega), Nat.le_trans (Nat.mul_le_mul (show D ≤ 32 by omega) (show H ≤ 64 by omega)) (by omega)⟩
  have p5 : 1 ≤ D ∧ D ≤ 4096 := by omega
  have iV : I64 (V : Int) := i64_nat (by omega)
  have iD : I64 (D : Int) := i64_nat (by omega)
  have iH : I64 (H : Int) := i64_nat (by omega)
  have hD : D ≤ 9223372036854775807 := by omega
  obtain ⟨x, hx⟩ : ∃ x, bs[L - 1]? = some x := ⟨_, List.getElem?_eq_getElem (by rw [h.len]; omega)⟩
  obtain ⟨_, f, q, k, v, o, s, u, d, rfl, MB⟩ := h.at_ (L - 1) x hx
  have top := wanted_top (base := base) h X hne hgB hl1 e1 e2 e4 e5 hs
  have deep := wanted_deep (base := base) h X hne hgB hfr hlow e1 e2 e4 e5 hs _ hx
  have hor : i = 0 ∨ i = 1 ∨ i = 2 ∨ i = 3 ∨ i = 4 ∨ i = 5 ∨ i = 6 ∨ i = 7 ∨ i = 8 ∨ i = 9 ∨ i = 10 := by omega
  rcases hor with rfl | rfl | rfl | rfl | rfl | rfl | rfl | rfl | rfl | rfl | rfl
  · refine ⟨ge, V * D, top 2 ge (V * D) rfl ⟨_, _, M.e⟩ p1 (fun t h1 h2 => ⟨⟨⟨V, D, t⟩, rs gB L, rs gl D, ⟨V, D, rs go (V * D)⟩⟩, rfl, ⟨⟨iV, iD⟩, hD, ⟨iV, iD⟩⟩, rfl, ?_⟩)⟩
    unfold fitsB; simp only; rw [sides_no t _ _ h1]; simp
  · refine ⟨gl, D, top 4 gl D rfl ⟨_, _, M.l⟩ p5 (fun t h1 h2 => ⟨⟨⟨V, D, rs ge (V * D)⟩, rs gB L, t, ⟨V, D, rs go (V * D)⟩⟩, rfl, ⟨⟨iV, iD⟩, h2, ⟨iV, iD⟩⟩, rfl, ?_⟩)⟩
    unfold fitsB; simp only; rw [decide_eq_false (show ¬ ((t.n : Int) = D) by omega)]; simp
  · refine ⟨go, V * D, top 7 go (V * D) rfl ⟨_, _, M.o⟩ p1 (fun t h1 h2 => ⟨⟨⟨V, D, rs ge (V * D)⟩, rs gB L, rs gl D, ⟨V, D, t⟩⟩, rfl, ⟨⟨iV, iD⟩, hD, ⟨iV, iD⟩⟩, rfl, ?_⟩)⟩
    unfold fitsB; simp only; rw [sides_no t _ _ h1]; simp
  · refine ⟨f, D, deep 0 f (D) (by omega) rfl ⟨_, _, MB.f⟩ p5 (fun t h1 h2 => ⟨⟨t, ⟨D, D, rs q (D * D)⟩, ⟨D, D, rs k (D * D)⟩, ⟨D, D, rs v (D * D)⟩, ⟨D, D, rs o (D * D)⟩, rs s D, ⟨H, D, rs u (H * D)⟩, ⟨D, H, rs d (D * H)⟩⟩, rfl, ⟨h2, ⟨iD, iD⟩, ⟨iD, iD⟩, ⟨iD, iD⟩, ⟨iD, iD⟩, hD, ⟨iH, iD⟩, ⟨iD, iH⟩⟩, ?_⟩)⟩
    unfold bkB; simp only; rw [decide_eq_false (show ¬ ((t.n : Int) = D) by omega)]; simp
  · refine ⟨q, D * D, deep 3 q (D * D) (by omega) rfl ⟨_, _, MB.q⟩ p2 (fun t h1 h2 => ⟨⟨rs f D, ⟨D, D, t⟩, ⟨D, D, rs k (D * D)⟩, ⟨D, D, rs v (D * D)⟩, ⟨D, D, rs o (D * D)⟩, rs s D, ⟨H, D, rs u (H * D)⟩, ⟨D, H, rs d (D * H)⟩⟩, rfl, ⟨hD, ⟨iD, iD⟩, ⟨iD, iD⟩, ⟨iD, iD⟩, ⟨iD, iD⟩, hD, ⟨iH, iD⟩, ⟨iD, iH⟩⟩, ?_⟩)⟩
    unfold bkB; simp only; rw [sides_no t _ _ h1]; simp
  · refine ⟨k, D * D, deep 6 k (D * D) (by omega) rfl ⟨_, _, MB.k⟩ p2 (fun t h1 h2 => ⟨⟨rs f D, ⟨D, D, rs q (D * D)⟩, ⟨D, D, t⟩, ⟨D, D, rs v (D * D)⟩, ⟨D, D, rs o (D * D)⟩, rs s D, ⟨H, D, rs u (H * D)⟩, ⟨D, H, rs d (D * H)⟩⟩, rfl, ⟨hD, ⟨iD, iD⟩, ⟨iD, iD⟩, ⟨iD, iD⟩, ⟨iD, iD⟩, hD, ⟨iH, iD⟩, ⟨iD, iH⟩⟩, ?_⟩)⟩
    unfold bkB; simp only; rw [sides_no t _ _ h1]; simp
  · refine ⟨v, D * D, deep 9 v (D * D) (by omega) rfl ⟨_, _, MB.v⟩ p2 (fun t h1 h2 => ⟨⟨rs f D, ⟨D, D, rs q (D * D)⟩, ⟨D, D, rs k (D * D)⟩, ⟨D, D, t⟩, ⟨D, D, rs o (D * D)⟩, rs s D, ⟨H, D, rs u (H * D)⟩, ⟨D, H, rs d (D * H)⟩⟩, rfl, ⟨hD, ⟨iD, iD⟩, ⟨iD, iD⟩, ⟨iD, iD⟩, ⟨iD, iD⟩, hD, ⟨iH, iD⟩, ⟨iD, iH⟩⟩, ?_⟩)⟩
    unfold bkB; simp only; rw [sides_no t _ _ h1]; simp
  · refine ⟨o, D * D, deep 12 o (D * D) (by omega) rfl ⟨_, _, MB.o⟩ p2 (fun t h1 h2 => ⟨⟨rs f D, ⟨D, D, rs q (D * D)⟩, ⟨D, D, rs k (D * D)⟩, ⟨D, D, rs v (D * D)⟩, ⟨D, D, t⟩, rs s D, ⟨H, D, rs u (H * D)⟩, ⟨D, H, rs d (D * H)⟩⟩, rfl, ⟨hD, ⟨iD, iD⟩, ⟨iD, iD⟩, ⟨iD, iD⟩, ⟨iD, iD⟩, hD, ⟨iH, iD⟩, ⟨iD, iH⟩⟩, ?_⟩)⟩
    unfold bkB; simp only; rw [sides_no t _ _ h1]; simp
  · refine ⟨s, D, deep 13 s (D) (by omega) rfl ⟨_, _, MB.s⟩ p5 (fun t h1 h2 => ⟨⟨rs f D, ⟨D, D, rs q (D * D)⟩, ⟨D, D, rs k (D * D)⟩, ⟨D, D, rs v (D * D)⟩, ⟨D, D, rs o (D * D)⟩, t, ⟨H, D, rs u (H * D)⟩, ⟨D, H, rs d (D * H)⟩⟩, rfl, ⟨hD, ⟨iD, iD⟩, ⟨iD, iD⟩, ⟨iD, iD⟩, ⟨iD, iD⟩, h2, ⟨iH, iD⟩, ⟨iD, iH⟩⟩, ?_⟩)⟩
    unfold bkB; simp only; rw [decide_eq_false (show ¬ ((t.n : Int) = D) by omega)]; simp
  · refine ⟨u, H * D, deep 16 u (H * D) (by omega) rfl ⟨_, _, MB.u⟩ p3 (fun t h1 h2 => ⟨⟨rs f D, ⟨D, D, rs q (D * D)⟩, ⟨D, D, rs k (D * D)⟩, ⟨D, D, rs v (D * D)⟩, ⟨D, D, rs o (D * D)⟩, rs s D, ⟨H, D, t⟩, ⟨D, H, rs d (D * H)⟩⟩, rfl, ⟨hD, ⟨iD, iD⟩, ⟨iD, iD⟩, ⟨iD, iD⟩, ⟨iD, iD⟩, hD, ⟨iH, iD⟩, ⟨iD, iH⟩⟩, ?_⟩)⟩
    unfold bkB; simp only; rw [sides_no t _ _ h1]; simp
  · refine ⟨d, D * H, deep 19 d (D * H) (by omega) rfl ⟨_, _, MB.d⟩ p4 (fun t h1 h2 => ⟨⟨rs f D, ⟨D, D, rs q (D * D)⟩, ⟨D, D, rs k (D * D)⟩, ⟨D, D, rs v (D * D)⟩, ⟨D, D, rs o (D * D)⟩, rs s D, ⟨H, D, rs u (H * D)⟩, ⟨D, H, t⟩⟩, rfl, ⟨hD, ⟨iD, iD⟩, ⟨iD, iD⟩, ⟨iD, iD⟩, ⟨iD, iD⟩, hD, ⟨iH, iD⟩, ⟨iD, iH⟩⟩, ?_⟩)⟩
    unfold bkB; simp only; rw [sides_no t _ _ h1]; simp
end
end Go.Proofs.Ytlghodjiiajapaa

/- What the document's own functions for matrices answer; a copy of a matrix; the awake check of layer 4. -/
namespace Go.Proofs.Ytlghodjiiajapaa
open Go.ChangeShapes Go.WideShapes Go.ChangeAt Go.RowKit
theorem tab_snoc (k : Nat) (f : Nat → Int) : tab (k + 1) f = tab k f ++ [f k] := by unfold tab; rw [List.range_succ]; simp
set_option maxHeartbeats 800000 in
theorem refCheck_any (r c : Int) (ao : Option Addr) (n ca : Nat) (w : World) :
   Calls Try.prog 33 #[matV r c ao n ca] w fun e w' => e = .returned (.int .i64 (chkN r c n)) ∧ Below w.heap.size w w' := by
  unfold matV
  by_cases a1 : r < 1
  · have HF : Hid (chkN r c n = 1) := by
      have : sideN r c = 1 := by unfold sideN; rw [if_pos (Or.inl a1)]
      show _ = _; unfold chkN; rw [if_pos (by omega), this]
    go_enter Try.func33, Try.ntmps33
    go_wp2
    go_ret
    exact ⟨ret_int HF.out.symm, (Below.refl _ _).alloc (Nat.le_refl _) _⟩
  by_cases a2 : c < 1
  · have HF : Hid (chkN r c n = 1) := by
      have : sideN r c = 1 := by unfold sideN; rw [if_pos (Or.inr a2)]
      show _ = _; unfold chkN; rw [if_pos (by omega), this]
    go_enter Try.func33, Try.ntmps33
    go_wp2
    go_ret
    exact ⟨ret_int HF.out.symm, (Below.refl _ _).alloc (Nat.le_refl _) _⟩
  by_cases a3 : 128 < r
  · have HF : Hid (chkN r c n = 2) := by
      have : sideN r c = 2 := by unfold sideN; rw [if_neg (by omega), if_pos (Or.inl a3)]
      show _ = _; unfold chkN; rw [if_pos (by omega), this]
    go_enter Try.func33, Try.ntmps33
    go_wp2
    go_ret
    exact ⟨ret_int HF.out.symm, (Below.refl _ _).alloc (Nat.le_refl _) _⟩
  by_cases a4 : 128 < c
  · have HF : Hid (chkN r c n = 2) := by
      have : sideN r c = 2 := by unfold sideN; rw [if_neg (by omega), if_pos (Or.inr a4)]
      show _ = _; unfold chkN; rw [if_pos (by omega), this]
    go_enter Try.func33, Try.ntmps33
    go_wp2
    go_ret
    exact ⟨ret_int HF.out.symm, (Below.refl _ _).alloc (Nat.le_refl _) _⟩
  have hm := mul_side (r := r) (c := c) (by omega)
  have hsd : sideN r c = 0 := by unfold sideN; rw [if_neg (by omega), if_neg (by omega)]
  by_cases he : (n : Int) = r * c
  · have HF : Hid (chkN r c n = 0) := by show _ = _; unfold chkN; rw [if_neg (by omega), if_neg (by omega)]
    have he' : ((n : Int) == r * c) = true := by simpa using he
    clear he hsd
    generalize hp : r * c = p at *
    go_enter Try.func33, Try.ntmps33
    go_wp2
    go_ret
    exact ⟨ret_int HF.out.symm, (Below.refl _ _).alloc (Nat.le_refl _) _⟩
  · have HF : Hid (chkN r c n = 6) := by show _ = _; unfold chkN; rw [if_neg (by omega), if_pos he]
    have he' : ((n : Int) == r * c) = false := by simpa using he
    clear he hsd
    generalize hp : r * c = p at *
    go_enter Try.func33, Try.ntmps33
    go_wp2
    go_ret
    exact ⟨ret_int HF.out.symm, (Below.refl _ _).alloc (Nat.le_refl _) _⟩
set_option maxHeartbeats 1600000 in
theorem msame_any (r c : Int) (ao bo : Option Addr) (n ca cb : Nat) (D : List Int) (w : World) (hA : RowAt w ao n D) (hB : RowAt w bo n D) :
   Calls Try.prog 26 #[matV r c ao n ca, matV r c bo n cb] w fun e w' => e = .returned (.bool true) ∧ Below w.heap.size w w' := by
  have X0 := box_new w r c ao n ca
  have B0 : Below w.heap.size w (w.alloc (.cells #[.int .i64 r, .int .i64 c, .slice ao n ca] 26)) := (Below.refl _ _).alloc (Nat.le_refl _) _
  generalize hw0 : w.alloc (.cells #[.int .i64 r, .int .i64 c, .slice ao n ca] 26) = w0 at X0 B0
  have hs0 : w0.heap.size = w.heap.size + 1 := by rw [← hw0]; simp
  have X1 := box_new w0 r c bo n cb
  have B1 : Below w0.heap.size w0 (w0.alloc (.cells #[.int .i64 r, .int .i64 c, .slice bo n cb] 26)) := (Below.refl _ _).alloc (Nat.le_refl _) _
  generalize hw1 : w0.alloc (.cells #[.int .i64 r, .int .i64 c, .slice bo n cb] 26) = w1 at X1 B1
  replace X0 := X0.below B1
  replace B1 := below_then B0 B1
  rw [hs0] at X1
  have q0 := X0.c0
  have q1 := X0.c1
  have q2 := X0.c2
  have p0 := X1.c0
  have p1 := X1.c1
  have p2 := X1.c2
  go_enter Try.func26, Try.ntmps26
  unfold matV at *
  go_wp2_with fail
  refine (same_any _ _ n _ _ D w1 (hA.below B1) (hB.below B1)).mono ?_
  rintro e w2 ⟨rfl, m2, rfl⟩
  go_wp2
  go_ret
  exact ⟨rfl, below_drewN B1 m2⟩
set_option maxHeartbeats 1600000 in
theorem mfew_any (r c : Int) (ao : Option Addr) (n ca : Nat) (D : List Int) (w : World) (hD : Arg w ao n ca D) :
   Calls Try.prog 18 #[matV r c ao n ca] w fun e w' => ∃ g n' cap D', e = .returned (matV r c (some ⟨g, 0, none⟩) n' cap) ∧ n' ≤ 2000 ∧ Fresh w' w.heap.size g n' cap D' ∧ Below w.heap.size w w' := by
  have X0 := box_new w r c ao n ca
  have B0 : Below w.heap.size w (w.alloc (.cells #[.int .i64 r, .int .i64 c, .slice ao n ca] 26)) := (Below.refl _ _).alloc (Nat.le_refl _) _
  generalize hw0 : w.alloc (.cells #[.int .i64 r, .int .i64 c, .slice ao n ca] 26) = w0 at X0 B0
  have hs0 : w0.heap.size = w.heap.size + 1 := by rw [← hw0]; simp
  have X1 := box_new w0 0 0 none 0 0
  have B1 : Below w0.heap.size w0 (w0.alloc (.cells #[.int .i64 0, .int .i64 0, .slice none 0 0] 26)) := (Below.refl _ _).alloc (Nat.le_refl _) _
  generalize hw1 : w0.alloc (.cells #[.int .i64 0, .int .i64 0, .slice none 0 0] 26) = w1 at X1 B1
  replace X0 := X0.below B1
  replace B1 := below_then B0 B1
  rw [hs0] at X1
  have q2 := X0.c2
  go_enter Try.func18, Try.ntmps18
  unfold matV at *
  go_wp2_with fail
  refine (few_any ao n ca D 2000 2000 _ rfl (by exact hD.below B1) (by omega)).mono ?_
  rintro e w2 ⟨g2, n2, c2, rfl, l2, F2, B2⟩
  have i2 := F2.base
  have i0 := X0.lt
  have i1 := X1.lt
  replace X0 := X0.below B2
  replace X1 := X1.below B2
  replace B2 := below_then B1 B2
  clear hw0 hw1 q2
  have q0 := X0.c0
  have q1 := X0.c1
  have q2 := X0.c2
  have f2 := X0.frozen 2
  have u0 := X1.c0
  have u1 := X1.c1
  have u2 := X1.c2
  have v0 := X1.frozen 0
  have v1 := X1.frozen 1
  have v2 := X1.frozen 2
  go_wp2
  have X2 := X1.block (w' := w2.setCell ⟨w.heap.size, 2, none⟩ (.slice (some ⟨g2, 0, none⟩) n2 c2)) (Below.heap_setCell _ _ _ _ (by show w.heap.size + 1 ≠ w.heap.size; omega))
  have F3 := F2.setOther (a := ⟨w.heap.size, 2, none⟩) (by show g2 ≠ w.heap.size; omega) (.slice (some ⟨g2, 0, none⟩) n2 c2)
  have B3 := B2.setCell (p := ⟨w.heap.size, 2, none⟩) (Nat.le_refl _) (.slice (some ⟨g2, 0, none⟩) n2 c2)
  generalize w2.setCell ⟨w.heap.size, 2, none⟩ (.slice (some ⟨g2, 0, none⟩) n2 c2) = w3 at *
  refine bodyPost_ret (results_cell_row rfl _ _ (w.heap.size + 1) _ _ _ _ rfl (X2.put _ _ _ _ _) Try.underlying26 rfl (by kernel_rfl)) rfl ?_
  exact ⟨g2, n2, c2, _, rfl, l2, (F3.mono (by omega)).put (by omega) _ _ _, Below.put B3 (by omega) _ _ _⟩
theorem lit_row0 : el (tab 2 fun i => dotN (rowN [65536, 131072, 0, 65536] 2 i) [65536, 65536] 2) 0 = 196608 := by decide
theorem lit_row1 : el (tab 2 fun i => dotN (rowN [65536, 131072, 0, 65536] 2 i) [65536, 65536] 2) 1 = 65536 := by decide
end Go.Proofs.Ytlghodjiiajapaa

/- Two models that are the same, number by number, are told the same. -/
namespace Go.Proofs.Ytlghodjiiajapaa
open Go.ChangeShapes Go.WideShapes Go.ChangeAt Go.RowKit
/-- Two rows that read alike. -/
structure SlSame (w : World) (a b : Sl) : Prop where
  n : b.n = a.n
  row : ∃ A, RowAt w a.ao a.n A ∧ RowAt w b.ao a.n A
structure MtSame (w : World) (a b : Mt) : Prop where
  r : b.r = a.r
  c : b.c = a.c
  d : SlSame w a.d b.d
structure BkSame (w : World) (a b : Bk) : Prop where
  f : SlSame w a.f b.f
  q : MtSame w a.q b.q
  k : MtSame w a.k b.k
  v : MtSame w a.v b.v
  o : MtSame w a.o b.o
  s : SlSame w a.s b.s
  u : MtSame w a.u b.u
  d : MtSame w a.d b.d
theorem SlSame.below {w w' : World} {a b : Sl} (h : SlSame w a b) (hb : Below w.heap.size w w') : SlSame w' a b := ⟨h.n, let ⟨A, x, y⟩ := h.row; ⟨A, x.below hb, y.below hb⟩⟩
theorem MtSame.below {w w' : World} {a b : Mt} (h : MtSame w a b) (hb : Below w.heap.size w w') : MtSame w' a b := ⟨h.r, h.c, h.d.below hb⟩
theorem BkSame.below {w w' : World} {a b : Bk} (h : BkSame w a b) (hb : Below w.heap.size w w') : BkSame w' a b := ⟨h.f.below hb, h.q.below hb, h.k.below hb, h.v.below hb, h.o.below hb, h.s.below hb, h.u.below hb, h.d.below hb⟩
theorem wide_any (ao : Option Addr) (n ca : Nat) (w : World) :
   Calls Try.prog 27 #[.slice ao n ca] w fun e w' => e = .returned (matV 1 n ao n ca) ∧ Below w.heap.size w w' := by
  go_enter Try.func27, Try.ntmps27
  go_wp2_with fail
  have X0 := box_new w 1 n ao n ca
  have B0 : Below w.heap.size w (w.alloc (.cells #[.int .i64 1, .int .i64 n, .slice ao n ca] 26)) := (Below.refl _ _).alloc (Nat.le_refl _) _
  refine bodyPost_ret (results_cell_row rfl _ _ w.heap.size _ _ _ _ rfl X0 Try.underlying26 rfl (by kernel_rfl)) rfl ?_
  exact ⟨rfl, B0⟩
theorem sl_same_nxt {w : World} {r c : Int} {ao bo : Option Addr} {n ca cb : Nat} (h : SlSame w ⟨ao, n, ca⟩ ⟨bo, n, cb⟩) (p : Nxt w) : Calls Try.prog 26 #[.agg #[.int .i64 r, .int .i64 c, .slice ao n ca], .agg #[.int .i64 r, .int .i64 c, .slice bo n cb]] p.to fun e w' => e = .returned (.bool true) ∧ ∃ q : Nxt w, w' = q.to := by
  obtain ⟨A, x, y⟩ := h.row
  exact calls_nxt (msame_any r c ao bo n ca cb A p.to (x.below p.ok) (y.below p.ok))
theorem wide_nxt {w : World} (ao : Option Addr) (n ca : Nat) (p : Nxt w) : Calls Try.prog 27 #[.slice ao n ca] p.to fun e w' => e = .returned (.agg #[.int .i64 1, .int .i64 n, .slice ao n ca]) ∧ ∃ q : Nxt w, w' = q.to := calls_nxt (wide_any ao n ca p.to)
set_option maxRecDepth 100000 in
set_option maxHeartbeats 6400000 in
theorem same6_any (W1 W2 : Wt) (bs1 bs2 : List Bk) (w : World) (hb1 : BlocksAt w W1.b bs1) (hb2 : BlocksAt w W2.b bs2) (hn : W2.b.n = W1.b.n) (he : MtSame w W1.e W2.e) (hl : SlSame w W1.l W2.l) (ho : MtSame w W1.o W2.o)
    (hB : ∀ (t : Nat) (x y : Bk), bs1[t]? = some x → bs2[t]? = some y → BkSame w x y) :
   Calls Try.prog 15 #[.agg W1.cells, .agg W2.cells] w fun e w' => e = .returned (.bool true) ∧ Below w.heap.size w w' := by
  obtain ⟨⟨er, ec, ⟨ea1, en, ez1⟩⟩, ⟨ba1, bn, bz1⟩, ⟨la1, ln, lz1⟩, ⟨gr, gc, ⟨ga1, gn, gz1⟩⟩⟩ := W1
  obtain ⟨⟨er', ec', ⟨ea2, en', ez2⟩⟩, ⟨ba2, bn', bz2⟩, ⟨la2, ln', lz2⟩, ⟨gr', gc', ⟨ga2, gn', gz2⟩⟩⟩ := W2
  simp only at hn
  have z1 := he.r
  have z2 := he.c
  have z3 := he.d.n
  have z4 := hl.n
  have z5 := ho.r
  have z6 := ho.c
  have z7 := ho.d.n
  simp only at z1 z2 z3 z4 z5 z6 z7
  obtain rfl := hn.symm
  obtain rfl := z1.symm
  obtain rfl := z2.symm
  obtain rfl := z3.symm
  obtain rfl := z4.symm
  obtain rfl := z5.symm
  obtain rfl := z6.symm
  obtain rfl := z7.symm
  have hmax := hb1.max
  have hlen1 := hb1.len
  have hlen2 := hb2.len
  simp only at hmax hlen1 hlen2
  show Calls Try.prog 15 #[.agg #[.int .i64 er, .int .i64 ec, .slice ea1 en ez1, .slice ba1 bn bz1, .slice la1 ln lz1, .int .i64 gr, .int .i64 gc, .slice ga1 gn gz1], .agg #[.int .i64 er, .int .i64 ec, .slice ea2 en ez2, .slice ba2 bn bz2, .slice la2 ln lz2, .int .i64 gr, .int .i64 gc, .slice ga2 gn gz2]] w _
  have X1 := blk_new w 33 #[.int .i64 er, .int .i64 ec, .slice ea1 en ez1, .slice ba1 bn bz1, .slice la1 ln lz1, .int .i64 gr, .int .i64 gc, .slice ga1 gn gz1]
  have B1 : Below w.heap.size w (w.alloc (.cells #[.int .i64 er, .int .i64 ec, .slice ea1 en ez1, .slice ba1 bn bz1, .slice la1 ln lz1, .int .i64 gr, .int .i64 gc, .slice ga1 gn gz1] 33)) := (Below.refl _ _).alloc (Nat.le_refl _) _
  have s1 : (w.alloc (.cells #[.int .i64 er, .int .i64 ec, .slice ea1 en ez1, .slice ba1 bn bz1, .slice la1 ln lz1, .int .i64 gr, .int .i64 gc, .slice ga1 gn gz1] 33)).heap.size = w.heap.size + 1 := by simp
  generalize hw1 : w.alloc (.cells #[.int .i64 er, .int .i64 ec, .slice ea1 en ez1, .slice ba1 bn bz1, .slice la1 ln lz1, .int .i64 gr, .int .i64 gc, .slice ga1 gn gz1] 33) = w1 at *
  have X2 := blk_new w1 33 #[.int .i64 er, .int .i64 ec, .slice ea2 en ez2, .slice ba2 bn bz2, .slice la2 ln lz2, .int .i64 gr, .int .i64 gc, .slice ga2 gn gz2]
  have B2 : Below w1.heap.size w1 (w1.alloc (.cells #[.int .i64 er, .int .i64 ec, .slice ea2 en ez2, .slice ba2 bn bz2, .slice la2 ln lz2, .int .i64 gr, .int .i64 gc, .slice ga2 gn gz2] 33)) := (Below.refl _ _).alloc (Nat.le_refl _) _
  rw [s1] at X2
  generalize hw2 : w1.alloc (.cells #[.int .i64 er, .int .i64 ec, .slice ea2 en ez2, .slice ba2 bn bz2, .slice la2 ln lz2, .int .i64 gr, .int .i64 gc, .slice ga2 gn gz2] 33) = w2 at *
  replace X1 := X1.below B2
  replace B2 := below_then B1 B2
  have c1 := sl_same_nxt (r := er) (c := ec) (he.d.below B2)
  have c2 := sl_same_nxt (r := gr) (c := gc) (ho.d.below B2)
  have c3 := sl_same_nxt (r := 1) (c := ln) (hl.below B2)
  have d1 := wide_nxt (w := w2) la1 ln lz1
  have d2 := wide_nxt (w := w2) la2 ln lz2
  have a1_0 : ∀ p : Nxt w2, p.to.cell? ⟨w.heap.size, 0, none⟩ = some (.int .i64 er) := fun p => (X1.below p.ok).cell 0 rfl
  have a1_1 : ∀ p : Nxt w2, p.to.cell? ⟨w.heap.size, 1, none⟩ = some (.int .i64 ec) := fun p => (X1.below p.ok).cell 1 rfl
  have a1_2 : ∀ p : Nxt w2, p.to.cell? ⟨w.heap.size, 2, none⟩ = some (.slice ea1 en ez1) := fun p => (X1.below p.ok).cell 2 rfl
  have a1_3 : ∀ p : Nxt w2, p.to.cell? ⟨w.heap.size, 3, none⟩ = some (.slice ba1 bn bz1) := fun p => (X1.below p.ok).cell 3 rfl
  have a1_4 : ∀ p : Nxt w2, p.to.cell? ⟨w.heap.size, 4, none⟩ = some (.slice la1 ln lz1) := fun p => (X1.below p.ok).cell 4 rfl
  have a1_5 : ∀ p : Nxt w2, p.to.cell? ⟨w.heap.size, 5, none⟩ = some (.int .i64 gr) := fun p => (X1.below p.ok).cell 5 rfl
  have a1_6 : ∀ p : Nxt w2, p.to.cell? ⟨w.heap.size, 6, none⟩ = some (.int .i64 gc) := fun p => (X1.below p.ok).cell 6 rfl
  have a1_7 : ∀ p : Nxt w2, p.to.cell? ⟨w.heap.size, 7, none⟩ = some (.slice ga1 gn gz1) := fun p => (X1.below p.ok).cell 7 rfl
  have a2_0 : ∀ p : Nxt w2, p.to.cell? ⟨w.heap.size + 1, 0, none⟩ = some (.int .i64 er) := fun p => (X2.below p.ok).cell 0 rfl
  have a2_1 : ∀ p : Nxt w2, p.to.cell? ⟨w.heap.size + 1, 1, none⟩ = some (.int .i64 ec) := fun p => (X2.below p.ok).cell 1 rfl
  have a2_2 : ∀ p : Nxt w2, p.to.cell? ⟨w.heap.size + 1, 2, none⟩ = some (.slice ea2 en ez2) := fun p => (X2.below p.ok).cell 2 rfl
  have a2_3 : ∀ p : Nxt w2, p.to.cell? ⟨w.heap.size + 1, 3, none⟩ = some (.slice ba2 bn bz2) := fun p => (X2.below p.ok).cell 3 rfl
  have a2_4 : ∀ p : Nxt w2, p.to.cell? ⟨w.heap.size + 1, 4, none⟩ = some (.slice la2 ln lz2) := fun p => (X2.below p.ok).cell 4 rfl
  have a2_5 : ∀ p : Nxt w2, p.to.cell? ⟨w.heap.size + 1, 5, none⟩ = some (.int .i64 gr) := fun p => (X2.below p.ok).cell 5 rfl
  have a2_6 : ∀ p : Nxt w2, p.to.cell? ⟨w.heap.size + 1, 6, none⟩ = some (.int .i64 gc) := fun p => (X2.below p.ok).cell 6 rfl
  have a2_7 : ∀ p : Nxt w2, p.to.cell? ⟨w.heap.size + 1, 7, none⟩ = some (.slice ga2 gn gz2) := fun p => (X2.below p.ok).cell 7 rfl
  have ne := nxt_ne w2
  go_enter Try.func15, Try.ntmps15
  go_wp2_with fail
  refine wp_region_nxt (by kernel_rfl) (by kernel_rfl) ?_
  repeat (first | go_big_quiet_skip | (go_big_quiet_want; go_big_quiet_op; first | go_big_quiet_on | (apply Exists.intro; refine ⟨fun pq => ?_, ?_⟩; (first | (go_at_call_of 26 ea1; exact c1 _) | (go_at_call_of 26 ga1; exact c2 _) | (go_at_call_of 26 la1; exact c3 _) | (go_at_call_of 27 la1; exact d1 _) | (go_at_call_of 27 la2; exact d2 _)); go_big_quiet_on)))
  refine wpQuiet_nil ?_
  intro w3 hw'
  obtain ⟨⟨w3', B3⟩, hw''⟩ := hw'
  subst hw''
  replace X1 := X1.below B3
  replace X2 := X2.below B3
  replace B3 := below_then B2 B3
  clear c1 c2 c3 d1 d2 a1_0 a1_1 a1_2 a1_3 a1_4 a1_5 a1_6 a1_7 a2_0 a2_1 a2_2 a2_3 a2_4 a2_5 a2_6 a2_7 hw1 hw2 s1 B1 B2 ne
  have HB1 : Hid (∀ wv, Below w.heap.size w wv → BlocksAt wv ⟨ba1, bn, bz1⟩ bs1) := fun wv h => hb1.below h
  have HB2 : Hid (∀ wv, Below w.heap.size w wv → BlocksAt wv ⟨ba2, bn, bz2⟩ bs2) := fun wv h => hb2.below h
  have HS : Hid (∀ (t : Nat) (x y : Bk), bs1[t]? = some x → bs2[t]? = some y → BkSame w x y) := hB
  clear hb1 hb2 hB he hl ho
  have e3 : w3.cell? ⟨w.heap.size, 3, none⟩ = some (.slice ba1 bn bz1) := X1.cell 3 rfl
  go_wp2_with fail
  clear e3
  go_loopg [44] bn (fun r i wr => ∃ t : Nat, t ≤ bn ∧ r = bn - t ∧ i = .int .i64 t ∧ Blk wr (w.heap.size + 1) 33 #[.int .i64 er, .int .i64 ec, .slice ea2 en ez2, .slice ba2 bn bz2, .slice la2 ln lz2, .int .i64 gr, .int .i64 gc, .slice ga2 gn gz2] ∧ Below w.heap.size w wr)
  case atStart => exact ⟨0, by omega, by omega, rfl, X2, B3⟩
  case round =>
    clear X1 X2 B3
    obtain ⟨t, ht, rfl, rfl, X2, B4⟩ := hrel
    by_cases hlt : t < bn
    · obtain ⟨x, hx⟩ : ∃ x, bs1[t]? = some x := ⟨_, List.getElem?_eq_getElem (by omega)⟩
      obtain ⟨y, hy⟩ : ∃ y, bs2[t]? = some y := ⟨_, List.getElem?_eq_getElem (by omega)⟩
      have K := HS.out t x y hx hy
      obtain ⟨g1, o1, e1, hc1⟩ := (HB1.out _ B4).cells (by show 0 < bn; omega)
      simp only at e1
      subst e1
      have r1 := hc1 t x hx
      clear hc1
      obtain ⟨cs1, hcs1⟩ : ∃ cs, x.cells = cs := ⟨_, rfl⟩
      obtain ⟨cs2, hcs2⟩ : ∃ cs, y.cells = cs := ⟨_, rfl⟩
      have one1 := bk_one x
      have siz1 := bk_size x
      have one2 := bk_one y
      have siz2 := bk_size y
      rw [hcs1] at one1 siz1 r1
      rw [hcs2] at one2 siz2
      have HL1 : Hid (cs1.toList.toArray = cs1) := by show _ = _; simp
      have HL2 : Hid (cs2.toList.toArray = cs2) := by show _ = _; simp
      have XZ1 := blk_new wr 54 #[.slice none 0 0, .int .i64 0, .int .i64 0, .slice none 0 0, .int .i64 0, .int .i64 0, .slice none 0 0, .int .i64 0, .int .i64 0, .slice none 0 0, .int .i64 0, .int .i64 0, .slice none 0 0, .slice none 0 0, .int .i64 0, .int .i64 0, .slice none 0 0, .int .i64 0, .int .i64 0, .slice none 0 0]
      have BZ1 : Below wr.heap.size wr (wr.alloc (.cells #[.slice none 0 0, .int .i64 0, .int .i64 0, .slice none 0 0, .int .i64 0, .int .i64 0, .slice none 0 0, .int .i64 0, .int .i64 0, .slice none 0 0, .int .i64 0, .int .i64 0, .slice none 0 0, .slice none 0 0, .int .i64 0, .int .i64 0, .slice none 0 0, .int .i64 0, .int .i64 0, .slice none 0 0] 54)) := (Below.refl _ _).alloc (Nat.le_refl _) _
      generalize hwz1 : wr.alloc (.cells #[.slice none 0 0, .int .i64 0, .int .i64 0, .slice none 0 0, .int .i64 0, .int .i64 0, .slice none 0 0, .int .i64 0, .int .i64 0, .slice none 0 0, .int .i64 0, .int .i64 0, .slice none 0 0, .slice none 0 0, .int .i64 0, .int .i64 0, .slice none 0 0, .int .i64 0, .int .i64 0, .slice none 0 0] 54) = wz1 at *
      have XR1 := XZ1.row cs1
      have BR1 := below_setRow BZ1 (Nat.le_refl _) cs1
      generalize hwy1 : wz1.setRow wr.heap.size cs1 = wy1 at *
      rw [← hcs1] at XR1
      have X2y := X2.below BR1
      have BY1 := below_then B4 BR1
      obtain ⟨g2, o2, e2, hc2⟩ := (HB2.out _ BY1).cells (by show 0 < bn; omega)
      simp only at e2
      subst e2
      have r2 := hc2 t y hy
      rw [hcs2] at r2
      clear hc2
      have q3 : wy1.cell? ⟨w.heap.size + 1, 3, none⟩ = some (.slice (some ⟨g2, o2, none⟩) bn bz2) := X2y.cell 3 rfl
      have XZ2 := blk_new wy1 54 #[.slice none 0 0, .int .i64 0, .int .i64 0, .slice none 0 0, .int .i64 0, .int .i64 0, .slice none 0 0, .int .i64 0, .int .i64 0, .slice none 0 0, .int .i64 0, .int .i64 0, .slice none 0 0, .slice none 0 0, .int .i64 0, .int .i64 0, .slice none 0 0, .int .i64 0, .int .i64 0, .slice none 0 0]
      have BZ2 : Below wy1.heap.size wy1 (wy1.alloc (.cells #[.slice none 0 0, .int .i64 0, .int .i64 0, .slice none 0 0, .int .i64 0, .int .i64 0, .slice none 0 0, .int .i64 0, .int .i64 0, .slice none 0 0, .int .i64 0, .int .i64 0, .slice none 0 0, .slice none 0 0, .int .i64 0, .int .i64 0, .slice none 0 0, .int .i64 0, .int .i64 0, .slice none 0 0] 54)) := (Below.refl _ _).alloc (Nat.le_refl _) _
      generalize hwz2 : wy1.alloc (.cells #[.slice none 0 0, .int .i64 0, .int .i64 0, .slice none 0 0, .int .i64 0, .int .i64 0, .slice none 0 0, .int .i64 0, .int .i64 0, .slice none 0 0, .int .i64 0, .int .i64 0, .slice none 0 0, .slice none 0 0, .int .i64 0, .int .i64 0, .slice none 0 0, .int .i64 0, .int .i64 0, .slice none 0 0] 54) = wz2 at *
      have XR2 := XZ2.row cs2
      have BR2 := below_setRow BZ2 (Nat.le_refl _) cs2
      generalize hwy2 : wz2.setRow wy1.heap.size cs2 = wy2 at *
      rw [← hcs2] at XR2
      have X2z := X2y.below BR2
      have XR1z := XR1.below BR2
      have BY2 := below_then BY1 BR2
      replace K := K.below BY2
      obtain ⟨⟨fa1, fn, fz1⟩, ⟨qr, qc, ⟨qa1, qn, qz1⟩⟩, ⟨kr, kc, ⟨ka1, kn, kz1⟩⟩, ⟨vr, vc, ⟨va1, vn, vz1⟩⟩, ⟨or, oc, ⟨oa1, on, oz1⟩⟩, ⟨sa1, sn, sz1⟩, ⟨ur, uc, ⟨ua1, un, uz1⟩⟩, ⟨dr, dc, ⟨da1, dn, dz1⟩⟩⟩ := x
      obtain ⟨⟨fa2, fn2, fz2⟩, ⟨qr2, qc2, ⟨qa2, qn2, qz2⟩⟩, ⟨kr2, kc2, ⟨ka2, kn2, kz2⟩⟩, ⟨vr2, vc2, ⟨va2, vn2, vz2⟩⟩, ⟨or2, oc2, ⟨oa2, on2, oz2⟩⟩, ⟨sa2, sn2, sz2⟩, ⟨ur2, uc2, ⟨ua2, un2, uz2⟩⟩, ⟨dr2, dc2, ⟨da2, dn2, dz2⟩⟩⟩ := y
      obtain ⟨Kf, Kq, Kk, Kv, Ko, Ks, Ku, Kd⟩ := K
      obtain rfl : fn2 = fn := Kf.n
      obtain rfl : sn2 = sn := Ks.n
      obtain rfl : qr2 = qr := Kq.r
      obtain rfl : qc2 = qc := Kq.c
      obtain rfl : qn2 = qn := Kq.d.n
      obtain rfl : kr2 = kr := Kk.r
      obtain rfl : kc2 = kc := Kk.c
      obtain rfl : kn2 = kn := Kk.d.n
      obtain rfl : vr2 = vr := Kv.r
      obtain rfl : vc2 = vc := Kv.c
      obtain rfl : vn2 = vn := Kv.d.n
      obtain rfl : or2 = or := Ko.r
      obtain rfl : oc2 = oc := Ko.c
      obtain rfl : on2 = on := Ko.d.n
      obtain rfl : ur2 = ur := Ku.r
      obtain rfl : uc2 = uc := Ku.c
      obtain rfl : un2 = un := Ku.d.n
      obtain rfl : dr2 = dr := Kd.r
      obtain rfl : dc2 = dc := Kd.c
      obtain rfl : dn2 = dn := Kd.d.n
      have cf := sl_same_nxt (r := 1) (c := fn2) Kf
      have cs' := sl_same_nxt (r := 1) (c := sn2) Ks
      have cq := sl_same_nxt (r := qr2) (c := qc2) Kq.d
      have ck := sl_same_nxt (r := kr2) (c := kc2) Kk.d
      have cv := sl_same_nxt (r := vr2) (c := vc2) Kv.d
      have co := sl_same_nxt (r := or2) (c := oc2) Ko.d
      have cu := sl_same_nxt (r := ur2) (c := uc2) Ku.d
      have cd := sl_same_nxt (r := dr2) (c := dc2) Kd.d
      have df1 := wide_nxt (w := wy2) fa1 fn2 fz1
      have df2 := wide_nxt (w := wy2) fa2 fn2 fz2
      have ds1 := wide_nxt (w := wy2) sa1 sn2 sz1
      have ds2 := wide_nxt (w := wy2) sa2 sn2 sz2
      have b1_0 : ∀ p : Nxt wy2, p.to.cell? ⟨wr.heap.size, 0, none⟩ = some (.slice fa1 fn2 fz1) := fun p => (XR1z.below p.ok).cell 0 rfl
      have b1_1 : ∀ p : Nxt wy2, p.to.cell? ⟨wr.heap.size, 1, none⟩ = some (.int .i64 qr2) := fun p => (XR1z.below p.ok).cell 1 rfl
      have b1_2 : ∀ p : Nxt wy2, p.to.cell? ⟨wr.heap.size, 2, none⟩ = some (.int .i64 qc2) := fun p => (XR1z.below p.ok).cell 2 rfl
      have b1_3 : ∀ p : Nxt wy2, p.to.cell? ⟨wr.heap.size, 3, none⟩ = some (.slice qa1 qn2 qz1) := fun p => (XR1z.below p.ok).cell 3 rfl
      have b1_4 : ∀ p : Nxt wy2, p.to.cell? ⟨wr.heap.size, 4, none⟩ = some (.int .i64 kr2) := fun p => (XR1z.below p.ok).cell 4 rfl
      have b1_5 : ∀ p : Nxt wy2, p.to.cell? ⟨wr.heap.size, 5, none⟩ = some (.int .i64 kc2) := fun p => (XR1z.below p.ok).cell 5 rfl
      have b1_6 : ∀ p : Nxt wy2, p.to.cell? ⟨wr.heap.size, 6, none⟩ = some (.slice ka1 kn2 kz1) := fun p => (XR1z.below p.ok).cell 6 rfl
      have b1_7 : ∀ p : Nxt wy2, p.to.cell? ⟨wr.heap.size, 7, none⟩ = some (.int .i64 vr2) := fun p => (XR1z.below p.ok).cell 7 rfl
      have b1_8 : ∀ p : Nxt wy2, p.to.cell? ⟨wr.heap.size, 8, none⟩ = some (.int .i64 vc2) := fun p => (XR1z.below p.ok).cell 8 rfl
      have b1_9 : ∀ p : Nxt wy2, p.to.cell? ⟨wr.heap.size, 9, none⟩ = some (.slice va1 vn2 vz1) := fun p => (XR1z.below p.ok).cell 9 rfl
      have b1_10 : ∀ p : Nxt wy2, p.to.cell? ⟨wr.heap.size, 10, none⟩ = some (.int .i64 or2) := fun p => (XR1z.below p.ok).cell 10 rfl
      have b1_11 : ∀ p : Nxt wy2, p.to.cell? ⟨wr.heap.size, 11, none⟩ = some (.int .i64 oc2) := fun p => (XR1z.below p.ok).cell 11 rfl
      have b1_12 : ∀ p : Nxt wy2, p.to.cell? ⟨wr.heap.size, 12, none⟩ = some (.slice oa1 on2 oz1) := fun p => (XR1z.below p.ok).cell 12 rfl
      have b1_13 : ∀ p : Nxt wy2, p.to.cell? ⟨wr.heap.size, 13, none⟩ = some (.slice sa1 sn2 sz1) := fun p => (XR1z.below p.ok).cell 13 rfl
      have b1_14 : ∀ p : Nxt wy2, p.to.cell? ⟨wr.heap.size, 14, none⟩ = some (.int .i64 ur2) := fun p => (XR1z.below p.ok).cell 14 rfl
      have b1_15 : ∀ p : Nxt wy2, p.to.cell? ⟨wr.heap.size, 15, none⟩ = some (.int .i64 uc2) := fun p => (XR1z.below p.ok).cell 15 rfl
      have b1_16 : ∀ p : Nxt wy2, p.to.cell? ⟨wr.heap.size, 16, none⟩ = some (.slice ua1 un2 uz1) := fun p => (XR1z.below p.ok).cell 16 rfl
      have b1_17 : ∀ p : Nxt wy2, p.to.cell? ⟨wr.heap.size, 17, none⟩ = some (.int .i64 dr2) := fun p => (XR1z.below p.ok).cell 17 rfl
      have b1_18 : ∀ p : Nxt wy2, p.to.cell? ⟨wr.heap.size, 18, none⟩ = some (.int .i64 dc2) := fun p => (XR1z.below p.ok).cell 18 rfl
      have b1_19 : ∀ p : Nxt wy2, p.to.cell? ⟨wr.heap.size, 19, none⟩ = some (.slice da1 dn2 dz1) := fun p => (XR1z.below p.ok).cell 19 rfl
      have b2_0 : ∀ p : Nxt wy2, p.to.cell? ⟨wy1.heap.size, 0, none⟩ = some (.slice fa2 fn2 fz2) := fun p => (XR2.below p.ok).cell 0 rfl
      have b2_1 : ∀ p : Nxt wy2, p.to.cell? ⟨wy1.heap.size, 1, none⟩ = some (.int .i64 qr2) := fun p => (XR2.below p.ok).cell 1 rfl
      have b2_2 : ∀ p : Nxt wy2, p.to.cell? ⟨wy1.heap.size, 2, none⟩ = some (.int .i64 qc2) := fun p => (XR2.below p.ok).cell 2 rfl
      have b2_3 : ∀ p : Nxt wy2, p.to.cell? ⟨wy1.heap.size, 3, none⟩ = some (.slice qa2 qn2 qz2) := fun p => (XR2.below p.ok).cell 3 rfl
      have b2_4 : ∀ p : Nxt wy2, p.to.cell? ⟨wy1.heap.size, 4, none⟩ = some (.int .i64 kr2) := fun p => (XR2.below p.ok).cell 4 rfl
      have b2_5 : ∀ p : Nxt wy2, p.to.cell? ⟨wy1.heap.size, 5, none⟩ = some (.int .i64 kc2) := fun p => (XR2.below p.ok).cell 5 rfl
      have b2_6 : ∀ p : Nxt wy2, p.to.cell? ⟨wy1.heap.size, 6, none⟩ = some (.slice ka2 kn2 kz2) := fun p => (XR2.below p.ok).cell 6 rfl
      have b2_7 : ∀ p : Nxt wy2, p.to.cell? ⟨wy1.heap.size, 7, none⟩ = some (.int .i64 vr2) := fun p => (XR2.below p.ok).cell 7 rfl
      have b2_8 : ∀ p : Nxt wy2, p.to.cell? ⟨wy1.heap.size, 8, none⟩ = some (.int .i64 vc2) := fun p => (XR2.below p.ok).cell 8 rfl
      have b2_9 : ∀ p : Nxt wy2, p.to.cell? ⟨wy1.heap.size, 9, none⟩ = some (.slice va2 vn2 vz2) := fun p => (XR2.below p.ok).cell 9 rfl
      have b2_10 : ∀ p : Nxt wy2, p.to.cell? ⟨wy1.heap.size, 10, none⟩ = some (.int .i64 or2) := fun p => (XR2.below p.ok).cell 10 rfl
      have b2_11 : ∀ p : Nxt wy2, p.to.cell? ⟨wy1.heap.size, 11, none⟩ = some (.int .i64 oc2) := fun p => (XR2.below p.ok).cell 11 rfl
      have b2_12 : ∀ p : Nxt wy2, p.to.cell? ⟨wy1.heap.size, 12, none⟩ = some (.slice oa2 on2 oz2) := fun p => (XR2.below p.ok).cell 12 rfl
      have b2_13 : ∀ p : Nxt wy2, p.to.cell? ⟨wy1.heap.size, 13, none⟩ = some (.slice sa2 sn2 sz2) := fun p => (XR2.below p.ok).cell 13 rfl
      have b2_14 : ∀ p : Nxt wy2, p.to.cell? ⟨wy1.heap.size, 14, none⟩ = some (.int .i64 ur2) := fun p => (XR2.below p.ok).cell 14 rfl
      have b2_15 : ∀ p : Nxt wy2, p.to.cell? ⟨wy1.heap.size, 15, none⟩ = some (.int .i64 uc2) := fun p => (XR2.below p.ok).cell 15 rfl
      have b2_16 : ∀ p : Nxt wy2, p.to.cell? ⟨wy1.heap.size, 16, none⟩ = some (.slice ua2 un2 uz2) := fun p => (XR2.below p.ok).cell 16 rfl
      have b2_17 : ∀ p : Nxt wy2, p.to.cell? ⟨wy1.heap.size, 17, none⟩ = some (.int .i64 dr2) := fun p => (XR2.below p.ok).cell 17 rfl
      have b2_18 : ∀ p : Nxt wy2, p.to.cell? ⟨wy1.heap.size, 18, none⟩ = some (.int .i64 dc2) := fun p => (XR2.below p.ok).cell 18 rfl
      have b2_19 : ∀ p : Nxt wy2, p.to.cell? ⟨wy1.heap.size, 19, none⟩ = some (.slice da2 dn2 dz2) := fun p => (XR2.below p.ok).cell 19 rfl
      have ne := nxt_ne wy2
      clear XR1 XR1z XR2 Kf Kq Kk Kv Ko Ks Ku Kd hx hy HS
      go_wp2_with (first
        | (refine wpList_load_mid rfl 54 _ rfl g1 (o1 + t * 20) rfl cs1.toList _ r1 Try.underlying54 rfl (by rw [Array.length_toList, siz1]; exact Try.infoRB1) ?_; rw [HL1.out])
        | (refine wpList_store_row rfl 54 _ _ rfl wr.heap.size cs1 rfl rfl 54 _ XZ1 (by rw [siz1]; exact Try.infoRB1) siz1.symm one1 ?_; rw [hwy1])
        | (refine wpList_load_mid rfl 54 _ rfl g2 (o2 + t * 20) rfl cs2.toList _ r2 Try.underlying54 rfl (by rw [Array.length_toList, siz2]; exact Try.infoRB1) ?_; rw [HL2.out])
        | (refine wpList_store_row rfl 54 _ _ rfl wy1.heap.size cs2 rfl rfl 54 _ XZ2 (by rw [siz2]; exact Try.infoRB1) siz2.symm one2 ?_; rw [hwy2]))
      refine wp_region_nxt (by kernel_rfl) (by kernel_rfl) ?_
      repeat (first | go_big_quiet_skip | (go_big_quiet_want; go_big_quiet_op; first | go_big_quiet_on | (apply Exists.intro; refine ⟨fun pq => ?_, ?_⟩; (first | (go_at_call_of 26 fa1; exact cf _) | (go_at_call_of 26 qa1; exact cq _) | (go_at_call_of 26 ka1; exact ck _) | (go_at_call_of 26 va1; exact cv _) | (go_at_call_of 26 oa1; exact co _) | (go_at_call_of 26 ua1; exact cu _) | (go_at_call_of 26 da1; exact cd _) | (go_at_call_of 26 sa1; exact cs' _) | (go_at_call_of 27 fa1; exact df1 _) | (go_at_call_of 27 fa2; exact df2 _) | (go_at_call_of 27 sa1; exact ds1 _) | (go_at_call_of 27 sa2; exact ds2 _)); go_big_quiet_on)))
      refine wpQuiet_nil ?_
      intro wq hw'
      obtain ⟨⟨wq', Bq⟩, hw''⟩ := hw'
      subst hw''
      replace X2z := X2z.below Bq
      replace BY2 := below_then BY2 Bq
      clear b1_0 b1_1 b1_2 b1_3 b1_4 b1_5 b1_6 b1_7 b1_8 b1_9 b1_10 b1_11 b1_12 b1_13 b1_14 b1_15 b1_16 b1_17 b1_18 b1_19 b2_0 b2_1 b2_2 b2_3 b2_4 b2_5 b2_6 b2_7 b2_8 b2_9 b2_10 b2_11 b2_12 b2_13 b2_14 b2_15 b2_16 b2_17 b2_18 b2_19 cf cs' cq ck cv co cu cd df1 df2 ds1 ds2 r1 r2 q3
      go_wp2
      go_roundg (bn - (t + 1))
      case measure => omega
      case rel => exact ⟨t + 1, by omega, rfl, by go_num, X2z, BY2⟩
    · obtain rfl : t = bn := by omega
      go_wp2
      go_ret
      exact ⟨rfl, B4⟩
end Go.Proofs.Ytlghodjiiajapaa

/- Told, Of and Copy of layer 9 over any view. -/
namespace Go.Proofs.Ytlghodjiiajapaa
open Go.ChangeShapes Go.WideShapes Go.ChangeAt Go.RowKit
/-- A view that came in. -/
structure VwR (w : World) (v : VwV) (X : Vw) : Prop where
  t : IArg w v.t.ao v.t.n v.t.c X.T
  k : CubeR w v.k.ao v.k.n X.K
  v : CubeR w v.v.ao v.v.n X.V
theorem VwR.below {w w' : World} {v : VwV} {X : Vw} (h : VwR w v X) (hb : Below w.heap.size w w') : VwR w' v X := ⟨h.t.below hb, h.k.below hb, h.v.below hb⟩
theorem VwAt.raw {w : World} {v : VwV} {X : Vw} (h : VwAt w v X) : VwR w v X := ⟨h.t, h.k.raw, h.v.raw⟩
def cutVw (X : Vw) : Vw := ⟨X.T.take 130, cutC X.K 130, cutC X.V 130⟩
theorem rowsN_twice (R : List (List Int)) (n : Nat) : rowsN (rowsN R n) n = rowsN R n := by
  unfold rowsN
  rw [← List.map_take, List.take_take, Nat.min_self, List.map_map]
  congr 1
  funext l
  show List.take 40 (List.take 40 l) = List.take 40 l
  rw [List.take_take, Nat.min_self]
theorem cutC_twice (C : List (List (List Int))) (n : Nat) : cutC (cutC C n) n = cutC C n := by
  unfold cutC
  rw [← List.map_take, List.take_take, Nat.min_self, List.map_map]
  congr 1
  funext R
  exact rowsN_twice R n
theorem cutVw_twice (X : Vw) : cutVw (cutVw X) = cutVw X := by
  unfold cutVw
  simp only [cutC_twice, List.take_take, Nat.min_self]
theorem cutC_mem {C : List (List (List Int))} {n : Nat} {R : List (List Int)} (h : R ∈ cutC C n) : R.length ≤ n ∧ (∀ t, (rowOf R t).length ≤ 40) ∧ rowsN R n = R := by
  obtain ⟨S, _, rfl⟩ := List.mem_map.1 h
  exact ⟨by unfold rowsN; rw [List.length_map, List.length_take]; omega, fun t => rowsN_len S n t, rowsN_twice S n⟩
theorem cutC_at_most (C : List (List (List Int))) (n : Nat) : (cutC C n).length ≤ 5 := by rw [cutC_len]; omega
theorem ToldAt.raw {w : World} {t k v : Sl} {X : Vw} (h : ToldAt w t k v X) : VwR w ⟨t, k, v⟩ X := ⟨h.t, h.k.raw, h.v.raw⟩
theorem KV.cubeR {w : World} {g m : Nat} {p : Nat → Prop} {A C : List (List (List Int))} (h : KV w g m 0 p A C) (hl : C.length = m) (hm : m ≤ 9223372036854775807) (hr : ∀ R ∈ C, R.length ≤ 4096) : CubeAt w (some ⟨g, 0, none⟩) m C := by
  obtain ⟨cs, h1, h2, _, h4⟩ := h.row
  refine ⟨hl, hm, fun _ => ⟨g, 0, rfl, fun t R hR => ?_⟩⟩
  have ht : t < m := by have := (List.getElem?_eq_some_iff.1 hR).1; omega
  obtain ⟨ro, n, vs, e, q1, N⟩ := h4 t (by omega) ht
  have e2 : C.getD t [] = R := by rw [List.getD_eq_getElem?_getD, hR]; rfl
  rw [e2] at N
  have G := N.now.grid
  have hl2 := hr R (List.mem_of_getElem? hR)
  have hn := G.len
  refine ⟨ro, n, n, ?_, q1, Nat.le_refl _, by omega, G⟩
  rw [Nat.zero_add]
  unfold World.cell?
  simp only [h1]
  exact e
theorem cutVw_bounds {X : Vw} (hX : cutVw X = X) : X.T.length ≤ 130 ∧ X.K.length ≤ 5 ∧ X.V.length ≤ 5 ∧ (∀ R ∈ X.K, R.length ≤ 130 ∧ (∀ t, (rowOf R t).length ≤ 40) ∧ rowsN R 130 = R) ∧ ∀ R ∈ X.V, R.length ≤ 130 ∧ (∀ t, (rowOf R t).length ≤ 40) ∧ rowsN R 130 = R := by
  have h1 : X.T.take 130 = X.T := congrArg Vw.T hX
  have h2 : cutC X.K 130 = X.K := congrArg Vw.K hX
  have h3 : cutC X.V 130 = X.V := congrArg Vw.V hX
  refine ⟨by rw [← h1, List.length_take]; omega, by rw [← h2]; exact cutC_at_most _ _, by rw [← h3]; exact cutC_at_most _ _, fun R hR => cutC_mem (by rw [h2]; exact hR), fun R hR => cutC_mem (by rw [h3]; exact hR)⟩
end Go.Proofs.Ytlghodjiiajapaa

/- An argument that is a row of whole numbers, opened once: nil, empty or not. -/
namespace Go.Proofs.Ytlghodjiiajapaa
open Go.ChangeShapes Go.WideShapes Go.ChangeAt Go.RowKit
theorem Try.cellsInt : Try.prog.cellsOf 3 = 1 := by kernel_rfl
theorem viewI_cells {H : Type} {enc : TypeId × Value → H} {W : World} {fuel : Nat} {cs : List Value} {x : DataW H × List MemPlace}
    (hf : DataW.trod enc Try.prog W 0 (fun _ => true) true fuel 30 cs = some x) :
    ∃ (a0 : Option Addr) (len cap : Nat) (Z : List Int), cs = [.slice a0 len cap] ∧ IArg W a0 len cap Z := by
  rcases open_ints Try.underlying30 Try.underlying3 Try.cellsInt hf with ⟨hcs, hx⟩ | ⟨a, len', cap', zs, hcs, _, hl, hm, hz, hx, hcell, hwz⟩
  · exact ⟨none, 0, 0, [], hcs, iarg_nil _⟩
  · simp only [if_true] at hz
    unfold maxLen at hm
    refine ⟨some a, len', cap', zs.take len', hcs, ⟨by simp; omega, by omega, fun k => ?_, fun hn => ?_⟩, hl, by omega, fun h => by cases h⟩
    · rcases Nat.lt_or_ge k (zs.take len').length with hk | hk
      · exact bounds_i64 (hwz _ (List.mem_of_mem_take (el_mem hk)))
      · rw [el_over hk]; omega
    · obtain ⟨b, o, s⟩ := a
      have h0 := hcell 0 (by omega)
      have hs : s = none := by simpa [Addr.add] using World.cell?_spot h0
      subst hs
      refine ⟨b, o, rfl, fun t ht => ?_⟩
      have e : (Addr.mk b o none).add t = ⟨b, o + t, none⟩ := by simp [Addr.add]
      rw [← e, hcell t (by omega), el_take ht]
      rfl
set_option maxRecDepth 100000 in
theorem viewI {H : Type} {enc : TypeId × Value → H} {W : World} {b0 : Nat} {v : Value} {d : DataW H} {p : List MemPlace} (hv : Value.okWide Try.prog W .any b0 30 v)
    (h : DataW.Trod enc Try.prog W 0 (fun _ => true) true 30 v d p) : ∃ (a0 : Option Addr) (len cap : Nat) (Z : List Int), v = .slice a0 len cap ∧ IArg W a0 len cap Z := by
  obtain ⟨a0, la, ca, rfl⟩ := okWide_slice Try.underlying30 hv
  obtain ⟨f, hf⟩ := h
  obtain ⟨a1, l1, c1, Z, e, hA⟩ := viewI_cells hf
  simp [Value.cells] at e
  obtain ⟨rfl, rfl, rfl⟩ := e
  exact ⟨_, _, _, Z, rfl, hA⟩
end Go.Proofs.Ytlghodjiiajapaa

/- Arguments that are rows of rows of fixed numbers, lists of them, and views, opened once. -/
namespace Go.Proofs.Ytlghodjiiajapaa
open Go.ChangeShapes Go.WideShapes Go.ChangeAt Go.RowKit
theorem Try.cellsRowR : Try.prog.cellsOf 24 = 1 := by kernel_rfl
theorem Try.cellsGridR : Try.prog.cellsOf 66 = 1 := by kernel_rfl
theorem viewRow_cells {H : Type} {enc : TypeId × Value → H} {W : World} {fuel : Nat} {cs : List Value} {x : DataW H × List MemPlace}
    (hf : DataW.trod enc Try.prog W 0 (fun _ => true) true fuel 24 cs = some x) :
    ∃ (a0 : Option Addr) (len cap : Nat) (Z : List Int), cs = [.slice a0 len cap] ∧ ArgR W a0 len cap Z := by
  rcases open_ints Try.underlying24 Try.underlying58 Try.cellsNum hf with ⟨hcs, hx⟩ | ⟨a, len', cap', zs, hcs, _, hl, hm, hz, hx, hcell, hwz⟩
  · exact ⟨none, 0, 0, [], hcs, RowAt.nil _ _, Nat.le_refl _, by omega, fun _ => rfl⟩
  · simp only [if_true] at hz
    unfold maxLen at hm
    refine ⟨some a, len', cap', zs.take len', hcs, ⟨by simp; omega, by omega, fun y hy => bounds_i32 (hwz y (List.mem_of_mem_take hy)), fun hn => ?_⟩, hl, by omega, fun h => by cases h⟩
    obtain ⟨b, o, s⟩ := a
    have h0 := hcell 0 (by omega)
    have hs : s = none := by simpa [Addr.add] using World.cell?_spot h0
    subst hs
    refine ⟨b, o, rfl, fun t ht => ?_⟩
    have e : (Addr.mk b o none).add t = ⟨b, o + t, none⟩ := by simp [Addr.add]
    rw [← e, hcell t (by omega), el_take ht]
    rfl
theorem viewGrid_cells {H : Type} {enc : TypeId × Value → H} {W : World} {fuel : Nat} {cs : List Value} {x : DataW H × List MemPlace}
    (hf : DataW.trod enc Try.prog W 0 (fun _ => true) true fuel 66 cs = some x) :
    ∃ (a0 : Option Addr) (len cap : Nat) (Z : List (List Int)), cs = [.slice a0 len cap] ∧ (a0 = none → cap = 0) ∧ len ≤ cap ∧ cap ≤ 9223372036854775807 ∧ GridR W a0 len Z := by
  rcases Deep.open_slice1 Try.underlying66 Try.cellsRowR hf with ⟨hcs, hx⟩ | ⟨a, len, cap, m, n, V, D, Pl, rfl, hb, hl, hm, hmm, rfl, hx⟩
  · exact ⟨none, 0, 0, [], hcs, fun _ => rfl, Nat.le_refl _, by omega, GridR.nil _ _⟩
  · simp only [if_true] at hmm
    subst hmm
    unfold maxLen at hm
    have each : ∀ i, i < m → ∃ z : (Option Addr × Nat × Nat × List Int), W.cell? (a.add i) = some (.slice z.1 z.2.1 z.2.2.1) ∧ ArgR W z.1 z.2.1 z.2.2.1 z.2.2.2 := fun i hi => by
      obtain ⟨h1, h2⟩ := hx i hi
      obtain ⟨a0, l, c, Z, e, hA⟩ := viewRow_cells h2
      simp only [List.cons.injEq, and_true] at e
      exact ⟨(a0, l, c, Z), by rw [h1, e], hA⟩
    obtain ⟨q, hq⟩ := Deep.choose_lt each
    refine ⟨some a, len, m, (List.range len).map fun t => (q t).2.2.2, rfl, (fun h => by cases h), hl, by omega, by simp, by omega, fun hn => ?_⟩
    obtain ⟨b, o, s⟩ := a
    have h0 := (hq 0 (by omega)).1
    have hs : s = none := by simpa [Addr.add] using World.cell?_spot h0
    subst hs
    refine ⟨b, o, rfl, fun t ht => ?_⟩
    obtain ⟨h1, h2⟩ := hq t (by omega)
    have e : (Addr.mk b o none).add t = ⟨b, o + t, none⟩ := by simp [Addr.add]
    have er : rowOf ((List.range len).map fun t => (q t).2.2.2) t = (q t).2.2.2 := by unfold rowOf; simp [List.getD_eq_getElem?_getD, ht]
    rw [er, ← e]
    exact ⟨_, _, _, h1, h2⟩
theorem Try.cellsSl3 : Try.prog.cellsOf 30 = 1 := by kernel_rfl
end Go.Proofs.Ytlghodjiiajapaa

/- An argument that is a model's numbers, opened once. -/
namespace Go.Proofs.Ytlghodjiiajapaa
open Go.ChangeShapes Go.WideShapes Go.ChangeAt Go.RowKit
theorem Try.cellsMatW : Try.prog.cellsOf 26 = 3 := by kernel_rfl
theorem Try.cellsBlkW : Try.prog.cellsOf 53 = 20 := by kernel_rfl
theorem Try.cellsBlksW : Try.prog.cellsOf 27 = 1 := by kernel_rfl
theorem Try.cellsWW : Try.prog.cellsOf 29 = 8 := by kernel_rfl
theorem Try.cellsIntW : Try.prog.cellsOf 3 = 1 := by kernel_rfl
set_option maxRecDepth 100000 in
theorem viewMtW_cells {H : Type} {enc : TypeId × Value → H} {W : World} {fuel : Nat} {cs : List Value} {x : DataW H × List MemPlace}
    (hf : DataW.trod enc Try.prog W 0 (fun _ => true) true fuel 26 cs = some x) :
    ∃ (m : Mt) (Z : List Int), cs = [.int .i64 m.r, .int .i64 m.c, m.d.v] ∧ m.Ok ∧ ArgR W m.d.ao m.d.n m.d.c Z := by
  obtain ⟨y0, y1, y2, n, rfl, hl, h0, h1, h2⟩ := Deep.trod_struct3 Try.underlying26 hf
  rw [Try.cellsMatW] at hl
  match cs, hl with
  | [c0, c1, c2], _ =>
    simp [Try.cellsIntW, Try.cellsRowR] at h0 h1 h2
    obtain ⟨r, e0, _, w0⟩ := DataW.trod_int Try.underlying3 h0
    obtain ⟨c, e1, _, w1⟩ := DataW.trod_int Try.underlying3 h1
    obtain ⟨a, l, cp, Z, e2, hA⟩ := viewRow_cells h2
    simp only [List.cons.injEq, and_true] at e0 e1 e2
    subst e0 e1 e2
    exact ⟨⟨r, c, ⟨a, l, cp⟩⟩, Z, rfl, ⟨bounds_i64 w0, bounds_i64 w1⟩, hA⟩
set_option maxRecDepth 100000 in
set_option maxHeartbeats 1600000 in
theorem viewBk_cells {H : Type} {enc : TypeId × Value → H} {W : World} {fuel : Nat} {cs : List Value} {x : DataW H × List MemPlace}
    (hf : DataW.trod enc Try.prog W 0 (fun _ => true) true fuel 53 cs = some x) :
    ∃ (b : Bk) (y : Lay), cs = b.cells.toList ∧ b.Ok ∧ LyR W b y := by
  obtain ⟨xs, n, _, rfl, hl, hxl, hff⟩ := DataW.trod_struct Try.underlying53 hf
  rw [Try.cellsBlkW] at hl
  match xs, hxl, cs, hl with
  | [y0, y1, y2, y3, y4, y5, y6, y7], _, [c0, c1, c2, c3, c4, c5, c6, c7, c8, c9, c10, c11, c12, c13, c14, c15, c16, c17, c18, c19], _ =>
    have g0 := hff 0 _ rfl
    have g1 := hff 1 _ rfl
    have g2 := hff 2 _ rfl
    have g3 := hff 3 _ rfl
    have g4 := hff 4 _ rfl
    have g5 := hff 5 _ rfl
    have g6 := hff 6 _ rfl
    have g7 := hff 7 _ rfl
    simp [Try.cellsMatW, Try.cellsRowR] at g0 g1 g2 g3 g4 g5 g6 g7
    obtain ⟨aaf, llf, ppf, Zf, ef, hhf⟩ := viewRow_cells g0
    obtain ⟨mq, Zq, eq, oq, hhq⟩ := viewMtW_cells g1
    obtain ⟨mk, Zk, ek, ok, hhk⟩ := viewMtW_cells g2
    obtain ⟨mv, Zv, ev, ov, hhv⟩ := viewMtW_cells g3
    obtain ⟨mo, Zo, eo, oo, hho⟩ := viewMtW_cells g4
    obtain ⟨aas, lls, pps, Zs, es, hhs⟩ := viewRow_cells g5
    obtain ⟨mu, Zu, eu, ou, hhu⟩ := viewMtW_cells g6
    obtain ⟨md, Zd, ed, od, hhd⟩ := viewMtW_cells g7
    simp only [List.cons.injEq, and_true] at ef eq ek ev eo es eu ed
    subst ef
    obtain ⟨rfl, rfl, rfl⟩ := eq
    obtain ⟨rfl, rfl, rfl⟩ := ek
    obtain ⟨rfl, rfl, rfl⟩ := ev
    obtain ⟨rfl, rfl, rfl⟩ := eo
    subst es
    obtain ⟨rfl, rfl, rfl⟩ := eu
    obtain ⟨rfl, rfl, rfl⟩ := ed
    exact ⟨⟨⟨aaf, llf, ppf⟩, mq, mk, mv, mo, ⟨aas, lls, pps⟩, mu, md⟩, ⟨Zf, Zq, Zk, Zv, Zo, Zs, Zu, Zd⟩, rfl, ⟨by have := hhf.row.max; exact this, oq, ok, ov, oo, by have := hhs.row.max; exact this, ou, od⟩, ⟨hhf, hhq, hhk, hhv, hho, hhs, hhu, hhd⟩⟩
set_option maxRecDepth 100000 in
theorem viewBks_cells {H : Type} {enc : TypeId × Value → H} {W : World} {fuel : Nat} {cs : List Value} {x : DataW H × List MemPlace}
    (hf : DataW.trod enc Try.prog W 0 (fun _ => true) true fuel 27 cs = some x) :
    ∃ (s : Sl) (bs : List Bk) (Ls : List Lay), cs = [s.v] ∧ BlocksAt W s bs ∧ bs.length = Ls.length ∧ (∀ (t : Nat) (x : Bk), bs[t]? = some x → ∃ y, Ls[t]? = some y ∧ LyR W x y) := by
  rcases Deep.open_slice Try.underlying27 hf with ⟨hcs, hx⟩ | ⟨a, len, cap, m, n, D, Pl, rfl, hb, hl, hm, hmm, rfl, hx⟩
  · exact ⟨⟨none, 0, 0⟩, [], [], hcs, ⟨rfl, by show 0 ≤ _; omega, (fun x hx => by cases hx), fun h => absurd h (by show ¬ 0 < 0; omega)⟩, rfl, fun t x h => by simp at h⟩
  · simp only [if_true] at hmm
    subst hmm
    unfold maxLen at hm
    have each : ∀ i, i < m → ∃ z : Bk × Lay, (∀ j v, z.1.cells.toList[j]? = some v → W.cell? (a.add (i * 20 + j)) = some v) ∧ z.1.Ok ∧ LyR W z.1 z.2 := by
      intro i hi
      obtain ⟨cs', h1, h2⟩ := hx i hi
      rw [Try.cellsBlkW] at h1
      obtain ⟨_, hlen, hcell⟩ := World.cells?_some h1
      obtain ⟨b, y, rfl, hok, hA⟩ := viewBk_cells h2
      refine ⟨(b, y), fun j v hj => ?_, hok, hA⟩
      have hj2 : j < 20 := (List.getElem?_eq_some_iff.1 hj).1
      have cj := hcell j (by omega)
      rw [Deep.add_add] at cj
      rw [cj]
      exact hj
    haveI : Inhabited (Bk × Lay) := ⟨(⟨⟨none, 0, 0⟩, ⟨0, 0, ⟨none, 0, 0⟩⟩, ⟨0, 0, ⟨none, 0, 0⟩⟩, ⟨0, 0, ⟨none, 0, 0⟩⟩, ⟨0, 0, ⟨none, 0, 0⟩⟩, ⟨none, 0, 0⟩, ⟨0, 0, ⟨none, 0, 0⟩⟩, ⟨0, 0, ⟨none, 0, 0⟩⟩⟩, ⟨[], [], [], [], [], [], [], []⟩)⟩
    obtain ⟨q, hq⟩ := Deep.choose_lt each
    have hat : ∀ {t : Nat} {x : Bk}, ((List.range len).map fun t => (q t).1)[t]? = some x → t < len ∧ x = (q t).1 := fun {t x} h => by
      have ht : t < len := by have := (List.getElem?_eq_some_iff.1 h).1; simpa using this
      exact ⟨ht, by simpa [ht] using h.symm⟩
    refine ⟨⟨some a, len, m⟩, (List.range len).map fun t => (q t).1, (List.range len).map fun t => (q t).2, rfl, ⟨by simp, by show len ≤ _; omega, fun x hx => ?_, fun hn => ?_⟩, by simp, fun t x hx => ?_⟩
    · obtain ⟨t, ht, rfl⟩ := List.mem_map.1 hx
      exact (hq t (by have := List.mem_range.1 ht; omega)).2.1
    · have hn' : 0 < len := hn
      obtain ⟨b, o, s⟩ := a
      have h0 := (hq 0 (by omega)).1 0 _ rfl
      have hs : s = none := by simpa [Addr.add] using World.cell?_spot h0
      subst hs
      refine ⟨b, o, rfl, fun t x hx j v hj => ?_⟩
      obtain ⟨ht, rfl⟩ := hat hx
      have := (hq t (by omega)).1 j v hj
      have e : (Addr.mk b o none).add (t * 20 + j) = ⟨b, o + t * 20 + j, none⟩ := by simp [Addr.add, Nat.add_assoc]
      rw [← e]
      exact this
    · obtain ⟨ht, rfl⟩ := hat hx
      exact ⟨(q t).2, by simp [ht], (hq t (by omega)).2.2⟩
set_option maxRecDepth 100000 in
set_option maxHeartbeats 1600000 in
theorem viewWt {H : Type} {enc : TypeId × Value → H} {W : World} {b0 : Nat} {v : Value} {d : DataW H} {p : List MemPlace} (hv : Value.okWide Try.prog W .any b0 29 v)
    (h : DataW.Trod enc Try.prog W 0 (fun _ => true) true 29 v d p) : ∃ (V : Wt) (X : List Bk × Mdl), v = .agg V.cells ∧ WtR W V X.1 X.2 := by
  obtain ⟨cs, rfl, hsz⟩ := okWide_struct Try.underlying29 hv
  obtain ⟨f, hf⟩ := h
  obtain ⟨xs, n, _, _, hl, hxl, hff⟩ := DataW.trod_struct Try.underlying29 hf
  rw [Try.cellsWW] at hl
  simp only [Value.cells] at hl hff
  generalize hcs : cs.toList = L at *
  match xs, hxl, L, hl with
  | [y0, y1, y2, y3], _, [c0, c1, c2, c3, c4, c5, c6, c7], _ =>
    have g0 := hff 0 _ rfl
    have g1 := hff 1 _ rfl
    have g2 := hff 2 _ rfl
    have g3 := hff 3 _ rfl
    simp [Try.cellsMatW, Try.cellsRowR, Try.cellsBlksW] at g0 g1 g2 g3
    obtain ⟨me, Ze, ee, oe, he⟩ := viewMtW_cells g0
    obtain ⟨s, bs, Ls, eb, hb, hlen, hbs⟩ := viewBks_cells g1
    obtain ⟨al, ll, pl, Zl, el', hl'⟩ := viewRow_cells g2
    obtain ⟨mo, Zo, eo, oo, ho⟩ := viewMtW_cells g3
    simp only [List.cons.injEq, and_true] at ee eb el' eo
    obtain ⟨rfl, rfl, rfl⟩ := ee
    obtain ⟨rfl, rfl, rfl⟩ := eo
    subst eb el'
    refine ⟨⟨me, s, ⟨al, ll, pl⟩, mo⟩, (bs, ⟨Ze, Ls, Zl, Zo⟩), ?_, ⟨⟨oe, by have := hl'.row.max; exact this, oo⟩, he, hb, hlen, hbs, hl', ho⟩⟩
    congr 1
    exact Array.toList_inj.1 (by rw [hcs]; rfl)
end Go.Proofs.Ytlghodjiiajapaa
