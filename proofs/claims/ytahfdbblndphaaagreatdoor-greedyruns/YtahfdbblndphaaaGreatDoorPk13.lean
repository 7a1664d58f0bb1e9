/- Contracts of the program's functions, part 13 of 17: what each call returns and leaves of memory. -/
import Derived.Test.YtahfdbblndphaaaGreatDoorPk11
import Derived.Test.YtahfdbblndphaaaGreatDoorPk12
import Derived.Test.YtahfdbblndphaaaGreatDoorPk4
import Derived.Deep.MidRow
import Derived.Test.YtahfdbblndphaaaGreatDoorPk10
import Derived.Test.YtahfdbblndphaaaGreatDoorPk8
/- model.Copy: the same numbers in memory of their own. Laid by tools/gencopy6.py. -/
namespace Go.Proofs.YtahfdbblndphaaaGreatDoor
open Go.ChangeShapes Go.WideShapes Go.ChangeAt Go.RowKit Go.Deep
structure LySm (y : Lay) : Prop where
  f : y.F.length ≤ 5000
  q : y.Q.length ≤ 5000
  k : y.K.length ≤ 5000
  v : y.V.length ≤ 5000
  o : y.O.length ≤ 5000
  s : y.S.length ≤ 5000
  u : y.U.length ≤ 5000
  d : y.N.length ≤ 5000
/-- Numbers whose rows lie in memory from B on, and are few. -/
structure WOwn (w : World) (B : Nat) (W : Wt) (bs : List Bk) (M : Mdl) : Prop where
  ok : W.Ok
  e : FR w B W.e.d W.e.d.n M.E
  l : FR w B W.l W.l.n M.G
  o : FR w B W.o.d W.o.d.n M.O
  b : BlocksAt w W.b bs
  ls : ∀ (t : Nat) (x : Bk), bs[t]? = some x → ∃ y, M.Ls[t]? = some y ∧ LySm y ∧ BT w B x x y
  se : M.E.length ≤ 5000
  sl : M.G.length ≤ 5000
  so : M.O.length ≤ 5000
theorem WOwn.below {w w' : World} {B : Nat} {W : Wt} {bs : List Bk} {M : Mdl} (h : WOwn w B W bs M) (hb : Below w.heap.size w w') : WOwn w' B W bs M :=
  ⟨h.ok, h.e.below hb, h.l.below hb, h.o.below hb, h.b.below hb, fun t x hx => let ⟨y, h1, h2, h3⟩ := h.ls t x hx; ⟨y, h1, h2, h3.below hb⟩, h.se, h.sl, h.so⟩
/-- Layers that were copied, one by one. -/
structure CBs (w : World) (B k : Nat) (bs xs : List Bk) (Ls : List Lay) : Prop where
  len : xs.length = k
  at_ : ∀ (t : Nat) (x' : Bk), xs[t]? = some x' → ∃ x y, bs[t]? = some x ∧ Ls[t]? = some y ∧ LySm y ∧ x'.Ok ∧ BT w B x x' y
theorem CBs.map {w w' : World} {B k : Nat} {bs xs : List Bk} {Ls : List Lay} (h : CBs w B k bs xs Ls) (f : ∀ {x x' : Bk} {y : Lay}, BT w B x x' y → BT w' B x x' y) : CBs w' B k bs xs Ls := ⟨h.len, fun t x' hx => let ⟨x, y, h1, h2, h3, h4, h5⟩ := h.at_ t x' hx; ⟨x, y, h1, h2, h3, h4, f h5⟩⟩
theorem cbs_nil (w : World) (B : Nat) (bs : List Bk) (Ls : List Lay) : CBs w B 0 bs [] Ls := ⟨rfl, fun t x' hx => by simp at hx⟩
theorem CBs.snoc {w : World} {B k : Nat} {bs xs : List Bk} {Ls : List Lay} (h : CBs w B k bs xs Ls) {x x' : Bk} {y : Lay} (h1 : bs[k]? = some x) (h2 : Ls[k]? = some y) (h4 : LySm y) (h5 : x'.Ok) (h3 : BT w B x x' y) : CBs w B (k + 1) bs (xs ++ [x']) Ls := by
  have hl := h.len
  refine ⟨by simp [hl], fun t z hz => ?_⟩
  rcases Nat.lt_or_ge t k with ht | ht
  · rw [List.getElem?_append_left (by omega)] at hz
    exact h.at_ t z hz
  · rw [List.getElem?_append_right (by omega), hl] at hz
    have ht2 : t < k + 1 := by
      rcases Nat.lt_or_ge (t - k) 1 with q | q
      · omega
      · rw [List.getElem?_eq_none (by simpa using q)] at hz; cases hz
    obtain rfl : t = k := by omega
    simp at hz
    subst hz
    exact ⟨x, y, h1, h2, h4, h5, h3⟩
structure WCop (w : World) (B : Nat) (W W' : Wt) (bs xs : List Bk) (M : Mdl) : Prop where
  e : FR w B W'.e.d W'.e.d.n M.E
  es : W'.e.r = W.e.r ∧ W'.e.c = W.e.c
  l : FR w B W'.l W'.l.n M.G
  o : FR w B W'.o.d W'.o.d.n M.O
  os : W'.o.r = W.o.r ∧ W'.o.c = W.o.c
  bn : W'.b.n = W.b.n
  b : BlocksAt w W'.b xs
  ls : CBs w B W.b.n bs xs M.Ls
theorem clone_fr (B0 : Nat) (s : Sl) (A : List Int) (w : World) (h : FR w B0 s s.n A) (hn : A.length ≤ 5000) :
   Calls Tryz.prog 84 #[.slice s.ao s.n s.c] w fun e w' => ∃ s' : Sl, e = .returned (.slice s'.ao s'.n s'.c) ∧ FR w' w.heap.size s' s'.n A ∧ Below w.heap.size w w' := by
  have R := h.row
  have hl := fr_len h
  obtain ⟨g, e1, e2, F⟩ := h
  rw [e1] at R ⊢
  refine (clone_any g 0 s.n s.c A w R (by omega)).mono ?_
  rintro e w' ⟨g', cap, rfl, F, B⟩
  exact ⟨⟨some ⟨g', 0, none⟩, s.n, cap⟩, rfl, ⟨g', rfl, rfl, F⟩, B⟩
theorem make_blocksN (L : Nat) (hL : L ≤ 1000) (w : World) : (Instr.makeSlice 27 (.int .i64 (L : Int)) (.int .i64 (L : Int))).run Tryz.prog w = .ok (.slice (some ⟨w.heap.size, 0, none⟩) L L) (w.alloc (.cells (madeCells #[.slice none 0 0, .int .i64 0, .int .i64 0, .slice none 0 0, .int .i64 0, .int .i64 0, .slice none 0 0, .int .i64 0, .int .i64 0, .slice none 0 0, .int .i64 0, .int .i64 0, .slice none 0 0, .slice none 0 0, .int .i64 0, .int .i64 0, .slice none 0 0, .int .i64 0, .int .i64 0, .slice none 0 0] (L * 20)) 50)) := by
  obtain ⟨i0, hi, hz0, hz1, hz2⟩ := info_parts Tryz.infoBlk
  have := run_make (P := Tryz.prog) w 27 50 i0 _ Tryz.underlying27 hi hz0 .i64 .i64 L L (by omega) (by omega) (by rw [hz2]; omega) (by omega)
  rw [hz1] at this
  simpa [Value.cells] using this
theorem wf_lt {w : World} {b : Nat} {o : Obj} (h : w.heap[b]? = some o) : b < w.heap.size := (Array.getElem?_eq_some_iff.1 h).1
end Go.Proofs.YtahfdbblndphaaaGreatDoor

/- Numbers that were told, and are sound: they are what the passes ask for; pass.Full of numbers that aren't. Laid by program out of ModelCopiesWalk and Full2. -/
namespace Go.Proofs.YtahfdbblndphaaaGreatDoor
open Go.ChangeShapes Go.WideShapes Go.ChangeAt Go.RowKit
structure Sides (x0 x : Bk) : Prop where
  q : x.q.r = x0.q.r ∧ x.q.c = x0.q.c
  k : x.k.r = x0.k.r ∧ x.k.c = x0.k.c
  v : x.v.r = x0.v.r ∧ x.v.c = x0.v.c
  o : x.o.r = x0.o.r ∧ x.o.c = x0.o.c
  u : x.u.r = x0.u.r ∧ x.u.c = x0.u.c
  d : x.d.r = x0.d.r ∧ x.d.c = x0.d.c
theorem BT.sides {w : World} {B : Nat} {x x' : Bk} {y : Lay} (h : BT w B x x' y) : Sides x x' := ⟨h.qs, h.ks, h.vs, h.os, h.us, h.ds⟩
theorem BT.self {w : World} {B : Nat} {x x' : Bk} {y : Lay} (h : BT w B x x' y) : BT w B x' x' y := ⟨h.f, h.q, h.k, h.v, h.o, h.s, h.u, h.d, ⟨rfl, rfl⟩, ⟨rfl, rfl⟩, ⟨rfl, rfl⟩, ⟨rfl, rfl⟩, ⟨rfl, rfl⟩, ⟨rfl, rfl⟩⟩
theorem sd_tr {a b c d e f : Int} (h : a = b ∧ c = d) (g : e = b ∧ f = d) : a = e ∧ c = f := ⟨h.1.trans g.1.symm, h.2.trans g.2.symm⟩
theorem Sides.meet {x0 x y : Bk} (h : Sides x0 x) (g : Sides x0 y) : Sides x y := ⟨sd_tr g.q h.q, sd_tr g.k h.k, sd_tr g.v h.v, sd_tr g.o h.o, sd_tr g.u h.u, sd_tr g.d h.d⟩
theorem Sides.trans {x y z : Bk} (h : Sides x y) (g : Sides y z) : Sides x z := ⟨⟨g.q.1.trans h.q.1, g.q.2.trans h.q.2⟩, ⟨g.k.1.trans h.k.1, g.k.2.trans h.k.2⟩, ⟨g.v.1.trans h.v.1, g.v.2.trans h.v.2⟩, ⟨g.o.1.trans h.o.1, g.o.2.trans h.o.2⟩, ⟨g.u.1.trans h.u.1, g.u.2.trans h.u.2⟩, ⟨g.d.1.trans h.d.1, g.d.2.trans h.d.2⟩⟩
/-- What Of hands out of what Told told of V. -/
structure WIn (w : World) (B k : Nat) (V : Wt) (bs : List Bk) (MM : Mdl) (W : Wt) (ys : List Bk) : Prop where
  own : WOwn w B W ys (cutM 5000 k (cutM 100 k MM))
  es : W.e.r = V.e.r ∧ W.e.c = V.e.c
  os : W.o.r = V.o.r ∧ W.o.c = V.o.c
  len : ys.length = k
  ss : ∀ (t : Nat) (x : Bk), ys[t]? = some x → ∃ x0, bs[t]? = some x0 ∧ Sides x0 x
theorem WIn.below {w w' : World} {B k : Nat} {V : Wt} {bs : List Bk} {MM : Mdl} {W : Wt} {ys : List Bk} (h : WIn w B k V bs MM W ys) (hb : Below w.heap.size w w') : WIn w' B k V bs MM W ys := ⟨h.own.below hb, h.es, h.os, h.len, h.ss⟩
theorem take_le (A : List Int) {n : Nat} (hn : n ≤ 5000) : (A.take n).length ≤ 5000 := by rw [List.length_take]; omega
theorem win_of {w1 w2 : World} {B1 B2 k : Nat} {V W3 W5 : Wt} {bs xs ys : List Bk} {MM : Mdl} (hV : V.Ok) (T1 : WTold w1 B1 100 k V W3 bs xs MM) (T3 : WTold w2 B2 5000 W3.b.n W3 W5 xs ys (cutM 100 k MM)) : WIn w2 B2 k V bs MM W5 ys := by
  have hk : W3.b.n = k := by rw [← T1.b.len, T1.ls.len]
  have hW3 := (T1.raw hV).ok
  have hW5 := (T3.raw hW3).ok
  have hR := T3.raw hW3
  rw [hk] at T3 hR
  refine ⟨⟨hW5, T3.e, T3.l, T3.o, T3.b, fun t x hx => ?_, take_le _ (by omega), take_le _ (by omega), take_le _ (by omega)⟩, ⟨T3.es.1.trans T1.es.1, T3.es.2.trans T1.es.2⟩, ⟨T3.os.1.trans T1.os.1, T3.os.2.trans T1.os.2⟩, T3.ls.len, fun t x hx => ?_⟩
  · obtain ⟨x1, y1, h1, h2, h3⟩ := T3.ls.at_ t x hx
    have ht : t < k := by have := (List.getElem?_eq_some_iff.1 hx).1; have := T3.ls.len; omega
    exact ⟨cutL 5000 y1, cutLs_at ht h2, ⟨take_le _ (by omega), take_le _ (by omega), take_le _ (by omega), take_le _ (by omega), take_le _ (by omega), take_le _ (by omega), take_le _ (by omega), take_le _ (by omega)⟩, h3.self⟩
  · obtain ⟨x1, y1, h1, h2, h3⟩ := T3.ls.at_ t x hx
    obtain ⟨x0, y0, g1, g2, g3⟩ := T1.ls.at_ t x1 h1
    exact ⟨x0, g1, g3.sides.trans h3.sides⟩
theorem FR.arg {w : World} {B : Nat} {s : Sl} {n : Nat} {A : List Int} (h : FR w B s n A) : Arg w s.ao s.n s.c A := by
  have R := h.raw
  obtain ⟨g, e1, e2, F⟩ := h
  exact ⟨R.row, R.fit, R.max, R.nil, fun b o e t ht => by
    rw [e1] at e
    simp only [Option.some.injEq, Addr.mk.injEq, and_true] at e
    obtain ⟨rfl, rfl⟩ := e
    exact F.frozen _⟩
theorem mt_at {w : World} {B r c : Nat} {m : Mt} {A : List Int} (h : FR w B m.d m.d.n A) (hs : sidesB m r c = true) : MtAt w m r c A := by
  unfold sidesB at hs
  obtain ⟨h1, h2, h3⟩ := of_decide_eq_true hs
  obtain ⟨r', c', e1, e2, q1, q2, q3, q4, q5⟩ := chk_zero h1
  have R := h.raw
  obtain ⟨g, e3, e4, F⟩ := h
  obtain ⟨mr, mc, ⟨ma, mn, mz⟩⟩ := m
  simp only at h2 h3 e1 e2 e3 q5 R
  subst e3 h2 h3
  obtain rfl : r' = r := by omega
  obtain rfl : c' = c := by omega
  exact ⟨g, 0, mn, mz, rfl, q1, q2, q3, q4, q5, R.fit, R.max, R.row⟩
theorem sl_at {w : World} {B n : Nat} {s : Sl} {A : List Int} (h : FR w B s s.n A) (hn : s.n = n) : SlAt w s n A := ⟨hn, by have := h.arg; rw [hn] at this; exact this⟩
theorem own_told {w : World} {B n k : Nat} {V W : Wt} {bs xs : List Bk} {MM : Mdl} (hV : V.Ok) (hn : n ≤ 5000) (T : WTold w B n k V W bs xs MM) : WOwn w B W xs (cutM n k MM) ∧ xs.length = (cutM n k MM).Ls.length := by
  have R := T.raw hV
  refine ⟨⟨R.ok, T.e, T.l, T.o, T.b, fun t x hx => ?_, take_le _ (by omega), take_le _ hn, take_le _ (by omega)⟩, R.len⟩
  obtain ⟨x1, y1, h1, h2, h3⟩ := T.ls.at_ t x hx
  have ht : t < k := by have := (List.getElem?_eq_some_iff.1 hx).1; have := T.ls.len; omega
  exact ⟨cutL n y1, cutLs_at ht h2, ⟨take_le _ hn, take_le _ (by omega), take_le _ (by omega), take_le _ (by omega), take_le _ (by omega), take_le _ hn, take_le _ (by omega), take_le _ (by omega)⟩, h3.self⟩
theorem check_shape {V D Hd H L : Int} {W : Wt} {bs : List Bk} (h : checkN V D Hd H L W bs = 0) : shapeN V D Hd H L = 0 ∧ fitsB V D H L W bs = true := by
  unfold checkN at h
  by_cases h1 : shapeN V D Hd H L = 0
  · rw [if_neg (by omega)] at h
    by_cases h2 : fitsB V D H L W bs = true
    · exact ⟨h1, h2⟩
    · rw [if_neg h2] at h; omega
  · rw [if_pos h1] at h; omega
theorem own_wt {w : World} {B V D Hd H L : Nat} {W : Wt} {bs : List Bk} {M : Mdl} (h : WOwn w B W bs M) (hl : bs.length = M.Ls.length) (hc : checkN V D Hd H L W bs = 0) : WtAt w V D H W bs M ∧ bs.length = L := by
  obtain ⟨h1, h2⟩ := check_shape hc
  unfold fitsB at h2
  simp only [Bool.and_eq_true, decide_eq_true_eq] at h2
  obtain ⟨⟨⟨⟨h3, h4⟩, h5⟩, h6⟩, h7⟩ := h2
  refine ⟨⟨mt_at h.e h3, h.b, hl, fun t x hx => ?_, sl_at h.l (by omega), mt_at h.o h4⟩, by have := h.b.len; omega⟩
  obtain ⟨y, g1, _, g2⟩ := h.ls t x hx
  have hb := List.all_eq_true.1 h7 x (List.mem_of_getElem? hx)
  unfold bkB at hb
  simp only [Bool.and_eq_true, decide_eq_true_eq] at hb
  obtain ⟨⟨⟨⟨⟨⟨⟨f1, f2⟩, f3⟩, f4⟩, f5⟩, f6⟩, f7⟩, f8⟩ := hb
  exact ⟨y, g1, sl_at g2.f (by omega), mt_at g2.q f3, mt_at g2.k f4, mt_at g2.v f5, mt_at g2.o f6, sl_at g2.s (by omega), mt_at g2.u f7, mt_at g2.d f8⟩
theorem own_good {w : World} {B V D Hd H L : Nat} {W : Wt} {bs : List Bk} {M : Mdl} (h : WOwn w B W bs M) (hl : bs.length = M.Ls.length) (hc : checkN V D Hd H L W bs = 0) : Good w V D Hd H L W bs M := by
  obtain ⟨h1, h2⟩ := own_wt h hl hc
  exact ⟨h1, h.ok, h2, (check_shape hc).1, hc⟩
theorem cutM_twice (k : Nat) (M : Mdl) : cutM 5000 k (cutM 100 k M) = cutM 100 k M := by
  have t2 : ∀ A : List Int, (A.take 2000).take 2000 = A.take 2000 := fun A => by rw [List.take_take]; rfl
  have t1 : ∀ A : List Int, (A.take 100).take 5000 = A.take 100 := fun A => by rw [List.take_take]; rfl
  have tl : ∀ y : Lay, cutL 5000 (cutL 100 y) = cutL 100 y := fun y => by unfold cutL; simp only [t1, t2]
  unfold cutM
  simp only [t1, t2, Mdl.mk.injEq, true_and, and_true]
  rw [List.take_of_length_le (by simp; omega), List.map_map]
  exact List.map_congr_left fun y _ => tl y
end Go.Proofs.YtahfdbblndphaaaGreatDoor

/- The document's Next and Run of layer 10, of any numbers. Laid by tools/genrrun10.py. -/
namespace Go.Proofs.YtahfdbblndphaaaGreatDoor
open Go.ChangeShapes Go.WideShapes Go.ChangeAt Go.RowKit
theorem yields_row {ops : Array Oper} {S : World → Prop} {op : Oper} {a : Act} (hw : Region.wanted op (yielded ops a.tmps) = true) (ty : TypeId) (x : Operand) (ho : op.op = .load ty x)
    (g : Nat) (hx : a.eval x = .pointer (some ⟨g, 0, none⟩)) (T : TypeId) (cs : Array Value) (d : TypeDesc) (hS : ∀ w, S w → Blk w g T cs) (hu : Tryz.prog.underlying ty = some d) (hd : d.isRow = true) (hi : (Tryz.prog.info? ty).map (·.size) = some cs.size) :
    YieldsIf Tryz.prog ops S op (.agg cs) a := by
  have := yieldsIf_load_mid (P := Tryz.prog) (S := S) hw ty x ho g 0 hx cs.toList d (fun w h j v hv => by rw [Nat.zero_add]; exact (hS w h).cell j (by simpa using hv)) hu hd (by simpa using hi)
  simpa using this
theorem Tryz.infoCf : (Tryz.prog.info? 23).map (·.size) = some 5 := by kernel_rfl
/-- append of one list of rows onto a row of lists of the call's own, by its value. -/
theorem wpList_append_i2 {w : World} {ops : Array Oper} {rest : List Oper} {o : Oper} {a : Act} {Q : Exit → Act → World → Prop} (hgd : o.guard = none) (s x : Operand)
    (ho : o.op = .call { callee := .builtin .append, args := #[s, x], argTypes := #[30, 30] })
    (B g k cap : Nat) (vs : List Value) (hs : a.eval s = .slice (some ⟨g, 0, none⟩) k cap) (O : w.ownsRow B 3 1 (.slice (some ⟨g, 0, none⟩) k cap) k vs)
    (bo : Nat) (u : Value) (hx : a.eval x = .slice (some ⟨bo, 0, none⟩) 1 1) (hX : w.cell? ⟨bo, 0, none⟩ = some u) (hu : u.oneCell' = true)
    (hlen : k + 1 ≤ 1048576) (hB : B ≤ w.heap.size)
    (h : ∀ g' cap' w', w'.ownsRow B 3 1 (.slice (some ⟨g', 0, none⟩) (k + 1) cap') (k + 1) (vs ++ [u]) → w.grownBy w' (some g) → (g' = g ∨ w.heap.size ≤ g') → wpList Tryz.prog ops Q rest (a.put o.dst (.slice (some ⟨g', 0, none⟩) (k + 1) cap')) w') : wpList Tryz.prog ops Q (o :: rest) a w := by
  obtain ⟨i0, hi, hz0, hz1, hz2⟩ := info_parts Tryz.infoInt
  refine wpList_plain hgd fun _ hK => wp_append_own2 w s x 30 ho B 3 i0 (.int .i64 0) 1 8 Tryz.underlying30 hi hz0 hz1 hz2 rfl (by decide) _ k _ hs O ⟨bo, 0, none⟩ 1 1 [u] hx rfl ?_ (by intro v hv; simp at hv; subst hv; exact hu) (by unfold maxLen; omega) (by omega) hB ?_
  · intro j v hj
    match j, hj with
    | 0, hj =>
      simp at hj
      subst hj
      have e2 : (Addr.mk bo 0 none).add 0 = ⟨bo, 0, none⟩ := by simp [Addr.add]
      rw [e2, hX]
  · intro v' w' O1 G1 _ N1
    have O2 := O1
    rcases O2.2 with ⟨h2, h3⟩ | ⟨g', cap', cur, h3, h4⟩
    · exact absurd h3 (by omega)
    · subst h3
      refine hK _ _ (h g' cap' w' O1 G1 ?_)
      rcases N1 g' rfl with b | b
      · left; simp [Value.ownBlock] at b; exact b.symm
      · right; omega
/-- Two rows of lists of the call's own, side by side, behind w0. -/
structure TwoI (w0 w : World) (g1 c1 g2 c2 n1 n2 : Nat) (vs1 vs2 : List Value) : Prop where
  o1 : w.ownsRow w0.heap.size 3 1 (.slice (some ⟨g1, 0, none⟩) n1 c1) n1 vs1
  o2 : w.ownsRow w0.heap.size 3 1 (.slice (some ⟨g2, 0, none⟩) n2 c2) n2 vs2
  ne : g1 ≠ g2
  kp : Below w0.heap.size w0 w
theorem TwoI.below {w0 w w' : World} {g1 c1 g2 c2 n1 n2 : Nat} {vs1 vs2 : List Value} (h : TwoI w0 w g1 c1 g2 c2 n1 n2 vs1 vs2) (hb : Below w.heap.size w w') : TwoI w0 w' g1 c1 g2 c2 n1 n2 vs1 vs2 :=
  ⟨owns_below h.o1 hb, owns_below h.o2 hb, h.ne, h.kp.trans (hb.mono h.kp.size)⟩
theorem TwoI.grow1 {w0 w w' : World} {g1 c1 g2 c2 n1 n2 g' c' n' : Nat} {vs1 vs2 vs' : List Value} (h : TwoI w0 w g1 c1 g2 c2 n1 n2 vs1 vs2) (O : w'.ownsRow w0.heap.size 3 1 (.slice (some ⟨g', 0, none⟩) n' c') n' vs') (hG : w.grownBy w' (some g1)) (hg : g' = g1 ∨ w.heap.size ≤ g') : TwoI w0 w' g' c' g2 c2 n' n2 vs' vs2 := by
  have l1 := h.o1.lt g1 rfl
  have l2 := h.o2.lt g2 rfl
  refine ⟨O, owns_mono h.o2 (Nat.le_refl _) (fun b hb => ?_), ?_, h.kp.trans ⟨hG.os, hG.tape, hG.output, hG.size, fun b hb => hG.block b (Nat.lt_of_lt_of_le hb h.kp.size) (fun e => ?_)⟩⟩
  · simp [Value.ownBlock] at hb
    subst hb
    exact hG.block _ l2.2 (fun e => h.ne (by simpa using e.symm))
  · rcases hg with e | e
    · rw [e]; exact h.ne
    · omega
  · simp only [Option.some.injEq] at e; omega
theorem TwoI.grow2 {w0 w w' : World} {g1 c1 g2 c2 n1 n2 g' c' n' : Nat} {vs1 vs2 vs' : List Value} (h : TwoI w0 w g1 c1 g2 c2 n1 n2 vs1 vs2) (O : w'.ownsRow w0.heap.size 3 1 (.slice (some ⟨g', 0, none⟩) n' c') n' vs') (hG : w.grownBy w' (some g2)) (hg : g' = g2 ∨ w.heap.size ≤ g') : TwoI w0 w' g1 c1 g' c' n1 n' vs1 vs' := by
  have l1 := h.o1.lt g1 rfl
  have l2 := h.o2.lt g2 rfl
  refine ⟨owns_mono h.o1 (Nat.le_refl _) (fun b hb => ?_), O, ?_, h.kp.trans ⟨hG.os, hG.tape, hG.output, hG.size, fun b hb => hG.block b (Nat.lt_of_lt_of_le hb h.kp.size) (fun e => ?_)⟩⟩
  · simp [Value.ownBlock] at hb
    subst hb
    exact hG.block _ l1.2 (fun e => h.ne (by simpa using e))
  · rcases hg with e | e
    · rw [e]; exact h.ne
    · omega
  · simp only [Option.some.injEq] at e; omega
theorem prompt_of {V : Nat} {A : List Int} (h : A.all (tokB V) = true) (h1 : 1 ≤ A.length) (h2 : A.length ≤ 128) : promptN V A = 0 := by
  unfold promptN
  rw [if_neg (by omega), if_neg (by omega), if_pos h]
theorem lik_full {M : Mdl} {V D H Hd L : Nat} {P : List Int} (hP : P.all (tokB V) = true) (h0 : 1 ≤ P.length) : likAt M V D H Hd L noX P P.length = fullX M V D H Hd L P := by
  obtain ⟨k, hk⟩ : ∃ k, P.length = k + 1 := ⟨P.length - 1, by omega⟩
  have h0' : ∀ x ∈ P.take k, 0 ≤ x := fun x hx => by
    have := List.all_eq_true.1 hP x (List.mem_of_mem_take hx)
    unfold tokB at this
    have : 0 ≤ x ∧ x < V := by simpa using this
    exact this.1
  have hc : Cached M D H Hd L (feedAll M D H Hd L noX (P.take k)) ([] ++ P.take k) := cached_all _ (cached_none M D H Hd L) h0'
  rw [List.nil_append] at hc
  rw [hk]
  show likR M V D (feedX M D H Hd L (feedAll M D H Hd L noX (P.take k)) (el P k).toNat) = _
  rw [fullX_last hc]
  have e : P[k]? = some (el P k) := by unfold el; simp [List.getD_eq_getElem?_getD, List.getElem?_eq_getElem (show k < P.length by omega)]
  have : P.take k ++ [el P k] = P := by
    have h2 : P.take (k + 1) = P := List.take_of_length_le (by omega)
    rw [List.take_add_one, e] at h2
    exact h2
  rw [this]
set_option maxRecDepth 100000 in
set_option maxHeartbeats 6400000 in
theorem rnext_any (V D Hd H L n ca : Nat) (ao : Option Addr) (W : Wt) (bs : List Bk) (M : Mdl) (A : List Int) (w : World) (hW : WtAt w V D H W bs M) (hbl : bs.length = L) (hA : IArg w ao n ca A) (hsh : shapeN V D Hd H L = 0) (hq : promptN V A = 0) :
   Calls Tryz.prog 26 #[.agg #[.int .i64 (V : Int), .int .i64 (D : Int), .int .i64 (Hd : Int), .int .i64 (H : Int), .int .i64 (L : Int)], .agg W.cells, .slice ao n ca] w fun e w' => e = .returned (.int .i64 (amax (fullX M V D H Hd L A) V)) ∧ Below w.heap.size w w' := by
  have hkk := shape_ok hsh
  have hmod := shape_mod hsh
  obtain ⟨p1, p2, p3⟩ := prompt_ok hq
  have hal : A.length = n := hA.row.len
  obtain ⟨n1, hn1⟩ : ∃ n1, A.length = n1 + 1 := ⟨A.length - 1, by omega⟩
  have htk : ∀ k, k < n → 0 ≤ el A k ∧ el A k < (V : Int) := fun k hk => of_decide_eq_true (all_el (show k < A.length by omega) p3)
  have RF := fun wv (hW : WtAt wv V D H W bs M) (hA : IArg wv ao n ca A) => rfull_any V D Hd H L n ca ao W bs M A wv hW hbl hA htk (by omega) (by omega) (by omega) (by omega) (by omega) hmod (by omega) (by omega) (by omega)
  unfold cfgC at RF
  have RL := fun wv (sr sk sv : Sl) (hW : WtAt wv V D H W bs M) (hC : DCube wv sr (fR M D H Hd L A)) => rlikes_full V D Hd H L n1 W bs M sr sk sv A wv hW hC hn1 (by omega) (by omega)
  generalize fullX M V D H Hd L A = xF at *
  generalize fR M D H Hd L A = rF at *
  generalize fK M D H Hd L A = kF at *
  generalize fV M D H Hd L A = vF at *
  clear htk hmod hsh hq p1 p2 p3 hal hn1 hkk
  have X0 := blk_new w 23 #[.int .i64 (V : Int), .int .i64 (D : Int), .int .i64 (Hd : Int), .int .i64 (H : Int), .int .i64 (L : Int)]
  have B0 : Below w.heap.size w (w.alloc (.cells #[.int .i64 (V : Int), .int .i64 (D : Int), .int .i64 (Hd : Int), .int .i64 (H : Int), .int .i64 (L : Int)] 23)) := (Below.refl _ _).alloc (Nat.le_refl _) _
  generalize hw0 : w.alloc (.cells #[.int .i64 (V : Int), .int .i64 (D : Int), .int .i64 (Hd : Int), .int .i64 (H : Int), .int .i64 (L : Int)] 23) = w0 at *
  have X1 := blk_new w0 33 W.cells
  have B1 : Below w0.heap.size w0 (w0.alloc (.cells W.cells 33)) := (Below.refl _ _).alloc (Nat.le_refl _) _
  generalize hw1 : w0.alloc (.cells W.cells 33) = w1 at *
  replace X0 := X0.below B1
  have DB := below_then B0 B1
  replace hW := hW.below DB
  replace hA := hA.below DB
  go_enter Tryz.func26, Tryz.ntmps26
  go_wp2_with fail
  clear hw0 hw1 B0 B1
  have BD : Below w1.heap.size w1 w1.drew := (Below.refl _ w1).drew
  replace X0 := X0.below BD
  replace X1 := X1.below BD
  replace hW := hW.below BD
  replace hA := hA.below BD
  replace DB := DB.drew
  clear BD
  refine wp_region_held_drew (S := fun w' => Blk w' w.heap.size 23 #[.int .i64 (V : Int), .int .i64 (D : Int), .int .i64 (Hd : Int), .int .i64 (H : Int), .int .i64 (L : Int)] ∧ Blk w' w0.heap.size 33 W.cells) (by kernel_rfl) (⟨X0, X1⟩) (fun hHeld => ?_)
  generalize hAA : w1.drew = wA at *
  clear hAA
  refine wpAnyH_take (i := 0) (v := .agg W.cells) rfl (by kernel_rfl) (by kernel_rfl) (by kernel_rfl) (fun _ _ _ h => h) (yields_row (by rfl) 33 _ rfl w0.heap.size rfl 33 W.cells _ (fun w' hS => hS.2) Tryz.underlying33 rfl Tryz.infoRW) (by assumption) ?_
  simp only [List.getElem_toArray, List.getElem_cons_zero, Act.put, List.setIfInBounds_toArray, List.set_cons_zero, List.set_cons_succ]
  refine wpAnyH_take (i := 1) (v := .agg #[.int .i64 (V : Int), .int .i64 (D : Int), .int .i64 (Hd : Int), .int .i64 (H : Int), .int .i64 (L : Int)]) rfl (by kernel_rfl) (by kernel_rfl) (by kernel_rfl) (fun _ _ _ h => h) (yields_row (by rfl) 23 _ rfl w.heap.size rfl 23 #[.int .i64 (V : Int), .int .i64 (D : Int), .int .i64 (Hd : Int), .int .i64 (H : Int), .int .i64 (L : Int)] _ (fun w' hS => hS.1) Tryz.underlying23 rfl Tryz.infoCf) (by assumption) ?_
  simp only [List.getElem_toArray, List.getElem_cons_succ, List.getElem_cons_zero, Act.put, List.setIfInBounds_toArray, List.set_cons_zero, List.set_cons_succ]
  refine wpAnyH_take (i := 2) (v := .agg W.cells) rfl (by kernel_rfl) (by kernel_rfl) (by kernel_rfl) (fun _ _ _ h => h) (yields_row (by rfl) 33 _ rfl w0.heap.size rfl 33 W.cells _ (fun w' hS => hS.2) Tryz.underlying33 rfl Tryz.infoRW) (by assumption) ?_
  simp only [List.getElem_toArray, List.getElem_cons_succ, List.getElem_cons_zero, Act.put, List.setIfInBounds_toArray, List.set_cons_zero, List.set_cons_succ]
  refine wpAnyH_take (i := 3) (v := (.slice ao n ca)) rfl (by kernel_rfl) (by kernel_rfl) (by kernel_rfl) (fun _ _ _ h => h) (Or.inl ⟨by rfl, ?_⟩) (by assumption) ?_
  · intro w' hSw
    go_simp
  simp only [List.getElem_toArray, List.getElem_cons_succ, List.getElem_cons_zero, Act.put, List.setIfInBounds_toArray, List.set_cons_zero, List.set_cons_succ]
  refine wpAnyH_ready (rs := [4]) (by kernel_rfl) (by simp) ?_
  refine AllReadyH.cons rfl (fun Kc hKc => ?_) AllReadyH.nil
  simp only [List.getElem_toArray, List.getElem_cons_succ, List.getElem_cons_zero]
  rw [if_pos (by rfl)]
  go_wp2_with fail
  refine (RF _ hW hA).mono ?_
  rintro e wB ⟨⟨ra, rn, rc⟩, ⟨ka, kn, kc⟩, ⟨va, vn, vc⟩, rfl, DR, DK, DV, EM⟩
  replace X0 := X0.below EM
  replace X1 := X1.below EM
  replace hW := hW.below EM
  replace DB := below_then DB EM
  clear EM
  clear DK DV
  rw [show (#[Sl.v ⟨ra, rn, rc⟩, Sl.v ⟨ka, kn, kc⟩, Sl.v ⟨va, vn, vc⟩] : Array Value) = #[.slice ra rn rc, .slice ka kn kc, .slice va vn vc] from rfl]
  go_wp2_with fail
  refine hKc.out _ _ (⟨X0, X1⟩) (fun hHeld => ?_)
  clear hKc Kc
  refine wpAnyH_ready (rs := [5]) (by kernel_rfl) (by simp) ?_
  refine AllReadyH.cons rfl (fun Kc hKc => ?_) AllReadyH.nil
  simp only [List.getElem_toArray, List.getElem_cons_succ, List.getElem_cons_zero]
  rw [if_pos (by rfl)]
  go_wp2_with fail
  refine (RL _ ⟨ra, rn, rc⟩ ⟨ka, kn, kc⟩ ⟨va, vn, vc⟩ hW DR).mono ?_
  rintro e wC ⟨g2, cap, rfl, F2, EM⟩
  replace X0 := X0.below EM
  replace X1 := X1.below EM
  replace DB := below_then DB EM
  clear EM
  go_wp2_with fail
  refine hKc.out _ _ (⟨X0, X1⟩) (fun hHeld => ?_)
  clear hKc Kc
  refine wpAnyH_ready (rs := [6]) (by kernel_rfl) (by simp) ?_
  refine AllReadyH.cons rfl (fun Kc hKc => ?_) AllReadyH.nil
  simp only [List.getElem_toArray, List.getElem_cons_succ, List.getElem_cons_zero]
  rw [if_pos (by rfl)]
  go_wp2_with fail
  refine (refArgmax_any _ _ _ xF _ F2.rowAt).mono ?_
  rintro e wD ⟨rfl, m1, rfl⟩
  have EM : Below wC.heap.size wC (wC.drewN m1) := below_drewN (Below.refl _ wC) m1
  replace X0 := X0.below EM
  replace X1 := X1.below EM
  replace DB := below_then DB EM
  clear EM
  clear F2
  generalize wC.drewN m1 = wE at *
  go_wp2_with fail
  refine hKc.out _ _ (⟨X0, X1⟩) (fun hHeld => ?_)
  clear hKc Kc
  refine wpAnyH_take (i := 7) (v := (.int .i64 (amax xF V))) rfl (by kernel_rfl) (by kernel_rfl) (by kernel_rfl) (fun _ _ _ h => h) (Or.inl ⟨by rfl, ?_⟩) (by assumption) ?_
  · intro w' hSw
    go_simp
  simp only [List.getElem_toArray, List.getElem_cons_succ, List.getElem_cons_zero, Act.put, List.setIfInBounds_toArray, List.set_cons_zero, List.set_cons_succ]
  refine wpAnyH_done (by kernel_rfl) ?_ _
  clear hHeld
  go_wp2_with fail
  go_ret
  exact ⟨rfl, DB⟩
theorem tok_small' {V : Nat} {A : List Int} (hV : V ≤ 64) (h : A.all (tokB V) = true) : ∀ k, -9223372036854775808 ≤ el A k ∧ el A k ≤ 9223372036854775807 := fun k => by
  rcases Nat.lt_or_ge k A.length with hk | hk
  · have := List.all_eq_true.1 h _ (el_mem hk)
    unfold tokB at this
    have : 0 ≤ el A k ∧ el A k < V := by simpa using this
    omega
  · rw [el_over hk]; omega
/-- How long an answer is; where it ends. -/
theorem iarg_of {w : World} {B g n c : Nat} {A : List Int} (h : w.ownsRow B 3 1 (.slice (some ⟨g, 0, none⟩) n c) n (A.map (Value.int .i64))) (hs : ∀ k, -9223372036854775808 ≤ el A k ∧ el A k ≤ 9223372036854775807) : IArg w (some ⟨g, 0, none⟩) n c A := by
  obtain ⟨a, c', e, hA⟩ := IOwn.arg (show IOwn w B (.slice (some ⟨g, 0, none⟩) n c) n A from h) hs
  simp only [Value.slice.injEq, true_and] at e
  obtain ⟨rfl, rfl⟩ := e
  exact hA
set_option maxRecDepth 100000 in
set_option maxHeartbeats 6400000 in
theorem rrun_any (V D Hd H L n ca b o : Nat) (W : Wt) (bs : List Bk) (M : Mdl) (P : List Int) (most : Int) (w : World) (hW : WtAt w V D H W bs M) (hbl : bs.length = L) (hA : IArg w (some ⟨b, o, none⟩) n ca P) (hsh : shapeN V D Hd H L = 0) (hq : askedN V P most = 0) :
   Calls Tryz.prog 13 #[.agg #[.int .i64 (V : Int), .int .i64 (D : Int), .int .i64 (Hd : Int), .int .i64 (H : Int), .int .i64 (L : Int)], .agg W.cells, .slice (some ⟨b, o, none⟩) n ca, .int .i64 most] w fun e w' => ∃ j g c, e = .returned (.slice (some ⟨g, 0, none⟩) j c) ∧ IOwn w' w.heap.size (.slice (some ⟨g, 0, none⟩) j c) j (runY M V D H Hd L P j) ∧ overB (runY M V D H Hd L P j) most = true ∧ (∀ i, i < j → overB (runY M V D H Hd L P i) most = false) ∧ Below w.heap.size w w' := by
  have hkk := shape_ok hsh
  obtain ⟨hqp, hm1, hm2⟩ := asked_ok hq
  obtain ⟨p1, p2, p3⟩ := prompt_ok hqp
  have hPl : P.length = n := hA.row.len
  have HTK : Hid (∀ j, P.length + j ≤ 128 → promptN V (P ++ runY M V D H Hd L P j) = 0) := fun j hj => prompt_of (by rw [List.all_append, p3, runY_toks M (by omega) P j]; rfl) (by rw [List.length_append]; omega) (by rw [List.length_append, runY_len]; omega)
  have HSM : Hid (∀ j k, -9223372036854775808 ≤ el (P ++ runY M V D H Hd L P j) k ∧ el (P ++ runY M V D H Hd L P j) k ≤ 9223372036854775807) := fun j k => tok_small' (V := V) (by omega) (by rw [List.all_append, p3, runY_toks M (by omega) P j]; rfl) k
  have HSY : Hid (∀ j k, -9223372036854775808 ≤ el (runY M V D H Hd L P j) k ∧ el (runY M V D H Hd L P j) k ≤ 9223372036854775807) := fun j k => tok_small' (V := V) (by omega) (runY_toks M (by omega) P j) k
  have HNX : Hid (∀ j, runY M V D H Hd L P (j + 1) = runY M V D H Hd L P j ++ [amax (fullX M V D H Hd L (P ++ runY M V D H Hd L P j)) V]) := fun j => by
    show runY M V D H Hd L P j ++ [nextT M V D H Hd L (P ++ runY M V D H Hd L P j)] = _
    unfold nextT
    rw [lik_full (by rw [List.all_append, p3, runY_toks M (by omega) P j]; rfl) (by rw [List.length_append]; omega)]
  have HLN : Hid (∀ j, (runY M V D H Hd L P j).length = j) := runY_len M V D H Hd L P
  have RN := fun (g c m : Nat) (A : List Int) wv (hW : WtAt wv V D H W bs M) (hA : IArg wv (some ⟨g, 0, none⟩) m c A) (hq : promptN V A = 0) => rnext_any V D Hd H L m c (some ⟨g, 0, none⟩) W bs M A wv hW hbl hA hsh hq
  have H0 : Hid (runY M V D H Hd L P 0 = []) := rfl
  have hn1 : 1 ≤ n := by omega
  clear p1 p2 p3 hq hqp hsh
  have X0 := blk_new w 23 #[.int .i64 (V : Int), .int .i64 (D : Int), .int .i64 (Hd : Int), .int .i64 (H : Int), .int .i64 (L : Int)]
  have B0 : Below w.heap.size w (w.alloc (.cells #[.int .i64 (V : Int), .int .i64 (D : Int), .int .i64 (Hd : Int), .int .i64 (H : Int), .int .i64 (L : Int)] 23)) := (Below.refl _ _).alloc (Nat.le_refl _) _
  generalize hw0 : w.alloc (.cells #[.int .i64 (V : Int), .int .i64 (D : Int), .int .i64 (Hd : Int), .int .i64 (H : Int), .int .i64 (L : Int)] 23) = w0 at *
  have X1 := blk_new w0 33 W.cells
  have B1 : Below w0.heap.size w0 (w0.alloc (.cells W.cells 33)) := (Below.refl _ _).alloc (Nat.le_refl _) _
  generalize hw1 : w0.alloc (.cells W.cells 33) = w1 at *
  replace X0 := X0.below B1
  have DB := below_then B0 B1
  replace hW := hW.below DB
  replace hA := hA.below DB
  clear B0 B1
  have HF : Hid (∀ wv, Below w1.heap.size w1 wv → Blk wv w.heap.size 23 #[.int .i64 (V : Int), .int .i64 (D : Int), .int .i64 (Hd : Int), .int .i64 (H : Int), .int .i64 (L : Int)] ∧ Blk wv w0.heap.size 33 W.cells ∧ WtAt wv V D H W bs M ∧ Below w.heap.size w wv) := fun wv hb => ⟨X0.below hb, X1.below hb, hW.below hb, below_then DB hb⟩
  obtain ⟨i0, hi, hz0, hz1, hz2⟩ := info_parts Tryz.infoInt
  have B2 : Below w1.heap.size w1 (w1.alloc (.cells #[] 3)) := (Below.refl _ _).alloc (Nat.le_refl _) _
  have O0 : (w1.alloc (.cells #[] 3)).ownsRow w1.heap.size 3 1 (.slice (some ⟨w1.heap.size, 0, none⟩) 0 0) 0 [] := World.ownsRow_made w1 #[] 0 (Nat.le_refl _) (by decide) rfl
  have hv2 := (hA.row.below B2).vals
  have hl := hA.row.len
  have zw : w.heap.size ≤ w1.heap.size := DB.size
  have hs1 : w1.heap.size ≤ (w1.alloc (.cells #[] 3)).heap.size := B2.size
  clear X0 X1 hW hA DB
  generalize hw2 : w1.alloc (.cells #[] 3) = w2 at *
  go_enter Tryz.func13, Tryz.ntmps13
  go_upto_region 2 with (at_builtin; refine wpList_append_own _ rfl _ _ 30 rfl w1.heap.size 3 i0 (.int .i64 0) 1 8 Tryz.underlying30 hi hz0 hz1 hz2 rfl (by decide) _ 0 [] rfl O0 ⟨b, o, none⟩ n ca (P.map (Value.int .i64)) rfl (by simp; omega) hv2 (ints_oneCell _ _) (by unfold maxLen; omega) (by omega) hs1 ?_; intro v3 w3 O1 G1 _)
  have B3 : Below w1.heap.size w1 w3 := B2.trans ((Below.refl _ _).grown G1 hs1 (fun k hk => (O0.lt k hk).1))
  rw [Nat.zero_add, List.nil_append] at O1
  obtain ⟨g1, c1, rfl⟩ : ∃ g1 c1, v3 = .slice (some ⟨g1, 0, none⟩) n c1 := by
    rcases O1.2 with ⟨_, h3⟩ | ⟨g, c, cur, h3, _⟩
    · omega
    · exact ⟨g, c, h3⟩
  have hg1 := (O1.lt g1 rfl).2
  have B4 : Below w3.heap.size w3 (w3.alloc (.cells #[] 3)) := (Below.refl _ _).alloc (Nat.le_refl _) _
  have O4 : (w3.alloc (.cells #[] 3)).ownsRow w1.heap.size 3 1 (.slice (some ⟨w3.heap.size, 0, none⟩) 0 0) 0 [] := World.ownsRow_made w3 #[] 0 B3.size (by decide) rfl
  have TW : TwoI w1 (w3.alloc (.cells #[] 3)) g1 c1 w3.heap.size 0 n 0 (P.map (Value.int .i64)) [] := ⟨owns_below O1 B4, O4, by omega, below_then B3 B4⟩
  clear O1 B3 B4 O4 G1 O0 hv2 B2
  generalize hw4 : w3.alloc (.cells #[] 3) = w4 at *
  go_wp2_with fail
  clear hw0 hw1 hw2 hw4
  generalize w3.heap.size = g20 at *
  go_loopg [9, 10] (most.toNat + 1) (fun r s9 s10 wr => ∃ (j g1 c1 g2 c2 : Nat), (j : Int) ≤ most ∧ r = most.toNat + 1 - j ∧ s9 = .slice (some ⟨g1, 0, none⟩) (n + j) c1 ∧ s10 = .slice (some ⟨g2, 0, none⟩) j c2 ∧ (∀ i, i < j → overB (runY M V D H Hd L P i) most = false) ∧ TwoI w1 wr g1 c1 g2 c2 (n + j) j ((P ++ runY M V D H Hd L P j).map (Value.int .i64)) ((runY M V D H Hd L P j).map (Value.int .i64)))
  case atStart => exact ⟨0, g1, c1, g20, 0, by omega, by omega, rfl, rfl, fun i hi => by omega, by rw [H0.out, List.append_nil]; exact TW⟩
  case round =>
    clear TW
    obtain ⟨j, g1, c1, g2, c2, hj, rfl, rfl, rfl, hall, TW⟩ := hrel
    have AY := iarg_of TW.o2 (HSY.out j)
    have CO := refOver_any (some ⟨g2, 0, none⟩) j c2 (runY M V D H Hd L P j) most wr AY.row
    by_cases ho : overB (runY M V D H Hd L P j) most = true
    · rw [ho] at CO
      go_wp2_with fail
      refine CO.mono ?_
      rintro e w5 ⟨rfl, h5⟩
      replace h5 := h5.symm
      subst h5
      go_wp2_with fail
      go_ret
      obtain ⟨-, -, -, DD⟩ := HF.out _ TW.kp
      exact ⟨j, g2, c2, rfl, owns_mono TW.o2 zw (fun _ _ => rfl), ho, hall, DD⟩
    · replace ho : overB (runY M V D H Hd L P j) most = false := by simpa using ho
      rw [ho] at CO
      have hjm : (j : Int) < most := by have := over_not ho; rw [HLN.out j] at this; exact this
      have hall1 : ∀ i, i < j + 1 → overB (runY M V D H Hd L P i) most = false := fun i hi => by
        rcases Nat.lt_or_ge i j with h | h
        · exact hall i h
        · obtain rfl : i = j := by omega
          exact ho
      obtain ⟨X0, X1, hW, -⟩ := HF.out _ TW.kp
      have AP := iarg_of TW.o1 (HSM.out j)
      have CX := RN g1 c1 (n + j) (P ++ runY M V D H Hd L P j) wr hW AP (HTK.out j (by omega))
      have HY1 : Hid (runY M V D H Hd L P (j + 1) = runY M V D H Hd L P j ++ [amax (fullX M V D H Hd L (P ++ runY M V D H Hd L P j)) V]) := HNX.out j
      have hjn : n + j ≤ 128 := by omega
      generalize amax (fullX M V D H Hd L (P ++ runY M V D H Hd L P j)) V = tk at *
      have a0 : wr.cell? ⟨w.heap.size, 0, none⟩ = some (.int .i64 (V : Int)) := X0.cell 0 rfl
      have a1 : wr.cell? ⟨w.heap.size, 1, none⟩ = some (.int .i64 (D : Int)) := X0.cell 1 rfl
      have a2 : wr.cell? ⟨w.heap.size, 2, none⟩ = some (.int .i64 (Hd : Int)) := X0.cell 2 rfl
      have a3 : wr.cell? ⟨w.heap.size, 3, none⟩ = some (.int .i64 (H : Int)) := X0.cell 3 rfl
      have a4 : wr.cell? ⟨w.heap.size, 4, none⟩ = some (.int .i64 (L : Int)) := X0.cell 4 rfl
      go_wp2_with fail
      refine CO.mono ?_
      rintro e w5 ⟨rfl, h5⟩
      replace h5 := h5.symm
      subst h5
      go_wp2_with (refine wpList_load_row rfl 33 _ rfl w0.heap.size rfl 33 W.cells (0, 0) _ X1 Tryz.underlying33 rfl Tryz.infoRW ?_)
      refine CX.mono ?_
      rintro e w6 ⟨rfl, B6⟩
      clear a0 a1 a2 a3 a4 CX CO X0 X1 hW AP AY hall ho
      replace TW := TW.below B6
      have XN := blk_new w6 3 #[.int .i64 tk]
      have BN : Below w6.heap.size w6 (w6.alloc (.cells #[.int .i64 tk] 3)) := (Below.refl _ _).alloc (Nat.le_refl _) _
      generalize hw7 : w6.alloc (.cells #[.int .i64 tk] 3) = w7 at *
      replace TW := TW.below BN
      have cN : w7.cell? ⟨w6.heap.size, 0, none⟩ = some (.int .i64 tk) := XN.cell 0 rfl
      clear XN BN B6
      have zk := TW.kp.size
      have TO := TW.o1
      go_upto_region 6 with (at_builtin; refine wpList_append_i2 rfl _ _ rfl w1.heap.size g1 (n + j) c1 _ rfl TO w6.heap.size (.int .i64 tk) rfl cN rfl (by omega) zk ?_; intro g1' c1' w8 O8 G8 N8)
      replace TW := TW.grow1 O8 G8 N8
      clear O8 G8 N8 cN hw7 TO zk
      have XN := blk_new w8 3 #[.int .i64 tk]
      have BN : Below w8.heap.size w8 (w8.alloc (.cells #[.int .i64 tk] 3)) := (Below.refl _ _).alloc (Nat.le_refl _) _
      generalize hw9 : w8.alloc (.cells #[.int .i64 tk] 3) = w9 at *
      replace TW := TW.below BN
      have cN : w9.cell? ⟨w8.heap.size, 0, none⟩ = some (.int .i64 tk) := XN.cell 0 rfl
      clear XN BN
      have zk := TW.kp.size
      have TO := TW.o2
      go_wp2_with (at_builtin; refine wpList_append_i2 rfl _ _ rfl w1.heap.size g2 j c2 _ rfl TO w8.heap.size (.int .i64 tk) rfl cN rfl (by omega) zk ?_; intro g2' c2' wB O8 G8 N8)
      replace TW := TW.grow2 O8 G8 N8
      clear O8 G8 N8 cN hw9 TO zk
      go_wp2_with fail
      go_roundg (most.toNat + 1 - (j + 1))
      case measure => omega
      case rel =>
        refine ⟨j + 1, g1', c1', g2', c2', by omega, rfl, rfl, rfl, hall1, ?_⟩
        have e1 : (P ++ runY M V D H Hd L P (j + 1)).map (Value.int .i64) = (P ++ runY M V D H Hd L P j).map (Value.int .i64) ++ [.int .i64 tk] := by rw [HY1.out, ← List.append_assoc, List.map_append]; rfl
        have e2 : (runY M V D H Hd L P (j + 1)).map (Value.int .i64) = (runY M V D H Hd L P j).map (Value.int .i64) ++ [.int .i64 tk] := by rw [HY1.out, List.map_append]; rfl
        rw [e1, e2]
        exact TW
end Go.Proofs.YtahfdbblndphaaaGreatDoor
