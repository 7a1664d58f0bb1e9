/- Contracts of the program's functions, part 15 of 19: what each call returns and leaves of memory. -/
import Derived.Test.YtmdjlaileakbeaaGreatDoorPk13
import Derived.Test.YtmdjlaileakbeaaGreatDoorPk14
import Derived.Test.YtmdjlaileakbeaaGreatDoorPk4
import Derived.Deep.MidRow
import Derived.Test.YtmdjlaileakbeaaGreatDoorPk11
/- model.Copy: the same numbers in memory of their own. Laid by tools/gencopy6.py. -/
namespace Go.Proofs.YtmdjlaileakbeaaGreatDoor
open Go.ChangeShapes Go.WideShapes Go.ChangeAt Go.RowKit Go.Deep
structure LySm (y : Lay) : Prop where
  f : y.F.length ≤ 5000
  q : y.Q.length ≤ 5000
  k : y.K.length ≤ 5000
  v : y.V.length ≤ 5000
  o : y.O.length ≤ 5000
  s : y.S.length ≤ 5000
  u : y.U.length ≤ 5000
  d : y.N.length ≤ 5000
/-- Numbers whose rows lie in memory from B on, and are few. -/
structure WOwn (w : World) (B : Nat) (W : Wt) (bs : List Bk) (M : Mdl) : Prop where
  ok : W.Ok
  e : FR w B W.e.d W.e.d.n M.E
  l : FR w B W.l W.l.n M.G
  o : FR w B W.o.d W.o.d.n M.O
  b : BlocksAt w W.b bs
  ls : ∀ (t : Nat) (x : Bk), bs[t]? = some x → ∃ y, M.Ls[t]? = some y ∧ LySm y ∧ BT w B x x y
  se : M.E.length ≤ 5000
  sl : M.G.length ≤ 5000
  so : M.O.length ≤ 5000
theorem WOwn.below {w w' : World} {B : Nat} {W : Wt} {bs : List Bk} {M : Mdl} (h : WOwn w B W bs M) (hb : Below w.heap.size w w') : WOwn w' B W bs M :=
  ⟨h.ok, h.e.below hb, h.l.below hb, h.o.below hb, h.b.below hb, fun t x hx => let ⟨y, h1, h2, h3⟩ := h.ls t x hx; ⟨y, h1, h2, h3.below hb⟩, h.se, h.sl, h.so⟩
/-- Layers that were copied, one by one. -/
structure CBs (w : World) (B k : Nat) (bs xs : List Bk) (Ls : List Lay) : Prop where
  len : xs.length = k
  at_ : ∀ (t : Nat) (x' : Bk), xs[t]? = some x' → ∃ x y, bs[t]? = some x ∧ Ls[t]? = some y ∧ LySm y ∧ x'.Ok ∧ BT w B x x' y
theorem CBs.map {w w' : World} {B k : Nat} {bs xs : List Bk} {Ls : List Lay} (h : CBs w B k bs xs Ls) (f : ∀ {x x' : Bk} {y : Lay}, BT w B x x' y → BT w' B x x' y) : CBs w' B k bs xs Ls := ⟨h.len, fun t x' hx => let ⟨x, y, h1, h2, h3, h4, h5⟩ := h.at_ t x' hx; ⟨x, y, h1, h2, h3, h4, f h5⟩⟩
theorem cbs_nil (w : World) (B : Nat) (bs : List Bk) (Ls : List Lay) : CBs w B 0 bs [] Ls := ⟨rfl, fun t x' hx => by simp at hx⟩
theorem CBs.snoc {w : World} {B k : Nat} {bs xs : List Bk} {Ls : List Lay} (h : CBs w B k bs xs Ls) {x x' : Bk} {y : Lay} (h1 : bs[k]? = some x) (h2 : Ls[k]? = some y) (h4 : LySm y) (h5 : x'.Ok) (h3 : BT w B x x' y) : CBs w B (k + 1) bs (xs ++ [x']) Ls := by
  have hl := h.len
  refine ⟨by simp [hl], fun t z hz => ?_⟩
  rcases Nat.lt_or_ge t k with ht | ht
  · rw [List.getElem?_append_left (by omega)] at hz
    exact h.at_ t z hz
  · rw [List.getElem?_append_right (by omega), hl] at hz
    have ht2 : t < k + 1 := by
      rcases Nat.lt_or_ge (t - k) 1 with q | q
      · omega
      · rw [List.getElem?_eq_none (by simpa using q)] at hz; cases hz
    obtain rfl : t = k := by omega
    simp at hz
    subst hz
    exact ⟨x, y, h1, h2, h4, h5, h3⟩
structure WCop (w : World) (B : Nat) (W W' : Wt) (bs xs : List Bk) (M : Mdl) : Prop where
  e : FR w B W'.e.d W'.e.d.n M.E
  es : W'.e.r = W.e.r ∧ W'.e.c = W.e.c
  l : FR w B W'.l W'.l.n M.G
  o : FR w B W'.o.d W'.o.d.n M.O
  os : W'.o.r = W.o.r ∧ W'.o.c = W.o.c
  bn : W'.b.n = W.b.n
  b : BlocksAt w W'.b xs
  ls : CBs w B W.b.n bs xs M.Ls
theorem clone_fr (B0 : Nat) (s : Sl) (A : List Int) (w : World) (h : FR w B0 s s.n A) (hn : A.length ≤ 5000) :
   Calls Tryz.prog 77 #[.slice s.ao s.n s.c] w fun e w' => ∃ s' : Sl, e = .returned (.slice s'.ao s'.n s'.c) ∧ FR w' w.heap.size s' s'.n A ∧ Below w.heap.size w w' := by
  have R := h.row
  have hl := fr_len h
  obtain ⟨g, e1, e2, F⟩ := h
  rw [e1] at R ⊢
  refine (clone_any g 0 s.n s.c A w R (by omega)).mono ?_
  rintro e w' ⟨g', cap, rfl, F, B⟩
  exact ⟨⟨some ⟨g', 0, none⟩, s.n, cap⟩, rfl, ⟨g', rfl, rfl, F⟩, B⟩
theorem make_blocksN (L : Nat) (hL : L ≤ 1000) (w : World) : (Instr.makeSlice 27 (.int .i64 (L : Int)) (.int .i64 (L : Int))).run Tryz.prog w = .ok (.slice (some ⟨w.heap.size, 0, none⟩) L L) (w.alloc (.cells (madeCells #[.slice none 0 0, .int .i64 0, .int .i64 0, .slice none 0 0, .int .i64 0, .int .i64 0, .slice none 0 0, .int .i64 0, .int .i64 0, .slice none 0 0, .int .i64 0, .int .i64 0, .slice none 0 0, .slice none 0 0, .int .i64 0, .int .i64 0, .slice none 0 0, .int .i64 0, .int .i64 0, .slice none 0 0] (L * 20)) 60)) := by
  obtain ⟨i0, hi, hz0, hz1, hz2⟩ := info_parts Tryz.infoBlk
  have := run_make (P := Tryz.prog) w 27 60 i0 _ Tryz.underlying27 hi hz0 .i64 .i64 L L (by omega) (by omega) (by rw [hz2]; omega) (by omega)
  rw [hz1] at this
  simpa [Value.cells] using this
theorem wf_lt {w : World} {b : Nat} {o : Obj} (h : w.heap[b]? = some o) : b < w.heap.size := (Array.getElem?_eq_some_iff.1 h).1
end Go.Proofs.YtmdjlaileakbeaaGreatDoor

/- Numbers that were told, and are sound: they are what the passes ask for; pass.Full of numbers that aren't. Laid by program out of ModelCopiesWalk and Full2. -/
namespace Go.Proofs.YtmdjlaileakbeaaGreatDoor
open Go.ChangeShapes Go.WideShapes Go.ChangeAt Go.RowKit
structure Sides (x0 x : Bk) : Prop where
  q : x.q.r = x0.q.r ∧ x.q.c = x0.q.c
  k : x.k.r = x0.k.r ∧ x.k.c = x0.k.c
  v : x.v.r = x0.v.r ∧ x.v.c = x0.v.c
  o : x.o.r = x0.o.r ∧ x.o.c = x0.o.c
  u : x.u.r = x0.u.r ∧ x.u.c = x0.u.c
  d : x.d.r = x0.d.r ∧ x.d.c = x0.d.c
theorem BT.sides {w : World} {B : Nat} {x x' : Bk} {y : Lay} (h : BT w B x x' y) : Sides x x' := ⟨h.qs, h.ks, h.vs, h.os, h.us, h.ds⟩
theorem BT.self {w : World} {B : Nat} {x x' : Bk} {y : Lay} (h : BT w B x x' y) : BT w B x' x' y := ⟨h.f, h.q, h.k, h.v, h.o, h.s, h.u, h.d, ⟨rfl, rfl⟩, ⟨rfl, rfl⟩, ⟨rfl, rfl⟩, ⟨rfl, rfl⟩, ⟨rfl, rfl⟩, ⟨rfl, rfl⟩⟩
theorem sd_tr {a b c d e f : Int} (h : a = b ∧ c = d) (g : e = b ∧ f = d) : a = e ∧ c = f := ⟨h.1.trans g.1.symm, h.2.trans g.2.symm⟩
theorem Sides.meet {x0 x y : Bk} (h : Sides x0 x) (g : Sides x0 y) : Sides x y := ⟨sd_tr g.q h.q, sd_tr g.k h.k, sd_tr g.v h.v, sd_tr g.o h.o, sd_tr g.u h.u, sd_tr g.d h.d⟩
theorem Sides.trans {x y z : Bk} (h : Sides x y) (g : Sides y z) : Sides x z := ⟨⟨g.q.1.trans h.q.1, g.q.2.trans h.q.2⟩, ⟨g.k.1.trans h.k.1, g.k.2.trans h.k.2⟩, ⟨g.v.1.trans h.v.1, g.v.2.trans h.v.2⟩, ⟨g.o.1.trans h.o.1, g.o.2.trans h.o.2⟩, ⟨g.u.1.trans h.u.1, g.u.2.trans h.u.2⟩, ⟨g.d.1.trans h.d.1, g.d.2.trans h.d.2⟩⟩
/-- What Of hands out of what Told told of V. -/
structure WIn (w : World) (B k : Nat) (V : Wt) (bs : List Bk) (MM : Mdl) (W : Wt) (ys : List Bk) : Prop where
  own : WOwn w B W ys (cutM 5000 k (cutM 100 k MM))
  es : W.e.r = V.e.r ∧ W.e.c = V.e.c
  os : W.o.r = V.o.r ∧ W.o.c = V.o.c
  len : ys.length = k
  ss : ∀ (t : Nat) (x : Bk), ys[t]? = some x → ∃ x0, bs[t]? = some x0 ∧ Sides x0 x
theorem WIn.below {w w' : World} {B k : Nat} {V : Wt} {bs : List Bk} {MM : Mdl} {W : Wt} {ys : List Bk} (h : WIn w B k V bs MM W ys) (hb : Below w.heap.size w w') : WIn w' B k V bs MM W ys := ⟨h.own.below hb, h.es, h.os, h.len, h.ss⟩
theorem take_le (A : List Int) {n : Nat} (hn : n ≤ 5000) : (A.take n).length ≤ 5000 := by rw [List.length_take]; omega
theorem win_of {w1 w2 : World} {B1 B2 k : Nat} {V W3 W5 : Wt} {bs xs ys : List Bk} {MM : Mdl} (hV : V.Ok) (T1 : WTold w1 B1 100 k V W3 bs xs MM) (T3 : WTold w2 B2 5000 W3.b.n W3 W5 xs ys (cutM 100 k MM)) : WIn w2 B2 k V bs MM W5 ys := by
  have hk : W3.b.n = k := by rw [← T1.b.len, T1.ls.len]
  have hW3 := (T1.raw hV).ok
  have hW5 := (T3.raw hW3).ok
  have hR := T3.raw hW3
  rw [hk] at T3 hR
  refine ⟨⟨hW5, T3.e, T3.l, T3.o, T3.b, fun t x hx => ?_, take_le _ (by omega), take_le _ (by omega), take_le _ (by omega)⟩, ⟨T3.es.1.trans T1.es.1, T3.es.2.trans T1.es.2⟩, ⟨T3.os.1.trans T1.os.1, T3.os.2.trans T1.os.2⟩, T3.ls.len, fun t x hx => ?_⟩
  · obtain ⟨x1, y1, h1, h2, h3⟩ := T3.ls.at_ t x hx
    have ht : t < k := by have := (List.getElem?_eq_some_iff.1 hx).1; have := T3.ls.len; omega
    exact ⟨cutL 5000 y1, cutLs_at ht h2, ⟨take_le _ (by omega), take_le _ (by omega), take_le _ (by omega), take_le _ (by omega), take_le _ (by omega), take_le _ (by omega), take_le _ (by omega), take_le _ (by omega)⟩, h3.self⟩
  · obtain ⟨x1, y1, h1, h2, h3⟩ := T3.ls.at_ t x hx
    obtain ⟨x0, y0, g1, g2, g3⟩ := T1.ls.at_ t x1 h1
    exact ⟨x0, g1, g3.sides.trans h3.sides⟩
theorem FR.arg {w : World} {B : Nat} {s : Sl} {n : Nat} {A : List Int} (h : FR w B s n A) : Arg w s.ao s.n s.c A := by
  have R := h.raw
  obtain ⟨g, e1, e2, F⟩ := h
  exact ⟨R.row, R.fit, R.max, R.nil, fun b o e t ht => by
    rw [e1] at e
    simp only [Option.some.injEq, Addr.mk.injEq, and_true] at e
    obtain ⟨rfl, rfl⟩ := e
    exact F.frozen _⟩
theorem mt_at {w : World} {B r c : Nat} {m : Mt} {A : List Int} (h : FR w B m.d m.d.n A) (hs : sidesB m r c = true) : MtAt w m r c A := by
  unfold sidesB at hs
  obtain ⟨h1, h2, h3⟩ := of_decide_eq_true hs
  obtain ⟨r', c', e1, e2, q1, q2, q3, q4, q5⟩ := chk_zero h1
  have R := h.raw
  obtain ⟨g, e3, e4, F⟩ := h
  obtain ⟨mr, mc, ⟨ma, mn, mz⟩⟩ := m
  simp only at h2 h3 e1 e2 e3 q5 R
  subst e3 h2 h3
  obtain rfl : r' = r := by omega
  obtain rfl : c' = c := by omega
  exact ⟨g, 0, mn, mz, rfl, q1, q2, q3, q4, q5, R.fit, R.max, R.row⟩
theorem sl_at {w : World} {B n : Nat} {s : Sl} {A : List Int} (h : FR w B s s.n A) (hn : s.n = n) : SlAt w s n A := ⟨hn, by have := h.arg; rw [hn] at this; exact this⟩
theorem own_told {w : World} {B n k : Nat} {V W : Wt} {bs xs : List Bk} {MM : Mdl} (hV : V.Ok) (hn : n ≤ 5000) (T : WTold w B n k V W bs xs MM) : WOwn w B W xs (cutM n k MM) ∧ xs.length = (cutM n k MM).Ls.length := by
  have R := T.raw hV
  refine ⟨⟨R.ok, T.e, T.l, T.o, T.b, fun t x hx => ?_, take_le _ (by omega), take_le _ hn, take_le _ (by omega)⟩, R.len⟩
  obtain ⟨x1, y1, h1, h2, h3⟩ := T.ls.at_ t x hx
  have ht : t < k := by have := (List.getElem?_eq_some_iff.1 hx).1; have := T.ls.len; omega
  exact ⟨cutL n y1, cutLs_at ht h2, ⟨take_le _ hn, take_le _ (by omega), take_le _ (by omega), take_le _ (by omega), take_le _ (by omega), take_le _ hn, take_le _ (by omega), take_le _ (by omega)⟩, h3.self⟩
theorem check_shape {V D Hd H L : Int} {W : Wt} {bs : List Bk} (h : checkN V D Hd H L W bs = 0) : shapeN V D Hd H L = 0 ∧ fitsB V D H L W bs = true := by
  unfold checkN at h
  by_cases h1 : shapeN V D Hd H L = 0
  · rw [if_neg (by omega)] at h
    by_cases h2 : fitsB V D H L W bs = true
    · exact ⟨h1, h2⟩
    · rw [if_neg h2] at h; omega
  · rw [if_pos h1] at h; omega
theorem own_wt {w : World} {B V D Hd H L : Nat} {W : Wt} {bs : List Bk} {M : Mdl} (h : WOwn w B W bs M) (hl : bs.length = M.Ls.length) (hc : checkN V D Hd H L W bs = 0) : WtAt w V D H W bs M ∧ bs.length = L := by
  obtain ⟨h1, h2⟩ := check_shape hc
  unfold fitsB at h2
  simp only [Bool.and_eq_true, decide_eq_true_eq] at h2
  obtain ⟨⟨⟨⟨h3, h4⟩, h5⟩, h6⟩, h7⟩ := h2
  refine ⟨⟨mt_at h.e h3, h.b, hl, fun t x hx => ?_, sl_at h.l (by omega), mt_at h.o h4⟩, by have := h.b.len; omega⟩
  obtain ⟨y, g1, _, g2⟩ := h.ls t x hx
  have hb := List.all_eq_true.1 h7 x (List.mem_of_getElem? hx)
  unfold bkB at hb
  simp only [Bool.and_eq_true, decide_eq_true_eq] at hb
  obtain ⟨⟨⟨⟨⟨⟨⟨f1, f2⟩, f3⟩, f4⟩, f5⟩, f6⟩, f7⟩, f8⟩ := hb
  exact ⟨y, g1, sl_at g2.f (by omega), mt_at g2.q f3, mt_at g2.k f4, mt_at g2.v f5, mt_at g2.o f6, sl_at g2.s (by omega), mt_at g2.u f7, mt_at g2.d f8⟩
theorem own_good {w : World} {B V D Hd H L : Nat} {W : Wt} {bs : List Bk} {M : Mdl} (h : WOwn w B W bs M) (hl : bs.length = M.Ls.length) (hc : checkN V D Hd H L W bs = 0) : Good w V D Hd H L W bs M := by
  obtain ⟨h1, h2⟩ := own_wt h hl hc
  exact ⟨h1, h.ok, h2, (check_shape hc).1, hc⟩
theorem cutM_twice (k : Nat) (M : Mdl) : cutM 5000 k (cutM 100 k M) = cutM 100 k M := by
  have t2 : ∀ A : List Int, (A.take 2000).take 2000 = A.take 2000 := fun A => by rw [List.take_take]; rfl
  have t1 : ∀ A : List Int, (A.take 100).take 5000 = A.take 100 := fun A => by rw [List.take_take]; rfl
  have tl : ∀ y : Lay, cutL 5000 (cutL 100 y) = cutL 100 y := fun y => by unfold cutL; simp only [t1, t2]
  unfold cutM
  simp only [t1, t2, Mdl.mk.injEq, true_and, and_true]
  rw [List.take_of_length_le (by simp; omega), List.map_map]
  exact List.map_congr_left fun y _ => tl y
set_option maxRecDepth 100000 in
set_option maxHeartbeats 1600000 in
theorem full_no (C : Cfg) (hC : C.Ok) (W : Wt) (bs : List Bk) (ao : Option Addr) (n ca : Nat) (w : World) (hok : W.Ok) (hb0 : BlocksAt w W.b bs) (hq : checkN C.V C.D C.Hd C.H C.L W bs ≠ 0) :
   Calls Tryz.prog 26 #[.agg (cfgC C.V C.D C.Hd C.H C.L), .agg W.cells, .slice ao n ca] w fun e w' => e = .returned (.tuple #[.slice none 0 0, .agg #[.slice none 0 0, .slice none 0 0], .int .i64 (checkN C.V C.D C.Hd C.H C.L W bs)]) ∧ Below w.heap.size w w' := by
  have CK := fun (wv : World) (hb : Below w.heap.size w wv) => mcheck_any C hC W bs wv hok (hb0.below hb)
  have siz : W.cells.size = 8 := rfl
  have hq' : (checkN C.V C.D C.Hd C.H C.L W bs == 0) = false := by simpa using hq
  generalize checkN C.V C.D C.Hd C.H C.L W bs = q at *
  generalize hws : W.cells = ws at *
  unfold Cfg.val cfgC at CK
  unfold cfgC
  have X0 := blk_new w 23 #[.int .i64 C.V, .int .i64 C.D, .int .i64 C.Hd, .int .i64 C.H, .int .i64 C.L]
  have B0 : Below w.heap.size w (w.alloc (.cells #[.int .i64 C.V, .int .i64 C.D, .int .i64 C.Hd, .int .i64 C.H, .int .i64 C.L] 23)) := (Below.refl _ _).alloc (Nat.le_refl _) _
  have s0 : (w.alloc (.cells #[.int .i64 C.V, .int .i64 C.D, .int .i64 C.Hd, .int .i64 C.H, .int .i64 C.L] 23)).heap.size = w.heap.size + 1 := by simp
  generalize hw0 : w.alloc (.cells #[.int .i64 C.V, .int .i64 C.D, .int .i64 C.Hd, .int .i64 C.H, .int .i64 C.L] 23) = w0 at *
  have X1 := blk_new w0 29 ws
  have B1 : Below w0.heap.size w0 (w0.alloc (.cells ws 29)) := (Below.refl _ _).alloc (Nat.le_refl _) _
  have s1 : (w0.alloc (.cells ws 29)).heap.size = w0.heap.size + 1 := by simp
  rw [s0] at X1 s1
  generalize hw1 : w0.alloc (.cells ws 29) = w1 at *
  have X2 := blk_new w1 33 #[.slice none 0 0, .slice none 0 0]
  have B2 : Below w1.heap.size w1 (w1.alloc (.cells #[.slice none 0 0, .slice none 0 0] 33)) := (Below.refl _ _).alloc (Nat.le_refl _) _
  have s2 : (w1.alloc (.cells #[.slice none 0 0, .slice none 0 0] 33)).heap.size = w1.heap.size + 1 := by simp
  rw [s1] at X2 s2
  generalize hw2 : w1.alloc (.cells #[.slice none 0 0, .slice none 0 0] 33) = w2 at *
  replace X0 := (X0.below B1).below B2
  replace X1 := X1.below B2
  replace B2 := below_then (below_then B0 B1) B2
  have a0 : w2.cell? ⟨w.heap.size, 0, none⟩ = some (.int .i64 C.V) := X0.cell 0 rfl
  have a1 : w2.cell? ⟨w.heap.size, 1, none⟩ = some (.int .i64 C.D) := X0.cell 1 rfl
  have a2 : w2.cell? ⟨w.heap.size, 2, none⟩ = some (.int .i64 C.Hd) := X0.cell 2 rfl
  have a3 : w2.cell? ⟨w.heap.size, 3, none⟩ = some (.int .i64 C.H) := X0.cell 3 rfl
  have a4 : w2.cell? ⟨w.heap.size, 4, none⟩ = some (.int .i64 C.L) := X0.cell 4 rfl
  go_enter Tryz.func26, Tryz.ntmps26
  go_wp2_with (refine wpList_load_row rfl 29 _ rfl (w.heap.size + 1) rfl 29 ws (0, 0) _ X1 Tryz.underlying29 rfl (by rw [siz]; exact Tryz.infoW) ?_)
  refine (CK _ B2).mono ?_
  rintro e w3 ⟨rfl, B3⟩
  replace X0 := X0.below B3
  replace X1 := X1.below B3
  replace X2 := X2.below B3
  have D3 := below_then B2 B3
  clear a0 a1 a2 a3 a4 hw0 hw1 hw2 B0 B1 B2 B3 CK s0 s1 s2
  have hall : Array.all (#[.slice none 0 0, .slice none 0 0] : Array Value) (fun v => v.oneCell') = true := by simp [Value.oneCell']
  go_wp2_with (refine wpList_store_row rfl 33 _ _ rfl (w.heap.size + 1 + 1) #[.slice none 0 0, .slice none 0 0] rfl rfl 33 _ X2 Tryz.infoCa rfl hall ?_)
  refine bodyPost_ret (results_mid rfl _ _ (w.heap.size + 1 + 1) _ rfl (load_ca (X2.row _) rfl)) rfl ?_
  exact ⟨rfl, below_setRow D3 (by omega) _⟩
end Go.Proofs.YtmdjlaileakbeaaGreatDoor

/- The document's Shape. -/
namespace Go.Proofs.YtmdjlaileakbeaaGreatDoor
open Go.ChangeShapes Go.WideShapes Go.ChangeAt Go.RowKit
def cfA (V D Hd H L : Int) (k : Nat) : Int := match k with | 0 => V | 1 => D | 2 => Hd | 3 => H | _ => L
def leA (k : Nat) : Int := match k with | 0 => 2 | _ => 1
def moA (k : Nat) : Int := match k with | 0 => 64 | 1 => 32 | 2 => 4 | 3 => 64 | _ => 4
theorem lt5 {k : Nat} (h : k < 5) : k = 0 ∨ k = 1 ∨ k = 2 ∨ k = 3 ∨ k = 4 := by omega
theorem cfA_bd {V D Hd H L : Int} (b1 : I64 V) (b2 : I64 D) (b3 : I64 Hd) (b4 : I64 H) (b5 : I64 L) (k : Nat) : I64 (cfA V D Hd H L k) := by
  unfold cfA; split <;> assumption
theorem shape_low {V D Hd H L : Int} (k : Nat) (hk : k < 5) (h : cfA V D Hd H L k < leA k) : shapeN V D Hd H L = 1 := by
  unfold shapeN
  rw [if_pos]
  rcases lt5 hk with rfl | rfl | rfl | rfl | rfl <;> simp only [cfA, leA] at h <;> omega
theorem shape_high {V D Hd H L : Int} (hl : ∀ j, j < 5 → leA j ≤ cfA V D Hd H L j) (k : Nat) (hk : k < 5) (h : moA k < cfA V D Hd H L k) : shapeN V D Hd H L = 2 := by
  have h0 := hl 0 (by omega); have h1 := hl 1 (by omega); have h2 := hl 2 (by omega); have h3 := hl 3 (by omega); have h4 := hl 4 (by omega)
  simp only [cfA, leA] at h0 h1 h2 h3 h4
  unfold shapeN
  rw [if_neg (by omega), if_pos]
  rcases lt5 hk with rfl | rfl | rfl | rfl | rfl <;> simp only [cfA, moA] at h <;> omega
theorem shape_rest {V D Hd H L : Int} (hl : ∀ j, j < 5 → leA j ≤ cfA V D Hd H L j) (hm : ∀ j, j < 5 → cfA V D Hd H L j ≤ moA j) : (1 ≤ D ∧ D ≤ 32 ∧ 1 ≤ Hd ∧ Hd ≤ 4) ∧ shapeN V D Hd H L = if 0 < D.tmod Hd then 4 else 0 := by
  have h0 := hl 0 (by omega); have h1 := hl 1 (by omega); have h2 := hl 2 (by omega); have h3 := hl 3 (by omega); have h4 := hl 4 (by omega)
  have g0 := hm 0 (by omega); have g1 := hm 1 (by omega); have g2 := hm 2 (by omega); have g3 := hm 3 (by omega); have g4 := hm 4 (by omega)
  simp only [cfA, leA, moA] at h0 h1 h2 h3 h4 g0 g1 g2 g3 g4
  refine ⟨by omega, ?_⟩
  unfold shapeN
  rw [if_neg (by omega), if_neg (by omega)]
  have := Int.tmod_nonneg Hd (show 0 ≤ D by omega)
  by_cases h : D.tmod Hd ≠ 0
  · rw [if_pos h, if_pos (by omega)]
  · rw [if_neg h, if_neg (by omega)]
set_option maxHeartbeats 1600000 in
theorem rshape_any (V D Hd H L : Int) (w : World) (b1 : I64 V) (b2 : I64 D) (b3 : I64 Hd) (b4 : I64 H) (b5 : I64 L) :
   Calls Tryz.prog 40 #[.agg (cfgC V D Hd H L)] w fun e w' => e = .returned (.int .i64 (shapeN V D Hd H L)) ∧ Below w.heap.size w w' := by
  have X0 := blk_new w 23 (cfgC V D Hd H L)
  have B0 : Below w.heap.size w (w.alloc (.cells (cfgC V D Hd H L) 23)) := (Below.refl _ _).alloc (Nat.le_refl _) _
  have s0 : (w.alloc (.cells (cfgC V D Hd H L) 23)).heap.size = w.heap.size + 1 := by simp
  unfold cfgC at *
  generalize hw0 : w.alloc (.cells #[.int .i64 V, .int .i64 D, .int .i64 Hd, .int .i64 H, .int .i64 L] 23) = w0 at *
  have c0 : w0.cell? ⟨w.heap.size, 0, none⟩ = some (.int .i64 V) := X0.cell 0 rfl
  have c1 : w0.cell? ⟨w.heap.size, 1, none⟩ = some (.int .i64 D) := X0.cell 1 rfl
  have c2 : w0.cell? ⟨w.heap.size, 2, none⟩ = some (.int .i64 Hd) := X0.cell 2 rfl
  have c3 : w0.cell? ⟨w.heap.size, 3, none⟩ = some (.int .i64 H) := X0.cell 3 rfl
  have c4 : w0.cell? ⟨w.heap.size, 4, none⟩ = some (.int .i64 L) := X0.cell 4 rfl
  go_enter Tryz.func40, Tryz.ntmps40
  have X1 := blk_new w0 3 #[.int .i64 V, .int .i64 D, .int .i64 Hd, .int .i64 H, .int .i64 L]
  have B1 : Below w0.heap.size w0 (w0.alloc (.cells #[.int .i64 V, .int .i64 D, .int .i64 Hd, .int .i64 H, .int .i64 L] 3)) := (Below.refl _ _).alloc (Nat.le_refl _) _
  have s1 : (w0.alloc (.cells #[.int .i64 V, .int .i64 D, .int .i64 Hd, .int .i64 H, .int .i64 L] 3)).heap.size = w0.heap.size + 1 := by simp
  rw [s0] at X1 s1
  generalize hw1 : w0.alloc (.cells #[.int .i64 V, .int .i64 D, .int .i64 Hd, .int .i64 H, .int .i64 L] 3) = w1 at *
  have X2 := blk_new w1 3 #[.int .i64 2, .int .i64 1, .int .i64 1, .int .i64 1, .int .i64 1]
  have B2 : Below w1.heap.size w1 (w1.alloc (.cells #[.int .i64 2, .int .i64 1, .int .i64 1, .int .i64 1, .int .i64 1] 3)) := (Below.refl _ _).alloc (Nat.le_refl _) _
  have s2 : (w1.alloc (.cells #[.int .i64 2, .int .i64 1, .int .i64 1, .int .i64 1, .int .i64 1] 3)).heap.size = w1.heap.size + 1 := by simp
  rw [s1] at X2 s2
  generalize hw2 : w1.alloc (.cells #[.int .i64 2, .int .i64 1, .int .i64 1, .int .i64 1, .int .i64 1] 3) = w2 at *
  have X3 := blk_new w2 3 #[.int .i64 64, .int .i64 32, .int .i64 4, .int .i64 64, .int .i64 4]
  have B3 : Below w2.heap.size w2 (w2.alloc (.cells #[.int .i64 64, .int .i64 32, .int .i64 4, .int .i64 64, .int .i64 4] 3)) := (Below.refl _ _).alloc (Nat.le_refl _) _
  rw [s2] at X3
  generalize hw3 : w2.alloc (.cells #[.int .i64 64, .int .i64 32, .int .i64 4, .int .i64 64, .int .i64 4] 3) = w3 at *
  replace X0 := ((X0.below B1).below B2).below B3
  replace X1 := (X1.below B2).below B3
  replace X2 := X2.below B3
  replace B3 := below_then (below_then (below_then B0 B1) B2) B3
  go_wp2_with fail
  clear hw0 hw1 hw2 hw3 c0 c1 c2 c3 c4 B0 B1 B2 s0 s1 s2
  have HA : Hid (∀ v : World, Below w3.heap.size w3 v → ∀ k, k < 5 → v.cell? ⟨w.heap.size + 1, k, none⟩ = some (.int .i64 (cfA V D Hd H L k))) := fun v hv k hk => by rcases lt5 hk with rfl | rfl | rfl | rfl | rfl <;> exact (X1.below hv).cell _ rfl
  have HL : Hid (∀ v : World, Below w3.heap.size w3 v → ∀ k, k < 5 → v.cell? ⟨w.heap.size + 1 + 1, k, none⟩ = some (.int .i64 (leA k))) := fun v hv k hk => by rcases lt5 hk with rfl | rfl | rfl | rfl | rfl <;> exact (X2.below hv).cell _ rfl
  have HM : Hid (∀ v : World, Below w3.heap.size w3 v → ∀ k, k < 5 → v.cell? ⟨w.heap.size + 1 + 1 + 1, k, none⟩ = some (.int .i64 (moA k))) := fun v hv k hk => by rcases lt5 hk with rfl | rfl | rfl | rfl | rfl <;> exact (X3.below hv).cell _ rfl
  have HB : Hid (∀ k, I64 (cfA V D Hd H L k)) := fun k => cfA_bd b1 b2 b3 b4 b5 k
  clear X1 X2 X3
  go_loopg [23] 5 (fun r q wr => ∃ k : Nat, k ≤ 5 ∧ r = 5 - k ∧ q = .int .i64 k ∧ Below w3.heap.size w3 wr ∧ Hid (∀ j, j < k → leA j ≤ cfA V D Hd H L j))
  case atStart => exact ⟨0, by omega, rfl, rfl, Below.refl _ _, fun j hj => by omega⟩
  case round =>
    obtain ⟨k, hk, rfl, rfl, BR, HN⟩ := hrel
    by_cases hlt : k < 5
    · have a1 := HA.out wr BR k hlt
      have a2 := HL.out wr BR k hlt
      have hb := HB.out k
      have HS : Hid (cfA V D Hd H L k < leA k → shapeN V D Hd H L = 1) := fun h => shape_low k hlt h
      have HN2 : Hid (leA k ≤ cfA V D Hd H L k → ∀ j, j < k + 1 → leA j ≤ cfA V D Hd H L j) := fun h j hj => by
        rcases Nat.lt_or_ge j k with h1 | h1
        · exact HN.out j h1
        · obtain rfl : j = k := by omega
          exact h
      clear HN
      generalize cfA V D Hd H L k = a at *
      generalize leA k = b at *
      by_cases hab : a < b
      · have e1 : Hid (shapeN V D Hd H L = 1) := HS.out hab
        go_wp2_with fail
        go_quiet (fail)
        go_wp2_with fail
        go_ret
        exact ⟨by rw [e1.out]; rfl, below_then B3 (below_drewN BR _)⟩
      · go_wp2_with fail
        go_quiet (fail)
        go_wp2_with fail
        go_roundg (5 - (k + 1))
        case measure => omega
        case rel => exact ⟨k + 1, by omega, rfl, by go_num, below_drewN BR _, HN2.out (by omega)⟩
    · obtain rfl : k = 5 := by omega
      go_wp2_with fail
      clear hlt hk
      go_loopg [38] 5 (fun r q wr => ∃ k : Nat, k ≤ 5 ∧ r = 5 - k ∧ q = .int .i64 k ∧ Below w3.heap.size w3 wr ∧ Hid (∀ j, j < k → cfA V D Hd H L j ≤ moA j))
      case atStart => exact ⟨0, by omega, rfl, rfl, BR, fun j hj => by omega⟩
      case round =>
        clear BR
        obtain ⟨k, hk, rfl, rfl, BR, HN3⟩ := hrel
        by_cases hlt : k < 5
        · have a1 := HA.out wr BR k hlt
          have a2 := HM.out wr BR k hlt
          have hb := HB.out k
          have HS : Hid (moA k < cfA V D Hd H L k → shapeN V D Hd H L = 2) := fun h => shape_high HN.out k hlt h
          have HN2 : Hid (cfA V D Hd H L k ≤ moA k → ∀ j, j < k + 1 → cfA V D Hd H L j ≤ moA j) := fun h j hj => by
            rcases Nat.lt_or_ge j k with h1 | h1
            · exact HN3.out j h1
            · obtain rfl : j = k := by omega
              exact h
          clear HN3
          generalize cfA V D Hd H L k = a at *
          generalize moA k = b at *
          by_cases hab : b < a
          · have e1 : Hid (shapeN V D Hd H L = 2) := HS.out hab
            go_wp2_with fail
            go_quiet (fail)
            go_wp2_with fail
            go_ret
            exact ⟨by rw [e1.out]; rfl, below_then B3 (below_drewN BR _)⟩
          · go_wp2_with fail
            go_quiet (fail)
            go_wp2_with fail
            go_roundg (5 - (k + 1))
            case measure => omega
            case rel => exact ⟨k + 1, by omega, rfl, by go_num, below_drewN BR _, HN2.out (by omega)⟩
        · obtain rfl : k = 5 := by omega
          obtain ⟨hr, e0⟩ := shape_rest HN.out HN3.out
          obtain ⟨q, hq⟩ : ∃ q, Hid (shapeN V D Hd H L = q) := ⟨_, rfl⟩
          rw [hq.out] at e0
          have c1 : wr.cell? ⟨w.heap.size, 1, none⟩ = some (.int .i64 D) := (X0.below BR).cell 1 rfl
          have c2 : wr.cell? ⟨w.heap.size, 2, none⟩ = some (.int .i64 Hd) := (X0.below BR).cell 2 rfl
          clear HN HN3 HA HL HM HB
          have hz : (Hd == 0) = false := by simp; omega
          have t1 := Int.tmod_nonneg Hd (show 0 ≤ D by omega)
          have t2 := Int.tmod_lt_of_pos D (show 0 < Hd by omega)
          by_cases hm : 0 < D.tmod Hd
          · rw [if_pos hm] at e0
            have e3 : 0 < D % Hd := by rw [← Int.tmod_eq_emod_of_nonneg (by omega)]; exact hm
            replace e0 : Hid (q = 4) := e0
            go_wp2_with fail
            go_ret
            exact ⟨by rw [hq.out, e0.out]; rfl, below_then B3 BR⟩
          · rw [if_neg hm] at e0
            have e3 : ¬ 0 < D % Hd := by rw [← Int.tmod_eq_emod_of_nonneg (by omega)]; exact hm
            replace e0 : Hid (q = 0) := e0
            go_wp2_with fail
            go_ret
            exact ⟨by rw [hq.out, e0.out]; rfl, below_then B3 BR⟩
end Go.Proofs.YtmdjlaileakbeaaGreatDoor
