/- The given statement on ModelCopies: at every input the law returns true and its arguments read as before; no condition. -/
import Derived.Test.YtlghodjiiajapaaPk7
import Derived.Test.YtlghodjiiajapaaPk8
import Derived.Test.YtlghodjiiajapaaPk3
import Derived.Test.YtlghodjiiajapaaPk9
import Derived.Test.YtlghodjiiajapaaPk4
import Derived.Test.YtlghodjiiajapaaRows
import Derived.ProofKit
import Derived.Carry
import Derived.OpenShut
/- A copy is the same, and of its own: the walk. Laid by tools/genmcopies.py. -/
namespace Go.Proofs.Ytlghodjiiajapaa
open Go.ChangeShapes Go.WideShapes Go.ChangeAt Go.RowKit Go.Deep
theorem yields_row {ops : Array Oper} {S : World → Prop} {op : Oper} {a : Act} (hw : Region.wanted op (yielded ops a.tmps) = true) (ty : TypeId) (x : Operand) (ho : op.op = .load ty x)
    (g : Nat) (hx : a.eval x = .pointer (some ⟨g, 0, none⟩)) (T : TypeId) (cs : Array Value) (d : TypeDesc) (hS : ∀ w, S w → Blk w g T cs) (hu : Try.prog.underlying ty = some d) (hd : d.isRow = true) (hi : (Try.prog.info? ty).map (·.size) = some cs.size) :
    YieldsIf Try.prog ops S op (.agg cs) a := by
  have := yieldsIf_load_mid (P := Try.prog) (S := S) hw ty x ho g 0 hx cs.toList d (fun w h j v hv => by rw [Nat.zero_add]; exact (hS w h).cell j (by simpa using hv)) hu hd (by simpa using hi)
  simpa using this
theorem wt_one (W : Wt) : W.cells.all (·.oneCell') = true := by simp [Wt.cells, Sl.v, Value.oneCell']
structure Sides (x0 x : Bk) : Prop where
  q : x.q.r = x0.q.r ∧ x.q.c = x0.q.c
  k : x.k.r = x0.k.r ∧ x.k.c = x0.k.c
  v : x.v.r = x0.v.r ∧ x.v.c = x0.v.c
  o : x.o.r = x0.o.r ∧ x.o.c = x0.o.c
  u : x.u.r = x0.u.r ∧ x.u.c = x0.u.c
  d : x.d.r = x0.d.r ∧ x.d.c = x0.d.c
theorem BT.sides {w : World} {B : Nat} {x x' : Bk} {y : Lay} (h : BT w B x x' y) : Sides x x' := ⟨h.qs, h.ks, h.vs, h.os, h.us, h.ds⟩
theorem BT.self {w : World} {B : Nat} {x x' : Bk} {y : Lay} (h : BT w B x x' y) : BT w B x' x' y := ⟨h.f, h.q, h.k, h.v, h.o, h.s, h.u, h.d, ⟨rfl, rfl⟩, ⟨rfl, rfl⟩, ⟨rfl, rfl⟩, ⟨rfl, rfl⟩, ⟨rfl, rfl⟩, ⟨rfl, rfl⟩⟩
theorem sd_tr {a b c d e f : Int} (h : a = b ∧ c = d) (g : e = b ∧ f = d) : a = e ∧ c = f := ⟨h.1.trans g.1.symm, h.2.trans g.2.symm⟩
theorem Sides.meet {x0 x y : Bk} (h : Sides x0 x) (g : Sides x0 y) : Sides x y := ⟨sd_tr g.q h.q, sd_tr g.k h.k, sd_tr g.v h.v, sd_tr g.o h.o, sd_tr g.u h.u, sd_tr g.d h.d⟩
theorem Sides.trans {x y z : Bk} (h : Sides x y) (g : Sides y z) : Sides x z := ⟨⟨g.q.1.trans h.q.1, g.q.2.trans h.q.2⟩, ⟨g.k.1.trans h.k.1, g.k.2.trans h.k.2⟩, ⟨g.v.1.trans h.v.1, g.v.2.trans h.v.2⟩, ⟨g.o.1.trans h.o.1, g.o.2.trans h.o.2⟩, ⟨g.u.1.trans h.u.1, g.u.2.trans h.u.2⟩, ⟨g.d.1.trans h.d.1, g.d.2.trans h.d.2⟩⟩
theorem sl_same {w : World} {B1 B2 : Nat} {a b : Sl} {A : List Int} (h1 : FR w B1 a a.n A) (h2 : FR w B2 b b.n A) : SlSame w a b := by
  have e : b.n = a.n := by rw [← fr_len h1, ← fr_len h2]
  exact ⟨e, A, h1.row, by rw [← e]; exact h2.row⟩
theorem mt_same {w : World} {B1 B2 : Nat} {a b : Mt} {A : List Int} (hs : b.r = a.r ∧ b.c = a.c) (h1 : FR w B1 a.d a.d.n A) (h2 : FR w B2 b.d b.d.n A) : MtSame w a b := ⟨hs.1, hs.2, sl_same h1 h2⟩
theorem bk_same {w : World} {B1 B2 : Nat} {x0 x y0 y : Bk} {l : Lay} (hs : Sides x y) (h1 : BT w B1 x0 x l) (h2 : BT w B2 y0 y l) : BkSame w x y :=
  ⟨sl_same h1.f h2.f, mt_same hs.q h1.q h2.q, mt_same hs.k h1.k h2.k, mt_same hs.v h1.v h2.v, mt_same hs.o h1.o h2.o, sl_same h1.s h2.s, mt_same hs.u h1.u h2.u, mt_same hs.d h1.d h2.d⟩
/-- What Of hands out of what Told told of V. -/
structure WIn (w : World) (B k : Nat) (V : Wt) (bs : List Bk) (MM : Mdl) (W : Wt) (ys : List Bk) : Prop where
  own : WOwn w B W ys (cutM 5000 k (cutM 100 k MM))
  es : W.e.r = V.e.r ∧ W.e.c = V.e.c
  os : W.o.r = V.o.r ∧ W.o.c = V.o.c
  len : ys.length = k
  ss : ∀ (t : Nat) (x : Bk), ys[t]? = some x → ∃ x0, bs[t]? = some x0 ∧ Sides x0 x
theorem WIn.below {w w' : World} {B k : Nat} {V : Wt} {bs : List Bk} {MM : Mdl} {W : Wt} {ys : List Bk} (h : WIn w B k V bs MM W ys) (hb : Below w.heap.size w w') : WIn w' B k V bs MM W ys := ⟨h.own.below hb, h.es, h.os, h.len, h.ss⟩
theorem take_le (A : List Int) {n : Nat} (hn : n ≤ 5000) : (A.take n).length ≤ 5000 := by rw [List.length_take]; omega
theorem win_of {w1 w2 : World} {B1 B2 k : Nat} {V W3 W5 : Wt} {bs xs ys : List Bk} {MM : Mdl} (hV : V.Ok) (T1 : WTold w1 B1 100 k V W3 bs xs MM) (T3 : WTold w2 B2 5000 W3.b.n W3 W5 xs ys (cutM 100 k MM)) : WIn w2 B2 k V bs MM W5 ys := by
  have hk : W3.b.n = k := by rw [← T1.b.len, T1.ls.len]
  have hW3 := (T1.raw hV).ok
  have hW5 := (T3.raw hW3).ok
  have hR := T3.raw hW3
  rw [hk] at T3 hR
  refine ⟨⟨hW5, T3.e, T3.l, T3.o, T3.b, fun t x hx => ?_, take_le _ (by omega), take_le _ (by omega), take_le _ (by omega)⟩, ⟨T3.es.1.trans T1.es.1, T3.es.2.trans T1.es.2⟩, ⟨T3.os.1.trans T1.os.1, T3.os.2.trans T1.os.2⟩, T3.ls.len, fun t x hx => ?_⟩
  · obtain ⟨x1, y1, h1, h2, h3⟩ := T3.ls.at_ t x hx
    have ht : t < k := by have := (List.getElem?_eq_some_iff.1 hx).1; have := T3.ls.len; omega
    exact ⟨cutL 5000 y1, cutLs_at ht h2, ⟨take_le _ (by omega), take_le _ (by omega), take_le _ (by omega), take_le _ (by omega), take_le _ (by omega), take_le _ (by omega), take_le _ (by omega), take_le _ (by omega)⟩, h3.self⟩
  · obtain ⟨x1, y1, h1, h2, h3⟩ := T3.ls.at_ t x hx
    obtain ⟨x0, y0, g1, g2, g3⟩ := T1.ls.at_ t x1 h1
    exact ⟨x0, g1, g3.sides.trans h3.sides⟩
theorem same_full1 {w : World} {B B' b1 b2 : Nat} {W Wc : Wt} {ys zs : List Bk} {M : Mdl} {S1 S2 : Sl} (h1 : WCop w B W Wc ys zs M) (h2 : WOwn w B' W ys M) (o1 : OwnB w b1 S1 zs) (o2 : OwnB w b2 S2 ys) :
   Calls Try.prog 15 #[.agg (Wt.cells ⟨Wc.e, S1, Wc.l, Wc.o⟩), .agg (Wt.cells ⟨W.e, S2, W.l, W.o⟩)] w fun e w' => e = .returned (.bool true) ∧ Below w.heap.size w w' := by
  have l1 := o1.len
  have l2 := o2.len
  have l3 := h1.ls.len
  have l4 := h2.b.len
  refine same6_any ⟨Wc.e, S1, Wc.l, Wc.o⟩ ⟨W.e, S2, W.l, W.o⟩ zs ys w o1.blocks o2.blocks (by show S2.n = S1.n; omega) (mt_same ⟨h1.es.1.symm, h1.es.2.symm⟩ h1.e h2.e) (sl_same h1.l h2.l) (mt_same ⟨h1.os.1.symm, h1.os.2.symm⟩ h1.o h2.o) (fun t x y hx hy => ?_)
  obtain ⟨x0, l, g1, g2, _, _, g3⟩ := h1.ls.at_ t x hx
  obtain ⟨l', g4, _, g5⟩ := h2.ls t y hy
  rw [hy] at g1
  obtain rfl := Option.some.inj g1
  rw [g2] at g4
  obtain rfl := Option.some.inj g4
  exact bk_same (g3.sides.meet g5.sides) g3 g5
theorem same_full2 {w : World} {B B' b1 b2 k : Nat} {V W W' : Wt} {bs ys zs : List Bk} {MM : Mdl} {S1 S2 : Sl} (h1 : WIn w B k V bs MM W ys) (h2 : WIn w B' k V bs MM W' zs) (o1 : OwnB w b1 S1 ys) (o2 : OwnB w b2 S2 zs) :
   Calls Try.prog 15 #[.agg (Wt.cells ⟨W.e, S1, W.l, W.o⟩), .agg (Wt.cells ⟨W'.e, S2, W'.l, W'.o⟩)] w fun e w' => e = .returned (.bool true) ∧ Below w.heap.size w w' := by
  have l1 := o1.len
  have l2 := o2.len
  have l3 := h1.len
  have l4 := h2.len
  refine same6_any ⟨W.e, S1, W.l, W.o⟩ ⟨W'.e, S2, W'.l, W'.o⟩ ys zs w o1.blocks o2.blocks (by show S2.n = S1.n; omega) (mt_same (sd_tr h2.es h1.es) h1.own.e h2.own.e) (sl_same h1.own.l h2.own.l) (mt_same (sd_tr h2.os h1.os) h1.own.o h2.own.o) (fun t x y hx hy => ?_)
  obtain ⟨l, g1, _, g2⟩ := h1.own.ls t x hx
  obtain ⟨l', g3, _, g4⟩ := h2.own.ls t y hy
  rw [g1] at g3
  obtain rfl := Option.some.inj g3
  obtain ⟨x0, e0, s0⟩ := h1.ss t x hx
  obtain ⟨y0, e1, s1⟩ := h2.ss t y hy
  rw [e0] at e1
  obtain rfl := Option.some.inj e1
  exact bk_same (s0.meet s1) g2 g4
theorem WCop.below {w w' : World} {B : Nat} {W W' : Wt} {bs xs : List Bk} {M : Mdl} (h : WCop w B W W' bs xs M) (hb : Below w.heap.size w w') : WCop w' B W W' bs xs M :=
  ⟨h.e.below hb, h.es, h.l.below hb, h.o.below hb, h.os, h.bn, h.b.below hb, h.ls.map (fun h => h.below hb)⟩
set_option maxRecDepth 100000 in
set_option maxHeartbeats 6400000 in
theorem modelCopies_walk (V : Wt) (X : List Bk × Mdl) (at_ : Int) (w : World) (hV : WtR w V X.1 X.2) (_ : -9223372036854775808 ≤ at_ ∧ at_ ≤ 9223372036854775807) :
    Calls Try.prog 4 #[.agg V.cells, .int .i64 at_] w fun e w' => e = .returned (.bool true) ∧ Below w.heap.size w w' := by
  obtain ⟨bs, MM⟩ := X
  simp only at hV
  have hVok := hV.ok
  have X1 := blk_new w 29 V.cells
  have DB : Below w.heap.size w (w.alloc (.cells V.cells 29)) := (Below.refl _ _).alloc (Nat.le_refl _) _
  generalize hw1 : w.alloc (.cells V.cells 29) = w1 at *
  replace hV := hV.below DB
  have T0 := told6_any V bs MM w1 hV
  go_enter Try.func4, Try.ntmps4
  go_wp2_with (refine wpList_load_row rfl 29 _ rfl w.heap.size rfl 29 V.cells (0, 0) _ X1 Try.underlying29 rfl Try.infoW ?_)
  refine T0.mono ?_
  rintro e w2 ⟨W3, rfl, ⟨xs, T1⟩, B2⟩
  clear T0 hw1
  replace X1 := X1.below B2
  replace hV := hV.below B2
  replace DB := below_then DB B2
  have R1 := T1.raw hVok
  have hxl : xs.length ≤ 5 := by have := T1.ls.len; omega
  have T2 := of6_any W3 xs _ w2 R1 (by omega)
  clear B2
  go_wp2_with fail
  refine T2.mono ?_
  rintro e w4 ⟨W5, rfl, ⟨ys, T3⟩, B4⟩
  clear T2 R1
  have hI := win_of hVok T1 T3
  clear T1 T3
  replace X1 := X1.below B4
  replace hV := hV.below B4
  replace DB := below_then DB B4
  obtain ⟨ZE, X5, B5⟩ := var3e w4 29 #[.int .i64 0, .int .i64 0, .slice none 0 0, .slice none 0 0, .slice none 0 0, .int .i64 0, .int .i64 0, .slice none 0 0] W5.cells
  generalize hz1 : w4.alloc (.cells #[.int .i64 0, .int .i64 0, .slice none 0 0, .slice none 0 0, .slice none 0 0, .int .i64 0, .int .i64 0, .slice none 0 0] 29) = wz at *
  generalize hz2 : wz.setRow w4.heap.size W5.cells = w6 at *
  replace X1 := X1.below B5
  replace hV := hV.below B5
  replace hI := hI.below B5
  replace DB := below_then DB B5
  clear B4 B5 hxl
  obtain ⟨k, hk⟩ : ∃ k, min 5 V.b.n = k := ⟨_, rfl⟩
  have hk5 : k ≤ 5 := by omega
  rw [hk] at hI
  have hyl := hI.len
  have CP := modelCopy_any W5 ys _ _ w6 hI.own (by omega)
  go_wp2_with (first | (refine wpList_store_row rfl 29 _ _ rfl w4.heap.size W5.cells rfl rfl 29 _ ZE Try.infoW rfl (wt_one _) ?_; rw [hz2]) | (refine wpList_load_row rfl 29 _ rfl w4.heap.size rfl 29 W5.cells (0, 0) _ X5 Try.underlying29 rfl Try.infoW ?_))
  refine CP.mono ?_
  rintro e w7 ⟨Wc, rfl, ⟨zs, hC⟩, B7⟩
  clear CP hz1 hz2 ZE
  have HW6 : Hid (∀ wv, Below w6.heap.size w6 wv → Blk wv w.heap.size 29 V.cells ∧ Blk wv w4.heap.size 29 W5.cells ∧ WIn wv _ k V bs MM W5 ys ∧ WtR wv V bs MM) := fun wv hb => ⟨X1.below hb, X5.below hb, hI.below hb, hV.below hb⟩
  have hzl : zs.length = k := by have := hC.ls.len; have := hI.own.b.len; omega
  clear X1 hV
  replace X5 := X5.below B7
  replace hI := hI.below B7
  have D6 := DB
  replace DB := below_then DB B7
  obtain ⟨ZE, X7, B8⟩ := var3e w7 29 #[.int .i64 0, .int .i64 0, .slice none 0 0, .slice none 0 0, .slice none 0 0, .int .i64 0, .int .i64 0, .slice none 0 0] Wc.cells
  generalize hz1 : w7.alloc (.cells #[.int .i64 0, .int .i64 0, .slice none 0 0, .slice none 0 0, .slice none 0 0, .int .i64 0, .int .i64 0, .slice none 0 0] 29) = wz at *
  generalize hz2 : wz.setRow w7.heap.size Wc.cells = w8 at *
  replace X5 := X5.below B8
  replace hI := hI.below B8
  replace hC := hC.below B8
  replace DB := below_then DB B8
  have D8 := below_then B7 B8
  clear B7 B8
  go_wp2_with (refine wpList_store_row rfl 29 _ _ rfl w7.heap.size Wc.cells rfl rfl 29 _ ZE Try.infoW rfl (wt_one _) ?_; rw [hz2])
  clear hz1 hz2 ZE
  have BD : Below w8.heap.size w8 w8.drew := (Below.refl _ w8).drew
  replace X5 := X5.below BD
  replace X7 := X7.below BD
  replace hI := hI.below BD
  replace hC := hC.below BD
  replace DB := DB.drew
  replace D8 := D8.drew
  clear BD
  refine wp_region_held_drew (S := fun w' => Blk w' w4.heap.size 29 W5.cells ∧ Blk w' w7.heap.size 29 Wc.cells) (by kernel_rfl) (⟨X5, X7⟩) (fun hHeld => ?_)
  generalize hA : w8.drew = wA at *
  clear hA
  refine wpAnyH_take (i := 0) (v := .agg Wc.cells) rfl (by kernel_rfl) (by kernel_rfl) (by kernel_rfl) (fun _ _ _ h => h) (yields_row (by rfl) 29 _ rfl w7.heap.size rfl 29 Wc.cells _ (fun w' hS => hS.2) Try.underlying29 rfl Try.infoW) (by assumption) ?_
  simp only [List.getElem_toArray, List.getElem_cons_zero, Act.put, List.setIfInBounds_toArray, List.set_cons_zero, List.set_cons_succ]
  refine wpAnyH_take (i := 2) (v := .agg W5.cells) rfl (by kernel_rfl) (by kernel_rfl) (by kernel_rfl) (fun _ _ _ h => h) (yields_row (by rfl) 29 _ rfl w4.heap.size rfl 29 W5.cells _ (fun w' hS => hS.1) Try.underlying29 rfl Try.infoW) (by assumption) ?_
  simp only [List.getElem_toArray, List.getElem_cons_succ, List.getElem_cons_zero, Act.put, List.setIfInBounds_toArray, List.set_cons_zero, List.set_cons_succ]
  refine wpAnyH_ready (rs := [1]) (by kernel_rfl) (by simp) ?_
  refine AllReadyH.cons rfl (fun Kc hKc => ?_) AllReadyH.nil
  simp only [List.getElem_toArray, List.getElem_cons_succ, List.getElem_cons_zero]
  rw [if_pos (by rfl)]
  go_wp2_with fail
  refine (full_any Wc zs _ hC.b (by have := hC.b.len; omega)).mono ?_
  rintro e wB ⟨S1, rfl, O1, EM⟩
  replace X5 := X5.below EM
  replace X7 := X7.below EM
  replace hI := hI.below EM
  replace hC := hC.below EM
  replace DB := below_then DB EM
  replace D8 := below_then D8 EM
  clear EM
  go_wp2_with fail
  refine hKc.out _ _ (⟨X5, X7⟩) (fun hHeld => ?_)
  clear hKc Kc
  refine wpAnyH_ready (rs := [3]) (by kernel_rfl) (by simp) ?_
  refine AllReadyH.cons rfl (fun Kc hKc => ?_) AllReadyH.nil
  simp only [List.getElem_toArray, List.getElem_cons_succ, List.getElem_cons_zero]
  rw [if_pos (by rfl)]
  go_wp2_with fail
  refine (full_any W5 ys _ hI.own.b (by have := hI.own.b.len; omega)).mono ?_
  rintro e wC ⟨S2, rfl, O2, EM⟩
  replace X5 := X5.below EM
  replace X7 := X7.below EM
  replace hI := hI.below EM
  replace hC := hC.below EM
  replace DB := below_then DB EM
  replace D8 := below_then D8 EM
  replace O1 := O1.below EM
  clear EM
  go_wp2_with fail
  refine hKc.out _ _ (⟨X5, X7⟩) (fun hHeld => ?_)
  clear hKc Kc
  refine wpAnyH_ready (rs := [4]) (by kernel_rfl) (by simp) ?_
  refine AllReadyH.cons rfl (fun Kc hKc => ?_) AllReadyH.nil
  simp only [List.getElem_toArray, List.getElem_cons_succ, List.getElem_cons_zero]
  rw [if_pos (by rfl)]
  go_wp2_with fail
  refine (same_full1 hC hI.own O1 O2).mono ?_
  rintro e wD ⟨rfl, EM⟩
  replace X5 := X5.below EM
  replace X7 := X7.below EM
  replace hI := hI.below EM
  replace hC := hC.below EM
  replace DB := below_then DB EM
  replace D8 := below_then D8 EM
  clear O1 O2
  clear EM
  go_wp2_with fail
  refine hKc.out _ _ (⟨X5, X7⟩) (fun hHeld => ?_)
  clear hKc Kc
  refine wpAnyH_take (i := 5) (v := (.bool false)) rfl (by kernel_rfl) (by kernel_rfl) (by kernel_rfl) (fun _ _ _ h => h) (Or.inl ⟨by rfl, ?_⟩) (by assumption) ?_
  · intro w' hSw
    go_simp
  simp only [List.getElem_toArray, List.getElem_cons_succ, List.getElem_cons_zero, Act.put, List.setIfInBounds_toArray, List.set_cons_zero, List.set_cons_succ]
  refine wpAnyH_done (by kernel_rfl) ?_ _
  clear hHeld
  have hcs : ∀ x ∈ zs, BkO wD w6.heap.size x := fun x hx => by
    obtain ⟨t, ht, rfl⟩ := List.mem_iff_getElem.1 hx
    obtain ⟨_, _, _, _, _, _, h⟩ := hC.ls.at_ t _ (List.getElem?_eq_getElem ht)
    exact ⟨⟨_, h.f⟩, ⟨_, h.q⟩, ⟨_, h.k⟩, ⟨_, h.v⟩, ⟨_, h.o⟩, ⟨_, h.s⟩, ⟨_, h.u⟩, ⟨_, h.d⟩⟩
  have SP := spoil_any Wc zs w7.heap.size w6.heap.size at_ wD X7 hC.b (by omega) ⟨_, hC.e⟩ ⟨_, hC.l⟩ ⟨_, hC.o⟩ hcs D8.size
  clear hC hcs X5 X7 hI
  go_wp2_with fail
  refine SP.mono ?_
  rintro e wE ⟨rfl, B9⟩
  have D9 := D8.trans B9
  clear SP B9 D8 DB
  obtain ⟨X1, X5, hI, hV⟩ := HW6.out wE D9
  have DB := below_then D6 D9
  clear HW6 D6 D9
  go_wp2_with fail
  have BD : Below wE.heap.size wE wE.drew := (Below.refl _ wE).drew
  replace X1 := X1.below BD
  replace X5 := X5.below BD
  replace hI := hI.below BD
  replace hV := hV.below BD
  replace DB := DB.drew
  clear BD
  refine wp_region_held_drew (S := fun w' => Blk w' w.heap.size 29 V.cells ∧ Blk w' w4.heap.size 29 W5.cells) (by kernel_rfl) (⟨X1, X5⟩) (fun hHeld => ?_)
  generalize hA : wE.drew = wA2 at *
  clear hA
  refine wpAnyH_ready (rs := [0]) (by kernel_rfl) (by simp) ?_
  refine AllReadyH.cons rfl (fun Kc hKc => ?_) AllReadyH.nil
  simp only [List.getElem_toArray, List.getElem_cons_zero]
  rw [if_pos (by rfl)]
  go_wp2_with fail
  refine (awake6_any _).mono ?_
  rintro e wF ⟨rfl, EM⟩
  replace X1 := X1.below EM
  replace X5 := X5.below EM
  replace hI := hI.below EM
  replace hV := hV.below EM
  replace DB := below_then DB EM
  clear EM
  go_wp2_with fail
  refine hKc.out _ _ (⟨X1, X5⟩) (fun hHeld => ?_)
  clear hKc Kc
  refine wpAnyH_take (i := 1) (v := (.bool true)) rfl (by kernel_rfl) (by kernel_rfl) (by kernel_rfl) (fun _ _ _ h => h) (Or.inl ⟨by rfl, ?_⟩) (by assumption) ?_
  · intro w' hSw
    go_simp
  simp only [List.getElem_toArray, List.getElem_cons_succ, List.getElem_cons_zero, Act.put, List.setIfInBounds_toArray, List.set_cons_zero, List.set_cons_succ]
  refine wpAnyH_take (i := 2) (v := .agg W5.cells) rfl (by kernel_rfl) (by kernel_rfl) (by kernel_rfl) (fun _ _ _ h => h) (yields_row (by rfl) 29 _ rfl w4.heap.size rfl 29 W5.cells _ (fun w' hS => hS.2) Try.underlying29 rfl Try.infoW) (by assumption) ?_
  simp only [List.getElem_toArray, List.getElem_cons_succ, List.getElem_cons_zero, Act.put, List.setIfInBounds_toArray, List.set_cons_zero, List.set_cons_succ]
  refine wpAnyH_take (i := 4) (v := .agg V.cells) rfl (by kernel_rfl) (by kernel_rfl) (by kernel_rfl) (fun _ _ _ h => h) (yields_row (by rfl) 29 _ rfl w.heap.size rfl 29 V.cells _ (fun w' hS => hS.1) Try.underlying29 rfl Try.infoW) (by assumption) ?_
  simp only [List.getElem_toArray, List.getElem_cons_succ, List.getElem_cons_zero, Act.put, List.setIfInBounds_toArray, List.set_cons_zero, List.set_cons_succ]
  refine wpAnyH_ready (rs := [3]) (by kernel_rfl) (by simp) ?_
  refine AllReadyH.cons rfl (fun Kc hKc => ?_) AllReadyH.nil
  simp only [List.getElem_toArray, List.getElem_cons_succ, List.getElem_cons_zero]
  rw [if_pos (by rfl)]
  go_wp2_with fail
  refine (full_any W5 ys _ hI.own.b (by have := hI.own.b.len; omega)).mono ?_
  rintro e wG ⟨S3, rfl, O3, EM⟩
  replace X1 := X1.below EM
  replace X5 := X5.below EM
  replace hI := hI.below EM
  replace hV := hV.below EM
  replace DB := below_then DB EM
  clear EM
  go_wp2_with fail
  refine hKc.out _ _ (⟨X1, X5⟩) (fun hHeld => ?_)
  clear hKc Kc
  refine wpAnyH_ready (rs := [5]) (by kernel_rfl) (by simp) ?_
  refine AllReadyH.cons rfl (fun Kc hKc => ?_) AllReadyH.nil
  simp only [List.getElem_toArray, List.getElem_cons_succ, List.getElem_cons_zero]
  rw [if_pos (by rfl)]
  go_wp2_with fail
  refine (told6_any V bs MM _ hV).mono ?_
  rintro e wH ⟨W3', rfl, ⟨xs', T1⟩, EM⟩
  replace X1 := X1.below EM
  replace X5 := X5.below EM
  replace hI := hI.below EM
  replace hV := hV.below EM
  replace DB := below_then DB EM
  replace O3 := O3.below EM
  have R1 := T1.raw hVok
  have hxl : xs'.length ≤ 5 := by have := T1.ls.len; omega
  clear EM
  go_wp2_with fail
  refine hKc.out _ _ (⟨X1, X5⟩) (fun hHeld => ?_)
  clear hKc Kc
  refine wpAnyH_ready (rs := [6]) (by kernel_rfl) (by simp) ?_
  refine AllReadyH.cons rfl (fun Kc hKc => ?_) AllReadyH.nil
  simp only [List.getElem_toArray, List.getElem_cons_succ, List.getElem_cons_zero]
  rw [if_pos (by rfl)]
  go_wp2_with fail
  refine (of6_any W3' xs' _ _ R1 (by omega)).mono ?_
  rintro e wI ⟨W5', rfl, ⟨ys', T3⟩, EM⟩
  replace X1 := X1.below EM
  replace X5 := X5.below EM
  replace hI := hI.below EM
  replace hV := hV.below EM
  replace DB := below_then DB EM
  replace O3 := O3.below EM
  have hJ := win_of hVok T1 T3
  rw [hk] at hJ
  clear R1 T1 T3
  have hyl' := hJ.len
  clear EM
  go_wp2_with fail
  refine hKc.out _ _ (⟨X1, X5⟩) (fun hHeld => ?_)
  clear hKc Kc
  refine wpAnyH_ready (rs := [7]) (by kernel_rfl) (by simp) ?_
  refine AllReadyH.cons rfl (fun Kc hKc => ?_) AllReadyH.nil
  simp only [List.getElem_toArray, List.getElem_cons_succ, List.getElem_cons_zero]
  rw [if_pos (by rfl)]
  go_wp2_with fail
  refine (full_any W5' ys' _ hJ.own.b (by have := hJ.own.b.len; omega)).mono ?_
  rintro e wJ ⟨S4, rfl, O4, EM⟩
  replace X1 := X1.below EM
  replace X5 := X5.below EM
  replace hI := hI.below EM
  replace hV := hV.below EM
  replace DB := below_then DB EM
  replace O3 := O3.below EM
  replace hJ := hJ.below EM
  clear EM
  go_wp2_with fail
  refine hKc.out _ _ (⟨X1, X5⟩) (fun hHeld => ?_)
  clear hKc Kc
  refine wpAnyH_ready (rs := [8]) (by kernel_rfl) (by simp) ?_
  refine AllReadyH.cons rfl (fun Kc hKc => ?_) AllReadyH.nil
  simp only [List.getElem_toArray, List.getElem_cons_succ, List.getElem_cons_zero]
  rw [if_pos (by rfl)]
  go_wp2_with fail
  refine (same_full2 hI hJ O3 O4).mono ?_
  rintro e wK ⟨rfl, EM⟩
  replace X1 := X1.below EM
  replace X5 := X5.below EM
  replace hI := hI.below EM
  replace hV := hV.below EM
  replace DB := below_then DB EM
  clear EM
  go_wp2_with fail
  refine hKc.out _ _ (⟨X1, X5⟩) (fun hHeld => ?_)
  clear hKc Kc
  refine wpAnyH_take (i := 9) (v := (.bool true)) rfl (by kernel_rfl) (by kernel_rfl) (by kernel_rfl) (fun _ _ _ h => h) (Or.inl ⟨by rfl, ?_⟩) (by assumption) ?_
  · intro w' hSw
    go_simp
  simp only [List.getElem_toArray, List.getElem_cons_succ, List.getElem_cons_zero, Act.put, List.setIfInBounds_toArray, List.set_cons_zero, List.set_cons_succ]
  refine wpAnyH_take (i := 10) (v := (.bool true)) rfl (by kernel_rfl) (by kernel_rfl) (by kernel_rfl) (fun _ _ _ h => h) (Or.inl ⟨by rfl, ?_⟩) (by assumption) ?_
  · intro w' hSw
    go_simp
  simp only [List.getElem_toArray, List.getElem_cons_succ, List.getElem_cons_zero, Act.put, List.setIfInBounds_toArray, List.set_cons_zero, List.set_cons_succ]
  refine wpAnyH_done (by kernel_rfl) ?_ _
  clear hHeld
  go_wp2_with fail
  go_ret
  exact ⟨rfl, DB⟩
end Go.Proofs.Ytlghodjiiajapaa

/- The given statement on ModelCopies: at every input the law returns true and its arguments read as before; no condition. -/
namespace Go.Proofs.Ytlghodjiiajapaa.modelCopies
open Go.ChangeShapes Go.WideShapes Go.ChangeAt Go.RowKit
set_option linter.unusedVariables false
set_option maxRecDepth 100000 in
theorem lifted (os : Os) (started : os.Started) (H : Type) (enc : TypeId × Value → H) :
    ReturnsInHanded {} Try.checked os 4 .any (Rows.modelCopiesSpec.pre6 enc Try.prog Try.f4 Rows.modelCopiesRow.domain false) (Rows.modelCopiesSpec.post enc Try.prog Try.f4 false true false false) := by
  refine returnsInHanded_of_change (C := Try.checked) Try.own started (by kernel_rfl) Try.func4
    (ChangeSpec.witness6 (enc := enc) (C := Try.checked) false ⟨#[], #[.agg #[.int .i64 0, .int .i64 0, .slice none 0 0, .slice none 0 0, .slice none 0 0, .int .i64 0, .int .i64 0, .slice none 0 0], .int .i64 0], []⟩ 8 (by kernel_rfl) (by kernel_rfl) (by kernel_rfl) (by kernel_rfl)) ?_
  intro W base args ds gs before hval0 hW _ _
  have hval : ∀ (j : Nat) t v, Try.f4.params[j]? = some t → args[j]? = some v → Value.okWide Try.prog W .any base t v := hval0
  have hW' := hW
  obtain ⟨p, q, hA0, hV, rfl, _, _⟩ := hW
  have hA : DataW.TrodAll enc Try.prog W 0 (fun _ => true) true Try.f4.params.toList args.toList ds p := hA0
  rw [Try.params4] at hA hval
  obtain ⟨v0, vs0, d0, ds0, p0, q0, hargs, rfl, rfl, h0, r0⟩ := trodAll_cons hA
  obtain ⟨v1, vs1, d1, ds1, p1, q1, rfl, rfl, rfl, h1, r1⟩ := trodAll_cons r0
  obtain ⟨rfl, rfl, rfl⟩ := trodAll_nil r1
  obtain rfl : args = #[v0, v1] := by cases args; simp_all
  obtain ⟨rfl, rfl⟩ := trodVars_none hV
  have k0 := h0
  obtain ⟨vv0, X0, rfl, g0⟩ := viewWt (hval 0 _ v0 rfl rfl) h0
  have k1 := h1
  obtain ⟨a1, rfl, rfl, rfl, w1⟩ := open_int Try.underlying3 (hval 1 3 v1 rfl rfl) h1
  have b1 := bounds_i64 w1
  clear hA0 hval0
  simp only [List.append_nil] at hW'
  have hlt : ∀ x ∈ p0, x.block < W.heap.size := fun x hx => by
    have hx2 := hx
    exact hW'.lt x (by grind)
  refine (modelCopies_walk vv0 X0 a1 W g0 b1).mono fun e W' ⟨he, hb⟩ => ?_
  subst he
  exact ⟨_, rfl, _, _, _, [], _, [], hW', trodAll_mk1 (shut_bool Try.underlying4 true), trodAll_cons_mk (Below.trod Try.laidOut (by kernel_rfl) (of_decide_eq_true (by kernel_rfl)) k0 hb (fun x hx => hlt x (by simp [hx]))) (trodAll_cons_mk (shut_int Try.underlying3 w1) trodAll_mk0), rfl, hb.frame _, fun h => by cases h⟩
end Go.Proofs.Ytlghodjiiajapaa.modelCopies
namespace Go.Proofs.Ytlghodjiiajapaa
/-- The given statement. -/
theorem modelCopies_holds : Rows.ModelCopiesSaid :=
  OpenClaim.holds_of_wide 4 Try.f4 rfl rfl rfl rfl rfl rfl rfl ⟨rfl, rfl, rfl, rfl, rfl⟩ rfl rfl rfl rfl rfl (by kernel_rfl) Try.func4 (by kernel_rfl)
    (of_decide_eq_true (by kernel_rfl)) (by unfold Func.isWrapper; first | (rw [if_pos (by decide +kernel)]; kernel_rfl) | (rw [if_neg (by decide +kernel)]; exact ⟨rfl, rfl⟩))
    (fun os started H enc _ => modelCopies.lifted os started H enc)
#print axioms modelCopies_holds
end Go.Proofs.Ytlghodjiiajapaa
