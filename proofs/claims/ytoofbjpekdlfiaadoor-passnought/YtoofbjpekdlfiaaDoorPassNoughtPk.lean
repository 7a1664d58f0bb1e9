/- The given statement on PassNought: at every input the law returns true and its arguments read as before; the listed table lies as the program's text lays it (the card ties it). -/
import Derived.Test.YtoofbjpekdlfiaaDoorPk10
import Derived.Test.YtoofbjpekdlfiaaDoorPk11
import Derived.Test.YtoofbjpekdlfiaaDoorPk14
import Derived.Test.YtoofbjpekdlfiaaDoorPk6
import Derived.Test.YtoofbjpekdlfiaaDoorRows
import Derived.Test.YtoofbjpekdlfiaaDoorCards
import Derived.Test.YtoofbjpekdlfiaaDoorTie
import Derived.Test.YtoofbjpekdlfiaaDoorPk3
import Derived.ProofKit
import Derived.Carry
import Derived.LaidMore
import Derived.OpenShut
import Derived.Stop.Joined
import Derived.SevenTiedAt
/- A model whose last matrix is all noughts: the walk. Laid by tools/genpnought.py. -/
namespace Go.Proofs.YtoofbjpekdlfiaaDoor
open Go.ChangeShapes Go.WideShapes Go.ChangeAt Go.RowKit Go.Deep
theorem dsum_nil (A B : List Int) (k : Nat) (h : ∀ j, j < k → el A j = 0) : dsum A B k = 0 := by
  induction k with
  | zero => rfl
  | succ k ih => rw [dsum_succ, ih (fun j hj => h j (by omega)), h k (by omega), Int.zero_mul]; rfl
theorem likR_nil (M : Mdl) (V D : Nat) (X : List Int) (h : ∀ t, el M.O t = 0) : likR M V D X = tab V fun _ => 0 := by
  unfold likR apl
  refine tab_congr fun i _ => ?_
  unfold dotN
  rw [dsum_nil _ _ _ (fun j hj => by unfold rowN; rw [el_tab hj]; exact h _)]
  decide
theorem BkO.poke {w : World} {B g t : Nat} {x : Bk} {v : Int} (h : BkO w B x) (hv : -2147483648 ≤ v ∧ v ≤ 2147483647) : BkO (w.setCell ⟨g, t, none⟩ (.int .i32 v)) B x :=
  ⟨h.f.poke hv, h.q.poke hv, h.k.poke hv, h.v.poke hv, h.o.poke hv, h.s.poke hv, h.u.poke hv, h.d.poke hv⟩
theorem bk_noNum (x : Bk) : ∀ v ∈ x.cells.toList, ∀ z, v ≠ .int .i32 z := by
  intro v hv z hz
  subst hz
  simp [Bk.cells, bcs, Sl.v] at hv
theorem BlocksAt.poke {w : World} {b : Sl} {bs : List Bk} {g k : Nat} {z : Int} (h : BlocksAt w b bs) (hc : w.cell? ⟨g, k, none⟩ = some (.int .i32 z)) (v : Value) : BlocksAt (w.setCell ⟨g, k, none⟩ v) b bs := by
  refine ⟨h.len, h.max, h.ok, fun hn => ?_⟩
  obtain ⟨gb, ob, e, hh⟩ := h.cells hn
  refine ⟨gb, ob, e, fun t x hx j u hj => ?_⟩
  have c := hh t x hx j u hj
  rw [World.cell?_setCell_other _ _ _ _ (fun ha => ?_)]
  · exact c
  · rw [← ha, hc] at c
    exact bk_noNum x u (List.mem_of_getElem? hj) z (Option.some.inj c).symm
theorem lays_of {w : World} {B : Nat} {P : Bk → Lay → Prop} : ∀ ys : List Bk, (∀ x ∈ ys, ∃ y, P x y) → ∃ Ls : List Lay, Ls.length = ys.length ∧ ∀ (t : Nat) (x : Bk), ys[t]? = some x → ∃ y, Ls[t]? = some y ∧ P x y
  | [], _ => ⟨[], rfl, fun t x h => by simp at h⟩
  | x :: ys, h => by
    obtain ⟨y, hy⟩ := h x (by simp)
    obtain ⟨Ls, h1, h2⟩ := lays_of (w := w) (B := B) ys (fun z hz => h z (by simp [hz]))
    refine ⟨y :: Ls, by simp [h1], fun t z hz => ?_⟩
    cases t with
    | zero => simp at hz; subst hz; exact ⟨y, rfl, hy⟩
    | succ t => simp at hz; obtain ⟨y', g1, g2⟩ := h2 t z hz; exact ⟨y', by simpa using g1, g2⟩
theorem any_few {w0 w : World} {B0 B : Nat} {s : Sl} {A : List Int} (h0 : FR w0 B0 s s.n A) (h : A.length ≤ 5000) {A' : List Int} (h1 : FR w B s s.n A') : A'.length ≤ 5000 := by
  have := fr_len h0
  have := fr_len h1
  omega
theorem bko_lay {w0 w : World} {B0 B : Nat} {x : Bk} {y : Lay} (h0 : BT w0 B0 x x y) (hs : LySm y) (h : BkO w B x) : ∃ y', LySm y' ∧ BT w B x x y' := by
  obtain ⟨⟨f, hf⟩, ⟨q, hq⟩, ⟨k, hk⟩, ⟨v, hv⟩, ⟨o, ho⟩, ⟨s, hs'⟩, ⟨u, hu⟩, ⟨d, hd⟩⟩ := h
  exact ⟨⟨f, q, k, v, o, s, u, d⟩, ⟨any_few h0.f hs.f hf, any_few h0.q hs.q hq, any_few h0.k hs.k hk, any_few h0.v hs.v hv, any_few h0.o hs.o ho, any_few h0.s hs.s hs', any_few h0.u hs.u hu, any_few h0.d hs.d hd⟩,
    ⟨hf, hq, hk, hv, ho, hs', hu, hd, ⟨rfl, rfl⟩, ⟨rfl, rfl⟩, ⟨rfl, rfl⟩, ⟨rfl, rfl⟩, ⟨rfl, rfl⟩, ⟨rfl, rfl⟩⟩⟩
theorem fullK_head {M : Mdl} {D H Hd L : Nat} {A : List Int} (h : 1 ≤ L) : ∃ R, (fullK M D H Hd L A)[0]? = some R ∧ R.length = A.length := by
  refine ⟨keysR (layAt M 0) D (rowsL M D H Hd A 0), ?_, ?_⟩
  · unfold fullK
    rw [List.getElem?_map, List.getElem?_range (by omega)]; rfl
  · unfold keysR
    rw [List.length_map, rowsL_len]
set_option maxRecDepth 100000 in
set_option maxHeartbeats 32000000 in
theorem passNought_walk (C : Cfg) (VV : Wt) (X : List Bk × Mdl) (ao : Option Addr) (n ca : Nat) (A : List Int) (w : World) (h0 : C.Ok) (hV : WtR w VV X.1 X.2) (hA : IArg w ao n ca A) (hT : Tab w) :
    Calls Tryd.prog 4 #[C.val, .agg VV.cells, .slice ao n ca] w fun e w' => e = .returned (.bool true) ∧ Below w.heap.size w w' := by
  obtain ⟨bs, MM⟩ := X
  simp only at hV
  have hVok := hV.ok
  have HT : Hid (∀ wv, Below w.heap.size w wv → Tab wv) := fun wv hb => hT.next hb
  have CW := fun (wv : World) (hb : Below w.heap.size w wv) => raw8_any wv (HT.out wv hb)
  have CF1 := fun (lim : Nat) (hl : lim ≤ 4096) (wv : World) (hb : Below w.heap.size w wv) => few8_any ao n ca A lim wv (hA.below hb) hl
  have s1 : ∀ lim k, -9223372036854775808 ≤ el (A.take lim) k ∧ el (A.take lim) k ≤ 9223372036854775807 := fun lim k => by
    rcases Nat.lt_or_ge k lim with h | h
    · rw [el_take h]; exact hA.row.small k
    · rw [el_over (by rw [List.length_take]; omega)]; omega
  have CS := fun wv => small8_any C.V C.D C.Hd C.H C.L wv
  have FN := fun (W : Wt) bs ao n ca wv hok hb hq => full_no C h0 W bs ao n ca wv hok hb hq
  unfold Cfg.val at *
  have hu : ∀ C : Cfg, cfgC C.V C.D C.Hd C.H C.L = #[.int .i64 C.V, .int .i64 C.D, .int .i64 C.Hd, .int .i64 C.H, .int .i64 C.L] := fun _ => rfl
  simp only [hu] at CS FN ⊢
  clear hu h0 hT
  have X0 := blk_new w 23 #[.int .i64 C.V, .int .i64 C.D, .int .i64 C.Hd, .int .i64 C.H, .int .i64 C.L]
  have B0 : Below w.heap.size w (w.alloc (.cells #[.int .i64 C.V, .int .i64 C.D, .int .i64 C.Hd, .int .i64 C.H, .int .i64 C.L] 23)) := (Below.refl _ _).alloc (Nat.le_refl _) _
  generalize hw0 : w.alloc (.cells #[.int .i64 C.V, .int .i64 C.D, .int .i64 C.Hd, .int .i64 C.H, .int .i64 C.L] 23) = w0 at *
  have X1 := blk_new w0 29 VV.cells
  have B1 : Below w0.heap.size w0 (w0.alloc (.cells VV.cells 29)) := (Below.refl _ _).alloc (Nat.le_refl _) _
  generalize hw1 : w0.alloc (.cells VV.cells 29) = w1 at *
  replace X0 := X0.below B1
  have DB := below_then B0 B1
  replace hV := hV.below DB
  clear B0 B1 hA
  go_enter Tryd.func4, Tryd.ntmps4
  go_wp2_with fail
  refine (CF1 6 (by omega) _ DB).mono ?_
  rintro e w8 ⟨b1, kq, rfl, OI, B8⟩
  have s2 := s1 6
  generalize A.take 6 = P at *
  obtain ⟨l1, hl1⟩ : ∃ l1, P.length = l1 := ⟨_, rfl⟩
  have HL1 : Hid (P.length = l1) := hl1
  rw [hl1] at OI ⊢
  clear hl1
  obtain ⟨x1, y1, e1, I1⟩ := IOwn.arg OI s2
  simp only [Value.slice.injEq, true_and] at e1
  obtain ⟨rfl, rfl⟩ := e1
  clear OI s1 s2 CF1 hw0 hw1
  replace X0 := X0.below B8
  replace X1 := X1.below B8
  replace hV := hV.below B8
  replace DB := below_then DB B8
  clear B8
  have T0 := told6_any VV bs MM w8 hV
  go_wp2_with (refine wpList_load_row rfl 29 _ rfl w0.heap.size rfl 29 VV.cells (0, 0) _ X1 Tryd.underlying29 rfl Tryd.infoW ?_)
  refine T0.mono ?_
  rintro e w2 ⟨W3, rfl, ⟨xs, T1⟩, B2⟩
  clear T0 X1 hV
  replace X0 := X0.below B2
  replace I1 := I1.below B2
  replace DB := below_then DB B2
  have R1 := T1.raw hVok
  have hW3 := R1.ok
  have hxl : xs.length ≤ 5 := by have := T1.ls.len; omega
  have T2 := of6_any W3 xs _ w2 R1 (by omega)
  clear B2 R1 T1
  go_wp2_with fail
  refine T2.mono ?_
  rintro e w4 ⟨W5, rfl, ⟨ys, T3⟩, B4⟩
  clear T2
  obtain ⟨O5, hl5⟩ := own_told hW3 (by omega) T3
  generalize cutM 5000 W3.b.n _ = M0 at *
  have HF : Hid (∀ wv, Below w2.heap.size w2 wv → Blk wv w.heap.size 23 #[.int .i64 C.V, .int .i64 C.D, .int .i64 C.Hd, .int .i64 C.H, .int .i64 C.L] ∧ IArg wv (some ⟨b1, 0, none⟩) l1 kq P ∧ Below w.heap.size w wv) := fun wv hb => ⟨X0.below hb, I1.below hb, below_then DB hb⟩
  clear X0 I1 DB T3 hxl
  obtain ⟨ZE, X5, B5⟩ := var3e w4 29 #[.int .i64 0, .int .i64 0, .slice none 0 0, .slice none 0 0, .slice none 0 0, .int .i64 0, .int .i64 0, .slice none 0 0] W5.cells
  generalize hz1 : w4.alloc (.cells #[.int .i64 0, .int .i64 0, .slice none 0 0, .slice none 0 0, .slice none 0 0, .int .i64 0, .int .i64 0, .slice none 0 0] 29) = wz at *
  generalize hz2 : wz.setRow w4.heap.size W5.cells = w6 at *
  have KB := below_then B4 B5
  replace O5 := O5.below B5
  clear B4 B5
  obtain ⟨go, hgo, -, F0⟩ := O5.o
  obtain ⟨on, hon⟩ : ∃ n, W5.o.d.n = n := ⟨_, rfl⟩
  obtain ⟨oz, hoz⟩ : ∃ n, W5.o.d.c = n := ⟨_, rfl⟩
  rw [hon] at F0
  have hon2 : on ≤ 9223372036854775807 := by have := F0.fit; have := F0.max; omega
  have C7 : Hid (∀ wv, Blk wv w4.heap.size 29 W5.cells → wv.cell? ⟨w4.heap.size, 7, none⟩ = some (.slice (some ⟨go, 0, none⟩) on oz)) := fun wv h => by
    have : wv.cell? ⟨w4.heap.size, 7, none⟩ = some (.slice W5.o.d.ao W5.o.d.n W5.o.d.c) := h.cell 7 rfl
    rw [hgo, hon, hoz] at this
    exact this
  have c7 := C7.out _ X5
  have hbo : ∀ x ∈ ys, BkO w6 w2.heap.size x := fun x hx => by
    obtain ⟨t, ht, rfl⟩ := List.mem_iff_getElem.1 hx
    obtain ⟨y, _, _, h⟩ := O5.ls t _ (List.getElem?_eq_getElem ht)
    exact ⟨⟨_, h.f⟩, ⟨_, h.q⟩, ⟨_, h.k⟩, ⟨_, h.v⟩, ⟨_, h.o⟩, ⟨_, h.s⟩, ⟨_, h.u⟩, ⟨_, h.d⟩⟩
  have ho0 : FR w6 w2.heap.size W5.o.d on M0.O := by have := O5.o; rw [hon] at this; exact this
  go_wp2_with (refine wpList_store_row rfl 29 _ _ rfl w4.heap.size W5.cells rfl rfl 29 _ ZE Tryd.infoW rfl (wt_one _) ?_; rw [hz2])
  clear c7 hz1 hz2 ZE F0
  have H5 : Hid (WOwn w6 w2.heap.size W5 ys M0) := O5
  go_loopg [23] on (fun r i wr => ∃ k : Nat, k ≤ on ∧ r = on - k ∧ i = .int .i64 (k : Int) ∧ Blk wr w4.heap.size 29 W5.cells ∧ AnyR wr w2.heap.size W5.e.d ∧ AnyR wr w2.heap.size W5.l ∧ (∃ A0, FR wr w2.heap.size W5.o.d on A0 ∧ ∀ t, t < k → el A0 t = 0) ∧ BlocksAt wr W5.b ys ∧ (∀ x ∈ ys, BkO wr w2.heap.size x) ∧ Below w2.heap.size w2 wr)
  case atStart => exact ⟨0, by omega, by omega, rfl, X5, ⟨_, O5.e⟩, ⟨_, O5.l⟩, ⟨_, ho0, fun t ht => by omega⟩, O5.b, hbo, KB⟩
  case round =>
    clear X5 O5 hbo KB ho0
    obtain ⟨k, hk, rfl, rfl, X5, AE, AL, ⟨A0, FO, hz⟩, HBk, HBo, KB⟩ := hrel
    by_cases hlt : k < on
    · obtain ⟨go', e1, -, F⟩ := FO
      have e2 : go' = go := by
        rw [hgo] at e1
        simp only [Option.some.injEq, Addr.mk.injEq, and_true] at e1
        exact e1.symm
      subst e2
      have c7 := C7.out _ X5
      have ck := F.cell hlt
      have fk := F.frozen k
      have hne : go' ≠ w4.heap.size := F.ne X5 (by decide)
      go_wp2_with fail
      have X52 := Blk.of_block X5 (Below.heap_setCell wr ⟨go', k, none⟩ (.int .i32 0) w4.heap.size (fun h => hne h.symm))
      have AE2 := AE.poke (g := go') (t := k) (v := 0) (by omega)
      have AL2 := AL.poke (g := go') (t := k) (v := 0) (by omega)
      have F2 := F.set k 0 hlt (by omega)
      have hlA := F.len
      have HB2 := HBk.poke ck (.int .i32 0)
      have HO2 : ∀ x ∈ ys, BkO (wr.setCell ⟨go', k, none⟩ (.int .i32 0)) w2.heap.size x := fun x hx => (HBo x hx).poke (by omega)
      have KB2 := KB.setCell (p := ⟨go', k, none⟩) F.base (.int .i32 0)
      clear c7 ck fk
      go_roundg (on - (k + 1))
      case measure => omega
      case rel =>
        refine ⟨k + 1, by omega, rfl, by go_num, X52, AE2, AL2, ⟨_, ⟨go', hgo, hon, by rw [hoz]; rw [hoz] at F2; exact F2⟩, fun t ht => ?_⟩, HB2, HO2, KB2⟩
        rw [el_set (by omega)]
        by_cases e : t = k
        · rw [if_pos e]
        · rw [if_neg e]; exact hz t (by omega)
    · obtain rfl : k = on := by omega
      have hz2 : ∀ t, el A0 t = 0 := fun t => by
        by_cases h : t < k
        · exact hz t h
        · have := fr_len FO
          exact el_over (by omega)
      obtain ⟨Ae, he⟩ := AE
      obtain ⟨Al, hal⟩ := AL
      rw [← hon] at FO
      obtain ⟨Ls, q1, q2⟩ := lays_of (w := wr) (B := w2.heap.size) (P := fun x y => LySm y ∧ BT wr w2.heap.size x x y) ys (fun x hx => by
        obtain ⟨t, ht, rfl⟩ := List.mem_iff_getElem.1 hx
        obtain ⟨y, _, g1, g2⟩ := H5.out.ls t _ (List.getElem?_eq_getElem ht)
        exact bko_lay g2 g1 (HBo _ hx))
      have O6 : WOwn wr w2.heap.size W5 ys ⟨Ae, Ls, Al, A0⟩ := ⟨H5.out.ok, he, hal, FO, HBk, fun t x hx => q2 t x hx, any_few H5.out.e H5.out.se he, any_few H5.out.l H5.out.sl hal, any_few H5.out.o H5.out.so FO⟩
      have hl6 : ys.length = (⟨Ae, Ls, Al, A0⟩ : Mdl).Ls.length := q1.symm
      have LK := fun V D H Hd L A => likR_nil ⟨Ae, Ls, Al, A0⟩ V D (rowOf (rowsL ⟨Ae, Ls, Al, A0⟩ D H Hd A L) (A.length - 1)) hz2
      have hW5 := H5.out.ok
      obtain ⟨X0, I1, DB⟩ := HF.out wr KB
      clear he hal FO HBk HBo KB q1 q2 hz hz2 H5 HF C7
      generalize (⟨Ae, Ls, Al, A0⟩ : Mdl) = M at *
      rename World => wl
      by_cases hqc : checkN C.V C.D C.Hd C.H C.L W5 ys = 0
      rotate_left
      · have FF := FN W5 ys (some ⟨b1, 0, none⟩) l1 kq wl hW5 O6.b hqc
        generalize checkN C.V C.D C.Hd C.H C.L W5 ys = qc at *
        have hq2 : (qc != 0) = true := by simpa using hqc
        have a0 : wl.cell? ⟨w.heap.size, 0, none⟩ = some (.int .i64 C.V) := X0.cell 0 rfl
        have a1 : wl.cell? ⟨w.heap.size, 1, none⟩ = some (.int .i64 C.D) := X0.cell 1 rfl
        have a2 : wl.cell? ⟨w.heap.size, 2, none⟩ = some (.int .i64 C.Hd) := X0.cell 2 rfl
        have a3 : wl.cell? ⟨w.heap.size, 3, none⟩ = some (.int .i64 C.H) := X0.cell 3 rfl
        have a4 : wl.cell? ⟨w.heap.size, 4, none⟩ = some (.int .i64 C.L) := X0.cell 4 rfl
        go_wp2_with (refine wpList_load_row rfl 29 _ rfl w4.heap.size rfl 29 W5.cells (0, 0) _ X5 Tryd.underlying29 rfl Tryd.infoW ?_)
        refine FF.mono ?_
        rintro e w9 ⟨rfl, B9⟩
        replace DB := below_then DB B9
        clear a0 a1 a2 a3 a4 B9 FF X0 O6 I1
        obtain ⟨ZC, XC, BC⟩ := var3e w9 40 #[.slice none 0 0, .slice none 0 0] #[.slice none 0 0, .slice none 0 0]
        generalize hc1 : w9.alloc (.cells #[.slice none 0 0, .slice none 0 0] 40) = wz at *
        generalize hc2 : wz.setRow w9.heap.size #[.slice none 0 0, .slice none 0 0] = wa at *
        replace DB := below_then DB BC
        clear BC
        go_wp2_with (refine wpList_store_row rfl 40 _ _ rfl w9.heap.size #[.slice none 0 0, .slice none 0 0] rfl rfl 40 _ ZC Tryd.infoCa rfl (by simp [Value.oneCell']) ?_; rw [hc2])
        clear hc1 hc2 ZC XC X5
        go_wp2_with fail
        refine (CW _ DB).mono ?_
        rintro e wc ⟨rfl, B11⟩
        replace DB := below_then DB B11
        go_wp2_with fail
        go_ret
        exact ⟨rfl, DB⟩
      obtain ⟨hsh, -⟩ := check_shape hqc
      have hkk := shape_ok hsh
      clear FN
      obtain ⟨CV, CD, CHd, CH, CL⟩ := C
      simp only at *
      obtain ⟨V, rfl⟩ : ∃ n : Nat, CV = n := ⟨CV.toNat, by omega⟩
      obtain ⟨D, rfl⟩ : ∃ n : Nat, CD = n := ⟨CD.toNat, by omega⟩
      obtain ⟨Hd, rfl⟩ : ∃ n : Nat, CHd = n := ⟨CHd.toNat, by omega⟩
      obtain ⟨H, rfl⟩ : ∃ n : Nat, CH = n := ⟨CH.toNat, by omega⟩
      obtain ⟨L, rfl⟩ : ∃ n : Nat, CL = n := ⟨CL.toNat, by omega⟩
      have G5 := own_good O6 hl6 hqc
      clear hqc hl6 O6 hsh
      by_cases hqp : promptN V P = 0
      rotate_left
      · have FF := full_bad V D Hd H L W5 ys M (some ⟨b1, 0, none⟩) l1 kq P wl G5 I1 hqp
        unfold cfgC at FF
        generalize promptN V P = qp at *
        have hq2 : (qp != 0) = true := by simpa using hqp
        have a0 : wl.cell? ⟨w.heap.size, 0, none⟩ = some (.int .i64 (V : Int)) := X0.cell 0 rfl
        have a1 : wl.cell? ⟨w.heap.size, 1, none⟩ = some (.int .i64 (D : Int)) := X0.cell 1 rfl
        have a2 : wl.cell? ⟨w.heap.size, 2, none⟩ = some (.int .i64 (Hd : Int)) := X0.cell 2 rfl
        have a3 : wl.cell? ⟨w.heap.size, 3, none⟩ = some (.int .i64 (H : Int)) := X0.cell 3 rfl
        have a4 : wl.cell? ⟨w.heap.size, 4, none⟩ = some (.int .i64 (L : Int)) := X0.cell 4 rfl
        go_wp2_with (refine wpList_load_row rfl 29 _ rfl w4.heap.size rfl 29 W5.cells (0, 0) _ X5 Tryd.underlying29 rfl Tryd.infoW ?_)
        refine FF.mono ?_
        rintro e w9 ⟨rfl, B9⟩
        replace DB := below_then DB B9
        clear a0 a1 a2 a3 a4 B9 FF X0 G5 I1
        obtain ⟨ZC, XC, BC⟩ := var3e w9 40 #[.slice none 0 0, .slice none 0 0] #[.slice none 0 0, .slice none 0 0]
        generalize hc1 : w9.alloc (.cells #[.slice none 0 0, .slice none 0 0] 40) = wz at *
        generalize hc2 : wz.setRow w9.heap.size #[.slice none 0 0, .slice none 0 0] = wa at *
        replace DB := below_then DB BC
        clear BC
        go_wp2_with (refine wpList_store_row rfl 40 _ _ rfl w9.heap.size #[.slice none 0 0, .slice none 0 0] rfl rfl 40 _ ZC Tryd.infoCa rfl (by simp [Value.oneCell']) ?_; rw [hc2])
        clear hc1 hc2 ZC XC X5
        go_wp2_with fail
        refine (CW _ DB).mono ?_
        rintro e wc ⟨rfl, B11⟩
        replace DB := below_then DB B11
        go_wp2_with fail
        go_ret
        exact ⟨rfl, DB⟩
      have FF := full_ok V D Hd H L W5 ys M (some ⟨b1, 0, none⟩) l1 kq P wl G5 I1 (HT.out _ DB) hqp
      unfold cfgC at FF
      rw [show fullX M V D H Hd L P = tab V (fun _ => 0) from LK V D H Hd L P] at FF
      obtain ⟨R0, hR0, hR1⟩ := fullK_head (M := M) (D := D) (H := H) (Hd := Hd) (L := L) (A := P) (by omega)
      rw [HL1.out] at hR1
      generalize fullK M D H Hd L P = kF at *
      generalize fullV M D H Hd L P = vF at *
      clear LK
      have a0 : wl.cell? ⟨w.heap.size, 0, none⟩ = some (.int .i64 (V : Int)) := X0.cell 0 rfl
      have a1 : wl.cell? ⟨w.heap.size, 1, none⟩ = some (.int .i64 (D : Int)) := X0.cell 1 rfl
      have a2 : wl.cell? ⟨w.heap.size, 2, none⟩ = some (.int .i64 (Hd : Int)) := X0.cell 2 rfl
      have a3 : wl.cell? ⟨w.heap.size, 3, none⟩ = some (.int .i64 (H : Int)) := X0.cell 3 rfl
      have a4 : wl.cell? ⟨w.heap.size, 4, none⟩ = some (.int .i64 (L : Int)) := X0.cell 4 rfl
      go_wp2_with (refine wpList_load_row rfl 29 _ rfl w4.heap.size rfl 29 W5.cells (0, 0) _ X5 Tryd.underlying29 rfl Tryd.infoW ?_)
      refine FF.mono ?_
      rintro e w9 ⟨g, gK, gV, rfl, FX, NK, -, B9⟩
      replace X0 := X0.below B9
      replace I1 := I1.below B9
      replace DB := below_then DB B9
      clear a0 a1 a2 a3 a4 B9 FF G5
      have CK1 := NK.now
      clear NK
      obtain ⟨ZC, XC, BC⟩ := var3e w9 40 #[.slice none 0 0, .slice none 0 0] #[.slice (some ⟨gK, 0, none⟩) L L, .slice (some ⟨gV, 0, none⟩) L L]
      generalize hc1 : w9.alloc (.cells #[.slice none 0 0, .slice none 0 0] 40) = wz at *
      generalize hc2 : wz.setRow w9.heap.size #[.slice (some ⟨gK, 0, none⟩) L L, .slice (some ⟨gV, 0, none⟩) L L] = wa at *
      replace X0 := X0.below BC
      replace I1 := I1.below BC
      replace FX := FX.below BC
      replace CK1 := CK1.below BC
      replace DB := below_then DB BC
      clear BC
      have a0 : wa.cell? ⟨w.heap.size, 0, none⟩ = some (.int .i64 (V : Int)) := X0.cell 0 rfl
      have a1 : wa.cell? ⟨w.heap.size, 1, none⟩ = some (.int .i64 (D : Int)) := X0.cell 1 rfl
      have a2 : wa.cell? ⟨w.heap.size, 2, none⟩ = some (.int .i64 (Hd : Int)) := X0.cell 2 rfl
      have a3 : wa.cell? ⟨w.heap.size, 3, none⟩ = some (.int .i64 (H : Int)) := X0.cell 3 rfl
      have a4 : wa.cell? ⟨w.heap.size, 4, none⟩ = some (.int .i64 (L : Int)) := X0.cell 4 rfl
      go_wp2_with (refine wpList_store_row rfl 40 _ _ rfl w9.heap.size #[.slice (some ⟨gK, 0, none⟩) L L, .slice (some ⟨gV, 0, none⟩) L L] rfl rfl 40 _ ZC Tryd.infoCa rfl (by simp [Value.oneCell']) ?_; rw [hc2])
      refine (CS _).mono ?_
      rintro e wb ⟨rfl, B10⟩
      replace X0 := X0.below B10
      replace XC := XC.below B10
      replace I1 := I1.below B10
      replace FX := FX.below B10
      replace CK1 := CK1.below B10
      replace DB := below_then DB B10
      clear a0 a1 a2 a3 a4 B10 hc1 hc2 ZC X5 CS
      by_cases hs : smallN (D : Int) H L = 0
      · rw [hs]
        go_wp2_with fail
        refine (CW _ DB).mono ?_
        rintro e wc ⟨rfl, B11⟩
        replace DB := below_then DB B11
        go_wp2_with fail
        go_ret
        exact ⟨rfl, DB⟩
      have hs1 : smallN (D : Int) H L = 1 := by unfold smallN at hs ⊢; split at hs <;> simp_all
      rw [hs1]
      go_wp2_with fail
      go_loopg [50] V (fun r i wr => ∃ k : Nat, k ≤ V ∧ r = V - k ∧ i = .int .i64 (k : Int) ∧ wr = wb)
      case atStart => exact ⟨0, by omega, by omega, rfl, rfl⟩
      case round =>
        obtain ⟨k, hk, rfl, rfl, rfl⟩ := hrel
        by_cases hlt : k < V
        · have cx : wr.cell? ⟨g, k, none⟩ = some (.int .i32 0) := by have := FX.cell hlt; rw [el_tab hlt] at this; exact this
          go_wp2_with fail
          clear cx
          go_roundg (V - (k + 1))
          case measure => omega
          case rel => exact ⟨k + 1, by omega, rfl, by go_num, rfl⟩
        · obtain rfl : k = V := by omega
          go_wp2_with fail
          refine (CW _ DB).mono ?_
          rintro e wc ⟨rfl, B11⟩
          replace DB := below_then DB B11
          replace X0 := X0.below B11
          replace XC := XC.below B11
          replace CK1 := CK1.below B11
          clear B11 CW FX
          obtain ⟨bK, oK, eK, hK⟩ := CK1.cells (by omega)
          simp only [Option.some.injEq, Addr.mk.injEq, and_true] at eK
          obtain ⟨rfl, rfl⟩ := eK
          obtain ⟨ro, rm, rc, k1, _, _, _, GR⟩ := hK 0 R0 hR0
          have hrm : rm = l1 := by rw [← GR.len, hR1]
          subst hrm
          have c0 : wc.cell? ⟨w9.heap.size, 0, none⟩ = some (.slice (some ⟨gK, 0, none⟩) L L) := XC.cell 0 rfl
          have a0 : wc.cell? ⟨w.heap.size, 0, none⟩ = some (.int .i64 (k : Int)) := X0.cell 0 rfl
          have a4 : wc.cell? ⟨w.heap.size, 4, none⟩ = some (.int .i64 (L : Int)) := X0.cell 4 rfl
          simp only [Nat.add_zero] at k1
          have hL1 : 0 < L := by omega
          go_wp2_with fail
          go_ret
          exact ⟨rfl, DB⟩
end Go.Proofs.YtoofbjpekdlfiaaDoor

/- The given statement on PassNought: at every input the law returns true and its arguments read as before; the listed table lies as the program's text lays it (the card ties it). -/
namespace Go.Proofs.YtoofbjpekdlfiaaDoor.passNought
open Go.ChangeShapes Go.WideShapes Go.ChangeAt Go.WideMaps Go.WideElems Go.RowKit
set_option linter.unusedVariables false
abbrev lst : List (String × DataW Unit) := Rows.passNoughtRow.laid
theorem door_met (os : Os) (args : Array Value) : laidMetH Tryd.prog lst ((World.doorLaid Tryd.prog 14 os).forCall (fun _ _ => 0) ⟨#[], args, []⟩).memory :=
  laidMetH_of_parts3 (fuel := 8) (laidMet_of_run' 8 (by kernel_rfl) (by kernel_rfl)) (by kernel_rfl) (by kernel_rfl)
set_option maxRecDepth 100000 in
theorem lifted (os : Os) (started : os.Started) (H : Type) (enc : TypeId × Value → H) :
    ReturnsInHanded {} Tryd.checked os 4 .any (fun w args => (Rows.passNoughtSpec.pre enc Tryd.prog Tryd.f4 [] false w args ∧ laidMetH Tryd.prog lst w) ∧ sizedMet enc Tryd.prog Tryd.f4 (OpenSpec.ofChange Rows.passNoughtSpec) false w args)
      (Rows.passNoughtSpec.post enc Tryd.prog Tryd.f4 false true false false) := by
  refine returnsInHanded_of_change_and (C := Tryd.checked) (X := fun w _ => laidMetH Tryd.prog lst w) (fun _ _ _ hh h => h.of_heap hh) Tryd.own started (by kernel_rfl) Tryd.func4
    (ChangeSpec.witness_shaped (enc := enc) (C := Tryd.checked) (os := os) (X := fun w _ => laidMetH Tryd.prog lst w) false (World.doorLaid Tryd.prog 14 os) #[.agg #[.int .i64 0, .int .i64 0, .int .i64 0, .int .i64 0, .int .i64 0], .agg #[.int .i64 0, .int .i64 0, .slice none 0 0, .slice none 0 0, .slice none 0 0, .int .i64 0, .int .i64 0, .slice none 0 0], .slice none 0 0] 8 rfl (World.shaped_of_RefB (by kernel_rfl) (by kernel_rfl)) (by kernel_rfl) (by kernel_rfl) (by kernel_rfl) (door_met os _)) ?_
  intro W base args ds gs before hval0 hW _ _ hL _
  have hval : ∀ (j : Nat) t v, Tryd.f4.params[j]? = some t → args[j]? = some v → Value.okWide Tryd.prog W .any base t v := hval0
  have hW' := hW
  obtain ⟨p, q, hA0, hV, rfl, _, _⟩ := hW
  have hA : DataW.TrodAll enc Tryd.prog W 0 (fun _ => true) true Tryd.f4.params.toList args.toList ds p := hA0
  rw [Tryd.params4] at hA hval
  obtain ⟨v0, vs0, d0, ds0, p0, q0, hargs, rfl, rfl, h0, r0⟩ := trodAll_cons hA
  obtain ⟨v1, vs1, d1, ds1, p1, q1, rfl, rfl, rfl, h1, r1⟩ := trodAll_cons r0
  obtain ⟨v2, vs2, d2, ds2, p2, q2, rfl, rfl, rfl, h2, r2⟩ := trodAll_cons r1
  obtain ⟨rfl, rfl, rfl⟩ := trodAll_nil r2
  obtain rfl : args = #[v0, v1, v2] := by cases args; simp_all
  obtain ⟨rfl, rfl⟩ := trodVars_none hV
  have k0 := h0
  obtain ⟨C0, rfl, g0⟩ := viewCfg (hval 0 _ v0 rfl rfl) h0
  have k1 := h1
  obtain ⟨W1, X1, rfl, g1⟩ := viewWt (hval 1 _ v1 rfl rfl) h1
  have k2 := h2
  obtain ⟨a2, n2, c2, Z2, rfl, g2⟩ := viewI (hval 2 _ v2 rfl rfl) h2
  clear hA0 hval0
  simp only [List.append_nil] at hW'
  have hlt : ∀ x ∈ p0 ++ p1 ++ p2, x.block < W.heap.size := fun x hx => by
    have hx2 := hx
    exact hW'.lt x (by grind)
  refine (passNought_walk C0 W1 X1 a2 n2 c2 Z2 W g0 g1 g2 (tab_of_laid hL)).mono fun e W' ⟨he, hb⟩ => ?_
  subst he
  exact ⟨_, rfl, _, _, _, [], _, [], hW', trodAll_mk1 (shut_bool Tryd.underlying4 true), trodAll_cons_mk (Below.trod Tryd.laidOut (by kernel_rfl) (of_decide_eq_true (by kernel_rfl)) k0 hb (fun x hx => hlt x (by simp [hx]))) (trodAll_cons_mk (Below.trod Tryd.laidOut (by kernel_rfl) (of_decide_eq_true (by kernel_rfl)) k1 hb (fun x hx => hlt x (by simp [hx]))) (trodAll_cons_mk (Below.trod Tryd.laidOut (by kernel_rfl) (of_decide_eq_true (by kernel_rfl)) k2 hb (fun x hx => hlt x (by simp [hx]))) trodAll_mk0)), rfl, hb.frame _, fun h => by cases h⟩
theorem row_holds : Rows.PassNoughtSaid :=
  OpenClaim.holds_of_wide 4 Tryd.f4 rfl rfl rfl rfl rfl rfl rfl ⟨rfl, rfl, rfl, rfl, rfl⟩ rfl rfl rfl rfl rfl (by kernel_rfl) Tryd.func4 (by kernel_rfl)
    (of_decide_eq_true (by kernel_rfl)) (by unfold Func.isWrapper; first | (rw [if_pos (by decide +kernel)]; kernel_rfl) | (rw [if_neg (by decide +kernel)]; exact ⟨rfl, rfl⟩))
    (fun os started H enc _ => lifted os started H enc)
/-- The given statement. -/
theorem card_holds : Rows.PassNoughtCardSaid :=
  Claim7.holds_tied_plain_at .later [] [.data] true (true, "8fc685beb9700ae1c72465c1dc6a6d287f3347d1467f83ea936512e28609f545") false
    row_holds (fun _ h => by cases h) (by kernel_rfl) (fun _ h => by cases h) passNought_row_tie rfl ⟨rfl, rfl⟩ (by kernel_rfl) rfl
    (fun f fn hf hfn => by
      obtain rfl : f = 4 := Option.some.inj ((show Tryd.prog.funcNamed Rows.passNoughtRow.func = some 4 by kernel_rfl).symm.trans hf) |>.symm
      obtain rfl : fn = Tryd.f4 := (Option.some.inj (Tryd.func4.symm.trans hfn)).symm
      exact ⟨by kernel_rfl, fun j t ht => by
        rw [Tryd.params4] at ht
        have hm : t ∈ [23, 29, 30] := by simpa using Array.mem_of_getElem? ht
        have hall : ([23, 29, 30].all fun u => !Tryd.prog.wantsStandIn u) = true := by kernel_rfl
        exact (show Tryd.prog.wantsStandIn t = false by simpa using List.all_eq_true.1 hall t hm)⟩)
    (by kernel_rfl)
end Go.Proofs.YtoofbjpekdlfiaaDoor.passNought
namespace Go.Proofs.YtoofbjpekdlfiaaDoor
theorem passNought_holds : Rows.PassNoughtCardSaid := passNought.card_holds
#print axioms passNought_holds
end Go.Proofs.YtoofbjpekdlfiaaDoor
