/- Two models that are the same, number by number, are told the same. -/
import Derived.Test.YtklgaokhillinaaMdFull
import Derived.Test.YtklgaokhillinaaMatR
namespace Go.Proofs.Ytklgaokhillinaa
open Go.ChangeShapes Go.WideShapes Go.ChangeAt Go.RowKit
/-- Two rows that read alike. -/
structure SlSame (w : World) (a b : Sl) : Prop where
  n : b.n = a.n
  row : ∃ A, RowAt w a.ao a.n A ∧ RowAt w b.ao a.n A
structure MtSame (w : World) (a b : Mt) : Prop where
  r : b.r = a.r
  c : b.c = a.c
  d : SlSame w a.d b.d
structure BkSame (w : World) (a b : Bk) : Prop where
  f : SlSame w a.f b.f
  q : MtSame w a.q b.q
  k : MtSame w a.k b.k
  v : MtSame w a.v b.v
  o : MtSame w a.o b.o
  s : SlSame w a.s b.s
  u : MtSame w a.u b.u
  d : MtSame w a.d b.d
theorem SlSame.below {w w' : World} {a b : Sl} (h : SlSame w a b) (hb : Below w.heap.size w w') : SlSame w' a b := ⟨h.n, let ⟨A, x, y⟩ := h.row; ⟨A, x.below hb, y.below hb⟩⟩
theorem MtSame.below {w w' : World} {a b : Mt} (h : MtSame w a b) (hb : Below w.heap.size w w') : MtSame w' a b := ⟨h.r, h.c, h.d.below hb⟩
theorem BkSame.below {w w' : World} {a b : Bk} (h : BkSame w a b) (hb : Below w.heap.size w w') : BkSame w' a b := ⟨h.f.below hb, h.q.below hb, h.k.below hb, h.v.below hb, h.o.below hb, h.s.below hb, h.u.below hb, h.d.below hb⟩
theorem wide_any (ao : Option Addr) (n ca : Nat) (w : World) :
   Calls Try.prog 31 #[.slice ao n ca] w fun e w' => e = .returned (matV 1 n ao n ca) ∧ Below w.heap.size w w' := by
  go_enter Try.func31, Try.ntmps31
  go_wp2_with fail
  have X0 := box_new w 1 n ao n ca
  have B0 : Below w.heap.size w (w.alloc (.cells #[.int .i64 1, .int .i64 n, .slice ao n ca] 26)) := (Below.refl _ _).alloc (Nat.le_refl _) _
  refine bodyPost_ret (results_cell_row rfl _ _ w.heap.size _ _ _ _ rfl X0 Try.underlying26 rfl (by kernel_rfl)) rfl ?_
  exact ⟨rfl, B0⟩
theorem sl_same_nxt {w : World} {r c : Int} {ao bo : Option Addr} {n ca cb : Nat} (h : SlSame w ⟨ao, n, ca⟩ ⟨bo, n, cb⟩) (p : Nxt w) : Calls Try.prog 30 #[.agg #[.int .i64 r, .int .i64 c, .slice ao n ca], .agg #[.int .i64 r, .int .i64 c, .slice bo n cb]] p.to fun e w' => e = .returned (.bool true) ∧ ∃ q : Nxt w, w' = q.to := by
  obtain ⟨A, x, y⟩ := h.row
  exact calls_nxt (msame_any r c ao bo n ca cb A p.to (x.below p.ok) (y.below p.ok))
theorem wide_nxt {w : World} (ao : Option Addr) (n ca : Nat) (p : Nxt w) : Calls Try.prog 31 #[.slice ao n ca] p.to fun e w' => e = .returned (.agg #[.int .i64 1, .int .i64 n, .slice ao n ca]) ∧ ∃ q : Nxt w, w' = q.to := calls_nxt (wide_any ao n ca p.to)
set_option maxRecDepth 100000 in
set_option maxHeartbeats 6400000 in
theorem same6_any (W1 W2 : Wt) (bs1 bs2 : List Bk) (w : World) (hb1 : BlocksAt w W1.b bs1) (hb2 : BlocksAt w W2.b bs2) (hn : W2.b.n = W1.b.n) (he : MtSame w W1.e W2.e) (hl : SlSame w W1.l W2.l) (ho : MtSame w W1.o W2.o)
    (hB : ∀ (t : Nat) (x y : Bk), bs1[t]? = some x → bs2[t]? = some y → BkSame w x y) :
   Calls Try.prog 17 #[.agg W1.cells, .agg W2.cells] w fun e w' => e = .returned (.bool true) ∧ Below w.heap.size w w' := by
  obtain ⟨⟨er, ec, ⟨ea1, en, ez1⟩⟩, ⟨ba1, bn, bz1⟩, ⟨la1, ln, lz1⟩, ⟨gr, gc, ⟨ga1, gn, gz1⟩⟩⟩ := W1
  obtain ⟨⟨er', ec', ⟨ea2, en', ez2⟩⟩, ⟨ba2, bn', bz2⟩, ⟨la2, ln', lz2⟩, ⟨gr', gc', ⟨ga2, gn', gz2⟩⟩⟩ := W2
  simp only at hn
  have z1 := he.r
  have z2 := he.c
  have z3 := he.d.n
  have z4 := hl.n
  have z5 := ho.r
  have z6 := ho.c
  have z7 := ho.d.n
  simp only at z1 z2 z3 z4 z5 z6 z7
  obtain rfl := hn.symm
  obtain rfl := z1.symm
  obtain rfl := z2.symm
  obtain rfl := z3.symm
  obtain rfl := z4.symm
  obtain rfl := z5.symm
  obtain rfl := z6.symm
  obtain rfl := z7.symm
  have hmax := hb1.max
  have hlen1 := hb1.len
  have hlen2 := hb2.len
  simp only at hmax hlen1 hlen2
  show Calls Try.prog 17 #[.agg #[.int .i64 er, .int .i64 ec, .slice ea1 en ez1, .slice ba1 bn bz1, .slice la1 ln lz1, .int .i64 gr, .int .i64 gc, .slice ga1 gn gz1], .agg #[.int .i64 er, .int .i64 ec, .slice ea2 en ez2, .slice ba2 bn bz2, .slice la2 ln lz2, .int .i64 gr, .int .i64 gc, .slice ga2 gn gz2]] w _
  have X1 := blk_new w 33 #[.int .i64 er, .int .i64 ec, .slice ea1 en ez1, .slice ba1 bn bz1, .slice la1 ln lz1, .int .i64 gr, .int .i64 gc, .slice ga1 gn gz1]
  have B1 : Below w.heap.size w (w.alloc (.cells #[.int .i64 er, .int .i64 ec, .slice ea1 en ez1, .slice ba1 bn bz1, .slice la1 ln lz1, .int .i64 gr, .int .i64 gc, .slice ga1 gn gz1] 33)) := (Below.refl _ _).alloc (Nat.le_refl _) _
  have s1 : (w.alloc (.cells #[.int .i64 er, .int .i64 ec, .slice ea1 en ez1, .slice ba1 bn bz1, .slice la1 ln lz1, .int .i64 gr, .int .i64 gc, .slice ga1 gn gz1] 33)).heap.size = w.heap.size + 1 := by simp
  generalize hw1 : w.alloc (.cells #[.int .i64 er, .int .i64 ec, .slice ea1 en ez1, .slice ba1 bn bz1, .slice la1 ln lz1, .int .i64 gr, .int .i64 gc, .slice ga1 gn gz1] 33) = w1 at *
  have X2 := blk_new w1 33 #[.int .i64 er, .int .i64 ec, .slice ea2 en ez2, .slice ba2 bn bz2, .slice la2 ln lz2, .int .i64 gr, .int .i64 gc, .slice ga2 gn gz2]
  have B2 : Below w1.heap.size w1 (w1.alloc (.cells #[.int .i64 er, .int .i64 ec, .slice ea2 en ez2, .slice ba2 bn bz2, .slice la2 ln lz2, .int .i64 gr, .int .i64 gc, .slice ga2 gn gz2] 33)) := (Below.refl _ _).alloc (Nat.le_refl _) _
  rw [s1] at X2
  generalize hw2 : w1.alloc (.cells #[.int .i64 er, .int .i64 ec, .slice ea2 en ez2, .slice ba2 bn bz2, .slice la2 ln lz2, .int .i64 gr, .int .i64 gc, .slice ga2 gn gz2] 33) = w2 at *
  replace X1 := X1.below B2
  replace B2 := below_then B1 B2
  have c1 := sl_same_nxt (r := er) (c := ec) (he.d.below B2)
  have c2 := sl_same_nxt (r := gr) (c := gc) (ho.d.below B2)
  have c3 := sl_same_nxt (r := 1) (c := ln) (hl.below B2)
  have d1 := wide_nxt (w := w2) la1 ln lz1
  have d2 := wide_nxt (w := w2) la2 ln lz2
  have a1_0 : ∀ p : Nxt w2, p.to.cell? ⟨w.heap.size, 0, none⟩ = some (.int .i64 er) := fun p => (X1.below p.ok).cell 0 rfl
  have a1_1 : ∀ p : Nxt w2, p.to.cell? ⟨w.heap.size, 1, none⟩ = some (.int .i64 ec) := fun p => (X1.below p.ok).cell 1 rfl
  have a1_2 : ∀ p : Nxt w2, p.to.cell? ⟨w.heap.size, 2, none⟩ = some (.slice ea1 en ez1) := fun p => (X1.below p.ok).cell 2 rfl
  have a1_3 : ∀ p : Nxt w2, p.to.cell? ⟨w.heap.size, 3, none⟩ = some (.slice ba1 bn bz1) := fun p => (X1.below p.ok).cell 3 rfl
  have a1_4 : ∀ p : Nxt w2, p.to.cell? ⟨w.heap.size, 4, none⟩ = some (.slice la1 ln lz1) := fun p => (X1.below p.ok).cell 4 rfl
  have a1_5 : ∀ p : Nxt w2, p.to.cell? ⟨w.heap.size, 5, none⟩ = some (.int .i64 gr) := fun p => (X1.below p.ok).cell 5 rfl
  have a1_6 : ∀ p : Nxt w2, p.to.cell? ⟨w.heap.size, 6, none⟩ = some (.int .i64 gc) := fun p => (X1.below p.ok).cell 6 rfl
  have a1_7 : ∀ p : Nxt w2, p.to.cell? ⟨w.heap.size, 7, none⟩ = some (.slice ga1 gn gz1) := fun p => (X1.below p.ok).cell 7 rfl
  have a2_0 : ∀ p : Nxt w2, p.to.cell? ⟨w.heap.size + 1, 0, none⟩ = some (.int .i64 er) := fun p => (X2.below p.ok).cell 0 rfl
  have a2_1 : ∀ p : Nxt w2, p.to.cell? ⟨w.heap.size + 1, 1, none⟩ = some (.int .i64 ec) := fun p => (X2.below p.ok).cell 1 rfl
  have a2_2 : ∀ p : Nxt w2, p.to.cell? ⟨w.heap.size + 1, 2, none⟩ = some (.slice ea2 en ez2) := fun p => (X2.below p.ok).cell 2 rfl
  have a2_3 : ∀ p : Nxt w2, p.to.cell? ⟨w.heap.size + 1, 3, none⟩ = some (.slice ba2 bn bz2) := fun p => (X2.below p.ok).cell 3 rfl
  have a2_4 : ∀ p : Nxt w2, p.to.cell? ⟨w.heap.size + 1, 4, none⟩ = some (.slice la2 ln lz2) := fun p => (X2.below p.ok).cell 4 rfl
  have a2_5 : ∀ p : Nxt w2, p.to.cell? ⟨w.heap.size + 1, 5, none⟩ = some (.int .i64 gr) := fun p => (X2.below p.ok).cell 5 rfl
  have a2_6 : ∀ p : Nxt w2, p.to.cell? ⟨w.heap.size + 1, 6, none⟩ = some (.int .i64 gc) := fun p => (X2.below p.ok).cell 6 rfl
  have a2_7 : ∀ p : Nxt w2, p.to.cell? ⟨w.heap.size + 1, 7, none⟩ = some (.slice ga2 gn gz2) := fun p => (X2.below p.ok).cell 7 rfl
  have ne := nxt_ne w2
  go_enter Try.func17, Try.ntmps17
  go_wp2_with fail
  refine wp_region_nxt (by kernel_rfl) (by kernel_rfl) ?_
  repeat (first | go_big_quiet_skip | (go_big_quiet_want; go_big_quiet_op; first | go_big_quiet_on | (apply Exists.intro; refine ⟨fun pq => ?_, ?_⟩; (first | (go_at_call_of 30 ea1; exact c1 _) | (go_at_call_of 30 ga1; exact c2 _) | (go_at_call_of 30 la1; exact c3 _) | (go_at_call_of 31 la1; exact d1 _) | (go_at_call_of 31 la2; exact d2 _)); go_big_quiet_on)))
  refine wpQuiet_nil ?_
  intro w3 hw'
  obtain ⟨⟨w3', B3⟩, hw''⟩ := hw'
  subst hw''
  replace X1 := X1.below B3
  replace X2 := X2.below B3
  replace B3 := below_then B2 B3
  clear c1 c2 c3 d1 d2 a1_0 a1_1 a1_2 a1_3 a1_4 a1_5 a1_6 a1_7 a2_0 a2_1 a2_2 a2_3 a2_4 a2_5 a2_6 a2_7 hw1 hw2 s1 B1 B2 ne
  have HB1 : Hid (∀ wv, Below w.heap.size w wv → BlocksAt wv ⟨ba1, bn, bz1⟩ bs1) := fun wv h => hb1.below h
  have HB2 : Hid (∀ wv, Below w.heap.size w wv → BlocksAt wv ⟨ba2, bn, bz2⟩ bs2) := fun wv h => hb2.below h
  have HS : Hid (∀ (t : Nat) (x y : Bk), bs1[t]? = some x → bs2[t]? = some y → BkSame w x y) := hB
  clear hb1 hb2 hB he hl ho
  have e3 : w3.cell? ⟨w.heap.size, 3, none⟩ = some (.slice ba1 bn bz1) := X1.cell 3 rfl
  go_wp2_with fail
  clear e3
  go_loopg [44] bn (fun r i wr => ∃ t : Nat, t ≤ bn ∧ r = bn - t ∧ i = .int .i64 t ∧ Blk wr (w.heap.size + 1) 33 #[.int .i64 er, .int .i64 ec, .slice ea2 en ez2, .slice ba2 bn bz2, .slice la2 ln lz2, .int .i64 gr, .int .i64 gc, .slice ga2 gn gz2] ∧ Below w.heap.size w wr)
  case atStart => exact ⟨0, by omega, by omega, rfl, X2, B3⟩
  case round =>
    clear X1 X2 B3
    obtain ⟨t, ht, rfl, rfl, X2, B4⟩ := hrel
    by_cases hlt : t < bn
    · obtain ⟨x, hx⟩ : ∃ x, bs1[t]? = some x := ⟨_, List.getElem?_eq_getElem (by omega)⟩
      obtain ⟨y, hy⟩ : ∃ y, bs2[t]? = some y := ⟨_, List.getElem?_eq_getElem (by omega)⟩
      have K := HS.out t x y hx hy
      obtain ⟨g1, o1, e1, hc1⟩ := (HB1.out _ B4).cells (by show 0 < bn; omega)
      simp only at e1
      subst e1
      have r1 := hc1 t x hx
      clear hc1
      obtain ⟨cs1, hcs1⟩ : ∃ cs, x.cells = cs := ⟨_, rfl⟩
      obtain ⟨cs2, hcs2⟩ : ∃ cs, y.cells = cs := ⟨_, rfl⟩
      have one1 := bk_one x
      have siz1 := bk_size x
      have one2 := bk_one y
      have siz2 := bk_size y
      rw [hcs1] at one1 siz1 r1
      rw [hcs2] at one2 siz2
      have HL1 : Hid (cs1.toList.toArray = cs1) := by show _ = _; simp
      have HL2 : Hid (cs2.toList.toArray = cs2) := by show _ = _; simp
      have XZ1 := blk_new wr 61 #[.slice none 0 0, .int .i64 0, .int .i64 0, .slice none 0 0, .int .i64 0, .int .i64 0, .slice none 0 0, .int .i64 0, .int .i64 0, .slice none 0 0, .int .i64 0, .int .i64 0, .slice none 0 0, .slice none 0 0, .int .i64 0, .int .i64 0, .slice none 0 0, .int .i64 0, .int .i64 0, .slice none 0 0]
      have BZ1 : Below wr.heap.size wr (wr.alloc (.cells #[.slice none 0 0, .int .i64 0, .int .i64 0, .slice none 0 0, .int .i64 0, .int .i64 0, .slice none 0 0, .int .i64 0, .int .i64 0, .slice none 0 0, .int .i64 0, .int .i64 0, .slice none 0 0, .slice none 0 0, .int .i64 0, .int .i64 0, .slice none 0 0, .int .i64 0, .int .i64 0, .slice none 0 0] 61)) := (Below.refl _ _).alloc (Nat.le_refl _) _
      generalize hwz1 : wr.alloc (.cells #[.slice none 0 0, .int .i64 0, .int .i64 0, .slice none 0 0, .int .i64 0, .int .i64 0, .slice none 0 0, .int .i64 0, .int .i64 0, .slice none 0 0, .int .i64 0, .int .i64 0, .slice none 0 0, .slice none 0 0, .int .i64 0, .int .i64 0, .slice none 0 0, .int .i64 0, .int .i64 0, .slice none 0 0] 61) = wz1 at *
      have XR1 := XZ1.row cs1
      have BR1 := below_setRow BZ1 (Nat.le_refl _) cs1
      generalize hwy1 : wz1.setRow wr.heap.size cs1 = wy1 at *
      rw [← hcs1] at XR1
      have X2y := X2.below BR1
      have BY1 := below_then B4 BR1
      obtain ⟨g2, o2, e2, hc2⟩ := (HB2.out _ BY1).cells (by show 0 < bn; omega)
      simp only at e2
      subst e2
      have r2 := hc2 t y hy
      rw [hcs2] at r2
      clear hc2
      have q3 : wy1.cell? ⟨w.heap.size + 1, 3, none⟩ = some (.slice (some ⟨g2, o2, none⟩) bn bz2) := X2y.cell 3 rfl
      have XZ2 := blk_new wy1 61 #[.slice none 0 0, .int .i64 0, .int .i64 0, .slice none 0 0, .int .i64 0, .int .i64 0, .slice none 0 0, .int .i64 0, .int .i64 0, .slice none 0 0, .int .i64 0, .int .i64 0, .slice none 0 0, .slice none 0 0, .int .i64 0, .int .i64 0, .slice none 0 0, .int .i64 0, .int .i64 0, .slice none 0 0]
      have BZ2 : Below wy1.heap.size wy1 (wy1.alloc (.cells #[.slice none 0 0, .int .i64 0, .int .i64 0, .slice none 0 0, .int .i64 0, .int .i64 0, .slice none 0 0, .int .i64 0, .int .i64 0, .slice none 0 0, .int .i64 0, .int .i64 0, .slice none 0 0, .slice none 0 0, .int .i64 0, .int .i64 0, .slice none 0 0, .int .i64 0, .int .i64 0, .slice none 0 0] 61)) := (Below.refl _ _).alloc (Nat.le_refl _) _
      generalize hwz2 : wy1.alloc (.cells #[.slice none 0 0, .int .i64 0, .int .i64 0, .slice none 0 0, .int .i64 0, .int .i64 0, .slice none 0 0, .int .i64 0, .int .i64 0, .slice none 0 0, .int .i64 0, .int .i64 0, .slice none 0 0, .slice none 0 0, .int .i64 0, .int .i64 0, .slice none 0 0, .int .i64 0, .int .i64 0, .slice none 0 0] 61) = wz2 at *
      have XR2 := XZ2.row cs2
      have BR2 := below_setRow BZ2 (Nat.le_refl _) cs2
      generalize hwy2 : wz2.setRow wy1.heap.size cs2 = wy2 at *
      rw [← hcs2] at XR2
      have X2z := X2y.below BR2
      have XR1z := XR1.below BR2
      have BY2 := below_then BY1 BR2
      replace K := K.below BY2
      obtain ⟨⟨fa1, fn, fz1⟩, ⟨qr, qc, ⟨qa1, qn, qz1⟩⟩, ⟨kr, kc, ⟨ka1, kn, kz1⟩⟩, ⟨vr, vc, ⟨va1, vn, vz1⟩⟩, ⟨or, oc, ⟨oa1, on, oz1⟩⟩, ⟨sa1, sn, sz1⟩, ⟨ur, uc, ⟨ua1, un, uz1⟩⟩, ⟨dr, dc, ⟨da1, dn, dz1⟩⟩⟩ := x
      obtain ⟨⟨fa2, fn2, fz2⟩, ⟨qr2, qc2, ⟨qa2, qn2, qz2⟩⟩, ⟨kr2, kc2, ⟨ka2, kn2, kz2⟩⟩, ⟨vr2, vc2, ⟨va2, vn2, vz2⟩⟩, ⟨or2, oc2, ⟨oa2, on2, oz2⟩⟩, ⟨sa2, sn2, sz2⟩, ⟨ur2, uc2, ⟨ua2, un2, uz2⟩⟩, ⟨dr2, dc2, ⟨da2, dn2, dz2⟩⟩⟩ := y
      obtain ⟨Kf, Kq, Kk, Kv, Ko, Ks, Ku, Kd⟩ := K
      obtain rfl : fn2 = fn := Kf.n
      obtain rfl : sn2 = sn := Ks.n
      obtain rfl : qr2 = qr := Kq.r
      obtain rfl : qc2 = qc := Kq.c
      obtain rfl : qn2 = qn := Kq.d.n
      obtain rfl : kr2 = kr := Kk.r
      obtain rfl : kc2 = kc := Kk.c
      obtain rfl : kn2 = kn := Kk.d.n
      obtain rfl : vr2 = vr := Kv.r
      obtain rfl : vc2 = vc := Kv.c
      obtain rfl : vn2 = vn := Kv.d.n
      obtain rfl : or2 = or := Ko.r
      obtain rfl : oc2 = oc := Ko.c
      obtain rfl : on2 = on := Ko.d.n
      obtain rfl : ur2 = ur := Ku.r
      obtain rfl : uc2 = uc := Ku.c
      obtain rfl : un2 = un := Ku.d.n
      obtain rfl : dr2 = dr := Kd.r
      obtain rfl : dc2 = dc := Kd.c
      obtain rfl : dn2 = dn := Kd.d.n
      have cf := sl_same_nxt (r := 1) (c := fn2) Kf
      have cs' := sl_same_nxt (r := 1) (c := sn2) Ks
      have cq := sl_same_nxt (r := qr2) (c := qc2) Kq.d
      have ck := sl_same_nxt (r := kr2) (c := kc2) Kk.d
      have cv := sl_same_nxt (r := vr2) (c := vc2) Kv.d
      have co := sl_same_nxt (r := or2) (c := oc2) Ko.d
      have cu := sl_same_nxt (r := ur2) (c := uc2) Ku.d
      have cd := sl_same_nxt (r := dr2) (c := dc2) Kd.d
      have df1 := wide_nxt (w := wy2) fa1 fn2 fz1
      have df2 := wide_nxt (w := wy2) fa2 fn2 fz2
      have ds1 := wide_nxt (w := wy2) sa1 sn2 sz1
      have ds2 := wide_nxt (w := wy2) sa2 sn2 sz2
      have b1_0 : ∀ p : Nxt wy2, p.to.cell? ⟨wr.heap.size, 0, none⟩ = some (.slice fa1 fn2 fz1) := fun p => (XR1z.below p.ok).cell 0 rfl
      have b1_1 : ∀ p : Nxt wy2, p.to.cell? ⟨wr.heap.size, 1, none⟩ = some (.int .i64 qr2) := fun p => (XR1z.below p.ok).cell 1 rfl
      have b1_2 : ∀ p : Nxt wy2, p.to.cell? ⟨wr.heap.size, 2, none⟩ = some (.int .i64 qc2) := fun p => (XR1z.below p.ok).cell 2 rfl
      have b1_3 : ∀ p : Nxt wy2, p.to.cell? ⟨wr.heap.size, 3, none⟩ = some (.slice qa1 qn2 qz1) := fun p => (XR1z.below p.ok).cell 3 rfl
      have b1_4 : ∀ p : Nxt wy2, p.to.cell? ⟨wr.heap.size, 4, none⟩ = some (.int .i64 kr2) := fun p => (XR1z.below p.ok).cell 4 rfl
      have b1_5 : ∀ p : Nxt wy2, p.to.cell? ⟨wr.heap.size, 5, none⟩ = some (.int .i64 kc2) := fun p => (XR1z.below p.ok).cell 5 rfl
      have b1_6 : ∀ p : Nxt wy2, p.to.cell? ⟨wr.heap.size, 6, none⟩ = some (.slice ka1 kn2 kz1) := fun p => (XR1z.below p.ok).cell 6 rfl
      have b1_7 : ∀ p : Nxt wy2, p.to.cell? ⟨wr.heap.size, 7, none⟩ = some (.int .i64 vr2) := fun p => (XR1z.below p.ok).cell 7 rfl
      have b1_8 : ∀ p : Nxt wy2, p.to.cell? ⟨wr.heap.size, 8, none⟩ = some (.int .i64 vc2) := fun p => (XR1z.below p.ok).cell 8 rfl
      have b1_9 : ∀ p : Nxt wy2, p.to.cell? ⟨wr.heap.size, 9, none⟩ = some (.slice va1 vn2 vz1) := fun p => (XR1z.below p.ok).cell 9 rfl
      have b1_10 : ∀ p : Nxt wy2, p.to.cell? ⟨wr.heap.size, 10, none⟩ = some (.int .i64 or2) := fun p => (XR1z.below p.ok).cell 10 rfl
      have b1_11 : ∀ p : Nxt wy2, p.to.cell? ⟨wr.heap.size, 11, none⟩ = some (.int .i64 oc2) := fun p => (XR1z.below p.ok).cell 11 rfl
      have b1_12 : ∀ p : Nxt wy2, p.to.cell? ⟨wr.heap.size, 12, none⟩ = some (.slice oa1 on2 oz1) := fun p => (XR1z.below p.ok).cell 12 rfl
      have b1_13 : ∀ p : Nxt wy2, p.to.cell? ⟨wr.heap.size, 13, none⟩ = some (.slice sa1 sn2 sz1) := fun p => (XR1z.below p.ok).cell 13 rfl
      have b1_14 : ∀ p : Nxt wy2, p.to.cell? ⟨wr.heap.size, 14, none⟩ = some (.int .i64 ur2) := fun p => (XR1z.below p.ok).cell 14 rfl
      have b1_15 : ∀ p : Nxt wy2, p.to.cell? ⟨wr.heap.size, 15, none⟩ = some (.int .i64 uc2) := fun p => (XR1z.below p.ok).cell 15 rfl
      have b1_16 : ∀ p : Nxt wy2, p.to.cell? ⟨wr.heap.size, 16, none⟩ = some (.slice ua1 un2 uz1) := fun p => (XR1z.below p.ok).cell 16 rfl
      have b1_17 : ∀ p : Nxt wy2, p.to.cell? ⟨wr.heap.size, 17, none⟩ = some (.int .i64 dr2) := fun p => (XR1z.below p.ok).cell 17 rfl
      have b1_18 : ∀ p : Nxt wy2, p.to.cell? ⟨wr.heap.size, 18, none⟩ = some (.int .i64 dc2) := fun p => (XR1z.below p.ok).cell 18 rfl
      have b1_19 : ∀ p : Nxt wy2, p.to.cell? ⟨wr.heap.size, 19, none⟩ = some (.slice da1 dn2 dz1) := fun p => (XR1z.below p.ok).cell 19 rfl
      have b2_0 : ∀ p : Nxt wy2, p.to.cell? ⟨wy1.heap.size, 0, none⟩ = some (.slice fa2 fn2 fz2) := fun p => (XR2.below p.ok).cell 0 rfl
      have b2_1 : ∀ p : Nxt wy2, p.to.cell? ⟨wy1.heap.size, 1, none⟩ = some (.int .i64 qr2) := fun p => (XR2.below p.ok).cell 1 rfl
      have b2_2 : ∀ p : Nxt wy2, p.to.cell? ⟨wy1.heap.size, 2, none⟩ = some (.int .i64 qc2) := fun p => (XR2.below p.ok).cell 2 rfl
      have b2_3 : ∀ p : Nxt wy2, p.to.cell? ⟨wy1.heap.size, 3, none⟩ = some (.slice qa2 qn2 qz2) := fun p => (XR2.below p.ok).cell 3 rfl
      have b2_4 : ∀ p : Nxt wy2, p.to.cell? ⟨wy1.heap.size, 4, none⟩ = some (.int .i64 kr2) := fun p => (XR2.below p.ok).cell 4 rfl
      have b2_5 : ∀ p : Nxt wy2, p.to.cell? ⟨wy1.heap.size, 5, none⟩ = some (.int .i64 kc2) := fun p => (XR2.below p.ok).cell 5 rfl
      have b2_6 : ∀ p : Nxt wy2, p.to.cell? ⟨wy1.heap.size, 6, none⟩ = some (.slice ka2 kn2 kz2) := fun p => (XR2.below p.ok).cell 6 rfl
      have b2_7 : ∀ p : Nxt wy2, p.to.cell? ⟨wy1.heap.size, 7, none⟩ = some (.int .i64 vr2) := fun p => (XR2.below p.ok).cell 7 rfl
      have b2_8 : ∀ p : Nxt wy2, p.to.cell? ⟨wy1.heap.size, 8, none⟩ = some (.int .i64 vc2) := fun p => (XR2.below p.ok).cell 8 rfl
      have b2_9 : ∀ p : Nxt wy2, p.to.cell? ⟨wy1.heap.size, 9, none⟩ = some (.slice va2 vn2 vz2) := fun p => (XR2.below p.ok).cell 9 rfl
      have b2_10 : ∀ p : Nxt wy2, p.to.cell? ⟨wy1.heap.size, 10, none⟩ = some (.int .i64 or2) := fun p => (XR2.below p.ok).cell 10 rfl
      have b2_11 : ∀ p : Nxt wy2, p.to.cell? ⟨wy1.heap.size, 11, none⟩ = some (.int .i64 oc2) := fun p => (XR2.below p.ok).cell 11 rfl
      have b2_12 : ∀ p : Nxt wy2, p.to.cell? ⟨wy1.heap.size, 12, none⟩ = some (.slice oa2 on2 oz2) := fun p => (XR2.below p.ok).cell 12 rfl
      have b2_13 : ∀ p : Nxt wy2, p.to.cell? ⟨wy1.heap.size, 13, none⟩ = some (.slice sa2 sn2 sz2) := fun p => (XR2.below p.ok).cell 13 rfl
      have b2_14 : ∀ p : Nxt wy2, p.to.cell? ⟨wy1.heap.size, 14, none⟩ = some (.int .i64 ur2) := fun p => (XR2.below p.ok).cell 14 rfl
      have b2_15 : ∀ p : Nxt wy2, p.to.cell? ⟨wy1.heap.size, 15, none⟩ = some (.int .i64 uc2) := fun p => (XR2.below p.ok).cell 15 rfl
      have b2_16 : ∀ p : Nxt wy2, p.to.cell? ⟨wy1.heap.size, 16, none⟩ = some (.slice ua2 un2 uz2) := fun p => (XR2.below p.ok).cell 16 rfl
      have b2_17 : ∀ p : Nxt wy2, p.to.cell? ⟨wy1.heap.size, 17, none⟩ = some (.int .i64 dr2) := fun p => (XR2.below p.ok).cell 17 rfl
      have b2_18 : ∀ p : Nxt wy2, p.to.cell? ⟨wy1.heap.size, 18, none⟩ = some (.int .i64 dc2) := fun p => (XR2.below p.ok).cell 18 rfl
      have b2_19 : ∀ p : Nxt wy2, p.to.cell? ⟨wy1.heap.size, 19, none⟩ = some (.slice da2 dn2 dz2) := fun p => (XR2.below p.ok).cell 19 rfl
      have ne := nxt_ne wy2
      clear XR1 XR1z XR2 Kf Kq Kk Kv Ko Ks Ku Kd hx hy HS
      go_wp2_with (first
        | (refine wpList_load_mid rfl 61 _ rfl g1 (o1 + t * 20) rfl cs1.toList _ r1 Try.underlying61 rfl (by rw [Array.length_toList, siz1]; exact Try.infoRB1) ?_; rw [HL1.out])
        | (refine wpList_store_row rfl 61 _ _ rfl wr.heap.size cs1 rfl rfl 61 _ XZ1 (by rw [siz1]; exact Try.infoRB1) siz1.symm one1 ?_; rw [hwy1])
        | (refine wpList_load_mid rfl 61 _ rfl g2 (o2 + t * 20) rfl cs2.toList _ r2 Try.underlying61 rfl (by rw [Array.length_toList, siz2]; exact Try.infoRB1) ?_; rw [HL2.out])
        | (refine wpList_store_row rfl 61 _ _ rfl wy1.heap.size cs2 rfl rfl 61 _ XZ2 (by rw [siz2]; exact Try.infoRB1) siz2.symm one2 ?_; rw [hwy2]))
      refine wp_region_nxt (by kernel_rfl) (by kernel_rfl) ?_
      repeat (first | go_big_quiet_skip | (go_big_quiet_want; go_big_quiet_op; first | go_big_quiet_on | (apply Exists.intro; refine ⟨fun pq => ?_, ?_⟩; (first | (go_at_call_of 30 fa1; exact cf _) | (go_at_call_of 30 qa1; exact cq _) | (go_at_call_of 30 ka1; exact ck _) | (go_at_call_of 30 va1; exact cv _) | (go_at_call_of 30 oa1; exact co _) | (go_at_call_of 30 ua1; exact cu _) | (go_at_call_of 30 da1; exact cd _) | (go_at_call_of 30 sa1; exact cs' _) | (go_at_call_of 31 fa1; exact df1 _) | (go_at_call_of 31 fa2; exact df2 _) | (go_at_call_of 31 sa1; exact ds1 _) | (go_at_call_of 31 sa2; exact ds2 _)); go_big_quiet_on)))
      refine wpQuiet_nil ?_
      intro wq hw'
      obtain ⟨⟨wq', Bq⟩, hw''⟩ := hw'
      subst hw''
      replace X2z := X2z.below Bq
      replace BY2 := below_then BY2 Bq
      clear b1_0 b1_1 b1_2 b1_3 b1_4 b1_5 b1_6 b1_7 b1_8 b1_9 b1_10 b1_11 b1_12 b1_13 b1_14 b1_15 b1_16 b1_17 b1_18 b1_19 b2_0 b2_1 b2_2 b2_3 b2_4 b2_5 b2_6 b2_7 b2_8 b2_9 b2_10 b2_11 b2_12 b2_13 b2_14 b2_15 b2_16 b2_17 b2_18 b2_19 cf cs' cq ck cv co cu cd df1 df2 ds1 ds2 r1 r2 q3
      go_wp2
      go_roundg (bn - (t + 1))
      case measure => omega
      case rel => exact ⟨t + 1, by omega, rfl, by go_num, X2z, BY2⟩
    · obtain rfl : t = bn := by omega
      go_wp2
      go_ret
      exact ⟨rfl, B4⟩
end Go.Proofs.Ytklgaokhillinaa
