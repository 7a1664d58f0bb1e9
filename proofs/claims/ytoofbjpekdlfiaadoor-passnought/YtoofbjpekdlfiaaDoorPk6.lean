/- Contracts of the program's functions, part 6 of 14: what each call returns and leaves of memory. -/
import Derived.Test.YtoofbjpekdlfiaaDoorPk5
import Derived.Test.YtoofbjpekdlfiaaDoorPk4
import Derived.Deep.RegionHeld3
import Derived.OwnWalk
import Derived.Test.YtoofbjpekdlfiaaDoorPk2
/- Package pass: a new list of rows with one more at its end. -/
namespace Go.Proofs.YtoofbjpekdlfiaaDoor
open Go.ChangeShapes Go.WideShapes Go.ChangeAt Go.RowKit
/-- The values of rows, and what they read as. -/
structure RowsAt (w : World) (vs : List Value) (R : List (List Int)) : Prop where
  len : vs.length = R.length
  rows : ∀ t, t < R.length → ∃ ro m c, vs[t]? = some (.slice ro m c) ∧ Arg w ro m c (rowOf R t)
theorem RowsAt.below {w w' : World} {vs : List Value} {R : List (List Int)} (h : RowsAt w vs R) (hb : Below w.heap.size w w') : RowsAt w' vs R :=
  ⟨h.len, fun t ht => let ⟨ro, m, c, e, A⟩ := h.rows t ht; ⟨ro, m, c, e, A.below hb⟩⟩
theorem RowsAt.one {w : World} {vs : List Value} {R : List (List Int)} (h : RowsAt w vs R) : ∀ u ∈ vs, u.oneCell' = true := by
  intro u hu
  obtain ⟨t, ht, e⟩ := List.mem_iff_getElem.1 hu
  obtain ⟨ro, m, c, e2, _⟩ := h.rows t (by rw [← h.len]; exact ht)
  rw [List.getElem?_eq_getElem ht] at e2
  simp only [Option.some.injEq] at e2
  rw [← e, e2]
  rfl
theorem GridAt.vals {w : World} {b o n : Nat} {R : List (List Int)} (h : GridAt w (some ⟨b, o, none⟩) n R) : ∃ vs, RowsAt w vs R ∧ ∀ j u, vs[j]? = some u → w.cell? ((Addr.mk b o none).add j) = some u := by
  refine ⟨(List.range n).map fun t => (w.cell? ⟨b, o + t, none⟩).getD default, ⟨by simp [h.len], fun t ht => ?_⟩, fun j u hj => ?_⟩
  · have hn : t < n := by rw [← h.len]; exact ht
    obtain ⟨b', o', e, hc⟩ := h.cells (by omega)
    simp only [Option.some.injEq, Addr.mk.injEq, and_true] at e
    obtain ⟨rfl, rfl⟩ := e
    obtain ⟨ro, m, c, h1, h2⟩ := hc t hn
    exact ⟨ro, m, c, by rw [List.getElem?_map, List.getElem?_range hn]; simp [h1], h2⟩
  · have hl : j < n := by
      have := (List.getElem?_eq_some_iff.1 hj).1
      simpa using this
    obtain ⟨b', o', e, hc⟩ := h.cells (by omega)
    simp only [Option.some.injEq, Addr.mk.injEq, and_true] at e
    obtain ⟨rfl, rfl⟩ := e
    obtain ⟨ro, m, c, h1, h2⟩ := hc j hl
    rw [List.getElem?_map, List.getElem?_range hl] at hj
    simp [h1] at hj
    have e2 : (Addr.mk b o none).add j = ⟨b, o + j, none⟩ := by simp [Addr.add]
    rw [e2, h1, hj]
/-- A list of rows of the call's own reads as they do. -/
theorem grid_of_owns {w : World} {B g n cap : Nat} {vs : List Value} {R : List (List Int)} (h : w.ownsRow B 24 1 (.slice (some ⟨g, 0, none⟩) n cap) n vs) (hR : RowsAt w vs R) (hn : n ≤ 9223372036854775807) : GridAt w (some ⟨g, 0, none⟩) n R := by
  have hl : R.length = n := by have h1 := h.1; have h2 := hR.len; omega
  refine ⟨hl, hn, fun _ => ⟨g, 0, rfl, fun t ht => ?_⟩⟩
  obtain ⟨ro, m, c, e, A⟩ := hR.rows t (by omega)
  have hc := h.cells (g := g) rfl t _ e
  have e2 : (Addr.mk g 0 none).add t = ⟨g, t, none⟩ := by simp [Addr.add]; intro h; exact h.symm
  rw [e2] at hc
  exact ⟨_, _, _, by rw [Nat.zero_add]; exact hc, A⟩
theorem RowsAt.snoc {w : World} {vs : List Value} {R : List (List Int)} (h : RowsAt w vs R) {ro : Option Addr} {m c : Nat} {Y : List Int} (hY : Arg w ro m c Y) : RowsAt w (vs ++ [.slice ro m c]) (R ++ [Y]) := by
  have hl := h.len
  refine ⟨by simp [hl], fun t ht => ?_⟩
  rw [List.length_append, List.length_singleton] at ht
  rcases Nat.lt_or_ge t R.length with h1 | h1
  · obtain ⟨ro', m', c', e, A⟩ := h.rows t h1
    refine ⟨ro', m', c', by rw [List.getElem?_append_left (by omega)]; exact e, ?_⟩
    have : rowOf (R ++ [Y]) t = rowOf R t := by unfold rowOf; simp only [List.getD_eq_getElem?_getD]; rw [List.getElem?_append_left h1]
    rw [this]
    exact A
  · obtain rfl : t = R.length := by omega
    refine ⟨ro, m, c, by rw [← hl]; simp, ?_⟩
    have : rowOf (R ++ [Y]) R.length = Y := by unfold rowOf; simp
    rw [this]
    exact hY
theorem clones_any (ao : Option Addr) (n ca : Nat) (R : List (List Int)) (w : World) (hR : GridAt w ao n R) (hc : ao = none → ca = 0) (hn : n ≤ 1048576) :
   Calls Tryd.prog 76 #[.slice ao n ca] w fun e w' => ∃ v vs, e = .returned v ∧ w'.ownsRow w.heap.size 24 1 v n vs ∧ RowsAt w vs R ∧ Below w.heap.size w w' := by
  cases ao with
  | none =>
    have hm : n = 0 := by
      rcases Nat.eq_zero_or_pos n with h0 | h0
      · exact h0
      · obtain ⟨b, o, e, _⟩ := hR.cells h0; cases e
    subst hm
    have hc0 := hc rfl
    subst hc0
    obtain rfl : R = [] := List.length_eq_zero_iff.1 hR.len
    have hq : ∀ w : World, (binOp .eql 55 (.slice none 0 0) (.slice none 0 0)).run Tryd.prog w = .ok (.bool true) w := fun w => run_eql_nil w _ 24 _ _ _ Tryd.underlying55
    go_enter Tryd.func76, Tryd.ntmps76
    go_wp2
    go_ret
    exact ⟨_, rfl, [], World.ownsRow_nil _ _ _ _, ⟨rfl, fun t ht => by simp at ht⟩, Below.refl _ _⟩
  | some ad =>
    obtain ⟨i0, hi, hz0, hz1, hz2⟩ := info_parts Tryd.infoRow
    have B0 : Below w.heap.size w (w.alloc (.cells #[] 24)) := (Below.refl _ _).alloc (Nat.le_refl _) _
    have O0 : (w.alloc (.cells #[] 24)).ownsRow w.heap.size 24 1 (.slice (some ⟨w.heap.size, 0, none⟩) 0 0) 0 [] := World.ownsRow_made w #[] 0 (Nat.le_refl _) (by decide) rfl
    have hvs : ∃ vs : List Value, RowsAt w vs R ∧ ∀ j u, vs[j]? = some u → w.cell? (ad.add j) = some u := by
      rcases Nat.eq_zero_or_pos n with h0 | h0
      · subst h0
        obtain rfl : R = [] := List.length_eq_zero_iff.1 hR.len
        exact ⟨[], ⟨rfl, fun t ht => by simp at ht⟩, fun j u hj => by simp at hj⟩
      · obtain ⟨b, o, e, _⟩ := hR.cells h0
        simp only [Option.some.injEq] at e
        subst e
        exact hR.vals
    obtain ⟨vs, V, hv⟩ := hvs
    have hl : vs.length = n := by rw [V.len, hR.len]
    have hv2 : ∀ j u, vs[j]? = some u → (w.alloc (.cells #[] 24)).cell? (ad.add j) = some u := fun j u hj => by
      have h1 := hv j u hj
      have h2 : (ad.add j).block < w.heap.size := World.block_lt_of_cell? w _ h1
      rw [World.cell?_of_block (B0.block _ h2)]
      exact h1
    have hq : ∀ w : World, (binOp .eql 55 (.slice (some ad) n ca) (.slice none 0 0)).run Tryd.prog w = .ok (.bool false) w := fun w => run_eql_nil w _ 24 _ _ _ Tryd.underlying55
    have one := V.one
    go_enter Tryd.func76, Tryd.ntmps76
    go_wp2_with (at_builtin; refine wpList_append_own _ rfl _ _ 55 rfl w.heap.size 24 i0 (.slice none 0 0) 1 24 Tryd.underlying55 hi hz0 hz1 hz2 rfl (by decide) _ 0 [] rfl O0 ad n ca vs rfl (by omega) hv2 one (by unfold maxLen; omega) (by omega) (by simp) ?_; intro v' w' O1 G1 N1)
    have hb : Below w.heap.size (w.alloc (.cells #[] 24)) w' := (Below.refl _ _).grown G1 (by simp) (fun k hk => (O0.lt k hk).1)
    rw [Nat.zero_add, List.nil_append] at O1
    go_ret
    exact ⟨v', vs, rfl, O1, V, B0.trans hb⟩
theorem behind_any (ao : Option Addr) (n ca : Nat) (R : List (List Int)) (yo : Option Addr) (m c : Nat) (Y : List Int) (w : World) (hR : GridAt w ao n R) (hc : ao = none → ca = 0) (hn : n ≤ 4096) (hY : Arg w yo m c Y) :
   Calls Tryd.prog 60 #[.slice ao n ca, .slice yo m c] w fun e w' => ∃ g cap, e = .returned (.slice (some ⟨g, 0, none⟩) (n + 1) cap) ∧ GridAt w' (some ⟨g, 0, none⟩) (n + 1) (R ++ [Y]) ∧ Below w.heap.size w w' := by
  obtain ⟨i0, hi, hz0, hz1, hz2⟩ := info_parts Tryd.infoRow
  have C := clones_any ao n ca R w hR hc (by omega)
  go_enter Tryd.func60, Tryd.ntmps60
  go_wp2_with fail
  refine C.mono ?_
  rintro e w1 ⟨v, vs, rfl, O1, V1, B1⟩
  have hl : vs.length = n := by rw [V1.len, hR.len]
  have B2 : Below w1.heap.size w1 (w1.alloc (.cells #[.slice yo m c] 24)) := (Below.refl _ _).alloc (Nat.le_refl _) _
  have O2 := owns_below O1 B2
  have hx : ∀ j u, [Value.slice yo m c][j]? = some u → (w1.alloc (.cells #[.slice yo m c] 24)).cell? ((Addr.mk w1.heap.size 0 none).add j) = some u := by
    intro j u hj
    match j, hj with
    | 0, hj =>
      simp at hj
      subst hj
      have e := heap_alloc_new w1 (.cells #[.slice yo m c] 24)
      have e2 : (Addr.mk w1.heap.size 0 none).add 0 = ⟨w1.heap.size, 0, none⟩ := by simp [Addr.add]
      rw [e2]
      unfold World.cell?
      simp only [e]
      rfl
  have s1 := B1.size
  have D2 := below_then B1 B2
  have s2 := B2.size
  clear C
  go_wp2_with (at_builtin; refine wpList_append_own _ rfl _ _ 55 rfl w.heap.size 24 i0 (.slice none 0 0) 1 24 Tryd.underlying55 hi hz0 hz1 hz2 rfl (by decide) _ n vs rfl O2 ⟨w1.heap.size, 0, none⟩ 1 1 [.slice yo m c] rfl rfl hx (by intro u hu; simp at hu; subst hu; rfl) (by unfold maxLen; omega) (by omega) (by omega) ?_; intro v' w' O3 G3 N3)
  have hb : Below w.heap.size (w1.alloc (.cells #[.slice yo m c] 24)) w' := (Below.refl _ _).grown G3 (by omega) (fun k hk => (O2.lt k hk).1)
  have D3 := D2.trans hb
  go_ret
  have O4 := O3
  obtain ⟨h4, h5⟩ := O4
  rcases h5 with ⟨_, h6⟩ | ⟨g, cap, cur, rfl, h7⟩
  · omega
  · exact ⟨g, cap, rfl, grid_of_owns O3 ((V1.snoc hY).below D3) (by omega), D3⟩
end Go.Proofs.YtoofbjpekdlfiaaDoor

/- Package pass: what a layer makes of one row more, behind keys and values. -/
namespace Go.Proofs.YtoofbjpekdlfiaaDoor
open Go.ChangeShapes Go.WideShapes Go.ChangeAt Go.RowKit
/-- A layer's numbers. -/
structure Lay where
  F : List Int
  Q : List Int
  K : List Int
  V : List Int
  O : List Int
  S : List Int
  U : List Int
  N : List Int
def nrm (X G : List Int) (D : Nat) : List Int := tab D (normN X G D)
def apl (M V : List Int) (r c : Nat) : List Int := tab r fun i => dotN (rowN M c i) V c
def plusR (A B : List Int) (n : Nat) : List Int := tab n fun j => addN (el A j) (el B j)
def riseR (A : List Int) (n : Nat) : List Int := tab n fun j => max (el A j) 0
def keyR (L : Lay) (D : Nat) (X : List Int) : List Int := apl L.K (nrm X L.F D) D D
def valR (L : Lay) (D : Nat) (X : List Int) : List Int := apl L.V (nrm X L.F D) D D
/-- What the heads make of a row behind the rows K and V. -/
def attR (L : Lay) (D Hd : Nat) (X : List Int) (K V : List (List Int)) (m : Nat) : List Int := tab D (attEl (apl L.Q (nrm X L.F D) D D) (K ++ [keyR L D X]) (V ++ [valR L D X]) (m + 1) (D / Hd))
def midR (L : Lay) (D Hd : Nat) (X : List Int) (K V : List (List Int)) (m : Nat) : List Int := plusR X (apl L.O (attR L D Hd X K V m) D D) D
/-- What a layer makes of a row. -/
def endR (L : Lay) (D H : Nat) (Y : List Int) : List Int := plusR Y (apl L.N (riseR (apl L.U (nrm Y L.S D) H D) H) D H) D
def oneR (L : Lay) (D H Hd : Nat) (X : List Int) (K V : List (List Int)) (m : Nat) : List Int := endR L D H (midR L D Hd X K V m)
/-- A slice that reads as numbers; a matrix; a layer. -/
structure SlAt (w : World) (s : Sl) (n : Nat) (A : List Int) : Prop where
  len : s.n = n
  arg : Arg w s.ao n s.c A
def MtAt (w : World) (m : Mt) (r c : Nat) (A : List Int) : Prop := ∃ b o n ca, m = ⟨r, c, ⟨some ⟨b, o, none⟩, n, ca⟩⟩ ∧ MatAt w r c b o n ca A
structure BkAt (w : World) (D H : Nat) (b : Bk) (L : Lay) : Prop where
  f : SlAt w b.f D L.F
  q : MtAt w b.q D D L.Q
  k : MtAt w b.k D D L.K
  v : MtAt w b.v D D L.V
  o : MtAt w b.o D D L.O
  s : SlAt w b.s D L.S
  u : MtAt w b.u H D L.U
  d : MtAt w b.d D H L.N
theorem SlAt.below {w w' : World} {s : Sl} {n : Nat} {A : List Int} (h : SlAt w s n A) (hb : Below w.heap.size w w') : SlAt w' s n A := ⟨h.len, h.arg.below hb⟩
theorem MtAt.below {w w' : World} {m : Mt} {r c : Nat} {A : List Int} (h : MtAt w m r c A) (hb : Below w.heap.size w w') : MtAt w' m r c A := by
  obtain ⟨b, o, n, ca, e, M⟩ := h
  exact ⟨b, o, n, ca, e, M.below hb⟩
theorem BkAt.below {w w' : World} {D H : Nat} {b : Bk} {L : Lay} (h : BkAt w D H b L) (hb : Below w.heap.size w w') : BkAt w' D H b L :=
  ⟨h.f.below hb, h.q.below hb, h.k.below hb, h.v.below hb, h.o.below hb, h.s.below hb, h.u.below hb, h.d.below hb⟩
theorem hchkN_at {n m : Nat} {K V : List (List Int)} {h : Nat} (h1 : 1 ≤ h) (h4 : h ≤ 4) (n1 : 1 ≤ n) (n2 : n ≤ 32) (m1 : 1 ≤ m) (m2 : m ≤ 128) (hd : n % h = 0) (hk : ∀ t, t < m → (rowOf K t).length = n) (hv : ∀ t, t < m → (rowOf V t).length = n) : hchkN n m m K V (h : Int) = 0 := by
  unfold hchkN
  rw [if_neg (by omega), if_neg (by omega), if_neg (by omega), if_neg]
  rw [Int.toNat_natCast, longs_of hk, longs_of hv]
  simp [hd]
theorem rowOf_snoc_len {K : List (List Int)} {Y : List Int} {m n : Nat} (hl : K.length = m) (hk : ∀ t, t < m → (rowOf K t).length = n) (hy : Y.length = n) : ∀ t, t < m + 1 → (rowOf (K ++ [Y]) t).length = n := fun t ht => by
  unfold rowOf
  simp only [List.getD_eq_getElem?_getD]
  rcases Nat.lt_or_ge t m with h | h
  · rw [List.getElem?_append_left (by omega), ← List.getD_eq_getElem?_getD]
    exact hk t h
  · obtain rfl : t = K.length := by omega
    simp [hy]
theorem apl_len (M V : List Int) (r c : Nat) : (apl M V r c).length = r := tab_len _ _
set_option maxRecDepth 100000 in
set_option maxHeartbeats 3200000 in
theorem one_any (Vo : Int) (D Hd : Nat) (H' : Int) (H : Nat) (Ly : Int) (b : Bk) (L : Lay) (xo : Option Addr) (cx : Nat) (X : List Int) (ko vo : Option Addr) (m ck cv : Nat) (K V : List (List Int)) (w : World) (hT : Tab w) (hB : BkAt w D H b L) (hX : Arg w xo D cx X) (hK : GridAt w ko m K) (hV : GridAt w vo m V) (hck : ko = none → ck = 0) (hcv : vo = none → cv = 0) (hlk : ∀ t, t < m → (rowOf K t).length = D) (hlv : ∀ t, t < m → (rowOf V t).length = D) (hm : m ≤ 127) (h1 : 1 ≤ D) (h2 : D ≤ 32) (g1 : 1 ≤ Hd) (g2 : Hd ≤ 4) (hd : D % Hd = 0) (hH : H ≤ 128) :
   Calls Tryd.prog 36 #[.agg (cfgC Vo D Hd H' Ly), .agg b.cells, .slice xo D cx, .slice ko m ck, .slice vo m cv] w fun e w' => ∃ o1 o2 o3, e = .returned (.tuple #[.slice (some ⟨o1, 0, none⟩) D D, .slice (some ⟨o2, 0, none⟩) D D, .slice (some ⟨o3, 0, none⟩) D D]) ∧ Fresh w' w.heap.size o1 D D (oneR L D H Hd X K V m) ∧ Fresh w' w.heap.size o2 D D (keyR L D X) ∧ Fresh w' w.heap.size o3 D D (valR L D X) ∧ Below w.heap.size w w' := by
  obtain ⟨⟨fa, fn, fz⟩, q, k, v, o, ⟨sa, sn, sz⟩, u, d⟩ := b
  obtain ⟨⟨fe, AF⟩, ⟨qb, qo, qn, qz, rfl, MQ⟩, ⟨kb, k2, kn, kz, rfl, MK⟩, ⟨vb, v2, vn, vz, rfl, MV⟩, ⟨ob, oo, on, oz, rfl, MO⟩, ⟨se, AS⟩, ⟨ub, uo, un, uz, rfl, MU⟩, ⟨db, d2, dn, dz, rfl, MD⟩⟩ := hB
  simp only at fe se AF AS MQ MK MV MO MU MD
  replace fe := fe.symm
  subst fe
  replace se := se.symm
  subst se
  have HX : Hid (∀ wv, Below w.heap.size w wv → Arg wv xo D cx X) := fun wv hb => hX.below hb
  have HF : Hid (∀ wv, Below w.heap.size w wv → Arg wv fa D fz L.F) := fun wv hb => AF.below hb
  have HS : Hid (∀ wv, Below w.heap.size w wv → Arg wv sa D sz L.S) := fun wv hb => AS.below hb
  have HK : Hid (∀ wv, Below w.heap.size w wv → GridAt wv ko m K) := fun wv hb => hK.below hb
  have HV : Hid (∀ wv, Below w.heap.size w wv → GridAt wv vo m V) := fun wv hb => hV.below hb
  have HT : Hid (∀ wv, Below w.heap.size w wv → Tab wv) := fun wv hb => hT.next hb
  have HMq : Hid (∀ wv, Below w.heap.size w wv → MatAt wv D D qb qo qn qz L.Q) := fun wv hb => MQ.below hb
  have HMk : Hid (∀ wv, Below w.heap.size w wv → MatAt wv D D kb k2 kn kz L.K) := fun wv hb => MK.below hb
  have HMv : Hid (∀ wv, Below w.heap.size w wv → MatAt wv D D vb v2 vn vz L.V) := fun wv hb => MV.below hb
  have HMo : Hid (∀ wv, Below w.heap.size w wv → MatAt wv D D ob oo on oz L.O) := fun wv hb => MO.below hb
  have HMu : Hid (∀ wv, Below w.heap.size w wv → MatAt wv H D ub uo un uz L.U) := fun wv hb => MU.below hb
  have HMd : Hid (∀ wv, Below w.heap.size w wv → MatAt wv D H db d2 dn dz L.N) := fun wv hb => MD.below hb
  have lK := hK.len
  have lV := hV.len
  clear hX AF AS hK hV hT MQ MK MV MO MU MD
  show Calls Tryd.prog 36 #[.agg #[.int .i64 Vo, .int .i64 (D : Int), .int .i64 (Hd : Int), .int .i64 H', .int .i64 Ly], .agg #[.slice fa D fz, .int .i64 (D : Int), .int .i64 (D : Int), .slice (some ⟨qb, qo, none⟩) qn qz, .int .i64 (D : Int), .int .i64 (D : Int), .slice (some ⟨kb, k2, none⟩) kn kz, .int .i64 (D : Int), .int .i64 (D : Int), .slice (some ⟨vb, v2, none⟩) vn vz, .int .i64 (D : Int), .int .i64 (D : Int), .slice (some ⟨ob, oo, none⟩) on oz, .slice sa D sz, .int .i64 (H : Int), .int .i64 (D : Int), .slice (some ⟨ub, uo, none⟩) un uz, .int .i64 (D : Int), .int .i64 (H : Int), .slice (some ⟨db, d2, none⟩) dn dz], .slice xo D cx, .slice ko m ck, .slice vo m cv] w _
  have X0 := blk_new w 23 #[.int .i64 Vo, .int .i64 (D : Int), .int .i64 (Hd : Int), .int .i64 H', .int .i64 Ly]
  have B0 : Below w.heap.size w (w.alloc (.cells #[.int .i64 Vo, .int .i64 (D : Int), .int .i64 (Hd : Int), .int .i64 H', .int .i64 Ly] 23)) := (Below.refl _ _).alloc (Nat.le_refl _) _
  have s0 : (w.alloc (.cells #[.int .i64 Vo, .int .i64 (D : Int), .int .i64 (Hd : Int), .int .i64 H', .int .i64 Ly] 23)).heap.size = w.heap.size + 1 := by simp
  generalize hw0 : w.alloc (.cells #[.int .i64 Vo, .int .i64 (D : Int), .int .i64 (Hd : Int), .int .i64 H', .int .i64 Ly] 23) = w0 at *
  have X1 := blk_new w0 59 #[.slice fa D fz, .int .i64 (D : Int), .int .i64 (D : Int), .slice (some ⟨qb, qo, none⟩) qn qz, .int .i64 (D : Int), .int .i64 (D : Int), .slice (some ⟨kb, k2, none⟩) kn kz, .int .i64 (D : Int), .int .i64 (D : Int), .slice (some ⟨vb, v2, none⟩) vn vz, .int .i64 (D : Int), .int .i64 (D : Int), .slice (some ⟨ob, oo, none⟩) on oz, .slice sa D sz, .int .i64 (H : Int), .int .i64 (D : Int), .slice (some ⟨ub, uo, none⟩) un uz, .int .i64 (D : Int), .int .i64 (H : Int), .slice (some ⟨db, d2, none⟩) dn dz]
  have B1 : Below w0.heap.size w0 (w0.alloc (.cells #[.slice fa D fz, .int .i64 (D : Int), .int .i64 (D : Int), .slice (some ⟨qb, qo, none⟩) qn qz, .int .i64 (D : Int), .int .i64 (D : Int), .slice (some ⟨kb, k2, none⟩) kn kz, .int .i64 (D : Int), .int .i64 (D : Int), .slice (some ⟨vb, v2, none⟩) vn vz, .int .i64 (D : Int), .int .i64 (D : Int), .slice (some ⟨ob, oo, none⟩) on oz, .slice sa D sz, .int .i64 (H : Int), .int .i64 (D : Int), .slice (some ⟨ub, uo, none⟩) un uz, .int .i64 (D : Int), .int .i64 (H : Int), .slice (some ⟨db, d2, none⟩) dn dz] 59)) := (Below.refl _ _).alloc (Nat.le_refl _) _
  rw [s0] at X1
  generalize hw1 : w0.alloc (.cells #[.slice fa D fz, .int .i64 (D : Int), .int .i64 (D : Int), .slice (some ⟨qb, qo, none⟩) qn qz, .int .i64 (D : Int), .int .i64 (D : Int), .slice (some ⟨kb, k2, none⟩) kn kz, .int .i64 (D : Int), .int .i64 (D : Int), .slice (some ⟨vb, v2, none⟩) vn vz, .int .i64 (D : Int), .int .i64 (D : Int), .slice (some ⟨ob, oo, none⟩) on oz, .slice sa D sz, .int .i64 (H : Int), .int .i64 (D : Int), .slice (some ⟨ub, uo, none⟩) un uz, .int .i64 (D : Int), .int .i64 (H : Int), .slice (some ⟨db, d2, none⟩) dn dz] 59) = w1 at *
  replace X0 := X0.below B1
  replace B1 := below_then B0 B1
  have b0 : w1.cell? ⟨w.heap.size + 1, 0, none⟩ = some (.slice fa D fz) := X1.cell 0 rfl
  have hsz : sizeN D = 0 := by unfold sizeN; rw [if_neg (by omega), if_neg (by omega)]
  go_enter Tryd.func36, Tryd.ntmps36
  go_wp2_with fail
  refine (pnorm_any _ _ _ _ _ X L.F _ (HX.out _ B1).row (HF.out _ B1).row hsz).mono ?_
  rintro e w2 ⟨gn, rfl, F2, B2⟩
  replace X0 := X0.below B2
  replace X1 := X1.below B2
  have D2 := below_then B1 B2
  clear b0 hw0 hw1 s0 B0 B1 B2
  replace X0 := X0.below ((Below.refl _ _).drew)
  replace X1 := X1.below ((Below.refl _ _).drew)
  replace F2 := F2.drew
  replace D2 := D2.drew
  go_wp2_with fail
  refine wp_region_held_drew (S := fun w' => Blk w' (w.heap.size + 1) 59 #[.slice fa D fz, .int .i64 (D : Int), .int .i64 (D : Int), .slice (some ⟨qb, qo, none⟩) qn qz, .int .i64 (D : Int), .int .i64 (D : Int), .slice (some ⟨kb, k2, none⟩) kn kz, .int .i64 (D : Int), .int .i64 (D : Int), .slice (some ⟨vb, v2, none⟩) vn vz, .int .i64 (D : Int), .int .i64 (D : Int), .slice (some ⟨ob, oo, none⟩) on oz, .slice sa D sz, .int .i64 (H : Int), .int .i64 (D : Int), .slice (some ⟨ub, uo, none⟩) un uz, .int .i64 (D : Int), .int .i64 (H : Int), .slice (some ⟨db, d2, none⟩) dn dz]) (by kernel_rfl) (X1) (fun hHeld => ?_)
  refine wpAnyH_take (i := 0) (v := (.pointer (some ⟨w.heap.size + 1, 1, none⟩))) rfl (by kernel_rfl) (by kernel_rfl) (by kernel_rfl) (fun _ _ _ h => h) (Or.inl ⟨by rfl, ?_⟩) (by assumption) ?_
  · intro w' hSw
    go_simp
  simp only [List.getElem_toArray, List.getElem_cons_zero, Act.put, List.setIfInBounds_toArray, List.set_cons_zero, List.set_cons_succ]
  refine wpAnyH_take (i := 1) (v := (.agg #[.int .i64 (D : Int), .int .i64 (D : Int), .slice (some ⟨qb, qo, none⟩) qn qz])) rfl (by kernel_rfl) (by kernel_rfl) (by kernel_rfl) (fun _ _ _ h => h) (Or.inl ⟨by rfl, ?_⟩) (by assumption) ?_
  · intro w' hSw
    have c1 : w'.cell? ⟨w.heap.size + 1, 1, none⟩ = some (.int .i64 (D : Int)) := hSw.cell 1 rfl
    have c2 : w'.cell? ⟨w.heap.size + 1, 2, none⟩ = some (.int .i64 (D : Int)) := hSw.cell 2 rfl
    have c3 : w'.cell? ⟨w.heap.size + 1, 3, none⟩ = some (.slice (some ⟨qb, qo, none⟩) qn qz) := hSw.cell 3 rfl
    go_simp
  simp only [List.getElem_toArray, List.getElem_cons_succ, List.getElem_cons_zero, Act.put, List.setIfInBounds_toArray, List.set_cons_zero, List.set_cons_succ]
  refine wpAnyH_take (i := 2) (v := (.slice (some ⟨gn, 0, none⟩) D D)) rfl (by kernel_rfl) (by kernel_rfl) (by kernel_rfl) (fun _ _ _ h => h) (Or.inl ⟨by rfl, ?_⟩) (by assumption) ?_
  · intro w' hSw
    go_simp
  simp only [List.getElem_toArray, List.getElem_cons_succ, List.getElem_cons_zero, Act.put, List.setIfInBounds_toArray, List.set_cons_zero, List.set_cons_succ]
  refine wpAnyH_take (i := 4) (v := (.pointer (some ⟨w.heap.size + 1, 4, none⟩))) rfl (by kernel_rfl) (by kernel_rfl) (by kernel_rfl) (fun _ _ _ h => h) (Or.inl ⟨by rfl, ?_⟩) (by assumption) ?_
  · intro w' hSw
    go_simp
  simp only [List.getElem_toArray, List.getElem_cons_succ, List.getElem_cons_zero, Act.put, List.setIfInBounds_toArray, List.set_cons_zero, List.set_cons_succ]
  refine wpAnyH_take (i := 5) (v := (.agg #[.int .i64 (D : Int), .int .i64 (D : Int), .slice (some ⟨kb, k2, none⟩) kn kz])) rfl (by kernel_rfl) (by kernel_rfl) (by kernel_rfl) (fun _ _ _ h => h) (Or.inl ⟨by rfl, ?_⟩) (by assumption) ?_
  · intro w' hSw
    have c4 : w'.cell? ⟨w.heap.size + 1, 4, none⟩ = some (.int .i64 (D : Int)) := hSw.cell 4 rfl
    have c5 : w'.cell? ⟨w.heap.size + 1, 5, none⟩ = some (.int .i64 (D : Int)) := hSw.cell 5 rfl
    have c6 : w'.cell? ⟨w.heap.size + 1, 6, none⟩ = some (.slice (some ⟨kb, k2, none⟩) kn kz) := hSw.cell 6 rfl
    go_simp
  simp only [List.getElem_toArray, List.getElem_cons_succ, List.getElem_cons_zero, Act.put, List.setIfInBounds_toArray, List.set_cons_zero, List.set_cons_succ]
  refine wpAnyH_take (i := 6) (v := (.slice (some ⟨gn, 0, none⟩) D D)) rfl (by kernel_rfl) (by kernel_rfl) (by kernel_rfl) (fun _ _ _ h => h) (Or.inl ⟨by rfl, ?_⟩) (by assumption) ?_
  · intro w' hSw
    go_simp
  simp only [List.getElem_toArray, List.getElem_cons_succ, List.getElem_cons_zero, Act.put, List.setIfInBounds_toArray, List.set_cons_zero, List.set_cons_succ]
  refine wpAnyH_take (i := 8) (v := (.pointer (some ⟨w.heap.size + 1, 7, none⟩))) rfl (by kernel_rfl) (by kernel_rfl) (by kernel_rfl) (fun _ _ _ h => h) (Or.inl ⟨by rfl, ?_⟩) (by assumption) ?_
  · intro w' hSw
    go_simp
  simp only [List.getElem_toArray, List.getElem_cons_succ, List.getElem_cons_zero, Act.put, List.setIfInBounds_toArray, List.set_cons_zero, List.set_cons_succ]
  refine wpAnyH_take (i := 9) (v := (.agg #[.int .i64 (D : Int), .int .i64 (D : Int), .slice (some ⟨vb, v2, none⟩) vn vz])) rfl (by kernel_rfl) (by kernel_rfl) (by kernel_rfl) (fun _ _ _ h => h) (Or.inl ⟨by rfl, ?_⟩) (by assumption) ?_
  · intro w' hSw
    have c7 : w'.cell? ⟨w.heap.size + 1, 7, none⟩ = some (.int .i64 (D : Int)) := hSw.cell 7 rfl
    have c8 : w'.cell? ⟨w.heap.size + 1, 8, none⟩ = some (.int .i64 (D : Int)) := hSw.cell 8 rfl
    have c9 : w'.cell? ⟨w.heap.size + 1, 9, none⟩ = some (.slice (some ⟨vb, v2, none⟩) vn vz) := hSw.cell 9 rfl
    go_simp
  simp only [List.getElem_toArray, List.getElem_cons_succ, List.getElem_cons_zero, Act.put, List.setIfInBounds_toArray, List.set_cons_zero, List.set_cons_succ]
  refine wpAnyH_take (i := 10) (v := (.slice (some ⟨gn, 0, none⟩) D D)) rfl (by kernel_rfl) (by kernel_rfl) (by kernel_rfl) (fun _ _ _ h => h) (Or.inl ⟨by rfl, ?_⟩) (by assumption) ?_
  · intro w' hSw
    go_simp
  simp only [List.getElem_toArray, List.getElem_cons_succ, List.getElem_cons_zero, Act.put, List.setIfInBounds_toArray, List.set_cons_zero, List.set_cons_succ]
  refine wpAnyH_ready (rs := [3]) (by kernel_rfl) (by simp) ?_
  refine AllReadyH.cons rfl (fun Kc hKc => ?_) AllReadyH.nil
  simp only [List.getElem_toArray, List.getElem_cons_succ, List.getElem_cons_zero]
  rw [if_pos (by rfl)]
  go_wp2_with fail
  refine (papply_any _ _ _ _ _ _ L.Q _ _ (nrm X L.F D) _ (HMq.out _ D2) F2.rowAt).mono ?_
  rintro e w3 ⟨gq, rfl, F3, B3⟩
  replace X0 := X0.below B3
  replace X1 := X1.below B3
  replace F2 := F2.below B3
  have D3 := below_then D2 B3
  clear D2
  go_wp2_with fail
  refine hKc.out _ _ (X1) (fun hHeld => ?_)
  clear hKc Kc
  refine wpAnyH_ready (rs := [7]) (by kernel_rfl) (by simp) ?_
  refine AllReadyH.cons rfl (fun Kc hKc => ?_) AllReadyH.nil
  simp only [List.getElem_toArray, List.getElem_cons_succ, List.getElem_cons_zero]
  rw [if_pos (by rfl)]
  go_wp2_with fail
  refine (papply_any _ _ _ _ _ _ L.K _ _ (nrm X L.F D) _ (HMk.out _ D3) F2.rowAt).mono ?_
  rintro e w4 ⟨gk, rfl, F4, B4⟩
  have hs4 : Hid (w.heap.size ≤ w3.heap.size) := D3.size
  replace X0 := X0.below B4
  replace X1 := X1.below B4
  replace F2 := F2.below B4
  replace F3 := F3.below B4
  have D4 := below_then D3 B4
  clear D3 B3
  go_wp2_with fail
  refine hKc.out _ _ (X1) (fun hHeld => ?_)
  clear hKc Kc
  refine wpAnyH_ready (rs := [11]) (by kernel_rfl) (by simp) ?_
  refine AllReadyH.cons rfl (fun Kc hKc => ?_) AllReadyH.nil
  simp only [List.getElem_toArray, List.getElem_cons_succ, List.getElem_cons_zero]
  rw [if_pos (by rfl)]
  go_wp2_with fail
  refine (papply_any _ _ _ _ _ _ L.V _ _ (nrm X L.F D) _ (HMv.out _ D4) F2.rowAt).mono ?_
  rintro e w5 ⟨gv, rfl, F5, B5⟩
  have hs5 : Hid (w.heap.size ≤ w4.heap.size) := D4.size
  replace X0 := X0.below B5
  replace X1 := X1.below B5
  replace F3 := F3.below B5
  replace F4 := F4.below B5
  have D5 := below_then D4 B5
  clear F2 D4 B4 B5
  go_wp2_with fail
  refine hKc.out _ _ (X1) (fun hHeld => ?_)
  clear hKc Kc
  refine wpAnyH_take (i := 12) (v := (.slice (some ⟨gq, 0, none⟩) D D)) rfl (by kernel_rfl) (by kernel_rfl) (by kernel_rfl) (fun _ _ _ h => h) (Or.inl ⟨by rfl, ?_⟩) (by assumption) ?_
  · intro w' hSw
    go_simp
  simp only [List.getElem_toArray, List.getElem_cons_succ, List.getElem_cons_zero, Act.put, List.setIfInBounds_toArray, List.set_cons_zero, List.set_cons_succ]
  refine wpAnyH_take (i := 13) (v := (.slice (some ⟨gk, 0, none⟩) D D)) rfl (by kernel_rfl) (by kernel_rfl) (by kernel_rfl) (fun _ _ _ h => h) (Or.inl ⟨by rfl, ?_⟩) (by assumption) ?_
  · intro w' hSw
    go_simp
  simp only [List.getElem_toArray, List.getElem_cons_succ, List.getElem_cons_zero, Act.put, List.setIfInBounds_toArray, List.set_cons_zero, List.set_cons_succ]
  refine wpAnyH_take (i := 14) (v := (.slice (some ⟨gv, 0, none⟩) D D)) rfl (by kernel_rfl) (by kernel_rfl) (by kernel_rfl) (fun _ _ _ h => h) (Or.inl ⟨by rfl, ?_⟩) (by assumption) ?_
  · intro w' hSw
    go_simp
  simp only [List.getElem_toArray, List.getElem_cons_succ, List.getElem_cons_zero, Act.put, List.setIfInBounds_toArray, List.set_cons_zero, List.set_cons_succ]
  refine wpAnyH_done (by kernel_rfl) ?_ _
  clear hHeld
  replace X0 := X0.below ((Below.refl _ _).drew)
  replace X1 := X1.below ((Below.refl _ _).drew)
  replace F3 := F3.drew
  replace F4 := F4.drew
  replace F5 := F5.drew
  replace D5 := D5.drew
  go_wp2_with fail
  refine wp_region_held_drew (S := fun w' => Blk w' w.heap.size 23 #[.int .i64 Vo, .int .i64 (D : Int), .int .i64 (Hd : Int), .int .i64 H', .int .i64 Ly]) (by kernel_rfl) (X0) (fun hHeld => ?_)
  refine wpAnyH_take (i := 0) (v := (.slice (some ⟨gq, 0, none⟩) D D)) rfl (by kernel_rfl) (by kernel_rfl) (by kernel_rfl) (fun _ _ _ h => h) (Or.inl ⟨by rfl, ?_⟩) (by assumption) ?_
  · intro w' hSw
    go_simp
  simp only [List.getElem_toArray, List.getElem_cons_zero, Act.put, List.setIfInBounds_toArray, List.set_cons_zero, List.set_cons_succ]
  refine wpAnyH_take (i := 1) (v := (.slice ko m ck)) rfl (by kernel_rfl) (by kernel_rfl) (by kernel_rfl) (fun _ _ _ h => h) (Or.inl ⟨by rfl, ?_⟩) (by assumption) ?_
  · intro w' hSw
    go_simp
  simp only [List.getElem_toArray, List.getElem_cons_succ, List.getElem_cons_zero, Act.put, List.setIfInBounds_toArray, List.set_cons_zero, List.set_cons_succ]
  refine wpAnyH_take (i := 2) (v := (.slice (some ⟨gk, 0, none⟩) D D)) rfl (by kernel_rfl) (by kernel_rfl) (by kernel_rfl) (fun _ _ _ h => h) (Or.inl ⟨by rfl, ?_⟩) (by assumption) ?_
  · intro w' hSw
    go_simp
  simp only [List.getElem_toArray, List.getElem_cons_succ, List.getElem_cons_zero, Act.put, List.setIfInBounds_toArray, List.set_cons_zero, List.set_cons_succ]
  refine wpAnyH_take (i := 4) (v := (.slice vo m cv)) rfl (by kernel_rfl) (by kernel_rfl) (by kernel_rfl) (fun _ _ _ h => h) (Or.inl ⟨by rfl, ?_⟩) (by assumption) ?_
  · intro w' hSw
    go_simp
  simp only [List.getElem_toArray, List.getElem_cons_succ, List.getElem_cons_zero, Act.put, List.setIfInBounds_toArray, List.set_cons_zero, List.set_cons_succ]
  refine wpAnyH_take (i := 5) (v := (.slice (some ⟨gv, 0, none⟩) D D)) rfl (by kernel_rfl) (by kernel_rfl) (by kernel_rfl) (fun _ _ _ h => h) (Or.inl ⟨by rfl, ?_⟩) (by assumption) ?_
  · intro w' hSw
    go_simp
  simp only [List.getElem_toArray, List.getElem_cons_succ, List.getElem_cons_zero, Act.put, List.setIfInBounds_toArray, List.set_cons_zero, List.set_cons_succ]
  refine wpAnyH_take (i := 7) (v := (.pointer (some ⟨w.heap.size, 2, none⟩))) rfl (by kernel_rfl) (by kernel_rfl) (by kernel_rfl) (fun _ _ _ h => h) (Or.inl ⟨by rfl, ?_⟩) (by assumption) ?_
  · intro w' hSw
    go_simp
  simp only [List.getElem_toArray, List.getElem_cons_succ, List.getElem_cons_zero, Act.put, List.setIfInBounds_toArray, List.set_cons_zero, List.set_cons_succ]
  refine wpAnyH_take (i := 8) (v := (.int .i64 (Hd : Int))) rfl (by kernel_rfl) (by kernel_rfl) (by kernel_rfl) (fun _ _ _ h => h) (Or.inl ⟨by rfl, ?_⟩) (by assumption) ?_
  · intro w' hSw
    have c2 : w'.cell? ⟨w.heap.size, 2, none⟩ = some (.int .i64 (Hd : Int)) := hSw.cell 2 rfl
    go_simp
  simp only [List.getElem_toArray, List.getElem_cons_succ, List.getElem_cons_zero, Act.put, List.setIfInBounds_toArray, List.set_cons_zero, List.set_cons_succ]
  refine wpAnyH_ready (rs := [3]) (by kernel_rfl) (by simp) ?_
  refine AllReadyH.cons rfl (fun Kc hKc => ?_) AllReadyH.nil
  simp only [List.getElem_toArray, List.getElem_cons_succ, List.getElem_cons_zero]
  rw [if_pos (by rfl)]
  go_wp2_with fail
  refine (behind_any _ _ _ K _ _ _ (keyR L D X) _ (HK.out _ D5) hck (by omega) F4.arg).mono ?_
  rintro e w6 ⟨gK, cK, rfl, G6, B6⟩
  replace X0 := X0.below B6
  replace X1 := X1.below B6
  replace F3 := F3.below B6
  replace F4 := F4.below B6
  replace F5 := F5.below B6
  have D6 := below_then D5 B6
  clear D5 B6
  go_wp2_with fail
  refine hKc.out _ _ (X0) (fun hHeld => ?_)
  clear hKc Kc
  refine wpAnyH_ready (rs := [6]) (by kernel_rfl) (by simp) ?_
  refine AllReadyH.cons rfl (fun Kc hKc => ?_) AllReadyH.nil
  simp only [List.getElem_toArray, List.getElem_cons_succ, List.getElem_cons_zero]
  rw [if_pos (by rfl)]
  go_wp2_with fail
  refine (behind_any _ _ _ V _ _ _ (valR L D X) _ (HV.out _ D6) hcv (by omega) F5.arg).mono ?_
  rintro e w7 ⟨gV, cV, rfl, G7, B7⟩
  replace X0 := X0.below B7
  replace X1 := X1.below B7
  replace F3 := F3.below B7
  replace F4 := F4.below B7
  replace F5 := F5.below B7
  replace G6 := G6.below B7
  have D7 := below_then D6 B7
  clear D6 B7
  go_wp2_with fail
  refine hKc.out _ _ (X0) (fun hHeld => ?_)
  clear hKc Kc
  refine wpAnyH_ready (rs := [9]) (by kernel_rfl) (by simp) ?_
  refine AllReadyH.cons rfl (fun Kc hKc => ?_) AllReadyH.nil
  simp only [List.getElem_toArray, List.getElem_cons_succ, List.getElem_cons_zero]
  rw [if_pos (by rfl)]
  go_wp2_with fail
  refine (attend_any _ _ _ _ _ _ _ _ _ (apl L.Q (nrm X L.F D) D D) (K ++ [keyR L D X]) (V ++ [valR L D X]) _ _ (HT.out _ D7) F3.arg G6 G7 (hchkN_at g1 g2 h1 h2 (by omega) (by omega) hd (rowOf_snoc_len lK hlk (apl_len _ _ _ _)) (rowOf_snoc_len lV hlv (apl_len _ _ _ _)))).mono ?_
  rintro e w8 ⟨ga, ca, rfl, F8, B8⟩
  rw [Int.toNat_natCast] at F8
  replace X0 := X0.below B8
  replace X1 := X1.below B8
  replace F4 := F4.below B8
  replace F5 := F5.below B8
  have D8 := below_then D7 B8
  clear F3 D7 B8 G6 G7
  go_wp2_with fail
  refine hKc.out _ _ (X0) (fun hHeld => ?_)
  clear hKc Kc
  refine wpAnyH_take (i := 10) (v := (.tuple #[.slice (some ⟨ga, 0, none⟩) D ca, .int .i64 0])) rfl (by kernel_rfl) (by kernel_rfl) (by kernel_rfl) (fun _ _ _ h => h) (Or.inl ⟨by rfl, ?_⟩) (by assumption) ?_
  · intro w' hSw
    go_simp
  simp only [List.getElem_toArray, List.getElem_cons_succ, List.getElem_cons_zero, Act.put, List.setIfInBounds_toArray, List.set_cons_zero, List.set_cons_succ]
  refine wpAnyH_take (i := 11) (v := (.slice (some ⟨ga, 0, none⟩) D ca)) rfl (by kernel_rfl) (by kernel_rfl) (by kernel_rfl) (fun _ _ _ h => h) (Or.inl ⟨by rfl, ?_⟩) (by assumption) ?_
  · intro w' hSw
    go_simp
  simp only [List.getElem_toArray, List.getElem_cons_succ, List.getElem_cons_zero, Act.put, List.setIfInBounds_toArray, List.set_cons_zero, List.set_cons_succ]
  refine wpAnyH_take (i := 12) (v := (.int .i64 0)) rfl (by kernel_rfl) (by kernel_rfl) (by kernel_rfl) (fun _ _ _ h => h) (Or.inl ⟨by rfl, ?_⟩) (by assumption) ?_
  · intro w' hSw
    go_simp
  simp only [List.getElem_toArray, List.getElem_cons_succ, List.getElem_cons_zero, Act.put, List.setIfInBounds_toArray, List.set_cons_zero, List.set_cons_succ]
  refine wpAnyH_take (i := 13) (v := (.slice (some ⟨ga, 0, none⟩) D ca)) rfl (by kernel_rfl) (by kernel_rfl) (by kernel_rfl) (fun _ _ _ h => h) (Or.inl ⟨by rfl, ?_⟩) (by assumption) ?_
  · intro w' hSw
    go_simp
  simp only [List.getElem_toArray, List.getElem_cons_succ, List.getElem_cons_zero, Act.put, List.setIfInBounds_toArray, List.set_cons_zero, List.set_cons_succ]
  refine wpAnyH_take (i := 14) (v := (.int .i64 0)) rfl (by kernel_rfl) (by kernel_rfl) (by kernel_rfl) (fun _ _ _ h => h) (Or.inl ⟨by rfl, ?_⟩) (by assumption) ?_
  · intro w' hSw
    go_simp
  simp only [List.getElem_toArray, List.getElem_cons_succ, List.getElem_cons_zero, Act.put, List.setIfInBounds_toArray, List.set_cons_zero, List.set_cons_succ]
  refine wpAnyH_done (by kernel_rfl) ?_ _
  clear hHeld X0
  have b10 : w8.cell? ⟨w.heap.size + 1, 10, none⟩ = some (.int .i64 (D : Int)) := X1.cell 10 rfl
  have b11 : w8.cell? ⟨w.heap.size + 1, 11, none⟩ = some (.int .i64 (D : Int)) := X1.cell 11 rfl
  have b12 : w8.cell? ⟨w.heap.size + 1, 12, none⟩ = some (.slice (some ⟨ob, oo, none⟩) on oz) := X1.cell 12 rfl
  go_wp2_with fail
  refine (papply_any _ _ _ _ _ _ L.O _ _ (attR L D Hd X K V m) _ (HMo.out _ D8) F8.rowAt).mono ?_
  rintro e w9 ⟨go, rfl, F9, B9⟩
  replace X1 := X1.below B9
  replace F4 := F4.below B9
  replace F5 := F5.below B9
  have D9 := below_then D8 B9
  clear F8 D8 B9 b10 b11 b12
  go_wp2_with fail
  refine (padd_any _ _ _ _ _ X (apl L.O (attR L D Hd X K V m) D D) _ (HX.out _ D9).row F9.rowAt (by omega)).mono ?_
  rintro e wa ⟨gy, rfl, Fa, Ba⟩
  replace X1 := X1.below Ba
  replace F4 := F4.below Ba
  replace F5 := F5.below Ba
  have Da := below_then D9 Ba
  clear F9 D9 Ba
  have b13 : wa.cell? ⟨w.heap.size + 1, 13, none⟩ = some (.slice sa D sz) := X1.cell 13 rfl
  go_wp2_with fail
  refine (pnorm_any _ _ _ _ _ (midR L D Hd X K V m) L.S _ Fa.rowAt (HS.out _ Da).row hsz).mono ?_
  rintro e wb ⟨gm, rfl, Fb, Bb⟩
  replace X1 := X1.below Bb
  replace F4 := F4.below Bb
  replace F5 := F5.below Bb
  replace Fa := Fa.below Bb
  have Db := below_then Da Bb
  clear Da Bb b13
  replace X1 := X1.below ((Below.refl _ _).drew)
  replace F4 := F4.drew
  replace F5 := F5.drew
  replace Fa := Fa.drew
  replace Fb := Fb.drew
  replace Db := Db.drew
  go_wp2_with fail
  refine wp_region_held_drew (S := fun w' => Blk w' (w.heap.size + 1) 59 #[.slice fa D fz, .int .i64 (D : Int), .int .i64 (D : Int), .slice (some ⟨qb, qo, none⟩) qn qz, .int .i64 (D : Int), .int .i64 (D : Int), .slice (some ⟨kb, k2, none⟩) kn kz, .int .i64 (D : Int), .int .i64 (D : Int), .slice (some ⟨vb, v2, none⟩) vn vz, .int .i64 (D : Int), .int .i64 (D : Int), .slice (some ⟨ob, oo, none⟩) on oz, .slice sa D sz, .int .i64 (H : Int), .int .i64 (D : Int), .slice (some ⟨ub, uo, none⟩) un uz, .int .i64 (D : Int), .int .i64 (H : Int), .slice (some ⟨db, d2, none⟩) dn dz]) (by kernel_rfl) (X1) (fun hHeld => ?_)
  refine wpAnyH_take (i := 0) (v := (.slice (some ⟨gy, 0, none⟩) D D)) rfl (by kernel_rfl) (by kernel_rfl) (by kernel_rfl) (fun _ _ _ h => h) (Or.inl ⟨by rfl, ?_⟩) (by assumption) ?_
  · intro w' hSw
    go_simp
  simp only [List.getElem_toArray, List.getElem_cons_zero, Act.put, List.setIfInBounds_toArray, List.set_cons_zero, List.set_cons_succ]
  refine wpAnyH_take (i := 1) (v := (.pointer (some ⟨w.heap.size + 1, 17, none⟩))) rfl (by kernel_rfl) (by kernel_rfl) (by kernel_rfl) (fun _ _ _ h => h) (Or.inl ⟨by rfl, ?_⟩) (by assumption) ?_
  · intro w' hSw
    go_simp
  simp only [List.getElem_toArray, List.getElem_cons_succ, List.getElem_cons_zero, Act.put, List.setIfInBounds_toArray, List.set_cons_zero, List.set_cons_succ]
  refine wpAnyH_take (i := 2) (v := (.agg #[.int .i64 (D : Int), .int .i64 (H : Int), .slice (some ⟨db, d2, none⟩) dn dz])) rfl (by kernel_rfl) (by kernel_rfl) (by kernel_rfl) (fun _ _ _ h => h) (Or.inl ⟨by rfl, ?_⟩) (by assumption) ?_
  · intro w' hSw
    have c17 : w'.cell? ⟨w.heap.size + 1, 17, none⟩ = some (.int .i64 (D : Int)) := hSw.cell 17 rfl
    have c18 : w'.cell? ⟨w.heap.size + 1, 18, none⟩ = some (.int .i64 (H : Int)) := hSw.cell 18 rfl
    have c19 : w'.cell? ⟨w.heap.size + 1, 19, none⟩ = some (.slice (some ⟨db, d2, none⟩) dn dz) := hSw.cell 19 rfl
    go_simp
  simp only [List.getElem_toArray, List.getElem_cons_succ, List.getElem_cons_zero, Act.put, List.setIfInBounds_toArray, List.set_cons_zero, List.set_cons_succ]
  refine wpAnyH_take (i := 3) (v := (.pointer (some ⟨w.heap.size + 1, 14, none⟩))) rfl (by kernel_rfl) (by kernel_rfl) (by kernel_rfl) (fun _ _ _ h => h) (Or.inl ⟨by rfl, ?_⟩) (by assumption) ?_
  · intro w' hSw
    go_simp
  simp only [List.getElem_toArray, List.getElem_cons_succ, List.getElem_cons_zero, Act.put, List.setIfInBounds_toArray, List.set_cons_zero, List.set_cons_succ]
  refine wpAnyH_take (i := 4) (v := (.agg #[.int .i64 (H : Int), .int .i64 (D : Int), .slice (some ⟨ub, uo, none⟩) un uz])) rfl (by kernel_rfl) (by kernel_rfl) (by kernel_rfl) (fun _ _ _ h => h) (Or.inl ⟨by rfl, ?_⟩) (by assumption) ?_
  · intro w' hSw
    have c14 : w'.cell? ⟨w.heap.size + 1, 14, none⟩ = some (.int .i64 (H : Int)) := hSw.cell 14 rfl
    have c15 : w'.cell? ⟨w.heap.size + 1, 15, none⟩ = some (.int .i64 (D : Int)) := hSw.cell 15 rfl
    have c16 : w'.cell? ⟨w.heap.size + 1, 16, none⟩ = some (.slice (some ⟨ub, uo, none⟩) un uz) := hSw.cell 16 rfl
    go_simp
  simp only [List.getElem_toArray, List.getElem_cons_succ, List.getElem_cons_zero, Act.put, List.setIfInBounds_toArray, List.set_cons_zero, List.set_cons_succ]
  refine wpAnyH_take (i := 5) (v := (.slice (some ⟨gm, 0, none⟩) D D)) rfl (by kernel_rfl) (by kernel_rfl) (by kernel_rfl) (fun _ _ _ h => h) (Or.inl ⟨by rfl, ?_⟩) (by assumption) ?_
  · intro w' hSw
    go_simp
  simp only [List.getElem_toArray, List.getElem_cons_succ, List.getElem_cons_zero, Act.put, List.setIfInBounds_toArray, List.set_cons_zero, List.set_cons_succ]
  refine wpAnyH_take (i := 10) (v := (.slice (some ⟨gk, 0, none⟩) D D)) rfl (by kernel_rfl) (by kernel_rfl) (by kernel_rfl) (fun _ _ _ h => h) (Or.inl ⟨by rfl, ?_⟩) (by assumption) ?_
  · intro w' hSw
    go_simp
  simp only [List.getElem_toArray, List.getElem_cons_succ, List.getElem_cons_zero, Act.put, List.setIfInBounds_toArray, List.set_cons_zero, List.set_cons_succ]
  refine wpAnyH_take (i := 11) (v := (.slice (some ⟨gv, 0, none⟩) D D)) rfl (by kernel_rfl) (by kernel_rfl) (by kernel_rfl) (fun _ _ _ h => h) (Or.inl ⟨by rfl, ?_⟩) (by assumption) ?_
  · intro w' hSw
    go_simp
  simp only [List.getElem_toArray, List.getElem_cons_succ, List.getElem_cons_zero, Act.put, List.setIfInBounds_toArray, List.set_cons_zero, List.set_cons_succ]
  refine wpAnyH_ready (rs := [6]) (by kernel_rfl) (by simp) ?_
  refine AllReadyH.cons rfl (fun Kc hKc => ?_) AllReadyH.nil
  simp only [List.getElem_toArray, List.getElem_cons_succ, List.getElem_cons_zero]
  rw [if_pos (by rfl)]
  go_wp2_with fail
  refine (papply_any _ _ _ _ _ _ L.U _ _ (nrm (midR L D Hd X K V m) L.S D) _ (HMu.out _ Db) Fb.rowAt).mono ?_
  rintro e wc ⟨gu, rfl, Fc, Bc⟩
  replace X1 := X1.below Bc
  replace F4 := F4.below Bc
  replace F5 := F5.below Bc
  replace Fa := Fa.below Bc
  have Dc := below_then Db Bc
  clear Fb Db Bc
  go_wp2_with fail
  refine hKc.out _ _ (X1) (fun hHeld => ?_)
  clear hKc Kc
  refine wpAnyH_ready (rs := [7]) (by kernel_rfl) (by simp) ?_
  refine AllReadyH.cons rfl (fun Kc hKc => ?_) AllReadyH.nil
  simp only [List.getElem_toArray, List.getElem_cons_succ, List.getElem_cons_zero]
  rw [if_pos (by rfl)]
  go_wp2_with fail
  refine (rise_any _ _ _ (apl L.U (nrm (midR L D Hd X K V m) L.S D) H D) _ Fc.rowAt (by omega)).mono ?_
  rintro e wd ⟨gr, rfl, Fd, Bd⟩
  replace X1 := X1.below Bd
  replace F4 := F4.below Bd
  replace F5 := F5.below Bd
  replace Fa := Fa.below Bd
  have Dd := below_then Dc Bd
  clear Fc Dc Bd
  go_wp2_with fail
  refine hKc.out _ _ (X1) (fun hHeld => ?_)
  clear hKc Kc
  refine wpAnyH_ready (rs := [8]) (by kernel_rfl) (by simp) ?_
  refine AllReadyH.cons rfl (fun Kc hKc => ?_) AllReadyH.nil
  simp only [List.getElem_toArray, List.getElem_cons_succ, List.getElem_cons_zero]
  rw [if_pos (by rfl)]
  go_wp2_with fail
  refine (papply_any _ _ _ _ _ _ L.N _ _ (riseR (apl L.U (nrm (midR L D Hd X K V m) L.S D) H D) H) _ (HMd.out _ Dd) Fd.rowAt).mono ?_
  rintro e we ⟨gd, rfl, Fe, Be⟩
  replace X1 := X1.below Be
  replace F4 := F4.below Be
  replace F5 := F5.below Be
  replace Fa := Fa.below Be
  have De := below_then Dd Be
  clear Fd Dd Be
  go_wp2_with fail
  refine hKc.out _ _ (X1) (fun hHeld => ?_)
  clear hKc Kc
  refine wpAnyH_ready (rs := [9]) (by kernel_rfl) (by simp) ?_
  refine AllReadyH.cons rfl (fun Kc hKc => ?_) AllReadyH.nil
  simp only [List.getElem_toArray, List.getElem_cons_succ, List.getElem_cons_zero]
  rw [if_pos (by rfl)]
  go_wp2_with fail
  refine (padd_any _ _ _ _ _ (midR L D Hd X K V m) (apl L.N (riseR (apl L.U (nrm (midR L D Hd X K V m) L.S D) H D) H) D H) _ Fa.rowAt Fe.rowAt (by omega)).mono ?_
  rintro e wf ⟨gz, rfl, Ff, Bf⟩
  replace X1 := X1.below Bf
  replace F4 := F4.below Bf
  replace F5 := F5.below Bf
  have Df := below_then De Bf
  go_wp2_with fail
  refine hKc.out _ _ (X1) (fun hHeld => ?_)
  clear hKc Kc
  refine wpAnyH_take (i := 12) (v := (.slice (some ⟨gz, 0, none⟩) D D)) rfl (by kernel_rfl) (by kernel_rfl) (by kernel_rfl) (fun _ _ _ h => h) (Or.inl ⟨by rfl, ?_⟩) (by assumption) ?_
  · intro w' hSw
    go_simp
  simp only [List.getElem_toArray, List.getElem_cons_succ, List.getElem_cons_zero, Act.put, List.setIfInBounds_toArray, List.set_cons_zero, List.set_cons_succ]
  refine wpAnyH_take (i := 13) (v := (.slice (some ⟨gk, 0, none⟩) D D)) rfl (by kernel_rfl) (by kernel_rfl) (by kernel_rfl) (fun _ _ _ h => h) (Or.inl ⟨by rfl, ?_⟩) (by assumption) ?_
  · intro w' hSw
    go_simp
  simp only [List.getElem_toArray, List.getElem_cons_succ, List.getElem_cons_zero, Act.put, List.setIfInBounds_toArray, List.set_cons_zero, List.set_cons_succ]
  refine wpAnyH_take (i := 14) (v := (.slice (some ⟨gv, 0, none⟩) D D)) rfl (by kernel_rfl) (by kernel_rfl) (by kernel_rfl) (fun _ _ _ h => h) (Or.inl ⟨by rfl, ?_⟩) (by assumption) ?_
  · intro w' hSw
    go_simp
  simp only [List.getElem_toArray, List.getElem_cons_succ, List.getElem_cons_zero, Act.put, List.setIfInBounds_toArray, List.set_cons_zero, List.set_cons_succ]
  refine wpAnyH_done (by kernel_rfl) ?_ _
  go_wp2
  go_ret3
  have s4 := hs4.out
  have s5 := hs5.out
  exact ⟨gz, gk, gv, rfl, Ff.mono De.size, F4.mono s4, F5.mono s5, Df⟩
end Go.Proofs.YtoofbjpekdlfiaaDoor

/- Package pass: the row of a token at a place, and how much each token is liked behind a last row. -/
namespace Go.Proofs.YtoofbjpekdlfiaaDoor
open Go.ChangeShapes Go.WideShapes Go.ChangeAt Go.RowKit
/-- A model's numbers. -/
structure Mdl where
  E : List Int
  Ls : List Lay
  G : List Int
  O : List Int
structure WtAt (w : World) (V D H : Nat) (W : Wt) (bs : List Bk) (M : Mdl) : Prop where
  e : MtAt w W.e V D M.E
  b : BlocksAt w W.b bs
  len : bs.length = M.Ls.length
  ls : ∀ (t : Nat) (x : Bk), bs[t]? = some x → ∃ L, M.Ls[t]? = some L ∧ BkAt w D H x L
  l : SlAt w W.l D M.G
  o : MtAt w W.o V D M.O
theorem WtAt.below {w w' : World} {V D H : Nat} {W : Wt} {bs : List Bk} {M : Mdl} (h : WtAt w V D H W bs M) (hb : Below w.heap.size w w') : WtAt w' V D H W bs M :=
  ⟨h.e.below hb, h.b.below hb, h.len, fun t x hx => let ⟨L, h1, h2⟩ := h.ls t x hx; ⟨L, h1, h2.below hb⟩, h.l.below hb, h.o.below hb⟩
/-- What is added at a place. -/
def atN (at' j : Nat) : Int := sat ((at' : Int) * ((j % 3 : Nat) : Int) * 4096)
def begR (E : List Int) (D tok at' : Nat) : List Int := tab D fun j => addN (el (rowN E D tok) j) (atN at' j)
def likR (M : Mdl) (V D : Nat) (X : List Int) : List Int := apl M.O (nrm X M.G D) V D
theorem tab_put {n : Nat} {f r : Nat → Int} {k : Nat} (hk : k < n) : (tab n (fun j => if j < k then f j else r j)).set k (f k) = tab n (fun j => if j < k + 1 then f j else r j) := by
  rw [tab_set hk]
  refine tab_congr fun j _ => ?_
  by_cases h1 : j = k
  · subst h1; rw [if_pos rfl, if_pos (by omega)]
  · rw [if_neg h1]
    by_cases h2 : j < k
    · rw [if_pos h2, if_pos (by omega)]
    · rw [if_neg h2, if_neg (by omega)]
set_option maxRecDepth 100000 in
set_option maxHeartbeats 800000 in
theorem begin_any (V D H : Nat) (W : Wt) (bs : List Bk) (M : Mdl) (tok at' : Nat) (w : World) (hW : WtAt w V D H W bs M) (ht : tok < V) (ha : at' ≤ 4096) :
   Calls Tryd.prog 21 #[.agg W.cells, .int .i64 tok, .int .i64 at'] w fun e w' => ∃ g cap, e = .returned (.slice (some ⟨g, 0, none⟩) D cap) ∧ Fresh w' w.heap.size g D cap (begR M.E D tok at') ∧ Below w.heap.size w w' := by
  obtain ⟨⟨er, ec, ed⟩, ⟨ba, bn, bz⟩, ⟨la, ln, lz⟩, ⟨or, oc, ⟨oa, on, oz⟩⟩⟩ := W
  obtain ⟨eb, eo, en, ez, e1, ME⟩ := hW.e
  simp only [Mt.mk.injEq] at e1
  obtain ⟨rfl, rfl, rfl⟩ := e1
  clear hW
  have c2 := ME.c2
  have X0 := blk_new w 29 #[.int .i64 (V : Int), .int .i64 (D : Int), .slice (some ⟨eb, eo, none⟩) en ez, .slice ba bn bz, .slice la ln lz, .int .i64 or, .int .i64 oc, .slice oa on oz]
  have B0 : Below w.heap.size w (w.alloc (.cells #[.int .i64 (V : Int), .int .i64 (D : Int), .slice (some ⟨eb, eo, none⟩) en ez, .slice ba bn bz, .slice la ln lz, .int .i64 or, .int .i64 oc, .slice oa on oz] 29)) := (Below.refl _ _).alloc (Nat.le_refl _) _
  show Calls Tryd.prog 21 #[.agg #[.int .i64 (V : Int), .int .i64 (D : Int), .slice (some ⟨eb, eo, none⟩) en ez, .slice ba bn bz, .slice la ln lz, .int .i64 or, .int .i64 oc, .slice oa on oz], .int .i64 tok, .int .i64 at'] w _
  generalize hw0 : w.alloc (.cells #[.int .i64 (V : Int), .int .i64 (D : Int), .slice (some ⟨eb, eo, none⟩) en ez, .slice ba bn bz, .slice la ln lz, .int .i64 or, .int .i64 oc, .slice oa on oz] 29) = w0 at *
  have a0 : w0.cell? ⟨w.heap.size, 0, none⟩ = some (.int .i64 (V : Int)) := X0.cell 0 rfl
  have a1 : w0.cell? ⟨w.heap.size, 1, none⟩ = some (.int .i64 (D : Int)) := X0.cell 1 rfl
  have a2 : w0.cell? ⟨w.heap.size, 2, none⟩ = some (.slice (some ⟨eb, eo, none⟩) en ez) := X0.cell 2 rfl
  have C := row_any V D eb eo en ez M.E tok w0 (ME.below B0) ht
  unfold matV at C
  go_enter Tryd.func21, Tryd.ntmps21
  go_wp2_with fail
  refine C.mono ?_
  rintro e w1 ⟨g, cap, rfl, F1, B1⟩
  have s0 := B0.size
  replace F1 := F1.mono s0
  replace B1 := below_then B0 B1
  clear C a0 a1 a2 X0 B0 hw0 ME
  have HB : Hid (begR M.E D tok at' = tab D fun j => addN (el (rowN M.E D tok) j) (atN at' j)) := rfl
  have lR : (rowN M.E D tok).length = D := tab_len _ _
  generalize rowN M.E D tok = R at *
  have F0 : Fresh w1 w.heap.size g D cap (tab D fun j => if j < 0 then addN (el R j) (atN at' j) else el R j) := by
    have e : (tab D fun j => if j < 0 then addN (el R j) (atN at' j) else el R j) = R := by
      rw [show (tab D fun j => if j < 0 then addN (el R j) (atN at' j) else el R j) = tab D (el R) from tab_congr fun j _ => by rw [if_neg (by omega)]]
      exact tab_el lR
    rw [e]
    exact F1
  have sm := F1.small
  clear F1
  go_wp2_with fail
  go_loopg [19] D (fun r i wr => ∃ k : Nat, k ≤ D ∧ r = D - k ∧ i = .int .i64 k ∧ Fresh wr w.heap.size g D cap (tab D fun j => if j < k then addN (el R j) (atN at' j) else el R j) ∧ Below w.heap.size w wr)
  case atStart => exact ⟨0, by omega, by omega, rfl, F0, B1⟩
  case round =>
    obtain ⟨k, hk, rfl, rfl, F2, B2⟩ := hrel
    clear F0 B1
    by_cases hlt : k < D
    · have c1 := F2.cell hlt
      rw [el_tab hlt, if_neg (by omega)] at c1
      have rx := sm.el k
      have gb := F2.base
      obtain ⟨r3, hr3⟩ : ∃ r3 : Int, r3 = ((k % 3 : Nat) : Int) := ⟨_, rfl⟩
      have hm3 : (k : Int) % 3 = r3 := by rw [hr3]; rfl
      obtain ⟨p, hp⟩ : ∃ p : Int, p = (at' : Int) * r3 * 4096 := ⟨_, rfl⟩
      have hq1 : 0 ≤ (at' : Int) * r3 ∧ (at' : Int) * r3 ≤ 8192 := by
        have h3 : k % 3 ≤ 2 := by omega
        have h4 : at' * (k % 3) ≤ 4096 * 2 := Nat.mul_le_mul ha h3
        rw [hr3, ← Int.natCast_mul]
        omega
      have hpb : 0 ≤ p ∧ p ≤ 33554432 := by omega
      have HA : Hid (addN (el R k) (atN at' k) = addN (el R k) (sat p)) := by show _ = _; unfold atN; rw [hp, hr3]
      have sb := sat_bd p
      have ab := addN_bd (el R k) (sat p)
      have HS : Hid (∀ w', Fresh w' w.heap.size g D cap (tab D fun j => if j < k then addN (el R j) (atN at' j) else el R j) → Fresh (w'.setCell ⟨g, k, none⟩ (.int .i32 (addN (el R k) (sat p)))) w.heap.size g D cap (tab D fun j => if j < k + 1 then addN (el R j) (atN at' j) else el R j)) := fun w' h => by
        have h2 := h.set k (addN (el R k) (sat p)) hlt (by omega)
        rw [← HA.out, tab_put hlt] at h2
        rw [← HA.out]
        exact h2
      have y1 : ∀ p' : Nxt wr, Calls Tryd.prog 35 #[.int .i64 p] p'.to fun e w'' => e = .returned (.int .i32 (sat p)) ∧ ∃ q : Nxt wr, w'' = q.to := fun p' => calls_nxt_same (sat_any _ _ (by omega) (by omega))
      have y2 : ∀ p' : Nxt wr, Calls Tryd.prog 34 #[.int .i32 (el R k), .int .i32 (sat p)] p'.to fun e w'' => e = .returned (.int .i32 (addN (el R k) (sat p))) ∧ ∃ q : Nxt wr, w'' = q.to := fun p' => calls_nxt_same (add_any _ _ _ (by omega) (by omega) (by omega) (by omega))
      clear HA
      clear hr3
      obtain ⟨a3, ha3⟩ : ∃ a3 : Int, a3 = (at' : Int) * r3 := ⟨_, rfl⟩
      have hw1 : IntKind.i64.wrap ((at' : Int) * r3) = a3 := by rw [ha3]; exact wrap_in (by omega)
      have hw2 : IntKind.i64.wrap (a3 * 4096) = p := by rw [ha3, ← hp]; exact wrap_in (by omega)
      clear hq1
      have c2 : ∀ p' : Nxt wr, p'.to.cell? ⟨g, k, none⟩ = some (.int .i32 (el R k)) := fun p' => by
        have := (F2.below p'.ok).cell hlt
        rw [el_tab hlt, if_neg (by omega)] at this
        exact this
      clear hp ha3
      generalize hz2 : addN (el R k) (sat p) = z2 at *
      generalize hz1 : sat p = z1 at *
      clear hz1 hz2
      generalize el R k = xa at *
      go_wp2_with fail
      haveI := nxt_ne wr
      refine wp_region_last_lit (by kernel_rfl) (List.cons_ne_nil _ _) (by kernel_rfl) (by kernel_rfl) (by kernel_rfl) (by kernel_rfl) (by kernel_rfl) ?_
      intro l' z' hl' hz'
      simp only [List.dropLast_cons_cons, List.dropLast_singleton] at hl'
      simp only [List.getLast_cons_cons, List.getLast_singleton] at hz'
      subst hl' hz'
      repeat (first | go_big_quiet_skip | (go_big_quiet_want; go_big_quiet_op; first | go_big_quiet_on | (apply Exists.intro; refine ⟨fun pq => ?_, ?_⟩; (first | (go_at_call 35; exact y1 _) | (go_at_call 34; exact y2 _)); go_big_quiet_on)))
      refine wpQuiet_nil ?_
      intro _ hw'
      obtain ⟨⟨w3, B3⟩, hw''⟩ := hw'
      subst hw''
      have F3 := F2.below B3
      have ff := F3.frozen k
      have fc := F3.cell hlt
      have F4 := HS.out _ F3
      replace B3 := below_then B2 B3
      clear y1 y2 c2 c1 F2
      go_wp2
      go_roundg (D - (k + 1))
      case measure => omega
      case rel => exact ⟨k + 1, by omega, rfl, by go_num, F4, B3.setCell gb _⟩
    · obtain rfl : k = D := by omega
      have e : (tab k fun j => if j < k then addN (el R j) (atN at' j) else el R j) = begR M.E k tok at' := by
        rw [HB.out]
        exact tab_congr fun j hj => by rw [if_pos hj]
      rw [e] at F2
      clear e HB
      go_wp2
      go_ret
      exact ⟨g, cap, rfl, F2, B2⟩
set_option maxRecDepth 100000 in
set_option maxHeartbeats 800000 in
theorem likes_any (V D H : Nat) (W : Wt) (bs : List Bk) (M : Mdl) (xo : Option Addr) (cx : Nat) (X : List Int) (w : World) (hW : WtAt w V D H W bs M) (hX : RowAt w xo D X) (h1 : 1 ≤ D) (h2 : D ≤ 128) :
   Calls Tryd.prog 23 #[.agg W.cells, .slice xo D cx] w fun e w' => ∃ g, e = .returned (.slice (some ⟨g, 0, none⟩) V V) ∧ Fresh w' w.heap.size g V V (likR M V D X) ∧ Below w.heap.size w w' := by
  have hsz : sizeN D = 0 := by unfold sizeN; rw [if_neg (by omega), if_neg (by omega)]
  obtain ⟨⟨er, ec, ⟨ea, en, ez⟩⟩, ⟨ba, bn, bz⟩, ⟨la, ln, lz⟩, ⟨or, oc, od⟩⟩ := W
  obtain ⟨ob, oo, on, oz, e1, MO⟩ := hW.o
  have e2 := hW.l.len
  have AL := hW.l.arg
  simp only [Mt.mk.injEq] at e1
  obtain ⟨rfl, rfl, rfl⟩ := e1
  simp only at e2 AL
  replace e2 := e2.symm
  subst e2
  clear hW
  have X0 := blk_new w 29 #[.int .i64 er, .int .i64 ec, .slice ea en ez, .slice ba bn bz, .slice la D lz, .int .i64 (V : Int), .int .i64 (D : Int), .slice (some ⟨ob, oo, none⟩) on oz]
  have B0 : Below w.heap.size w (w.alloc (.cells #[.int .i64 er, .int .i64 ec, .slice ea en ez, .slice ba bn bz, .slice la D lz, .int .i64 (V : Int), .int .i64 (D : Int), .slice (some ⟨ob, oo, none⟩) on oz] 29)) := (Below.refl _ _).alloc (Nat.le_refl _) _
  show Calls Tryd.prog 23 #[.agg #[.int .i64 er, .int .i64 ec, .slice ea en ez, .slice ba bn bz, .slice la D lz, .int .i64 (V : Int), .int .i64 (D : Int), .slice (some ⟨ob, oo, none⟩) on oz], .slice xo D cx] w _
  generalize hw0 : w.alloc (.cells #[.int .i64 er, .int .i64 ec, .slice ea en ez, .slice ba bn bz, .slice la D lz, .int .i64 (V : Int), .int .i64 (D : Int), .slice (some ⟨ob, oo, none⟩) on oz] 29) = w0 at *
  replace X0 := X0.below ((Below.refl _ _).drew)
  replace B0 := B0.drew
  have HX := hX.below B0
  have HL := (AL.below B0).row
  have HO := MO.below B0
  have HM := MO
  go_enter Tryd.func23, Tryd.ntmps23
  go_wp2_with fail
  refine wp_region_held_drew (S := fun w' => Blk w' w.heap.size 29 #[.int .i64 er, .int .i64 ec, .slice ea en ez, .slice ba bn bz, .slice la D lz, .int .i64 (V : Int), .int .i64 (D : Int), .slice (some ⟨ob, oo, none⟩) on oz]) (by kernel_rfl) (X0) (fun hHeld => ?_)
  refine wpAnyH_take (i := 0) (v := (.pointer (some ⟨w.heap.size, 5, none⟩))) rfl (by kernel_rfl) (by kernel_rfl) (by kernel_rfl) (fun _ _ _ h => h) (Or.inl ⟨by rfl, ?_⟩) (by assumption) ?_
  · intro w' hSw
    go_simp
  simp only [List.getElem_toArray, List.getElem_cons_zero, Act.put, List.setIfInBounds_toArray, List.set_cons_zero, List.set_cons_succ]
  refine wpAnyH_take (i := 1) (v := (.agg #[.int .i64 (V : Int), .int .i64 (D : Int), .slice (some ⟨ob, oo, none⟩) on oz])) rfl (by kernel_rfl) (by kernel_rfl) (by kernel_rfl) (fun _ _ _ h => h) (Or.inl ⟨by rfl, ?_⟩) (by assumption) ?_
  · intro w' hSw
    have c5 : w'.cell? ⟨w.heap.size, 5, none⟩ = some (.int .i64 (V : Int)) := hSw.cell 5 rfl
    have c6 : w'.cell? ⟨w.heap.size, 6, none⟩ = some (.int .i64 (D : Int)) := hSw.cell 6 rfl
    have c7 : w'.cell? ⟨w.heap.size, 7, none⟩ = some (.slice (some ⟨ob, oo, none⟩) on oz) := hSw.cell 7 rfl
    go_simp
  simp only [List.getElem_toArray, List.getElem_cons_succ, List.getElem_cons_zero, Act.put, List.setIfInBounds_toArray, List.set_cons_zero, List.set_cons_succ]
  refine wpAnyH_take (i := 2) (v := (.slice xo D cx)) rfl (by kernel_rfl) (by kernel_rfl) (by kernel_rfl) (fun _ _ _ h => h) (Or.inl ⟨by rfl, ?_⟩) (by assumption) ?_
  · intro w' hSw
    go_simp
  simp only [List.getElem_toArray, List.getElem_cons_succ, List.getElem_cons_zero, Act.put, List.setIfInBounds_toArray, List.set_cons_zero, List.set_cons_succ]
  refine wpAnyH_take (i := 3) (v := (.pointer (some ⟨w.heap.size, 4, none⟩))) rfl (by kernel_rfl) (by kernel_rfl) (by kernel_rfl) (fun _ _ _ h => h) (Or.inl ⟨by rfl, ?_⟩) (by assumption) ?_
  · intro w' hSw
    go_simp
  simp only [List.getElem_toArray, List.getElem_cons_succ, List.getElem_cons_zero, Act.put, List.setIfInBounds_toArray, List.set_cons_zero, List.set_cons_succ]
  refine wpAnyH_take (i := 4) (v := (.slice la D lz)) rfl (by kernel_rfl) (by kernel_rfl) (by kernel_rfl) (fun _ _ _ h => h) (Or.inl ⟨by rfl, ?_⟩) (by assumption) ?_
  · intro w' hSw
    have c4 : w'.cell? ⟨w.heap.size, 4, none⟩ = some (.slice la D lz) := hSw.cell 4 rfl
    go_simp
  simp only [List.getElem_toArray, List.getElem_cons_succ, List.getElem_cons_zero, Act.put, List.setIfInBounds_toArray, List.set_cons_zero, List.set_cons_succ]
  refine wpAnyH_ready (rs := [5]) (by kernel_rfl) (by simp) ?_
  refine AllReadyH.cons rfl (fun Kc hKc => ?_) AllReadyH.nil
  simp only [List.getElem_toArray, List.getElem_cons_succ, List.getElem_cons_zero]
  rw [if_pos (by rfl)]
  go_wp2_with fail
  refine (pnorm_any _ _ _ _ _ X M.G _ HX HL hsz).mono ?_
  rintro e w1 ⟨gn, rfl, F1, B1⟩
  replace X0 := X0.below B1
  have D1 := below_then B0 B1
  go_wp2_with fail
  refine hKc.out _ _ (X0) (fun hHeld => ?_)
  clear hKc Kc
  refine wpAnyH_ready (rs := [6]) (by kernel_rfl) (by simp) ?_
  refine AllReadyH.cons rfl (fun Kc hKc => ?_) AllReadyH.nil
  simp only [List.getElem_toArray, List.getElem_cons_succ, List.getElem_cons_zero]
  rw [if_pos (by rfl)]
  go_wp2_with fail
  refine (papply_any _ _ _ _ _ _ M.O _ _ (nrm X M.G D) _ (HM.below D1) F1.rowAt).mono ?_
  rintro e w2 ⟨gz, rfl, F2, B2⟩
  replace X0 := X0.below B2
  go_wp2_with fail
  refine hKc.out _ _ (X0) (fun hHeld => ?_)
  clear hKc Kc
  refine wpAnyH_take (i := 7) (v := (.slice (some ⟨gz, 0, none⟩) V V)) rfl (by kernel_rfl) (by kernel_rfl) (by kernel_rfl) (fun _ _ _ h => h) (Or.inl ⟨by rfl, ?_⟩) (by assumption) ?_
  · intro w' hSw
    go_simp
  simp only [List.getElem_toArray, List.getElem_cons_succ, List.getElem_cons_zero, Act.put, List.setIfInBounds_toArray, List.set_cons_zero, List.set_cons_succ]
  refine wpAnyH_done (by kernel_rfl) ?_ _
  go_wp2
  go_ret
  exact ⟨gz, rfl, F2.mono D1.size, below_then D1 B2⟩
end Go.Proofs.YtoofbjpekdlfiaaDoor

/- Rows of whole numbers in memory; what hangs on new blocks alone. -/
namespace Go.Proofs.YtoofbjpekdlfiaaDoor
open Go.ChangeShapes Go.WideShapes Go.ChangeAt Go.RowKit
/-- In w the slice of whole numbers that begins at ao reads as A. -/
structure IRowAt (w : World) (ao : Option Addr) (n : Nat) (A : List Int) : Prop where
  len : A.length = n
  max : n ≤ 9223372036854775807
  small : ∀ k, -9223372036854775808 ≤ el A k ∧ el A k ≤ 9223372036854775807
  cells : 0 < n → ∃ b o, ao = some ⟨b, o, none⟩ ∧ ∀ t, t < n → w.cell? ⟨b, o + t, none⟩ = some (.int .i64 (el A t))
structure IArg (w : World) (ao : Option Addr) (n ca : Nat) (A : List Int) : Prop where
  row : IRowAt w ao n A
  fit : n ≤ ca
  max : ca ≤ 9223372036854775807
  nil : ao = none → ca = 0
theorem IRowAt.below {w w' : World} {ao : Option Addr} {n : Nat} {A : List Int} (h : IRowAt w ao n A) (hb : Below w.heap.size w w') : IRowAt w' ao n A := by
  refine ⟨h.len, h.max, h.small, fun hn => ?_⟩
  obtain ⟨b, o, e, hc⟩ := h.cells hn
  refine ⟨b, o, e, fun t ht => ?_⟩
  have h1 := hc t ht
  have hlt : b < w.heap.size := by simpa using World.block_lt_of_cell? w _ h1
  rw [hb.cell (by exact hlt)]
  exact h1
theorem IArg.below {w w' : World} {ao : Option Addr} {n ca : Nat} {A : List Int} (h : IArg w ao n ca A) (hb : Below w.heap.size w w') : IArg w' ao n ca A := ⟨h.row.below hb, h.fit, h.max, h.nil⟩
theorem iarg_nil (w : World) : IArg w none 0 0 [] := ⟨⟨rfl, by omega, fun k => by simp [el], fun h => by omega⟩, by omega, by omega, fun _ => rfl⟩
theorem IRowAt.vals {w : World} {ad : Addr} {n : Nat} {A : List Int} (h : IRowAt w (some ad) n A) : ∀ j u, (A.map (Value.int .i64))[j]? = some u → w.cell? (ad.add j) = some u := by
  intro j u hj
  have hl := h.len
  have hjm : j < n := by
    have := (List.getElem?_eq_some_iff.1 hj).1
    simpa [hl] using this
  obtain ⟨b, o', e, hcell⟩ := h.cells (by omega)
  simp only [Option.some.injEq] at e
  subst e
  have e2 : (Addr.mk b o' none).add j = ⟨b, o' + j, none⟩ := by simp [Addr.add]
  rw [e2, hcell j hjm]
  rw [List.getElem?_map, List.getElem?_eq_getElem (show j < A.length by omega)] at hj
  simp only [Option.map_some, Option.some.injEq] at hj
  rw [← hj]
  unfold el
  simp [List.getD_eq_getElem?_getD, List.getElem?_eq_getElem (show j < A.length by omega)]
/-- A row of whole numbers of the call's own. -/
def IOwn (w : World) (B : Nat) (v : Value) (n : Nat) (A : List Int) : Prop := w.ownsRow B 3 1 v n (A.map (Value.int .i64))
theorem Tryd.infoInt : (Tryd.prog.info? 3).map (fun i => (i.zero, i.size, i.bytes)) = some (some (.int .i64 0), 1, 8) := by kernel_rfl
theorem IOwn.arg {w : World} {B : Nat} {v : Value} {n : Nat} {A : List Int} (h : IOwn w B v n A) (hs : ∀ k, -9223372036854775808 ≤ el A k ∧ el A k ≤ 9223372036854775807) : ∃ ao c, v = .slice ao n c ∧ IArg w ao n c A := by
  have hl : A.length = n := by have := h.1; simpa using this
  rcases h.2 with ⟨h3, h4⟩ | ⟨g, cap, cur, hv, hg, hh, h5, h6, h7, h8⟩
  · subst h4
    obtain rfl : A = [] := List.length_eq_zero_iff.1 hl
    exact ⟨none, 0, h3, iarg_nil w⟩
  · subst hv
    have hm : cap ≤ 9223372036854775807 := by simpa [maxLen] using h6
    refine ⟨_, _, rfl, ⟨hl, by omega, hs, fun hn => ⟨g, 0, rfl, fun t ht => ?_⟩⟩, h5, hm, fun h => by cases h⟩
    have hc := World.ownsRow.cells h (g := g) rfl t (.int .i64 (el A t)) (by
      rw [List.getElem?_map, List.getElem?_eq_getElem (show t < A.length by omega)]
      unfold el
      simp [List.getD_eq_getElem?_getD, List.getElem?_eq_getElem (show t < A.length by omega)])
    have e2 : (Addr.mk g 0 none).add t = ⟨g, t, none⟩ := by simp [Addr.add]; intro h; exact h.symm
    rw [e2] at hc
    rw [Nat.zero_add]
    exact hc
/-- Φ hangs on those blocks alone that p tells. -/
def Hangs (p : Nat → Prop) (w : World) (Φ : World → Prop) : Prop := ∀ w2 : World, (∀ b, p b → b < w.heap.size → w2.heap[b]? = w.heap[b]?) → Φ w2
theorem Hangs.now {p : Nat → Prop} {w : World} {Φ : World → Prop} (h : Hangs p w Φ) : Φ w := h w fun _ _ _ => rfl
theorem Hangs.below {p : Nat → Prop} {w w' : World} {Φ : World → Prop} (h : Hangs p w Φ) (hb : Below w.heap.size w w') : Hangs p w' Φ := fun w2 h2 =>
  h w2 fun b h3 h4 => (h2 b h3 (Nat.lt_of_lt_of_le h4 hb.size)).trans (hb.block b h4)
theorem Hangs.mono {p q : Nat → Prop} {w : World} {Φ : World → Prop} (h : Hangs p w Φ) (hq : ∀ b, b < w.heap.size → p b → q b) : Hangs q w Φ := fun w2 h2 => h w2 fun b h3 h4 => h2 b (hq b h4 h3) h4
theorem Hangs.other {p : Nat → Prop} {w w' : World} {Φ : World → Prop} (h : Hangs p w Φ) (hs : w'.heap.size = w.heap.size) (ho : ∀ b, p b → w'.heap[b]? = w.heap[b]?) : Hangs p w' Φ := fun w2 h2 =>
  h w2 fun b h3 h4 => (h2 b h3 (by rw [hs]; exact h4)).trans (ho b h3)
theorem Hangs.set {p : Nat → Prop} {w : World} {Φ : World → Prop} (h : Hangs p w Φ) {a : Addr} (ha : ¬ p a.block) (v : Value) : Hangs p (w.setCell a v) Φ :=
  h.other (by simp [World.setCell]) fun b hb => Below.heap_setCell _ _ _ _ (fun e => ha (by rw [← e]; exact hb))
theorem Hangs.row {p : Nat → Prop} {w : World} {Φ : World → Prop} (h : Hangs p w Φ) {g : Nat} (ha : ¬ p g) (cs : Array Value) : Hangs p (w.setRow g cs) Φ :=
  h.other (by simp [World.setRow]) fun b hb => setRow_other _ _ _ _ (fun e => ha (by rw [← e]; exact hb))
theorem Hangs.imp {p : Nat → Prop} {w : World} {Φ Ψ : World → Prop} (h : Hangs p w Φ) (hi : ∀ w, Φ w → Ψ w) : Hangs p w Ψ := fun w2 h2 => hi _ (h w2 h2)
/-- Φ hangs on the blocks from B on alone. -/
def New (B : Nat) (w : World) (Φ : World → Prop) : Prop := Hangs (fun b => B ≤ b) w Φ
theorem New.mono {B B' : Nat} {w : World} {Φ : World → Prop} (h : New B w Φ) (hB : B' ≤ B) : New B' w Φ := Hangs.mono h fun _ _ h => Nat.le_trans hB h
theorem New.now {B : Nat} {w : World} {Φ : World → Prop} (h : New B w Φ) : Φ w := Hangs.now h
theorem New.below {B : Nat} {w w' : World} {Φ : World → Prop} (h : New B w Φ) (hb : Below w.heap.size w w') : New B w' Φ := Hangs.below h hb
theorem New.set {B : Nat} {w : World} {Φ : World → Prop} (h : New B w Φ) {a : Addr} (ha : a.block < B) (v : Value) : New B (w.setCell a v) Φ := Hangs.set h (by omega) v
theorem New.row {B : Nat} {w : World} {Φ : World → Prop} (h : New B w Φ) {g : Nat} (ha : g < B) (cs : Array Value) : New B (w.setRow g cs) Φ := Hangs.row h (by omega) cs
theorem New.imp {B : Nat} {w : World} {Φ Ψ : World → Prop} (h : New B w Φ) (hi : ∀ w, Φ w → Ψ w) : New B w Ψ := Hangs.imp h hi
theorem Fresh.hangs {w : World} {B g n cap : Nat} {A : List Int} (h : Fresh w B g n cap A) : Hangs (fun b => b = g) w fun w => Fresh w B g n cap A := fun _ h2 => h.of_block (h2 g rfl h.lt)
theorem Fresh.new {w : World} {B g n cap : Nat} {A : List Int} (h : Fresh w B g n cap A) : New B w fun w => Fresh w B g n cap A := h.hangs.mono fun b _ e => by rw [e]; exact h.base
/-- A copy of a row. -/
theorem clone_arg (ao : Option Addr) (n ca : Nat) (A : List Int) (w : World) (hA : Arg w ao n ca A) (hn : n ≤ 1048576) :
   Calls Tryd.prog 57 #[.slice ao n ca] w fun e w' => ∃ ao' c', e = .returned (.slice ao' n c') ∧ New w.heap.size w' (fun w => Arg w ao' n c' A) ∧ Below w.heap.size w w' := by
  cases ao with
  | none =>
    have hc0 := hA.nil rfl
    subst hc0
    obtain rfl : n = 0 := by have := hA.fit; omega
    obtain rfl : A = [] := List.length_eq_zero_iff.1 hA.row.len
    have hq : ∀ w : World, (binOp .eql 24 (.slice none 0 0) (.slice none 0 0)).run Tryd.prog w = .ok (.bool true) w := fun w => run_eql_nil w _ 54 _ _ _ Tryd.underlying24
    go_enter Tryd.func57, Tryd.ntmps57
    go_wp2
    go_ret
    exact ⟨none, 0, rfl, fun _ _ => ⟨RowAt.nil _ _, by omega, by omega, (fun _ => rfl), fun _ _ e => by cases e⟩, Below.refl _ _⟩
  | some ad =>
    have F0 := fresh_empty w
    have B0 : Below w.heap.size w (w.alloc (.cells #[] 54)) := (Below.refl _ _).alloc (Nat.le_refl _) _
    have R := hA.row.below B0
    have hq : ∀ w : World, (binOp .eql 24 (.slice (some ad) n ca) (.slice none 0 0)).run Tryd.prog w = .ok (.bool false) w := fun w => run_eql_nil w _ 54 _ _ _ Tryd.underlying24
    clear hA
    go_enter Tryd.func57, Tryd.ntmps57
    go_wp2_with (at_builtin; refine wpList_append_row rfl _ _ rfl w.heap.size w.heap.size 0 0 [] rfl F0 (some ad) n ca A rfl R (fun h => by cases h) (by omega) (by simp) ?_; intro g' cap' w' F1 B1)
    rw [Nat.zero_add, List.nil_append] at *
    go_ret
    exact ⟨_, _, rfl, F1.new.imp fun w h => h.arg, B0.trans B1⟩
end Go.Proofs.YtoofbjpekdlfiaaDoor

/- Package step: copies of rows and of lists of rows. -/
namespace Go.Proofs.YtoofbjpekdlfiaaDoor
open Go.ChangeShapes Go.WideShapes Go.ChangeAt Go.RowKit
/-- Block g is filled up to place k with rows that hang on newer blocks alone. -/
structure FillTo (w : World) (g m k : Nat) (R : List (List Int)) : Prop where
  row : ∃ cs : Array Value, w.heap[g]? = some (.cells cs 24 (0, 0)) ∧ cs.size = m ∧ ∀ t, t < k → ∃ ro n c, cs[t]? = some (.slice ro n c) ∧ New (g + 1) w (fun w => Arg w ro n c (rowOf R t))
theorem FillTo.lt {w : World} {g m k : Nat} {R : List (List Int)} (h : FillTo w g m k R) : g < w.heap.size := by
  obtain ⟨cs, h1, _⟩ := h.row
  exact (Array.getElem?_eq_some_iff.1 h1).1
theorem FillTo.below {w w' : World} {g m k : Nat} {R : List (List Int)} (h : FillTo w g m k R) (hb : Below w.heap.size w w') : FillTo w' g m k R := by
  have hl := h.lt
  obtain ⟨cs, h1, h2, h3⟩ := h.row
  exact ⟨cs, (hb.block g hl).trans h1, h2, fun t ht => let ⟨ro, n, c, e, N⟩ := h3 t ht; ⟨ro, n, c, e, N.below hb⟩⟩
theorem FillTo.frozen {w : World} {g m k : Nat} {R : List (List Int)} (h : FillTo w g m k R) (t : Nat) : w.frozen? ⟨g, t, none⟩ = false := by
  obtain ⟨cs, h1, _⟩ := h.row
  unfold World.frozen?; simp only [h1]; rfl
theorem FillTo.cell {w : World} {g m k : Nat} {R : List (List Int)} (h : FillTo w g m k R) {t : Nat} (ht : t < m) : ∃ v, w.cell? ⟨g, t, none⟩ = some v := by
  obtain ⟨cs, h1, h2, _⟩ := h.row
  refine ⟨cs[t]'(by omega), ?_⟩
  unfold World.cell?; simp only [h1]
  exact Array.getElem?_eq_getElem (by omega)
theorem FillTo.step {w : World} {g m k : Nat} {R : List (List Int)} (h : FillTo w g m k R) (hk : k < m) {ro : Option Addr} {n c : Nat} (hA : New (g + 1) w fun w => Arg w ro n c (rowOf R k)) : FillTo (w.setCell ⟨g, k, none⟩ (.slice ro n c)) g m (k + 1) R := by
  obtain ⟨cs, h1, h2, h3⟩ := h.row
  refine ⟨cs.setIfInBounds k (.slice ro n c), by simp [World.setCell, Array.getElem?_modify, h1], by simpa using h2, fun t ht => ?_⟩
  rw [Array.getElem?_setIfInBounds]
  by_cases e : k = t
  · subst e
    rw [if_pos rfl, if_pos (by omega)]
    exact ⟨ro, n, c, rfl, hA.set (by show g < g + 1; omega) _⟩
  · rw [if_neg e]
    obtain ⟨ro', n', c', e2, N⟩ := h3 t (by omega)
    exact ⟨ro', n', c', e2, N.set (by show g < g + 1; omega) _⟩
theorem fillTo_made (w : World) (m : Nat) (R : List (List Int)) : FillTo (w.alloc (.cells (madeCells #[.slice none 0 0] m) 24)) w.heap.size m 0 R :=
  ⟨_, heap_alloc_new _ _, by simp [madeCells], fun t ht => by omega⟩
/-- In w the slice of n rows that begins at ro has the values vs, and they read as R. -/
structure GridV (w : World) (ro : Option Addr) (n : Nat) (vs : List Value) (R : List (List Int)) : Prop where
  rows : RowsAt w vs R
  len : vs.length = n
  max : n ≤ 9223372036854775807
  cells : 0 < n → ∃ b o, ro = some ⟨b, o, none⟩ ∧ ∀ j u, vs[j]? = some u → w.cell? ⟨b, o + j, none⟩ = some u
theorem GridV.grid {w : World} {ro : Option Addr} {n : Nat} {vs : List Value} {R : List (List Int)} (h : GridV w ro n vs R) : GridAt w ro n R := by
  have hl : R.length = n := by rw [← h.len, h.rows.len]
  refine ⟨hl, h.max, fun hn => ?_⟩
  obtain ⟨b, o, e, hc⟩ := h.cells hn
  refine ⟨b, o, e, fun t ht => ?_⟩
  obtain ⟨r, m, c, e2, A⟩ := h.rows.rows t (by omega)
  exact ⟨r, m, c, hc t _ e2, A⟩
theorem gridV_nil (w : World) (ro : Option Addr) : GridV w ro 0 [] [] := ⟨⟨rfl, fun t ht => by simp at ht⟩, rfl, by omega, fun h => by omega⟩
/-- A whole list of rows hangs on its own blocks alone. -/
theorem FillTo.grid {w : World} {g m : Nat} {R : List (List Int)} (h : FillTo w g m m R) (hl : R.length = m) (hm : m ≤ 9223372036854775807) {B : Nat} (hB : B ≤ g) : ∃ vs, New B w fun w => GridV w (some ⟨g, 0, none⟩) m vs R := by
  have hlt := h.lt
  obtain ⟨cs, h1, hsz, h3⟩ := h.row
  refine ⟨cs.toList, fun w2 h2 => ?_⟩
  have hg := (h2 g hB hlt).trans h1
  refine ⟨⟨by simp [hsz, hl], fun t ht => ?_⟩, by simp [hsz], hm, fun _ => ⟨g, 0, rfl, fun j u hj => ?_⟩⟩
  · obtain ⟨ro, n, c, e, N⟩ := h3 t (by omega)
    exact ⟨ro, n, c, by simpa using e, N w2 fun b hb hb2 => h2 b (Nat.le_trans (by omega) hb) hb2⟩
  · rw [Nat.zero_add]
    unfold World.cell?
    simp only [hg]
    simpa using hj
/-- In w the slice of lists that begins at ao reads as C. -/
structure CubeAt (w : World) (ao : Option Addr) (m : Nat) (C : List (List (List Int))) : Prop where
  len : C.length = m
  max : m ≤ 9223372036854775807
  cells : 0 < m → ∃ b o, ao = some ⟨b, o, none⟩ ∧ ∀ (t : Nat) (R : List (List Int)), C[t]? = some R → ∃ ro n c, w.cell? ⟨b, o + t, none⟩ = some (.slice ro n c) ∧ (ro = none → c = 0) ∧ n ≤ c ∧ c ≤ 9223372036854775807 ∧ GridAt w ro n R
theorem CubeAt.below {w w' : World} {ao : Option Addr} {m : Nat} {C : List (List (List Int))} (h : CubeAt w ao m C) (hb : Below w.heap.size w w') : CubeAt w' ao m C := by
  refine ⟨h.len, h.max, fun hn => ?_⟩
  obtain ⟨b, o, e, hc⟩ := h.cells hn
  refine ⟨b, o, e, fun t R hR => ?_⟩
  obtain ⟨ro, n, c, h1, h2, h3, h4, h5⟩ := hc t R hR
  have hlt : b < w.heap.size := by simpa using World.block_lt_of_cell? w _ h1
  exact ⟨ro, n, c, by rw [hb.cell (by exact hlt)]; exact h1, h2, h3, h4, h5.below hb⟩
/-- The block g of lists, filled up to place k with full lists that hang on newer blocks alone. -/
structure Lists (w : World) (g m k : Nat) (C : List (List (List Int))) : Prop where
  row : ∃ cs : Array Value, w.heap[g]? = some (.cells cs 55 (0, 0)) ∧ cs.size = m ∧ ∀ (t : Nat) (R : List (List Int)), t < k → C[t]? = some R → ∃ ro n vs, cs[t]? = some (.slice ro n n) ∧ (ro = none → n = 0) ∧ New (g + 1) w (fun w => GridV w ro n vs R)
theorem Lists.lt {w : World} {g m k : Nat} {C : List (List (List Int))} (h : Lists w g m k C) : g < w.heap.size := by
  obtain ⟨cs, h1, _⟩ := h.row
  exact (Array.getElem?_eq_some_iff.1 h1).1
theorem Lists.below {w w' : World} {g m k : Nat} {C : List (List (List Int))} (h : Lists w g m k C) (hb : Below w.heap.size w w') : Lists w' g m k C := by
  have hl := h.lt
  obtain ⟨cs, h1, h2, h3⟩ := h.row
  exact ⟨cs, (hb.block g hl).trans h1, h2, fun t R ht hR => let ⟨ro, n, vs, e, h4, N⟩ := h3 t R ht hR; ⟨ro, n, vs, e, h4, N.below hb⟩⟩
theorem Lists.frozen {w : World} {g m k : Nat} {C : List (List (List Int))} (h : Lists w g m k C) (t : Nat) : w.frozen? ⟨g, t, none⟩ = false := by
  obtain ⟨cs, h1, _⟩ := h.row
  unfold World.frozen?; simp only [h1]; rfl
theorem Lists.cell {w : World} {g m k : Nat} {C : List (List (List Int))} (h : Lists w g m k C) {t : Nat} (ht : t < m) : ∃ v, w.cell? ⟨g, t, none⟩ = some v := by
  obtain ⟨cs, h1, h2, _⟩ := h.row
  refine ⟨cs[t]'(by omega), ?_⟩
  unfold World.cell?; simp only [h1]
  exact Array.getElem?_eq_getElem (by omega)
theorem Lists.step {w : World} {g m k : Nat} {C : List (List (List Int))} (h : Lists w g m k C) (hk : k < m) {ro : Option Addr} {n : Nat} {vs : List Value} {R : List (List Int)} (hR : C[k]? = some R) (hn : ro = none → n = 0) (hA : New (g + 1) w fun w => GridV w ro n vs R) : Lists (w.setCell ⟨g, k, none⟩ (.slice ro n n)) g m (k + 1) C := by
  obtain ⟨cs, h1, h2, h3⟩ := h.row
  refine ⟨cs.setIfInBounds k (.slice ro n n), by simp [World.setCell, Array.getElem?_modify, h1], by simpa using h2, fun t R' ht hR' => ?_⟩
  rw [Array.getElem?_setIfInBounds]
  by_cases e : k = t
  · subst e
    rw [hR] at hR'
    simp only [Option.some.injEq] at hR'
    subst hR'
    rw [if_pos rfl, if_pos (by omega)]
    exact ⟨ro, n, vs, rfl, hn, hA.set (by show g < g + 1; omega) _⟩
  · rw [if_neg e]
    obtain ⟨ro', n', vs', e2, h4, N⟩ := h3 t R' (by omega) hR'
    exact ⟨ro', n', vs', e2, h4, N.set (by show g < g + 1; omega) _⟩
theorem lists_made (w : World) (m : Nat) (C : List (List (List Int))) : Lists (w.alloc (.cells (madeCells #[.slice none 0 0] m) 55)) w.heap.size m 0 C :=
  ⟨_, heap_alloc_new _ _, by simp [madeCells], fun t R ht => by omega⟩
theorem Tryd.infoList : (Tryd.prog.info? 55).map (fun i => (i.zero, i.size, i.bytes)) = some (some (.slice none 0 0), 1, 24) := by kernel_rfl
end Go.Proofs.YtoofbjpekdlfiaaDoor

/- Package step: which tokens and lists fit; a view's copy. -/
namespace Go.Proofs.YtoofbjpekdlfiaaDoor
open Go.ChangeShapes Go.WideShapes Go.ChangeAt Go.RowKit
/-- Is it a token? -/
def tokB (V x : Int) : Bool := decide (0 ≤ x ∧ x < V)
/-- The error's number of a row of tokens that are asked for. -/
def promptN (V : Int) (A : List Int) : Int := if A.length = 0 then 8 else if 128 < A.length then 2 else if A.all (tokB V) = true then 0 else 7
theorem all_take_el {A : List Int} {k : Nat} {p : Int → Bool} (hk : k < A.length) : (A.take (k + 1)).all p = ((A.take k).all p && p (el A k)) := by
  have e : A[k]? = some (el A k) := by unfold el; simp [List.getD_eq_getElem?_getD, List.getElem?_eq_getElem hk]
  rw [List.take_add_one, e, List.all_append]; simp
theorem all_el {A : List Int} {p : Int → Bool} {k : Nat} (hk : k < A.length) (h : A.all p = true) : p (el A k) = true := by
  have := List.all_eq_true.1 h (el A k) (el_mem hk)
  exact this
theorem all_not {A : List Int} {p : Int → Bool} {k : Nat} (hk : k < A.length) (h : p (el A k) = false) : A.all p = false := by
  cases e : A.all p with
  | false => rfl
  | true => rw [all_el hk e] at h; cases h
theorem prompt_any (V D Hd H L : Int) (ao : Option Addr) (n ca : Nat) (A : List Int) (w : World) (hA : IArg w ao n ca A) :
   Calls Tryd.prog 20 #[.agg (cfgC V D Hd H L), .slice ao n ca] w fun e w' => e = .returned (.int .i64 (promptN V A)) ∧ Below w.heap.size w w' := by
  have hl := hA.row.len
  have hm := hA.row.max
  have X0 := blk_new w 23 (cfgC V D Hd H L)
  have B0 : Below w.heap.size w (w.alloc (.cells (cfgC V D Hd H L) 23)) := (Below.refl _ _).alloc (Nat.le_refl _) _
  unfold cfgC at *
  generalize hw0 : w.alloc (.cells #[.int .i64 V, .int .i64 D, .int .i64 Hd, .int .i64 H, .int .i64 L] 23) = w0 at *
  have a0 : w0.cell? ⟨w.heap.size, 0, none⟩ = some (.int .i64 V) := X0.cell 0 rfl
  have R := hA.row.below B0
  clear hA
  have HN : Hid (promptN V A = if A.length = 0 then 8 else if 128 < A.length then 2 else if A.all (tokB V) = true then 0 else 7) := rfl
  generalize promptN V A = res at *
  by_cases h0 : n = 0
  · subst h0
    have HF : Hid (res = 8) := by show _ = _; rw [HN.out, hl]; rfl
    clear HN
    go_enter Tryd.func20, Tryd.ntmps20
    go_wp2
    go_ret
    exact ⟨ret_int HF.out.symm, B0⟩
  · by_cases h1 : 128 < n
    · have HF : Hid (res = 2) := by show _ = _; rw [HN.out, hl, if_neg h0, if_pos h1]
      clear HN
      go_enter Tryd.func20, Tryd.ntmps20
      go_wp2
      go_ret
      exact ⟨ret_int HF.out.symm, B0⟩
    · have HF : Hid (res = if A.all (tokB V) = true then 0 else 7) := by show _ = _; rw [HN.out, hl, if_neg h0, if_neg h1]
      clear HN
      obtain ⟨b, o, rfl, hc⟩ := R.cells (by omega)
      have hz0 : ((n : Int) == 0) = false := by simpa using h0
      go_enter Tryd.func20, Tryd.ntmps20
      go_wp2_with fail
      go_loopg [15] n (fun r i wr => ∃ k : Nat, k ≤ n ∧ r = n - k ∧ i = .int .i64 k ∧ (A.take k).all (tokB V) = true ∧ wr = w0)
      case atStart => exact ⟨0, by omega, by omega, rfl, rfl, rfl⟩
      case round =>
        obtain ⟨k, hk, rfl, rfl, hall, rfl⟩ := hrel
        by_cases hlt : k < n
        · have ck := hc k hlt
          have sx := R.small k
          have HS : Hid ((A.take (k + 1)).all (tokB V) = ((A.take k).all (tokB V) && tokB V (el A k))) := all_take_el (by omega)
          have HB : Hid (tokB V (el A k) = false → A.all (tokB V) = false) := fun h => all_not (by omega) h
          have HT : Hid (tokB V (el A k) = decide (0 ≤ el A k ∧ el A k < V)) := rfl
          clear hc
          generalize el A k = x at *
          by_cases h2 : x < 0
          · have HR : Hid (res = 7) := by show _ = _; rw [HF.out, HB.out (by rw [HT.out]; exact decide_eq_false (by omega))]; rfl
            clear HF HS HB HT
            go_wp2
            go_ret
            exact ⟨ret_int HR.out.symm, B0⟩
          · by_cases h3 : V ≤ x
            · have HR : Hid (res = 7) := by show _ = _; rw [HF.out, HB.out (by rw [HT.out]; exact decide_eq_false (by omega))]; rfl
              clear HF HS HB HT
              go_wp2
              go_ret
              exact ⟨ret_int HR.out.symm, B0⟩
            · have HA : Hid ((A.take (k + 1)).all (tokB V) = true) := by show _ = _; rw [HS.out, hall, HT.out, decide_eq_true (by omega)]; rfl
              clear HS HB HT
              go_wp2
              go_roundg (n - (k + 1))
              case measure => omega
              case rel => exact ⟨k + 1, by omega, rfl, by go_num, HA.out, rfl⟩
        · obtain rfl : k = n := by omega
          rw [← hl, List.take_length] at hall
          have HR : Hid (res = 0) := by show _ = _; rw [HF.out, hall]; rfl
          clear HF
          go_wp2
          go_ret
          exact ⟨ret_int HR.out.symm, B0⟩
/-- A view: its tokens, and the lists of its keys and values. -/
structure Vw where
  T : List Int
  K : List (List (List Int))
  V : List (List (List Int))
/-- A view's values. -/
structure VwV where
  t : Sl
  k : Sl
  v : Sl
def VwV.cells (v : VwV) : Array Value := #[v.t.v, v.k.v, v.v.v]
structure VwAt (w : World) (v : VwV) (X : Vw) : Prop where
  t : IArg w v.t.ao v.t.n v.t.c X.T
  k : CubeAt w v.k.ao v.k.n X.K
  v : CubeAt w v.v.ao v.v.n X.V
theorem VwAt.below {w w' : World} {v : VwV} {X : Vw} (h : VwAt w v X) (hb : Below w.heap.size w w') : VwAt w' v X := ⟨h.t.below hb, h.k.below hb, h.v.below hb⟩
/-- A view that fits: of nothing, or of tokens with as many rows in each list. -/
structure VwFit (V : Int) (D L : Nat) (X : Vw) : Prop where
  most : X.T.length ≤ 128
  toks : X.T.all (tokB V) = true
  k : X.K.length = if X.T.length = 0 then 0 else L
  v : X.V.length = if X.T.length = 0 then 0 else L
  ks : ∀ R ∈ X.K, R.length = X.T.length ∧ ∀ t, t < X.T.length → (rowOf R t).length = D
  vs : ∀ R ∈ X.V, R.length = X.T.length ∧ ∀ t, t < X.T.length → (rowOf R t).length = D
theorem Tryd.infoC : (Tryd.prog.info? 23).map (·.size) = some 5 := by kernel_rfl
/-- A row of the call's own, told anew. -/
theorem owns_mono {w w' : World} {B B' n : Nat} {e : TypeId} {v : Value} {xs : List Value} (h : w.ownsRow B e 1 v n xs) (hB : B' ≤ B) (hb : ∀ b, v.ownBlock = some b → w'.heap[b]? = w.heap[b]?) : w'.ownsRow B' e 1 v n xs := by
  refine ⟨h.1, ?_⟩
  rcases h.2 with h3 | ⟨g, cap, cur, hv, hg, hh, h4⟩
  · exact .inl h3
  · subst hv
    exact .inr ⟨g, cap, cur, rfl, by omega, (hb g rfl).trans hh, h4⟩
/-- The block g of m lists: those ahead of place i read as A's, the others, which are full, as C's; they hang on the blocks that p tells. -/
structure KV (w : World) (g m i : Nat) (p : Nat → Prop) (A C : List (List (List Int))) : Prop where
  row : ∃ cs : Array Value, w.heap[g]? = some (.cells cs 55 (0, 0)) ∧ cs.size = m ∧
    (∀ t, t < i → ∃ ro n c vs, cs[t]? = some (.slice ro n c) ∧ (ro = none → c = 0) ∧ n ≤ c ∧ c ≤ 9223372036854775807 ∧ Hangs p w (fun w => GridV w ro n vs (A.getD t []))) ∧
    (∀ t, i ≤ t → t < m → ∃ ro n vs, cs[t]? = some (.slice ro n n) ∧ (ro = none → n = 0) ∧ Hangs p w (fun w => GridV w ro n vs (C.getD t [])))
theorem KV.lt {w : World} {g m i : Nat} {p : Nat → Prop} {A C : List (List (List Int))} (h : KV w g m i p A C) : g < w.heap.size := by
  obtain ⟨cs, h1, _⟩ := h.row
  exact (Array.getElem?_eq_some_iff.1 h1).1
theorem KV.below {w w' : World} {g m i : Nat} {p : Nat → Prop} {A C : List (List (List Int))} (h : KV w g m i p A C) (hb : Below w.heap.size w w') : KV w' g m i p A C := by
  have hl := h.lt
  obtain ⟨cs, h1, h2, h3, h4⟩ := h.row
  exact ⟨cs, (hb.block g hl).trans h1, h2, fun t ht => let ⟨ro, n, c, vs, e, q1, q2, q3, N⟩ := h3 t ht; ⟨ro, n, c, vs, e, q1, q2, q3, N.below hb⟩, fun t ht h5 => let ⟨ro, n, vs, e, q1, N⟩ := h4 t ht h5; ⟨ro, n, vs, e, q1, N.below hb⟩⟩
theorem KV.mono {w : World} {g m i : Nat} {p q : Nat → Prop} {A C : List (List (List Int))} (h : KV w g m i p A C) (hq : ∀ b, b < w.heap.size → p b → q b) : KV w g m i q A C := by
  obtain ⟨cs, h1, h2, h3, h4⟩ := h.row
  exact ⟨cs, h1, h2, fun t ht => let ⟨ro, n, c, vs, e, q1, q2, q3, N⟩ := h3 t ht; ⟨ro, n, c, vs, e, q1, q2, q3, N.mono hq⟩, fun t ht h5 => let ⟨ro, n, vs, e, q1, N⟩ := h4 t ht h5; ⟨ro, n, vs, e, q1, N.mono hq⟩⟩
theorem KV.other {w w' : World} {g m i : Nat} {p : Nat → Prop} {A C : List (List (List Int))} (h : KV w g m i p A C) (hs : w'.heap.size = w.heap.size) (hg : w'.heap[g]? = w.heap[g]?) (ho : ∀ b, p b → w'.heap[b]? = w.heap[b]?) : KV w' g m i p A C := by
  obtain ⟨cs, h1, h2, h3, h4⟩ := h.row
  exact ⟨cs, hg.trans h1, h2, fun t ht => let ⟨ro, n, c, vs, e, q1, q2, q3, N⟩ := h3 t ht; ⟨ro, n, c, vs, e, q1, q2, q3, N.other hs ho⟩, fun t ht h5 => let ⟨ro, n, vs, e, q1, N⟩ := h4 t ht h5; ⟨ro, n, vs, e, q1, N.other hs ho⟩⟩
theorem KV.put {w : World} {g m i : Nat} {p : Nat → Prop} {A C : List (List (List Int))} (h : KV w g m i p A C) {g2 : Nat} (hg : g2 ≠ g) (hp : ¬ p g2) (cs : Array Value) : KV (w.setRow g2 cs) g m i p A C :=
  h.other (by simp [World.setRow]) (setRow_other _ _ _ _ (Ne.symm hg)) fun b hb => setRow_other _ _ _ _ (fun e => hp (by rw [← e]; exact hb))
theorem KV.far {w : World} {g m i : Nat} {p : Nat → Prop} {A C : List (List (List Int))} (h : KV w g m i p A C) {a : Addr} (hg : a.block ≠ g) (hp : ¬ p a.block) (v : Value) : KV (w.setCell a v) g m i p A C :=
  h.other (by simp [World.setCell]) (Below.heap_setCell _ _ _ _ (Ne.symm hg)) fun b hb => Below.heap_setCell _ _ _ _ (fun e => hp (by rw [← e]; exact hb))
theorem KV.frozen {w : World} {g m i : Nat} {p : Nat → Prop} {A C : List (List (List Int))} (h : KV w g m i p A C) (t : Nat) : w.frozen? ⟨g, t, none⟩ = false := by
  obtain ⟨cs, h1, _⟩ := h.row
  unfold World.frozen?; simp only [h1]; rfl
/-- The list at place i. -/
theorem KV.at {w : World} {g m i : Nat} {p : Nat → Prop} {A C : List (List (List Int))} (h : KV w g m i p A C) (hi : i < m) : ∃ ro n vs, w.cell? ⟨g, i, none⟩ = some (.slice ro n n) ∧ (ro = none → n = 0) ∧ Hangs p w (fun w => GridV w ro n vs (C.getD i [])) := by
  obtain ⟨cs, h1, h2, h3, h4⟩ := h.row
  obtain ⟨ro, n, vs, e, q1, N⟩ := h4 i (Nat.le_refl _) hi
  refine ⟨ro, n, vs, ?_, q1, N⟩
  unfold World.cell?; simp only [h1]; exact e
/-- The list at place i is told anew. -/
theorem KV.step {w : World} {g m i : Nat} {p : Nat → Prop} {A C : List (List (List Int))} (h : KV w g m i p A C) (hi : i < m) (hp : ¬ p g) {ro : Option Addr} {n c : Nat} {vs : List Value} (q1 : ro = none → c = 0) (q2 : n ≤ c) (q3 : c ≤ 9223372036854775807) (N : Hangs p w fun w => GridV w ro n vs (A.getD i [])) : KV (w.setCell ⟨g, i, none⟩ (.slice ro n c)) g m (i + 1) p A C := by
  obtain ⟨cs, h1, h2, h3, h4⟩ := h.row
  refine ⟨cs.setIfInBounds i (.slice ro n c), by simp [World.setCell, Array.getElem?_modify, h1], by simpa using h2, fun t ht => ?_, fun t ht h5 => ?_⟩
  · rw [Array.getElem?_setIfInBounds]
    by_cases e : i = t
    · subst e
      rw [if_pos rfl, if_pos (by omega)]
      exact ⟨ro, n, c, vs, rfl, q1, q2, q3, N.set hp _⟩
    · rw [if_neg e]
      obtain ⟨ro', n', c', vs', e2, x1, x2, x3, N'⟩ := h3 t (by omega)
      exact ⟨ro', n', c', vs', e2, x1, x2, x3, N'.set hp _⟩
  · rw [Array.getElem?_setIfInBounds, if_neg (by omega)]
    obtain ⟨ro', n', vs', e2, x1, N'⟩ := h4 t (by omega) h5
    exact ⟨ro', n', vs', e2, x1, N'.set hp _⟩
theorem Lists.kv {w : World} {g m : Nat} {C : List (List (List Int))} (h : Lists w g m m C) (hl : C.length = m) (A : List (List (List Int))) : KV w g m 0 (fun b => g < b ∧ b < w.heap.size) A C := by
  obtain ⟨cs, h1, h2, h3⟩ := h.row
  refine ⟨cs, h1, h2, fun t ht => by omega, fun t _ ht => ?_⟩
  have e : C[t]? = some (C.getD t []) := by rw [List.getD_eq_getElem?_getD, List.getElem?_eq_getElem (by omega)]; rfl
  obtain ⟨ro, n, vs, e2, q1, N⟩ := h3 t _ ht e
  exact ⟨ro, n, vs, e2, q1, Hangs.mono N fun b hb h => ⟨h, hb⟩⟩
end Go.Proofs.YtoofbjpekdlfiaaDoor

/- The document's Same of lists of rows, and of views: of two that read alike it is true. -/
namespace Go.Proofs.YtoofbjpekdlfiaaDoor
open Go.ChangeShapes Go.WideShapes Go.ChangeAt Go.RowKit
theorem drewN_cell (w : World) (m : Nat) {a : Addr} {v : Value} (h : w.cell? a = some v) : (w.drewN m).cell? a = some v := by
  have hlt := World.block_lt_of_cell? w _ h
  rw [(below_drewN (Below.refl w.heap.size w) m).cell hlt]; exact h
set_option maxHeartbeats 800000 in
theorem cubeSame_eq (ao bo : Option Addr) (n ca cb : Nat) (C : List (List (List Int))) (w : World) (hA : CubeAt w ao n C) (hB : CubeAt w bo n C) :
   Calls Tryd.prog 16 #[.slice ao n ca, .slice bo n cb] w fun e w' => e = .returned (.bool true) ∧ ∃ m, w' = w.drewN m := by
  have hn := hA.max
  have hl := hA.len
  go_enter Tryd.func16, Tryd.ntmps16
  go_wp2
  go_loopg [14] n (fun r i wr => ∃ k : Nat, k ≤ n ∧ r = n - k ∧ i = .int .i64 k ∧ ∃ m, wr = w.drewN m)
  case atStart => exact ⟨0, by omega, by omega, rfl, 0, rfl⟩
  case round =>
    obtain ⟨k, hk, rfl, rfl, m0, hw0⟩ := hrel
    have HW : Hid (wr = w.drewN m0) := hw0
    clear hw0
    by_cases hlt : k < n
    · obtain ⟨b, o, rfl, hc⟩ := hA.cells (by omega)
      obtain ⟨b', o', rfl, hc'⟩ := hB.cells (by omega)
      obtain ⟨R, hR⟩ : ∃ R, C[k]? = some R := ⟨_, List.getElem?_eq_getElem (show k < C.length by omega)⟩
      obtain ⟨ro, n1, c1, q1, -, -, -, G1⟩ := hc k R hR
      obtain ⟨ro2, n2, c2, q2, -, -, -, G2⟩ := hc' k R hR
      have e12 : n2 = n1 := by rw [← G2.len, G1.len]
      subst e12
      have hn2 := G1.max
      have Q1 : Hid (∀ m, (w.drewN m).cell? ⟨b, o + k, none⟩ = some (.slice ro n2 c1)) := fun m => drewN_cell w m q1
      have Q2 : Hid (∀ m, (w.drewN m).cell? ⟨b', o' + k, none⟩ = some (.slice ro2 n2 c2)) := fun m => drewN_cell w m q2
      clear hA hB hc hc' q1 q2
      have q1 : wr.cell? ⟨b, o + k, none⟩ = some (.slice ro n2 c1) := by rw [HW.out]; exact Q1.out _
      have q2 : wr.cell? ⟨b', o' + k, none⟩ = some (.slice ro2 n2 c2) := by rw [HW.out]; exact Q2.out _
      go_wp2_with fail
      go_quiet (fail)
      replace HW : Hid (wr.drewN nq = w.drewN (m0 + nq)) := by show _ = _; rw [HW.out, World.drewN_drewN]
      generalize wr.drewN nq = wq at *
      generalize m0 + nq = m1 at *
      clear q1 q2
      have q1 : wq.cell? ⟨b, o + k, none⟩ = some (.slice ro n2 c1) := by rw [HW.out]; exact Q1.out _
      go_wp2_with fail
      clear q1
      go_loopg [33] n2 (fun r i wr => ∃ j : Nat, j ≤ n2 ∧ r = n2 - j ∧ i = .int .i64 j ∧ ∃ m, wr = w.drewN m)
      case atStart => exact ⟨0, by omega, by omega, rfl, m1, HW.out⟩
      case round =>
        obtain ⟨j, hj, rfl, rfl, m2, hw2⟩ := hrel
        have HV : Hid (wr = w.drewN m2) := hw2
        clear hw2 HW
        by_cases hjt : j < n2
        · obtain ⟨d, p, rfl, hd⟩ := G1.cells (by omega)
          obtain ⟨d', p', rfl, hd'⟩ := G2.cells (by omega)
          obtain ⟨r1, l1, x1, s1, A1⟩ := hd j hjt
          obtain ⟨r2, l2, x2, s2, A2⟩ := hd' j hjt
          have el12 : l2 = l1 := by rw [← A2.row.len, A1.row.len]
          subst el12
          have q1 : wr.cell? ⟨b, o + k, none⟩ = some (.slice (some ⟨d, p, none⟩) n2 c1) := by rw [HV.out]; exact Q1.out _
          have q2 : wr.cell? ⟨b', o' + k, none⟩ = some (.slice (some ⟨d', p', none⟩) n2 c2) := by rw [HV.out]; exact Q2.out _
          have t1 : wr.cell? ⟨d, p + j, none⟩ = some (.slice r1 l2 x1) := by rw [HV.out]; exact drewN_cell w m2 s1
          have t2 : wr.cell? ⟨d', p' + j, none⟩ = some (.slice r2 l2 x2) := by rw [HV.out]; exact drewN_cell w m2 s2
          have SS := fun m => same_any r1 r2 l2 x1 x2 _ (wr.drewN m) (by rw [HV.out, World.drewN_drewN]; exact A1.row.below (below_drewN (Below.refl _ _) _)) (by rw [HV.out, World.drewN_drewN]; exact A2.row.below (below_drewN (Below.refl _ _) _))
          clear hd hd' s1 s2 A1 A2 G1 G2
          go_wp2_with fail
          go_quiet (first | (go_at_call 14; exact Calls.quiet_of (SS _)))
          go_wp2_with fail
          go_roundg (n2 - (j + 1))
          case measure => omega
          case rel => exact ⟨j + 1, by omega, rfl, by go_num, m2 + nq, by rw [HV.out, World.drewN_drewN]⟩
        · obtain rfl : j = n2 := by omega
          clear G1 G2
          go_wp2_with fail
          go_roundg (n - (k + 1))
          case measure => omega
          case rel => exact ⟨k + 1, by omega, rfl, by go_num, m2, HV.out⟩
    · obtain rfl : k = n := by omega
      go_wp2
      go_ret
      exact ⟨rfl, m0, HW.out⟩
/-- A view that was told, as cells. -/
structure ToldAt (w : World) (t k v : Sl) (X : Vw) : Prop where
  t : IArg w t.ao t.n t.c X.T
  k : CubeAt w k.ao k.n X.K
  v : CubeAt w v.ao v.n X.V
theorem ToldAt.below {w w' : World} {t k v : Sl} {X : Vw} (h : ToldAt w t k v X) (hb : Below w.heap.size w w') : ToldAt w' t k v X := ⟨h.t.below hb, h.k.below hb, h.v.below hb⟩
end Go.Proofs.YtoofbjpekdlfiaaDoor

/- Rows of rows of the call's own: a copy of at most so many rows of at most 40 numbers. -/
namespace Go.Proofs.YtoofbjpekdlfiaaDoor
open Go.ChangeShapes Go.WideShapes Go.ChangeAt Go.RowKit
theorem rowOf_snoc (R : List (List Int)) (Y : List Int) (t : Nat) : rowOf (R ++ [Y]) t = if t < R.length then rowOf R t else if t = R.length then Y else [] := by
  unfold rowOf
  simp only [List.getD_eq_getElem?_getD]
  by_cases h : t < R.length
  · rw [if_pos h, List.getElem?_append_left h]
  · rw [if_neg h, List.getElem?_append_right (by omega)]
    by_cases e : t = R.length
    · subst e; simp
    · rw [if_neg e, List.getElem?_eq_none (by simp; omega)]; rfl
/-- Block g is a row of rows, all of the call's own, one above the other. -/
structure OwnGrid (w : World) (B g k cap : Nat) (R : List (List Int)) : Prop where
  base : B ≤ g
  len : R.length = k
  own : ∃ vs, w.ownsRow B 24 1 (.slice (some ⟨g, 0, none⟩) k cap) k vs ∧ ∃ gs : Nat → Nat, (∀ t, t < k → ∃ m c, vs[t]? = some (.slice (some ⟨gs t, 0, none⟩) m c) ∧ Fresh w B (gs t) m c (rowOf R t)) ∧ ∀ t u, t < u → u < k → gs t < gs u
theorem own_block {w : World} {B e g k cap : Nat} {vs : List Value} (h : w.ownsRow B e 1 (.slice (some ⟨g, 0, none⟩) k cap) k vs) : B ≤ g ∧ ∃ cur, w.heap[g]? = some (.cells cur e (0, 0)) := by
  rcases h.2 with ⟨h3, _⟩ | ⟨g', c', cur, hv, hg, hh, _⟩
  · cases h3
  · simp only [Value.slice.injEq, Option.some.injEq, Addr.mk.injEq, and_true] at hv
    obtain ⟨rfl, -⟩ := hv
    exact ⟨hg, cur, hh⟩
theorem OwnGrid.grid {w : World} {B g k cap : Nat} {R : List (List Int)} (h : OwnGrid w B g k cap R) (hk : k ≤ 9223372036854775807) : GridAt w (some ⟨g, 0, none⟩) k R := by
  obtain ⟨vs, h1, gs, h2, _⟩ := h.own
  refine ⟨h.len, hk, fun _ => ⟨g, 0, rfl, fun t ht => ?_⟩⟩
  obtain ⟨m, c, e, F⟩ := h2 t ht
  have hc := h1.cells (g := g) rfl t _ e
  have e2 : (Addr.mk g 0 none).add t = ⟨g, t, none⟩ := by simp [Addr.add]; intro h; exact h.symm
  rw [e2] at hc
  exact ⟨_, _, _, by rw [Nat.zero_add]; exact hc, F.arg⟩
theorem OwnGrid.below {w w' : World} {B g k cap : Nat} {R : List (List Int)} (h : OwnGrid w B g k cap R) (hb : Below w.heap.size w w') : OwnGrid w' B g k cap R := by
  obtain ⟨vs, h1, gs, h2, h3⟩ := h.own
  exact ⟨h.base, h.len, vs, owns_below h1 hb, gs, fun t ht => let ⟨m, c, e, F⟩ := h2 t ht; ⟨m, c, e, F.below hb⟩, h3⟩
theorem ownGrid_empty (w : World) : OwnGrid (w.alloc (.cells #[] 24)) w.heap.size w.heap.size 0 0 [] :=
  ⟨Nat.le_refl _, rfl, [], ⟨rfl, Or.inr ⟨w.heap.size, 0, #[], rfl, Nat.le_refl _, heap_alloc_new _ _, Nat.le_refl _, by decide, rfl, rfl⟩⟩, fun t => t, fun t ht => by omega, fun t u _ hu => by omega⟩
/-- append(out, row), out a row of rows of the call's own, the row a newer one. -/
theorem wpList_append_grid {w : World} {ops : Array Oper} {rest : List Oper} {o : Oper} {a : Act} {Q : Exit → Act → World → Prop} (hgd : o.guard = none) (s x : Operand)
    (ho : o.op = .call { callee := .builtin .append, args := #[s, x], argTypes := #[55, 55] })
    (B g k cap : Nat) (R : List (List Int)) (hs : a.eval s = .slice (some ⟨g, 0, none⟩) k cap) (hF : OwnGrid w B g k cap R) (w1 : World) (hF1 : OwnGrid w1 B g k cap R) (hold : Below w1.heap.size w1 w)
    (bo g1 m1 c1 : Nat) (Y : List Int) (hx : a.eval x = .slice (some ⟨bo, 0, none⟩) 1 1) (hX : w.cell? ⟨bo, 0, none⟩ = some (.slice (some ⟨g1, 0, none⟩) m1 c1)) (hY : Fresh w B g1 m1 c1 Y) (hg1 : w1.heap.size ≤ g1)
    (hlen : k + 1 ≤ 1048576) (hB : B ≤ w.heap.size)
    (h : ∀ g' cap' w', OwnGrid w' B g' (k + 1) cap' (R ++ [Y]) → Below B w w' → wpList Tryd.prog ops Q rest (a.put o.dst (.slice (some ⟨g', 0, none⟩) (k + 1) cap')) w') : wpList Tryd.prog ops Q (o :: rest) a w := by
  obtain ⟨i0, hi, hz0, hz1, hz2⟩ := info_parts Tryd.infoRow
  obtain ⟨vs, h1', gs, h2', h3⟩ := hF1.own
  have h1 := owns_below h1' hold
  have h2 : ∀ t, t < k → ∃ m c, vs[t]? = some (.slice (some ⟨gs t, 0, none⟩) m c) ∧ Fresh w B (gs t) m c (rowOf R t) := fun t ht => let ⟨m, c, e, F⟩ := h2' t ht; ⟨m, c, e, F.below hold⟩
  have hlt : ∀ t, t < k → gs t < w1.heap.size := fun t ht => let ⟨m, c, e, F⟩ := h2' t ht; F.lt
  refine wpList_append_own w hgd s x 55 ho B 24 i0 (.slice none 0 0) 1 24 Tryd.underlying55 hi hz0 hz1 hz2 rfl (by decide) _ k _ hs h1 ⟨bo, 0, none⟩ 1 1 [.slice (some ⟨g1, 0, none⟩) m1 c1] hx rfl ?_ (by intro u hu; simp at hu; subst hu; rfl) (by unfold maxLen; omega) (by omega) hB ?_
  · intro j u hj
    match j, hj with
    | 0, hj =>
      simp at hj
      subst hj
      have e2 : (Addr.mk bo 0 none).add 0 = ⟨bo, 0, none⟩ := by simp [Addr.add]
      rw [e2, hX]
  · intro v' w' hown hg hnil
    have hb : Below B w w' := (Below.refl _ _).grown hg hB (fun k hk => by simp [Value.ownBlock] at hk; subst hk; exact hF.base)
    obtain ⟨_, cur, hcur⟩ := own_block h1
    have keep : ∀ {b m c : Nat} {Z : List Int}, Fresh w B b m c Z → Fresh w' B b m c Z := fun {b m c Z} F => F.of_block (hg.block b F.lt (by
      intro e
      simp [Value.ownBlock] at e
      subst e
      obtain ⟨c2, hb2, _⟩ := F.row
      rw [hcur] at hb2
      simp at hb2))
    have hlv : vs.length = k := by have := h1.1; omega
    have hown2 := hown
    obtain ⟨_, h4⟩ := hown2
    rcases h4 with ⟨_, h5⟩ | ⟨g', c', cur', hv, hg2, hr⟩
    · omega
    · subst hv
      refine h g' c' w' ⟨hg2, by simp [hF.len], _, hown, fun t => if t < k then gs t else g1, fun t ht => ?_, fun t u htu hu => ?_⟩ hb
      · rw [rowOf_snoc, hF.len]
        by_cases htk : t < k
        · obtain ⟨m3, c3, e3, F3⟩ := h2 t htk
          simp only [if_pos htk]
          exact ⟨m3, c3, by rw [List.getElem?_append_left (by omega)]; exact e3, keep F3⟩
        · obtain rfl : t = k := by omega
          simp only [Nat.lt_irrefl, if_false, if_pos]
          exact ⟨m1, c1, by rw [List.getElem?_append_right (by omega), hlv]; simp, keep hY⟩
      · simp only []
        rw [if_pos (show t < k by omega)]
        by_cases huk : u < k
        · rw [if_pos huk]; exact h3 t u htu huk
        · rw [if_neg huk]; have := hlt t (by omega); omega
theorem cellRow_new (w : World) (v : Value) : (w.alloc (.cells #[v] 24)).cell? ⟨w.heap.size, 0, none⟩ = some v := by
  have e := heap_alloc_new w (.cells #[v] 24)
  unfold World.cell?
  simp only [e]
  rfl
theorem take_snoc {R : List (List Int)} {k : Nat} (hk : k < R.length) : (R.take (k + 1)).map (List.take 40) = (R.take k).map (List.take 40) ++ [(rowOf R k).take 40] := by
  unfold rowOf
  rw [List.take_add_one, List.map_append, List.getD_eq_getElem?_getD, List.getElem?_eq_getElem hk]
  rfl
/-- At most lim rows of at most 40 numbers. -/
def rowsN (R : List (List Int)) (lim : Nat) : List (List Int) := (R.take lim).map (List.take 40)
theorem rowsN_len (R : List (List Int)) (lim t : Nat) : (rowOf (rowsN R lim) t).length ≤ 40 := by
  unfold rowOf rowsN
  rw [List.getD_eq_getElem?_getD]
  cases e : ((R.take lim).map (List.take 40))[t]? with
  | none => simp
  | some x =>
    obtain ⟨y, _, rfl⟩ := List.mem_map.1 (List.mem_of_getElem? e)
    simp
    omega
end Go.Proofs.YtoofbjpekdlfiaaDoor

/- At most so many tokens, in memory of one's own. -/
namespace Go.Proofs.YtoofbjpekdlfiaaDoor
open Go.ChangeShapes Go.WideShapes Go.ChangeAt Go.RowKit
theorem IArg.take {w : World} {ao : Option Addr} {n ca : Nat} {A : List Int} (h : IArg w ao n ca A) {m : Nat} (hm : m ≤ n) : IArg w ao m ca (A.take m) := by
  have hl := h.row.len
  have hf := h.fit
  refine ⟨⟨by rw [List.length_take]; omega, by have := h.row.max; omega, fun k => ?_, fun hn => ?_⟩, by omega, h.max, h.nil⟩
  · rcases Nat.lt_or_ge k m with hk | hk
    · rw [el_take hk]; exact h.row.small k
    · rw [el_over (by rw [List.length_take]; omega)]; omega
  · obtain ⟨b, o, e, hc⟩ := h.row.cells (by omega)
    refine ⟨b, o, e, fun t ht => ?_⟩
    rw [el_take ht]
    exact hc t (by omega)
theorem few8_gen (ao : Option Addr) (n ca : Nat) (A Z : List Int) (lim : Nat) (w : World) (hA : IArg w ao n ca A) (hlim : lim ≤ 4096) (hZ : Z = A.take lim) :
   Calls Tryd.prog 8 #[.slice ao n ca, .int .i64 (lim : Int)] w fun e w' => ∃ b c, e = .returned (.slice (some ⟨b, 0, none⟩) Z.length c) ∧ IOwn w' w.heap.size (.slice (some ⟨b, 0, none⟩) Z.length c) Z.length Z ∧ Below w.heap.size w w' := by
  obtain ⟨i0, hi, hz0, hz1, hz2⟩ := info_parts Tryd.infoInt
  have hl := hA.row.len
  have hf := hA.fit
  have hmx := hA.max
  have B0 : Below w.heap.size w (w.alloc (.cells #[] 3)) := (Below.refl _ _).alloc (Nat.le_refl _) _
  have O0 : (w.alloc (.cells #[] 3)).ownsRow w.heap.size 3 1 (.slice (some ⟨w.heap.size, 0, none⟩) 0 0) 0 [] := World.ownsRow_made w #[] 0 (Nat.le_refl _) (by decide) rfl
  have key : ∀ (ao : Option Addr) (m : Nat) (Z' : List Int), IArg w ao m ca Z' → Z' = Z → m ≤ 4096 → ∀ (ops : Array Oper) (rest : List Oper) (o : Oper) (a : Act) (Q : Exit → Act → World → Prop) (s x : Operand), o.guard = none → o.op = .call { callee := .builtin .append, args := #[s, x], argTypes := #[30, 30] } → a.eval s = .slice (some ⟨w.heap.size, 0, none⟩) 0 0 → a.eval x = .slice ao m ca →
      (∀ b c w', IOwn w' w.heap.size (.slice (some ⟨b, 0, none⟩) Z.length c) Z.length Z → Below w.heap.size w w' → wpList Tryd.prog ops Q rest (a.put o.dst (.slice (some ⟨b, 0, none⟩) Z.length c)) w') → wpList Tryd.prog ops Q (o :: rest) a (w.alloc (.cells #[] 3)) := by
    intro ao m Z' hZ' eZ hm ops rest o a Q s x hg ho hs hx hK
    have hlz : Z'.length = m := hZ'.row.len
    cases ao with
    | none =>
      have hc0 := hZ'.nil rfl
      have hm0 : m = 0 := by have := hZ'.fit; omega
      subst hm0
      obtain rfl : Z' = [] := List.length_eq_zero_iff.1 hlz
      rw [hc0] at hx
      refine wpList_append_own_none hg s x 30 ho w.heap.size 3 i0 1 Tryd.underlying30 hi _ 0 [] hs O0 hx ?_
      have := hK w.heap.size 0 _ (by rw [← eZ]; exact O0) B0
      rw [← eZ] at this
      exact this
    | some ad =>
      refine wpList_append_own _ hg s x 30 ho w.heap.size 3 i0 (.int .i64 0) 1 8 Tryd.underlying30 hi hz0 hz1 hz2 rfl (by decide) _ 0 [] hs O0 ad m ca (Z'.map (Value.int .i64)) hx (by simp [hlz]) ((hZ'.row.below B0).vals) (ints_oneCell _ _) (by unfold maxLen; omega) (by omega) (by simp) ?_
      intro v' w' O1 G1 N1
      have hb : Below w.heap.size (w.alloc (.cells #[] 3)) w' := (Below.refl _ _).grown G1 (by simp) (fun k hk => (O0.lt k hk).1)
      rw [Nat.zero_add, List.nil_append] at O1
      have hv : ∃ b c, v' = .slice (some ⟨b, 0, none⟩) m c := by
        rcases O1.2 with ⟨h3, _⟩ | ⟨g, cap, cur, hv, _⟩
        · have := (N1.1 h3).1; cases this
        · exact ⟨_, _, hv⟩
      obtain ⟨b, c, rfl⟩ := hv
      have e : Z.length = m := by rw [← eZ, hlz]
      have := hK b c w' (by rw [e, ← eZ]; exact O1) (B0.trans hb)
      rw [e] at this
      exact this
  have hZl : Z.length ≤ lim := by rw [hZ, List.length_take]; omega
  by_cases h0 : lim < n
  · have hle : (lim : Int) ≤ (ca : Int) := by omega
    have KT := hA.take (m := lim) (by omega)
    rw [← hZ] at KT
    clear hl hA hZ
    go_enter Tryd.func8, Tryd.ntmps8
    go_wp2_with (at_builtin; refine key _ _ _ KT rfl (by omega) _ _ _ _ _ _ _ rfl rfl rfl rfl ?_; intro b c w' O1 B1)
    go_ret
    exact ⟨b, c, rfl, O1, B1⟩
  · have e1 : Hid (A = Z) := by show _ = _; rw [hZ, List.take_of_length_le (by omega)]
    have hn : n ≤ 4096 := by omega
    clear hl hZ
    go_enter Tryd.func8, Tryd.ntmps8
    go_wp2_with (at_builtin; refine key _ _ _ hA e1.out hn _ _ _ _ _ _ _ rfl rfl rfl rfl ?_; intro b c w' O1 B1)
    go_ret
    exact ⟨b, c, rfl, O1, B1⟩
theorem few8_any (ao : Option Addr) (n ca : Nat) (A : List Int) (lim : Nat) (w : World) (hA : IArg w ao n ca A) (hlim : lim ≤ 4096) :
   Calls Tryd.prog 8 #[.slice ao n ca, .int .i64 (lim : Int)] w fun e w' => ∃ b c, e = .returned (.slice (some ⟨b, 0, none⟩) (A.take lim).length c) ∧ IOwn w' w.heap.size (.slice (some ⟨b, 0, none⟩) (A.take lim).length c) (A.take lim).length (A.take lim) ∧ Below w.heap.size w w' := few8_gen ao n ca A _ lim w hA hlim rfl
end Go.Proofs.YtoofbjpekdlfiaaDoor

/- append onto a row of the call's own: the row stays in its block, or goes into a new one; all other blocks stay. -/
namespace Go.Proofs.YtoofbjpekdlfiaaDoor
open Go.ChangeShapes Go.WideShapes Go.ChangeAt Go.RowKit
section
variable {P : Program} (w : World)
theorem run_append_own2 (base : Nat) (t ty e : TypeId) (i : TypeInfo) (z : Value) (size bytes : Nat) (ht : P.underlying t = some (.slice e)) (hi : P.info? e = some i) (hz : i.zero = some z)
    (hsize : i.size = size) (hby : i.bytes = bytes) (hzs : z.cells.size = size) (hsz : 0 < size)
    (v : Value) (n : Nat) (xs : List Value) (hown : w.ownsRow base e size v n xs)
    (a : Addr) (m c : Nat) (news : List Value) (hl : news.length = m * size) (hnews : ∀ j u, news[j]? = some u → w.cell? (a.add j) = some u) (h1 : ∀ u ∈ news, u.oneCell' = true)
    (h63 : n + m ≤ maxLen) (hbytes : (n + m) * bytes ≤ 140737488355328) (hbase : base ≤ w.heap.size) :
    ∃ v' w', (Builtin.append_ #[t, t] ty #[v, .slice (some a) m c]).run P w = .ok v' w' ∧ w'.ownsRow base e size v' (n + m) (xs ++ news) ∧ w.grownBy w' v.ownBlock ∧
      (v' = .slice none 0 0 ↔ v = .slice none 0 0 ∧ m = 0) ∧ ∀ g', v'.ownBlock = some g' → v.ownBlock = some g' ∨ g' = w.heap.size := by
  obtain ⟨v', w', hr, h2, h3, h4⟩ := run_append_own (P := P) w base t ty e i z size bytes ht hi hz hsize hby hzs hsz v n xs hown a m c news hl hnews h1 h63 hbytes hbase
  refine ⟨v', w', hr, h2, h3, h4, ?_⟩
  subst hsize
  subst hby
  have hsmall : n + m ≤ 9223372036854775807 := by simp only [maxLen] at h63; omega
  rcases hown.2 with ⟨rfl, rfl⟩ | ⟨g, cap, cur, rfl, hbg, hg, hnc, hcm, hcs, htake⟩
  · by_cases hm : m = 0
    · have := h4.2 ⟨rfl, hm⟩
      subst this
      intro g' hg'
      cases hg'
    · have hr2 := run_append_nil (P := P) w t ty e i z ht hi hz a m c news hl hnews (by omega) (by omega) (by have hb := hbytes; simp only [Nat.zero_add] at hb; omega)
      rw [hr] at hr2
      injection hr2 with e1 e2
      subst e1
      intro g' hg'
      exact Or.inr (Option.some.inj hg').symm
  · by_cases hroom : n + m ≤ cap
    · have hfit : n * i.size + news.length ≤ cur.size := by rw [hl, hcs, ← Nat.add_mul]; exact Nat.mul_le_mul_right _ hroom
      have hr2 := run_append_room (P := P) w t ty e i ht hi g n cap cur hg a m c news hl hnews h1 hroom hfit
      rw [hr] at hr2
      injection hr2 with e1 e2
      subst e1
      intro g' hg'
      exact Or.inl hg'
    · have holds : ∀ j u, xs[j]? = some u → w.cell? ((⟨g, 0, none⟩ : Addr).add j) = some u := hown.cells (g := g) rfl
      have hr2 := run_append_grow (P := P) w t ty e i z ht hi hz ⟨g, 0, none⟩ n cap xs hown.1 holds a m c news hl hnews (by omega) (by omega) (growslice_fits (by omega) hbytes)
      rw [hr] at hr2
      injection hr2 with e1 e2
      subst e1
      intro g' hg'
      exact Or.inr (Option.some.inj hg').symm
theorem wp_append_own2 {o : Oper} {a : Act} {K : Act → World → Prop} {Q : Exit → Act → World → Prop} (s x : Operand) (t : TypeId)
    (ho : o.op = .call { callee := .builtin .append, args := #[s, x], argTypes := #[t, t] })
    (base : Nat) (e : TypeId) (i : TypeInfo) (z : Value) (size bytes : Nat) (ht : P.underlying t = some (.slice e)) (hi : P.info? e = some i) (hz : i.zero = some z)
    (hsize : i.size = size) (hby : i.bytes = bytes) (hzs : z.cells.size = size) (hsz : 0 < size)
    (v : Value) (n : Nat) (xs : List Value) (hs : a.eval s = v) (hown : w.ownsRow base e size v n xs)
    (ad : Addr) (m c : Nat) (news : List Value) (hx : a.eval x = .slice (some ad) m c) (hl : news.length = m * size) (hnews : ∀ j u, news[j]? = some u → w.cell? (ad.add j) = some u) (h1 : ∀ u ∈ news, u.oneCell' = true)
    (h63 : n + m ≤ maxLen) (hbytes : (n + m) * bytes ≤ 140737488355328) (hbase : base ≤ w.heap.size)
    (h : ∀ v' w', w'.ownsRow base e size v' (n + m) (xs ++ news) → w.grownBy w' v.ownBlock → (v' = .slice none 0 0 ↔ v = .slice none 0 0 ∧ m = 0) → (∀ g', v'.ownBlock = some g' → v.ownBlock = some g' ∨ g' = w.heap.size) → K (a.put o.dst v') w') : o.wp P a w K Q := by
  obtain ⟨v', w', hr, h2, h3, h4, h5⟩ := run_append_own2 (P := P) w base t o.type e i z size bytes ht hi hz hsize hby hzs hsz v n xs hown ad m c news hl hnews h1 h63 hbytes hbase
  unfold Oper.wp execOp
  simp only [ho, resolve, invoke, builtin, Sem.run_bind, Sem.run_pure, Result.andThen_ok, List.map_toArray, List.map_cons, List.map_nil, hs, hx, hr]
  exact h v' w' h2 h3 h4 h5
end
/-- append(out, x), out a row of the call's own, x one number: all other blocks stay. -/
theorem wpList_append_one2 {w : World} {ops : Array Oper} {rest : List Oper} {o : Oper} {a : Act} {Q : Exit → Act → World → Prop} (hgd : o.guard = none) (s x : Operand)
    (ho : o.op = .call { callee := .builtin .append, args := #[s, x], argTypes := #[24, 24] })
    (B g n cap : Nat) (A : List Int) (hs : a.eval s = .slice (some ⟨g, 0, none⟩) n cap) (hF : Fresh w B g n cap A)
    (bo : Nat) (y : Int) (hx : a.eval x = .slice (some ⟨bo, 0, none⟩) 1 1) (hX : RowAt w (some ⟨bo, 0, none⟩) 1 [y])
    (hlen : n + 1 ≤ 1048576) (hB : B ≤ w.heap.size)
    (h : ∀ g' cap' w', Fresh w' B g' (n + 1) cap' (A ++ [y]) → Below B w w' → (∀ b, b < w.heap.size → b ≠ g → w'.heap[b]? = w.heap[b]?) → (g' = g ∨ g' = w.heap.size) → wpList Tryd.prog ops Q rest (a.put o.dst (.slice (some ⟨g', 0, none⟩) (n + 1) cap')) w') : wpList Tryd.prog ops Q (o :: rest) a w := by
  obtain ⟨i0, hi, hz0, hz1, hz2⟩ := info_parts Tryd.infoNum
  refine wpList_plain hgd fun _ hK => wp_append_own2 w s x 24 ho B 54 i0 (.int .i32 0) 1 4 Tryd.underlying24 hi hz0 hz1 hz2 rfl (by decide) _ n _ hs hF.owns ⟨bo, 0, none⟩ 1 1 [.int .i32 y] hx rfl ?_ (ints_oneCell .i32 [y]) (by unfold maxLen; omega) (by omega) hB ?_
  · intro j u hj
    obtain ⟨b, o', e, hcell⟩ := hX.cells (by omega)
    simp only [Option.some.injEq, Addr.mk.injEq, and_true] at e
    obtain ⟨rfl, rfl⟩ := e
    match j, hj with
    | 0, hj =>
      have h0 := hcell 0 (by omega)
      simp at hj
      subst hj
      have e2 : (Addr.mk bo 0 none).add 0 = ⟨bo, 0 + 0, none⟩ := by simp [Addr.add]
      rw [e2, h0]
      rfl
  · intro v' w' hown hg hnil hwh
    have hb : Below B w w' := (Below.refl _ _).grown hg hB (fun k hk => by simp [Value.ownBlock] at hk; subst hk; exact hF.base)
    obtain ⟨h1, h2⟩ := hown
    rcases h2 with ⟨h3, h4⟩ | ⟨g', c', cur, hv, hr⟩
    · omega
    · subst hv
      have e : A.map (Value.int .i32) ++ [.int .i32 y] = (A ++ [y]).map (Value.int .i32) := by simp
      rw [e] at h1 hr
      obtain ⟨g2, e2, F⟩ := fresh_of_owns (w := w') (B := B) (n := n + 1) (cap := c') (ao := some ⟨g', 0, none⟩) (A := A ++ [y]) ⟨h1, Or.inr ⟨g', c', cur, rfl, hr⟩⟩ (hF.small.append hX.small) (by simp)
      simp only [Option.some.injEq, Addr.mk.injEq, and_true] at e2
      subst e2
      refine hK _ _ (h g' c' w' F hb (fun b hb2 hne => hg.block b hb2 (fun e => hne (Option.some.inj e))) ?_)
      rcases hwh g' rfl with hq | hq
      · exact Or.inl (Option.some.inj hq).symm
      · exact Or.inr hq
end Go.Proofs.YtoofbjpekdlfiaaDoor
