/- The given statement on BlockJoins: at every input the law returns true and its arguments read as before; no condition. -/
import Derived.Test.YtpplnjmjldhlbaaPk8
import Derived.Test.YtpplnjmjldhlbaaPk10
import Derived.Test.YtpplnjmjldhlbaaPk7
import Derived.Test.YtpplnjmjldhlbaaRows
import Derived.Test.YtpplnjmjldhlbaaPk3
import Derived.ProofKit
import Derived.Carry
import Derived.OpenShut
/- Pages that stand one behind the other: the walk. Laid by tools/genbjoins.py. -/
namespace Go.Proofs.Ytpplnjmjldhlbaa
open Go.ChangeShapes Go.WideShapes Go.ChangeAt Go.RowKit Go.Deep
theorem yields_rowJ {ops : Array Oper} {S : World → Prop} {op : Oper} {a : Act} (hw : Region.wanted op (yielded ops a.tmps) = true) (ty : TypeId) (x : Operand) (ho : op.op = .load ty x)
    (g : Nat) (hx : a.eval x = .pointer (some ⟨g, 0, none⟩)) (T : TypeId) (cs : Array Value) (d : TypeDesc) (hS : ∀ w, S w → Blk w g T cs) (hu : Try.prog.underlying ty = some d) (hd : d.isRow = true) (hi : (Try.prog.info? ty).map (·.size) = some cs.size) :
    YieldsIf Try.prog ops S op (.agg cs) a := by
  have := yieldsIf_load_mid (P := Try.prog) (S := S) hw ty x ho g 0 hx cs.toList d (fun w h j v hv => by rw [Nat.zero_add]; exact (hS w h).cell j (by simpa using hv)) hu hd (by simpa using hi)
  simpa using this
theorem ownPg_none (w : World) (s : Nat) : OwnPg (w.alloc (.cells #[] 47)) w.heap.size s (.slice (some ⟨w.heap.size, 0, none⟩) 0 0) [] := ⟨[], World.ownsRow_made w #[] 0 (Nat.le_refl _) (by decide) rfl, rfl, fun t X h => by simp at h⟩
theorem pg_cells {w : World} {g o : Nat} {p q : PgV} (h : w.rangeAt g o p.cells.toList) (k : w.rangeAt g o q.cells.toList) : p = q := by
  obtain ⟨⟨p1, p2, p3⟩, pf, ⟨p4, p5, p6⟩, ⟨p7, p8, p9⟩⟩ := p
  obtain ⟨⟨q1, q2, q3⟩, qf, ⟨q4, q5, q6⟩, ⟨q7, q8, q9⟩⟩ := q
  have e0 := Option.some.inj ((h 0 (.slice p1 p2 p3) rfl).symm.trans (k 0 (.slice q1 q2 q3) rfl))
  have e1 := Option.some.inj ((h 1 (.int .i64 pf) rfl).symm.trans (k 1 (.int .i64 qf) rfl))
  have e2 := Option.some.inj ((h 2 (.slice p4 p5 p6) rfl).symm.trans (k 2 (.slice q4 q5 q6) rfl))
  have e3 := Option.some.inj ((h 3 (.slice p7 p8 p9) rfl).symm.trans (k 3 (.slice q7 q8 q9) rfl))
  simp only [Value.slice.injEq, Value.int.injEq, true_and] at e0 e1 e2 e3
  obtain ⟨rfl, rfl, rfl⟩ := e0
  subst e1
  obtain ⟨rfl, rfl, rfl⟩ := e2
  obtain ⟨rfl, rfl, rfl⟩ := e3
  rfl
/-- Few lists, of short rows. -/
def CI (X : Vw) : Prop := (X.K.length ≤ 5 ∧ X.V.length ≤ 5) ∧ (∀ R ∈ X.K, ∀ r ∈ R, r.length ≤ 40) ∧ ∀ R ∈ X.V, ∀ r ∈ R, r.length ≤ 40
theorem cut_few {C : List (List (List Int))} {n : Nat} (h : cutC C n = C) : C.length ≤ 5 ∧ ∀ R ∈ C, ∀ r ∈ R, r.length ≤ 40 := by
  refine ⟨by rw [← h]; exact cutC_at_most _ _, fun R hR r hr => ?_⟩
  rw [← h] at hR
  unfold cutC at hR
  obtain ⟨R0, _, rfl⟩ := List.mem_map.1 hR
  unfold rowsN at hr
  obtain ⟨r0, _, rfl⟩ := List.mem_map.1 hr
  rw [List.length_take]
  omega
theorem cat_short {A B : List (List (List Int))} (hA : ∀ R ∈ A, ∀ r ∈ R, r.length ≤ 40) (hB : ∀ R ∈ B, ∀ r ∈ R, r.length ≤ 40) : ∀ R ∈ catC A B, ∀ r ∈ R, r.length ≤ 40 := by
  have el : ∀ (Cc : List (List (List Int))) (t : Nat), (∀ R ∈ Cc, ∀ r ∈ R, r.length ≤ 40) → ∀ r ∈ Cc.getD t [], r.length ≤ 40 := fun Cc t h r hr => by
    rcases Nat.lt_or_ge t Cc.length with h1 | h1
    · rw [List.getD_eq_getElem?_getD, List.getElem?_eq_getElem h1] at hr
      exact h _ (List.getElem_mem h1) r hr
    · rw [List.getD_eq_getElem?_getD, List.getElem?_eq_none h1] at hr
      cases hr
  intro R hR r hr
  unfold catC at hR
  obtain ⟨t, _, rfl⟩ := List.mem_map.1 hR
  rcases List.mem_append.1 hr with h | h
  · exact el A t hA r h
  · exact el B t hB r h
theorem cut_whole9 {L : Int} {X : Vw} (h : JI L X) (c : CI X) : cutVw X = X := by
  have ht := h.t
  have g : ∀ Cc : List (List (List Int)), Cc.length ≤ 5 → (∀ R ∈ Cc, R.length = X.T.length) → (∀ R ∈ Cc, ∀ r ∈ R, r.length ≤ 40) → cutC Cc 130 = Cc := fun Cc h5 hl hr => by
    unfold cutC
    rw [List.take_of_length_le h5]
    refine (List.map_congr_left (fun R hR => ?_)).trans (List.map_id _)
    unfold rowsN
    rw [List.take_of_length_le (by rw [hl R hR]; omega)]
    exact (List.map_congr_left (fun r h9 => List.take_of_length_le (hr R hR r h9))).trans (List.map_id _)
  unfold cutVw
  rw [List.take_of_length_le (by omega), g _ c.1.1 h.ks c.2.1, g _ c.1.2 h.vs c.2.2]
theorem jn_cut (Vo D L : Int) : ∀ (l : List Pg) (X : Vw), JI L X → CI X → (∀ b ∈ l, cutPg b = b) → cutVw (jnS Vo D L X l).2 = (jnS Vo D L X l).2
  | [], X, h, c, _ => cut_whole9 h c
  | b :: l, X, h, c, hl => by
    by_cases h0 : ckN Vo D L b = 0
    rotate_left
    · rw [jn_bad h0]; rfl
    by_cases ht : b.T.take b.F.toNat = X.T
    rotate_left
    · rw [jn_off h0 ht]; rfl
    rw [jn_on h0 ht]
    have e := hl b List.mem_cons_self
    have k := cut_few (show cutC b.K 20 = b.K from congrArg Pg.K e)
    have v := cut_few (show cutC b.V 20 = b.V from congrArg Pg.V e)
    exact jn_cut Vo D L l _ (ji_step h h0 ht) ⟨⟨by show (catC X.K b.K).length ≤ 5; rw [catC_len]; exact k.1, by show (catC X.V b.V).length ≤ 5; rw [catC_len]; exact v.1⟩, cat_short c.2.1 k.2, cat_short c.2.2 v.2⟩ (fun b' hb' => hl b' (List.mem_cons_of_mem _ hb'))
set_option maxRecDepth 100000 in
set_option maxHeartbeats 16000000 in
theorem blockJoins_walk (C : Cfg) (s : Sl) (l : List Pg) (w : World) (_hC : C.Ok) (hs' : PgsR w s l ∧ ∀ X ∈ l, -9223372036854775808 ≤ X.F ∧ X.F ≤ 9223372036854775807) :
    Calls Try.prog 4 #[C.val, s.v] w fun e w' => e = .returned (.bool true) ∧ Below w.heap.size w w' := by
  obtain ⟨hs, hF⟩ := hs'
  obtain ⟨LC, hLC⟩ : ∃ LC, LC = (l.map cutPg).take 10 := ⟨_, rfl⟩
  have HLF : Hid (∀ X ∈ LC, -9223372036854775808 ≤ X.F ∧ X.F ≤ 9223372036854775807) := fun X hX => by
    rw [hLC] at hX
    obtain ⟨Y, hY, rfl⟩ := List.mem_map.1 (List.mem_of_mem_take hX)
    exact hF Y hY
  have HLT : Hid (∀ X ∈ LC, cutPg X = X) := fun X hX => by
    rw [hLC] at hX
    obtain ⟨Y, hY, rfl⟩ := List.mem_map.1 (List.mem_of_mem_take hX)
    exact cutPg_twice Y
  have R0 := fun (wv : World) (hb : Below w.heap.size w wv) => row11_any s l 10 wv (hs.below hb) (by omega)
  rw [← hLC] at R0
  have CK := fun (p : PgV) (X : Pg) (wv : World) (hp : PgAt wv p X) hF => check11_any C.V C.D C.Hd C.H C.L p X wv hp hF
  have RK := fun (p : PgV) (X : Pg) (wv : World) (hp : PgAt wv p X) hF => rcheck11_any C.V C.D C.Hd C.H C.L p X wv hp hF
  have JP := fun (s : Sl) (wv : World) (hs : PgsAt wv s LC) => join_gen C.V C.D C.Hd C.H C.L s LC wv hs HLF.out (fun X hX _ => by
    have e := HLT.out X hX
    have k := cut_few (show cutC X.K 20 = X.K from congrArg Pg.K e)
    have v := cut_few (show cutC X.V 20 = X.V from congrArg Pg.V e)
    exact ⟨by omega, fun R hR r hr => by have := k.2 R hR r hr; omega, fun R hR r hr => by have := v.2 R hR r hr; omega⟩)
  have RJ := fun (s : Sl) (wv : World) (hs : PgsAt wv s LC) => rjoin11_any C.V C.D C.Hd C.H C.L s LC wv hs HLF.out (fun X hX => by
    have k := cut_few (show cutC X.K 20 = X.K from congrArg Pg.K (HLT.out X hX))
    omega)
  obtain ⟨RES, hRES⟩ : ∃ r, r = jnS C.V C.D C.L noVw LC := ⟨_, rfl⟩
  have HCV : Hid (cutVw RES.2 = RES.2) := by
    show _ = _
    rw [hRES]
    exact jn_cut C.V C.D C.L LC noVw (ji_none _) ⟨⟨by show 0 ≤ 5; omega, by show 0 ≤ 5; omega⟩, (fun R hR => by cases hR), (fun R hR => by cases hR)⟩ HLT.out
  rw [← hRES] at JP RJ
  unfold Cfg.val
  have hu : ∀ C : Cfg, cfgC C.V C.D C.Hd C.H C.L = #[.int .i64 C.V, .int .i64 C.D, .int .i64 C.Hd, .int .i64 C.H, .int .i64 C.L] := fun _ => rfl
  simp only [hu] at CK RK JP RJ ⊢
  clear hu hLC hRES hs hF
  have X0 := blk_new w 23 #[.int .i64 C.V, .int .i64 C.D, .int .i64 C.Hd, .int .i64 C.H, .int .i64 C.L]
  have DB : Below w.heap.size w (w.alloc (.cells #[.int .i64 C.V, .int .i64 C.D, .int .i64 C.Hd, .int .i64 C.H, .int .i64 C.L] 23)) := (Below.refl _ _).alloc (Nat.le_refl _) _
  generalize hw1 : w.alloc (.cells #[.int .i64 C.V, .int .i64 C.D, .int .i64 C.Hd, .int .i64 C.H, .int .i64 C.L] 23) = w1 at *
  obtain ⟨sa, sn, sc⟩ := s
  go_enter Try.func4, Try.ntmps4
  go_wp2_with fail
  refine (R0 _ DB).mono ?_
  rintro e w2 ⟨⟨ta, n, tc⟩, rfl, PT, B2⟩
  clear R0 hw1
  rw [show Sl.v ⟨ta, n, tc⟩ = .slice ta n tc from rfl]
  replace X0 := X0.below B2
  replace DB := below_then DB B2
  have hn := PT.len
  have hnm := PT.max
  simp only at hn hnm
  have HN : Hid (LC.length = n) := hn
  clear B2 hn
  have OI := ownPg_none w2 w2.heap.size
  have BA : Below w2.heap.size w2 (w2.alloc (.cells #[] 47)) := (Below.refl _ _).alloc (Nat.le_refl _) _
  generalize hw3 : w2.alloc (.cells #[] 47) = w3 at *
  have HPT : Hid (∀ wv, Below w2.heap.size w2 wv → PgsAt wv ⟨ta, n, tc⟩ LC) := fun wv hb => by
    refine ⟨PT.len, PT.max, PT.fit, fun h => ?_⟩
    obtain ⟨g, o, e, hc⟩ := PT.cells h
    exact ⟨g, o, e, fun t X hX => let ⟨p, h1, h2⟩ := hc t X hX; ⟨p, pg_range h1 hb, h2.below hb⟩⟩
  have HX0 : Hid (∀ wv, Below w2.heap.size w2 wv → Blk wv w.heap.size 23 #[.int .i64 C.V, .int .i64 C.D, .int .i64 C.Hd, .int .i64 C.H, .int .i64 C.L] ∧ Below w.heap.size w wv) := fun wv hb => ⟨X0.below hb, below_then DB hb⟩
  clear X0 DB PT
  go_upto_region 4 with fail
  clear hw3
  go_loopg [6, 18] n (fun r s6 s18 wr => ∃ (k : Nat) (u : Value), k ≤ n ∧ r = n - k ∧ s18 = .int .i64 (k : Int) ∧ s6 = u ∧ OwnPg wr w2.heap.size w2.heap.size u (LC.take k) ∧ Below w2.heap.size w2 wr)
  case atStart => exact ⟨0, _, by omega, by omega, rfl, rfl, by rw [List.take_zero]; exact OI, BA⟩
  case round =>
  clear OI BA
  obtain ⟨k, u, hk, rfl, rfl, hu, OI, DR⟩ := hrel
  obtain rfl := hu.symm
  clear hu
  by_cases hlt : k < n
  · obtain ⟨g, o, e, hc⟩ := (HPT.out _ DR).cells (by show 0 < n; omega)
    simp only at e
    subst e
    obtain ⟨X, hX⟩ : ∃ X, LC[k]? = some X := ⟨_, List.getElem?_eq_getElem (show k < LC.length by rw [HN.out]; omega)⟩
    obtain ⟨p, r0, PA⟩ := hc k X hX
    have hXm := List.mem_of_getElem? hX
    have hFk := HLF.out X hXm
    have hCk := HLT.out X hXm
    have hlk : (LC.take k).length = k := by rw [List.length_take, HN.out]; omega
    have HTK : Hid (LC.take (k + 1) = LC.take k ++ [X]) := by show _ = _; rw [List.take_add_one, hX]; rfl
    have OF := fun (p : PgV) (wv : World) (hp : PgAt wv p X) => of11_any p X wv hp.raw
    rw [hCk] at OF
    have CKX := fun (p : PgV) (wv : World) (hp : PgAt wv p X) => CK p X wv hp hFk
    have RKX := fun (p : PgV) (wv : World) (hp : PgAt wv p X) => RK p X wv hp hFk
    have OFp := OF p
    have RKp := RKX p
    have HPA : Hid (∀ wv, Below w2.heap.size w2 wv → PgAt wv p X) := fun wv hb => by
      obtain ⟨g9, o9, e9, hc9⟩ := (HPT.out _ (Below.refl _ w2)).cells (by show 0 < n; omega)
      simp only [Option.some.injEq, Addr.mk.injEq, and_true] at e9
      obtain ⟨rfl, rfl⟩ := e9
      obtain ⟨p', r', PA'⟩ := hc9 k X hX
      have r2 := pg_range r' DR
      have ep : p' = p := pg_cells r2 r0
      rw [← ep]
      exact PA'.below hb
    clear hc hX hXm PA hCk
    obtain ⟨⟨p1, p2, p3⟩, pf, ⟨p4, p5, p6⟩, ⟨p7, p8, p9⟩⟩ := p
    rw [show (PgV.cells ⟨⟨p1, p2, p3⟩, pf, ⟨p4, p5, p6⟩, ⟨p7, p8, p9⟩⟩) = #[.slice p1 p2 p3, .int .i64 pf, .slice p4 p5 p6, .slice p7 p8 p9] from rfl] at r0 OFp RKp
    obtain ⟨X0, -⟩ := HX0.out _ DR
    obtain ⟨Z8, X8, B8, z8⟩ := var3j wr 44 #[.slice none 0 0, .int .i64 0, .slice none 0 0, .slice none 0 0] #[.slice p1 p2 p3, .int .i64 pf, .slice p4 p5 p6, .slice p7 p8 p9]
    generalize hz1 : wr.alloc (.cells #[.slice none 0 0, .int .i64 0, .slice none 0 0, .slice none 0 0] 44) = wz at *
    generalize hz2 : wz.setRow wr.heap.size #[.slice p1 p2 p3, .int .i64 pf, .slice p4 p5 p6, .slice p7 p8 p9] = w4 at *
    have OL : ∀ b, u.ownBlock = some b → w2.heap.size ≤ b ∧ b < wr.heap.size := fun b e => OI.lt e
    replace OI := OI.below B8
    replace X0 := X0.below B8
    have DQ := below_then DR B8
    have hr2 := DR.size
    go_wp2_with (first | (refine wpList_load_mid rfl 44 _ rfl g (o + k * 4) rfl [.slice p1 p2 p3, .int .i64 pf, .slice p4 p5 p6, .slice p7 p8 p9] _ r0 Try.underlying44 rfl (by exact Try.infoTg) ?_) | (refine wpList_store_row rfl 44 _ _ rfl wr.heap.size #[.slice p1 p2 p3, .int .i64 pf, .slice p4 p5 p6, .slice p7 p8 p9] rfl rfl 44 _ Z8 Try.infoTg rfl (by simp [Value.oneCell']) ?_; rw [hz2]) | (refine wpList_load_row rfl 44 _ rfl wr.heap.size rfl 44 #[.slice p1 p2 p3, .int .i64 pf, .slice p4 p5 p6, .slice p7 p8 p9] (0, 0) _ X8 Try.underlying44 rfl Try.infoTg ?_))
    refine (OFp _ (HPA.out _ DQ)).mono ?_
    rintro e w5 ⟨⟨⟨q1, q2, q3⟩, qf, ⟨q4, q5, q6⟩, ⟨q7, q8, q9⟩⟩, rfl, N5, B5⟩
    rw [show (PgV.cells ⟨⟨q1, q2, q3⟩, qf, ⟨q4, q5, q6⟩, ⟨q7, q8, q9⟩⟩) = #[.slice q1 q2 q3, .int .i64 qf, .slice q4 q5 q6, .slice q7 q8 q9] from rfl]
    have HP : Hangs (offV w2.heap.size u) w5 (fun w => PgAt w ⟨⟨q1, q2, q3⟩, qf, ⟨q4, q5, q6⟩, ⟨q7, q8, q9⟩⟩ X) := Hangs.mono N5 (fun b _ hb => by
      have hb' : w4.heap.size ≤ b := hb
      have h9 := B8.size
      exact ⟨by omega, fun e => by have := (OL b e).2; omega⟩)
    have BP := below_then B8 B5
    replace OI := OI.below B5
    replace X0 := X0.below B5
    replace X8 := X8.below B5
    replace DQ := below_then DQ B5
    clear N5 B8 B5 hz1 hz2 Z8 r0 z8
    have CN := blk_new w5 47 #[.slice q1 q2 q3, .int .i64 qf, .slice q4 q5 q6, .slice q7 q8 q9]
    have BA : Below w5.heap.size w5 (w5.alloc (.cells #[.slice q1 q2 q3, .int .i64 qf, .slice q4 q5 q6, .slice q7 q8 q9] 47)) := (Below.refl _ _).alloc (Nat.le_refl _) _
    generalize hwa : w5.alloc (.cells #[.slice q1 q2 q3, .int .i64 qf, .slice q4 q5 q6, .slice q7 q8 q9] 47) = wa at *
    replace OI := OI.below BA
    replace X0 := X0.below BA
    replace X8 := X8.below BA
    replace HP := Hangs.below HP BA
    replace DQ := below_then DQ BA
    replace BP := below_then BP BA
    clear BA
    go_upto_region 7 with (at_builtin; refine wpList_append_pg rfl _ _ rfl w2.heap.size w2.heap.size u (LC.take k) k hlk rfl OI w5.heap.size ⟨⟨q1, q2, q3⟩, qf, ⟨q4, q5, q6⟩, ⟨q7, q8, q9⟩⟩ X rfl CN HP (by omega) (by have := DQ.size; omega) ?_; intro ea ec w6 O6 G6 N6)
    have hne : ∀ b, u.ownBlock = some b → w2.heap.size ≤ b ∧ b < wr.heap.size := OL
    have x0lt : w.heap.size < w2.heap.size := ((HX0.out _ (Below.refl _ w2)).1).lt
    have hX8 : Blk w6 wr.heap.size 44 #[.slice p1 p2 p3, .int .i64 pf, .slice p4 p5 p6, .slice p7 p8 p9] := X8.of_block (G6.block _ X8.lt (fun e => by have := (OL _ e.symm).2; omega))
    have hX0 : Blk w6 w.heap.size 23 #[.int .i64 C.V, .int .i64 C.D, .int .i64 C.Hd, .int .i64 C.H, .int .i64 C.L] := X0.of_block (G6.block _ X0.lt (fun e => by have := (OL _ e.symm).1; omega))
    have D6 : Below w2.heap.size w2 w6 := DQ.grown G6 (by have := DQ.size; omega) (fun g e => (OL g e).1)
    clear OI CN HP G6 N6 hwa BP DQ X0 X8 hne
    have BD : Below w6.heap.size w6 w6.drew := (Below.refl _ w6).drew
    replace hX8 := hX8.below BD
    replace hX0 := hX0.below BD
    replace O6 := O6.below BD
    replace D6 := below_then D6 BD
    clear BD
    refine wp_region_held_drew (S := fun w' => Blk w' w.heap.size 23 #[.int .i64 C.V, .int .i64 C.D, .int .i64 C.Hd, .int .i64 C.H, .int .i64 C.L] ∧ Blk w' wr.heap.size 44 #[.slice p1 p2 p3, .int .i64 pf, .slice p4 p5 p6, .slice p7 p8 p9]) (by kernel_rfl) (⟨hX0, hX8⟩) (fun hHeld => ?_)
    generalize hA : w6.drew = wA at *
    clear hA
    refine wpAnyH_take (i := 0) (v := .agg #[.int .i64 C.V, .int .i64 C.D, .int .i64 C.Hd, .int .i64 C.H, .int .i64 C.L]) rfl (by kernel_rfl) (by kernel_rfl) (by kernel_rfl) (fun _ _ _ h => h) (yields_rowJ (by rfl) 23 _ rfl w.heap.size rfl 23 #[.int .i64 C.V, .int .i64 C.D, .int .i64 C.Hd, .int .i64 C.H, .int .i64 C.L] _ (fun w' hS => hS.1) Try.underlying23 rfl Try.infoC) (by assumption) ?_
    simp only [List.getElem_toArray, List.getElem_cons_zero, Act.put, List.setIfInBounds_toArray, List.set_cons_zero, List.set_cons_succ]
    refine wpAnyH_take (i := 1) (v := .agg #[.slice p1 p2 p3, .int .i64 pf, .slice p4 p5 p6, .slice p7 p8 p9]) rfl (by kernel_rfl) (by kernel_rfl) (by kernel_rfl) (fun _ _ _ h => h) (yields_rowJ (by rfl) 44 _ rfl wr.heap.size rfl 44 #[.slice p1 p2 p3, .int .i64 pf, .slice p4 p5 p6, .slice p7 p8 p9] _ (fun w' hS => hS.2) Try.underlying44 rfl Try.infoTg) (by assumption) ?_
    simp only [List.getElem_toArray, List.getElem_cons_succ, List.getElem_cons_zero, Act.put, List.setIfInBounds_toArray, List.set_cons_zero, List.set_cons_succ]
    refine wpAnyH_take (i := 4) (v := .agg #[.int .i64 C.V, .int .i64 C.D, .int .i64 C.Hd, .int .i64 C.H, .int .i64 C.L]) rfl (by kernel_rfl) (by kernel_rfl) (by kernel_rfl) (fun _ _ _ h => h) (yields_rowJ (by rfl) 23 _ rfl w.heap.size rfl 23 #[.int .i64 C.V, .int .i64 C.D, .int .i64 C.Hd, .int .i64 C.H, .int .i64 C.L] _ (fun w' hS => hS.1) Try.underlying23 rfl Try.infoC) (by assumption) ?_
    simp only [List.getElem_toArray, List.getElem_cons_succ, List.getElem_cons_zero, Act.put, List.setIfInBounds_toArray, List.set_cons_zero, List.set_cons_succ]
    refine wpAnyH_take (i := 5) (v := .agg #[.slice p1 p2 p3, .int .i64 pf, .slice p4 p5 p6, .slice p7 p8 p9]) rfl (by kernel_rfl) (by kernel_rfl) (by kernel_rfl) (fun _ _ _ h => h) (yields_rowJ (by rfl) 44 _ rfl wr.heap.size rfl 44 #[.slice p1 p2 p3, .int .i64 pf, .slice p4 p5 p6, .slice p7 p8 p9] _ (fun w' hS => hS.2) Try.underlying44 rfl Try.infoTg) (by assumption) ?_
    simp only [List.getElem_toArray, List.getElem_cons_succ, List.getElem_cons_zero, Act.put, List.setIfInBounds_toArray, List.set_cons_zero, List.set_cons_succ]
    refine wpAnyH_ready (rs := [2]) (by kernel_rfl) (by simp) ?_
    refine AllReadyH.cons rfl (fun Kc hKc => ?_) AllReadyH.nil
    simp only [List.getElem_toArray, List.getElem_cons_succ, List.getElem_cons_zero]
    rw [if_pos (by rfl)]
    go_wp2_with fail
    refine (OFp _ (HPA.out _ D6)).mono ?_
    rintro e wB ⟨y, rfl, N7, EM⟩
    replace hX8 := hX8.below EM
    replace hX0 := hX0.below EM
    replace O6 := O6.below EM
    replace D6 := below_then D6 EM
    have PY := N7.now
    clear N7
    clear EM
    go_wp2_with fail
    refine hKc.out _ _ (⟨hX0, hX8⟩) (fun hHeld => ?_)
    clear hKc Kc
    refine wpAnyH_ready (rs := [3]) (by kernel_rfl) (by simp) ?_
    refine AllReadyH.cons rfl (fun Kc hKc => ?_) AllReadyH.nil
    simp only [List.getElem_toArray, List.getElem_cons_succ, List.getElem_cons_zero]
    rw [if_pos (by rfl)]
    go_wp2_with fail
    refine (CKX y _ PY).mono ?_
    rintro e wC ⟨rfl, EM⟩
    replace hX8 := hX8.below EM
    replace hX0 := hX0.below EM
    replace O6 := O6.below EM
    replace D6 := below_then D6 EM
    clear PY
    clear EM
    go_wp2_with fail
    refine hKc.out _ _ (⟨hX0, hX8⟩) (fun hHeld => ?_)
    clear hKc Kc
    refine wpAnyH_ready (rs := [6]) (by kernel_rfl) (by simp) ?_
    refine AllReadyH.cons rfl (fun Kc hKc => ?_) AllReadyH.nil
    simp only [List.getElem_toArray, List.getElem_cons_succ, List.getElem_cons_zero]
    rw [if_pos (by rfl)]
    go_wp2_with fail
    refine (RKp _ (HPA.out _ D6)).mono ?_
    rintro e wD ⟨rfl, EM⟩
    replace hX8 := hX8.below EM
    replace hX0 := hX0.below EM
    replace O6 := O6.below EM
    replace D6 := below_then D6 EM
    clear EM
    go_wp2_with fail
    refine hKc.out _ _ (⟨hX0, hX8⟩) (fun hHeld => ?_)
    clear hKc Kc
    refine wpAnyH_take (i := 7) (v := (.bool false)) rfl (by kernel_rfl) (by kernel_rfl) (by kernel_rfl) (fun _ _ _ h => h) (Or.inl ⟨by rfl, ?_⟩) (by assumption) ?_
    · intro w' hSw
      go_simp
    simp only [List.getElem_toArray, List.getElem_cons_succ, List.getElem_cons_zero, Act.put, List.setIfInBounds_toArray, List.set_cons_zero, List.set_cons_succ]
    refine wpAnyH_done (by kernel_rfl) ?_ _
    clear hHeld
    go_wp2_with fail
    go_roundg (n - (k + 1))
    case measure => omega
    case rel => exact ⟨k + 1, _, by omega, rfl, by go_num, rfl, by rw [HTK.out]; exact O6, D6⟩
  obtain rfl : k = n := by omega
  obtain ⟨a, c, e9⟩ := OI.form
  rw [List.length_take, HN.out, Nat.min_self] at e9
  subst e9
  rw [List.take_of_length_le (by rw [HN.out]; exact Nat.le_refl _)] at OI
  have PI := (OI.new (by omega) (Nat.le_refl _)).now
  clear OI hlt
  have JI1 := JP ⟨a, k, c⟩ wr PI
  rw [show Sl.v ⟨a, k, c⟩ = .slice a k c from rfl] at JI1
  obtain ⟨X0, -⟩ := HX0.out _ DR
  have a0 : wr.cell? ⟨w.heap.size, 0, none⟩ = some (.int .i64 C.V) := X0.cell 0 rfl
  have a1 : wr.cell? ⟨w.heap.size, 1, none⟩ = some (.int .i64 C.D) := X0.cell 1 rfl
  have a2 : wr.cell? ⟨w.heap.size, 2, none⟩ = some (.int .i64 C.Hd) := X0.cell 2 rfl
  have a3 : wr.cell? ⟨w.heap.size, 3, none⟩ = some (.int .i64 C.H) := X0.cell 3 rfl
  have a4 : wr.cell? ⟨w.heap.size, 4, none⟩ = some (.int .i64 C.L) := X0.cell 4 rfl
  go_wp2_with fail
  refine JI1.mono ?_
  rintro e w4 ⟨vv, rfl, N4, B4⟩
  have V4 := N4.now
  clear JI1 PI N4 a0 a1 a2 a3 a4
  replace DR := below_then DR B4
  clear B4
  obtain ⟨Z9, X9, B9, z9⟩ := var3j w4 29 #[.slice none 0 0, .slice none 0 0, .slice none 0 0] vv.cells
  generalize hz1 : w4.alloc (.cells #[.slice none 0 0, .slice none 0 0, .slice none 0 0] 29) = wz at *
  generalize hz2 : wz.setRow w4.heap.size vv.cells = w5 at *
  replace V4 := V4.below B9
  replace DR := below_then DR B9
  clear B9
  obtain ⟨X0, -⟩ := HX0.out _ DR
  have RJ1 := RJ ⟨ta, k, tc⟩ w5 (HPT.out _ DR)
  rw [show Sl.v ⟨ta, k, tc⟩ = .slice ta k tc from rfl] at RJ1
  have a0 : w5.cell? ⟨w.heap.size, 0, none⟩ = some (.int .i64 C.V) := X0.cell 0 rfl
  have a1 : w5.cell? ⟨w.heap.size, 1, none⟩ = some (.int .i64 C.D) := X0.cell 1 rfl
  have a2 : w5.cell? ⟨w.heap.size, 2, none⟩ = some (.int .i64 C.Hd) := X0.cell 2 rfl
  have a3 : w5.cell? ⟨w.heap.size, 3, none⟩ = some (.int .i64 C.H) := X0.cell 3 rfl
  have a4 : w5.cell? ⟨w.heap.size, 4, none⟩ = some (.int .i64 C.L) := X0.cell 4 rfl
  go_wp2_with (refine wpList_store_row rfl 29 _ _ rfl w4.heap.size vv.cells rfl rfl 29 _ Z9 Try.infoV rfl (by simp [VwV.cells, Sl.v, Value.oneCell']) ?_; rw [hz2])
  refine RJ1.mono ?_
  rintro e w6 ⟨t2, k2, v2, rfl, T2, B6⟩
  clear RJ1 a0 a1 a2 a3 a4 hz1 hz2 Z9 X0
  replace V4 := V4.below B6
  replace X9 := X9.below B6
  replace DR := below_then DR B6
  clear B6
  obtain ⟨ZB, XB, BB, zB⟩ := var3j w6 31 #[.slice none 0 0, .slice none 0 0, .slice none 0 0] #[t2.v, k2.v, v2.v]
  generalize hz1 : w6.alloc (.cells #[.slice none 0 0, .slice none 0 0, .slice none 0 0] 31) = wz at *
  generalize hz2 : wz.setRow w6.heap.size #[t2.v, k2.v, v2.v] = w7 at *
  replace V4 := V4.below BB
  replace X9 := X9.below BB
  replace T2 := T2.below BB
  replace DR := below_then DR BB
  clear BB
  go_upto_region 12 with (refine wpList_store_row rfl 31 _ _ rfl w6.heap.size #[t2.v, k2.v, v2.v] rfl rfl 31 _ ZB Try.infoRV rfl (by simp [Value.oneCell', Sl.v]) ?_; rw [hz2])
  clear hz1 hz2 ZB z9 zB
  have BD : Below w7.heap.size w7 w7.drew := (Below.refl _ w7).drew
  replace V4 := V4.below BD
  replace X9 := X9.below BD
  replace XB := XB.below BD
  replace T2 := T2.below BD
  replace DR := below_then DR BD
  clear BD
  obtain ⟨qc, hqc⟩ : ∃ qc, RES.1 = qc := ⟨_, rfl⟩
  rw [hqc]
  clear hqc
  have TR := fun wv (h : VwR wv vv RES.2) => told9R_any vv RES.2 wv h
  rw [HCV.out] at TR
  refine wp_region_held_drew (S := fun w' => Blk w' w4.heap.size 29 vv.cells ∧ Blk w' w6.heap.size 31 #[t2.v, k2.v, v2.v]) (by kernel_rfl) (⟨X9, XB⟩) (fun hHeld => ?_)
  generalize hA : w7.drew = wA at *
  clear hA
  refine wpAnyH_ready (rs := [0]) (by kernel_rfl) (by simp) ?_
  refine AllReadyH.cons rfl (fun Kc hKc => ?_) AllReadyH.nil
  simp only [List.getElem_toArray, List.getElem_cons_zero]
  rw [if_pos (by rfl)]
  go_wp2_with fail
  refine (awake11_any _).mono ?_
  rintro e wB ⟨rfl, EM⟩
  replace V4 := V4.below EM
  replace X9 := X9.below EM
  replace XB := XB.below EM
  replace T2 := T2.below EM
  replace DR := below_then DR EM
  clear EM
  go_wp2_with fail
  refine hKc.out _ _ (⟨X9, XB⟩) (fun hHeld => ?_)
  clear hKc Kc
  refine wpAnyH_take (i := 1) (v := (.bool true)) rfl (by kernel_rfl) (by kernel_rfl) (by kernel_rfl) (fun _ _ _ h => h) (Or.inl ⟨by rfl, ?_⟩) (by assumption) ?_
  · intro w' hSw
    go_simp
  simp only [List.getElem_toArray, List.getElem_cons_succ, List.getElem_cons_zero, Act.put, List.setIfInBounds_toArray, List.set_cons_zero, List.set_cons_succ]
  refine wpAnyH_take (i := 2) (v := (.int .i64 qc)) rfl (by kernel_rfl) (by kernel_rfl) (by kernel_rfl) (fun _ _ _ h => h) (Or.inl ⟨by rfl, ?_⟩) (by assumption) ?_
  · intro w' hSw
    go_simp
  simp only [List.getElem_toArray, List.getElem_cons_succ, List.getElem_cons_zero, Act.put, List.setIfInBounds_toArray, List.set_cons_zero, List.set_cons_succ]
  refine wpAnyH_take (i := 3) (v := (.int .i64 qc)) rfl (by kernel_rfl) (by kernel_rfl) (by kernel_rfl) (fun _ _ _ h => h) (Or.inl ⟨by rfl, ?_⟩) (by assumption) ?_
  · intro w' hSw
    go_simp
  simp only [List.getElem_toArray, List.getElem_cons_succ, List.getElem_cons_zero, Act.put, List.setIfInBounds_toArray, List.set_cons_zero, List.set_cons_succ]
  refine wpAnyH_take (i := 4) (v := (.bool true)) rfl (by kernel_rfl) (by kernel_rfl) (by kernel_rfl) (fun _ _ _ h => h) (Or.inl ⟨by rfl, ?_⟩) (by assumption) ?_
  · intro w' hSw
    go_simp
  simp only [List.getElem_toArray, List.getElem_cons_succ, List.getElem_cons_zero, Act.put, List.setIfInBounds_toArray, List.set_cons_zero, List.set_cons_succ]
  refine wpAnyH_take (i := 5) (v := (.bool true)) rfl (by kernel_rfl) (by kernel_rfl) (by kernel_rfl) (fun _ _ _ h => h) (Or.inl ⟨by rfl, ?_⟩) (by assumption) ?_
  · intro w' hSw
    go_simp
  simp only [List.getElem_toArray, List.getElem_cons_succ, List.getElem_cons_zero, Act.put, List.setIfInBounds_toArray, List.set_cons_zero, List.set_cons_succ]
  refine wpAnyH_take (i := 6) (v := (.bool true)) rfl (by kernel_rfl) (by kernel_rfl) (by kernel_rfl) (fun _ _ _ h => h) (Or.inl ⟨by rfl, ?_⟩) (by assumption) ?_
  · intro w' hSw
    go_simp
  simp only [List.getElem_toArray, List.getElem_cons_succ, List.getElem_cons_zero, Act.put, List.setIfInBounds_toArray, List.set_cons_zero, List.set_cons_succ]
  refine wpAnyH_take (i := 7) (v := .agg vv.cells) rfl (by kernel_rfl) (by kernel_rfl) (by kernel_rfl) (fun _ _ _ h => h) (yields_rowJ (by rfl) 29 _ rfl w4.heap.size rfl 29 vv.cells _ (fun w' hS => hS.1) Try.underlying29 rfl Try.infoV) (by assumption) ?_
  simp only [List.getElem_toArray, List.getElem_cons_succ, List.getElem_cons_zero, Act.put, List.setIfInBounds_toArray, List.set_cons_zero, List.set_cons_succ]
  refine wpAnyH_take (i := 9) (v := .agg #[t2.v, k2.v, v2.v]) rfl (by kernel_rfl) (by kernel_rfl) (by kernel_rfl) (fun _ _ _ h => h) (yields_rowJ (by rfl) 31 _ rfl w6.heap.size rfl 31 #[t2.v, k2.v, v2.v] _ (fun w' hS => hS.2) Try.underlying31 rfl Try.infoRV) (by assumption) ?_
  simp only [List.getElem_toArray, List.getElem_cons_succ, List.getElem_cons_zero, Act.put, List.setIfInBounds_toArray, List.set_cons_zero, List.set_cons_succ]
  refine wpAnyH_ready (rs := [8]) (by kernel_rfl) (by simp) ?_
  refine AllReadyH.cons rfl (fun Kc hKc => ?_) AllReadyH.nil
  simp only [List.getElem_toArray, List.getElem_cons_succ, List.getElem_cons_zero]
  rw [if_pos (by rfl)]
  go_wp2_with fail
  refine (TR _ V4.raw).mono ?_
  rintro e wC ⟨t7, k7, v7, rfl, T7, EM⟩
  replace V4 := V4.below EM
  replace X9 := X9.below EM
  replace XB := XB.below EM
  replace T2 := T2.below EM
  replace DR := below_then DR EM
  clear EM
  go_wp2_with fail
  refine hKc.out _ _ (⟨X9, XB⟩) (fun hHeld => ?_)
  clear hKc Kc
  refine wpAnyH_ready (rs := [10]) (by kernel_rfl) (by simp) ?_
  refine AllReadyH.cons rfl (fun Kc hKc => ?_) AllReadyH.nil
  simp only [List.getElem_toArray, List.getElem_cons_succ, List.getElem_cons_zero]
  rw [if_pos (by rfl)]
  go_wp2_with fail
  refine (viewSame_eq t7 k7 v7 t2 k2 v2 RES.2 _ T7 T2).mono ?_
  rintro e wD ⟨rfl, EM⟩
  replace V4 := V4.below EM
  replace X9 := X9.below EM
  replace XB := XB.below EM
  replace T2 := T2.below EM
  replace DR := below_then DR EM
  clear T7
  clear EM
  go_wp2_with fail
  refine hKc.out _ _ (⟨X9, XB⟩) (fun hHeld => ?_)
  clear hKc Kc
  refine wpAnyH_take (i := 11) (v := (.bool true)) rfl (by kernel_rfl) (by kernel_rfl) (by kernel_rfl) (fun _ _ _ h => h) (Or.inl ⟨by rfl, ?_⟩) (by assumption) ?_
  · intro w' hSw
    go_simp
  simp only [List.getElem_toArray, List.getElem_cons_succ, List.getElem_cons_zero, Act.put, List.setIfInBounds_toArray, List.set_cons_zero, List.set_cons_succ]
  refine wpAnyH_take (i := 12) (v := (.bool true)) rfl (by kernel_rfl) (by kernel_rfl) (by kernel_rfl) (fun _ _ _ h => h) (Or.inl ⟨by rfl, ?_⟩) (by assumption) ?_
  · intro w' hSw
    go_simp
  simp only [List.getElem_toArray, List.getElem_cons_succ, List.getElem_cons_zero, Act.put, List.setIfInBounds_toArray, List.set_cons_zero, List.set_cons_succ]
  refine wpAnyH_done (by kernel_rfl) ?_ _
  clear hHeld
  go_wp2_with fail
  go_ret
  exact ⟨rfl, (HX0.out _ DR).2⟩
end Go.Proofs.Ytpplnjmjldhlbaa

/- The given statement on BlockJoins: at every input the law returns true and its arguments read as before; no condition. -/
namespace Go.Proofs.Ytpplnjmjldhlbaa.blockJoins
open Go.ChangeShapes Go.WideShapes Go.ChangeAt Go.RowKit
set_option linter.unusedVariables false
set_option maxRecDepth 100000 in
theorem lifted (os : Os) (started : os.Started) (H : Type) (enc : TypeId × Value → H) :
    ReturnsInHanded {} Try.checked os 4 .any (Rows.blockJoinsSpec.pre6 enc Try.prog Try.f4 Rows.blockJoinsRow.domain false) (Rows.blockJoinsSpec.post enc Try.prog Try.f4 false true false false) := by
  refine returnsInHanded_of_change (C := Try.checked) Try.own started (by kernel_rfl) Try.func4
    (ChangeSpec.witness6 (enc := enc) (C := Try.checked) false ⟨#[], #[.agg #[.int .i64 0, .int .i64 0, .int .i64 0, .int .i64 0, .int .i64 0], .slice none 0 0], []⟩ 8 (by kernel_rfl) (by kernel_rfl) (by kernel_rfl) (by kernel_rfl)) ?_
  intro W base args ds gs before hval0 hW _ _
  have hval : ∀ (j : Nat) t v, Try.f4.params[j]? = some t → args[j]? = some v → Value.okWide Try.prog W .any base t v := hval0
  have hW' := hW
  obtain ⟨p, q, hA0, hV, rfl, _, _⟩ := hW
  have hA : DataW.TrodAll enc Try.prog W 0 (fun _ => true) true Try.f4.params.toList args.toList ds p := hA0
  rw [Try.params4] at hA hval
  obtain ⟨v0, vs0, d0, ds0, p0, q0, hargs, rfl, rfl, h0, r0⟩ := trodAll_cons hA
  obtain ⟨v1, vs1, d1, ds1, p1, q1, rfl, rfl, rfl, h1, r1⟩ := trodAll_cons r0
  obtain ⟨rfl, rfl, rfl⟩ := trodAll_nil r1
  obtain rfl : args = #[v0, v1] := by cases args; simp_all
  obtain ⟨rfl, rfl⟩ := trodVars_none hV
  have k0 := h0
  obtain ⟨C0, rfl, g0⟩ := viewCfg (hval 0 _ v0 rfl rfl) h0
  have k1 := h1
  obtain ⟨s1, X1, rfl, g1⟩ := viewPgs (hval 1 _ v1 rfl rfl) h1
  clear hA0 hval0
  simp only [List.append_nil] at hW'
  have hlt : ∀ x ∈ p0 ++ p1, x.block < W.heap.size := fun x hx => by
    have hx2 := hx
    exact hW'.lt x (by grind)
  refine (blockJoins_walk C0 s1 X1 W g0 g1).mono fun e W' ⟨he, hb⟩ => ?_
  subst he
  exact ⟨_, rfl, _, _, _, [], _, [], hW', trodAll_mk1 (shut_bool Try.underlying4 true), trodAll_cons_mk (Below.trod Try.laidOut (by kernel_rfl) (of_decide_eq_true (by kernel_rfl)) k0 hb (fun x hx => hlt x (by simp [hx]))) (trodAll_cons_mk (Below.trod Try.laidOut (by kernel_rfl) (of_decide_eq_true (by kernel_rfl)) k1 hb (fun x hx => hlt x (by simp [hx]))) trodAll_mk0), rfl, hb.frame _, fun h => by cases h⟩
end Go.Proofs.Ytpplnjmjldhlbaa.blockJoins
namespace Go.Proofs.Ytpplnjmjldhlbaa
/-- The given statement. -/
theorem blockJoins_holds : Rows.BlockJoinsSaid :=
  OpenClaim.holds_of_wide 4 Try.f4 rfl rfl rfl rfl rfl rfl rfl ⟨rfl, rfl, rfl, rfl, rfl⟩ rfl rfl rfl rfl rfl (by kernel_rfl) Try.func4 (by kernel_rfl)
    (of_decide_eq_true (by kernel_rfl)) (by unfold Func.isWrapper; first | (rw [if_pos (by decide +kernel)]; kernel_rfl) | (rw [if_neg (by decide +kernel)]; exact ⟨rfl, rfl⟩))
    (fun os started H enc _ => blockJoins.lifted os started H enc)
#print axioms blockJoins_holds
end Go.Proofs.Ytpplnjmjldhlbaa
