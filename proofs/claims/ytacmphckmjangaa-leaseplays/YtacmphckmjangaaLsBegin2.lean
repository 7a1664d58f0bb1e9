/- The statements' begin: a state, and the document's, of the same holdings: its contract. -/
import Derived.Test.YtacmphckmjangaaLsBegin
namespace Go.Proofs.Ytacmphckmjangaa
open Go.ChangeShapes Go.WideShapes Go.ChangeAt Go.RowKit Go.Maps
theorem rvar (W : World) (a b : Int) (v : Value) : Blk (W.alloc (.cells #[.int .i64 0, .int .i64 0, .slice none 0 0] 28)) W.heap.size 28 #[.int .i64 0, .int .i64 0, .slice none 0 0] ∧
    Blk ((W.alloc (.cells #[.int .i64 0, .int .i64 0, .slice none 0 0] 28)).setRow W.heap.size #[.int .i64 a, .int .i64 b, v]) W.heap.size 28 #[.int .i64 a, .int .i64 b, v] ∧
    Below W.heap.size W ((W.alloc (.cells #[.int .i64 0, .int .i64 0, .slice none 0 0] 28)).setRow W.heap.size #[.int .i64 a, .int .i64 b, v]) ∧
    ((W.alloc (.cells #[.int .i64 0, .int .i64 0, .slice none 0 0] 28)).setRow W.heap.size #[.int .i64 a, .int .i64 b, v]).heap.size = W.heap.size + 1 :=
  ⟨blk_new _ _ _, (blk_new W _ _).row _, below_row (below_alloc' _ _) (Nat.le_refl _) _, by rw [setRow_size]; simp⟩
theorem yvar (W : World) (a b c d : Int) : Blk (W.alloc (.cells #[.int .i64 0, .int .i64 0, .int .i64 0, .int .i64 0] 33)) W.heap.size 33 #[.int .i64 0, .int .i64 0, .int .i64 0, .int .i64 0] ∧
    Blk ((W.alloc (.cells #[.int .i64 0, .int .i64 0, .int .i64 0, .int .i64 0] 33)).setRow W.heap.size #[.int .i64 a, .int .i64 b, .int .i64 c, .int .i64 d]) W.heap.size 33 #[.int .i64 a, .int .i64 b, .int .i64 c, .int .i64 d] ∧
    Below W.heap.size W ((W.alloc (.cells #[.int .i64 0, .int .i64 0, .int .i64 0, .int .i64 0] 33)).setRow W.heap.size #[.int .i64 a, .int .i64 b, .int .i64 c, .int .i64 d]) ∧
    ((W.alloc (.cells #[.int .i64 0, .int .i64 0, .int .i64 0, .int .i64 0] 33)).setRow W.heap.size #[.int .i64 a, .int .i64 b, .int .i64 c, .int .i64 d]).heap.size = W.heap.size + 1 :=
  ⟨blk_new _ _ _, (blk_new W _ _).row _, below_row (below_alloc' _ _) (Nat.le_refl _) _, by rw [setRow_size]; simp⟩
theorem KRow.sl {w : World} {B : Nat} {T : TypeId} {k : Nat} {v : Value} {R : List (List Int)} (h : KRow w B T k v R) : ∃ a n c, v = .slice a n c := by
  obtain ⟨a, c, e, _⟩ := h.len
  exact ⟨a, _, c, e⟩
theorem cells4 (W : World) (a b c d : Int) : ∀ j, j < 4 → (W.alloc (.cells #[.int .i64 a, .int .i64 b, .int .i64 c, .int .i64 d] 33)).cell? ⟨W.heap.size, j, none⟩ = some (.int .i64 (([a, b, c, d] : List Int).getD j 0)) := by
  intro j hj
  have X := blk_new W 33 #[.int .i64 a, .int .i64 b, .int .i64 c, .int .i64 d]
  have : j = 0 ∨ j = 1 ∨ j = 2 ∨ j = 3 := by omega
  rcases this with rfl | rfl | rfl | rfl <;> exact X.cell _ rfl
theorem results_two {fn : Func} {p q : Tmp} {ty ty2 : TypeId} (h : fn.results = #[.cell p ty, .cell q ty2]) (tmps : Array Value) (w : World) (g g2 : Nat) (cs cs2 : Array Value)
    (hp : tmps.getD p undef = .pointer (some ⟨g, 0, none⟩)) (hl : (loadVar ty ⟨g, 0, none⟩).run Try.prog w = .ok (.agg cs) w) (hp2 : tmps.getD q undef = .pointer (some ⟨g2, 0, none⟩)) (hl2 : (loadVar ty2 ⟨g2, 0, none⟩).run Try.prog w = .ok (.agg cs2) w) :
    (results fn tmps).run Try.prog w = .ok (.tuple #[.agg cs, .agg cs2]) w := by
  have hp' : tmps[p]?.getD undef = .pointer (some ⟨g, 0, none⟩) := by simpa using hp
  have hq' : tmps[q]?.getD undef = .pointer (some ⟨g2, 0, none⟩) := by simpa using hp2
  simp [results, h, hp', hq', asAddr, hl, hl2]
theorem load_r {w : World} {g : Nat} {a b c : Value} (h : Blk w g 28 #[a, b, c]) : (loadVar 28 ⟨g, 0, none⟩).run Try.prog w = .ok (.agg #[a, b, c]) w :=
  run_loadVar_row w g _ _ _ _ _ h Try.underlying28 rfl Try.infoRs
/-- All that stands while begin goes on. -/
structure BegI (w : World) (ep q : Int) (wr : World) (v : Value) (R : List (Int × Hg)) : Prop where
  r0 : Blk wr w.heap.size 26 #[.int .i64 0, .int .i64 0, .map none]
  r1 : Blk wr (w.heap.size + 1) 28 #[.int .i64 0, .int .i64 0, .slice none 0 0]
  m : MapAt Hg.val wr (w.heap.size + 2) R
  vs : Blk wr (w.heap.size + 3) 26 #[.int .i64 ep, .int .i64 q, .map (some (w.heap.size + 2))]
  vx : Blk wr (w.heap.size + 4) 28 #[.int .i64 ep, .int .i64 q, v]
  row : HRow wr (w.heap.size + 5) v R
  bel : Below w.heap.size w wr
  rng : inR R
theorem BegI.below {w : World} {ep q : Int} {wr w' : World} {v : Value} {R : List (Int × Hg)} (h : BegI w ep q wr v R) (hb : Below wr.heap.size wr w') : BegI w ep q w' v R :=
  ⟨h.r0.below hb, h.r1.below hb, h.m.below hb, h.vs.below hb, h.vx.below hb, KRow.below h.row hb, h.bel.trans (hb.mono h.bel.size), h.rng⟩
theorem begin_end {w : World} {ep q : Int} {wr W9 : World} {v : Value} {R : List (Int × Hg)} (h : BegI w ep q wr v R)
    (e : W9 = (((((wr.setCell ⟨w.heap.size, 0, none⟩ (.int .i64 ep)).setCell ⟨w.heap.size, 1, none⟩ (.int .i64 q)).setCell ⟨w.heap.size, 2, none⟩ (.map (some (w.heap.size + 2)))).setCell ⟨w.heap.size + 1, 0, none⟩ (.int .i64 ep)).setCell ⟨w.heap.size + 1, 1, none⟩ (.int .i64 q)).setCell ⟨w.heap.size + 1, 2, none⟩ v) :
    Blk W9 w.heap.size 26 #[.int .i64 ep, .int .i64 q, .map (some (w.heap.size + 2))] ∧ Blk W9 (w.heap.size + 1) 28 #[.int .i64 ep, .int .i64 q, v] ∧ MapAt Hg.val W9 (w.heap.size + 2) R ∧ HRow W9 w.heap.size v R ∧ Below w.heap.size w W9 := by
  have n1 : ∀ i, w.heap.size ≠ (⟨w.heap.size + 1, i, none⟩ : Addr).block := fun i => by show w.heap.size ≠ w.heap.size + 1; omega
  have n2 : ∀ i, w.heap.size + 1 ≠ (⟨w.heap.size, i, none⟩ : Addr).block := fun i => by show w.heap.size + 1 ≠ w.heap.size; omega
  have eq : ∀ k, k ≠ w.heap.size → k ≠ w.heap.size + 1 → W9.heap[k]? = wr.heap[k]? := fun k h1 h2 => by
    rw [e, Below.heap_setCell _ _ _ _ h2, Below.heap_setCell _ _ _ _ h2, Below.heap_setCell _ _ _ _ h2, Below.heap_setCell _ _ _ _ h1, Below.heap_setCell _ _ _ _ h1, Below.heap_setCell _ _ _ _ h1]
  refine ⟨?_, ?_, h.m.keep (eq _ (by omega) (by omega)), ?_, ?_⟩
  · rw [e]
    exact ((((((h.r0.set 0 (.int .i64 ep)).set 1 (.int .i64 q)).set 2 (.map (some (w.heap.size + 2)))).other (n1 0) _).other (n1 1) _).other (n1 2) _)
  · rw [e]
    exact ((((((h.r1.other (n2 0) _).other (n2 1) _).other (n2 2) _).set 0 (.int .i64 ep)).set 1 (.int .i64 q)).set 2 v)
  · exact KRow.base (KRow.of_block h.row (fun g hg _ => eq g (by omega) (by omega))) (by omega)
  · rw [e]
    exact (((((h.bel.setCell (p := ⟨w.heap.size, 0, none⟩) (Nat.le_refl _) _).setCell (p := ⟨w.heap.size, 1, none⟩) (Nat.le_refl _) _).setCell (p := ⟨w.heap.size, 2, none⟩) (Nat.le_refl _) _).setCell (p := ⟨w.heap.size + 1, 0, none⟩) (Nat.le_succ _) _).setCell (p := ⟨w.heap.size + 1, 1, none⟩) (Nat.le_succ _) _).setCell (p := ⟨w.heap.size + 1, 2, none⟩) (Nat.le_succ _) _
set_option maxHeartbeats 8000000 in
set_option maxRecDepth 100000 in
theorem lbegin_any (ep q : Int) (ao : Option Addr) (n ca : Nat) (Z : Nat → Rh) (w : World) (hA : RhAt w ao n Z) :
   Calls Try.prog 4 #[.int .i64 ep, .int .i64 q, .slice ao n ca] w fun e w' => ∃ (b : Nat) (v : Value) (R : List (Int × Hg)), e = .returned (.tuple #[lsV ep q (some b), .agg #[.int .i64 ep, .int .i64 q, v]]) ∧ MapAt Hg.val w' b R ∧ HRow w' w.heap.size v R ∧ R.length ≤ 10 ∧ inR R ∧ w.heap.size ≤ b ∧ Below w.heap.size w w' := by
  have X0 := blk_new w 26 #[.int .i64 0, .int .i64 0, .map none]
  have B0 := below_alloc' w (.cells #[.int .i64 0, .int .i64 0, .map none] 26)
  have s0 : (w.alloc (.cells #[.int .i64 0, .int .i64 0, .map none] 26)).heap.size = w.heap.size + 1 := by simp
  generalize hw0 : w.alloc (.cells #[.int .i64 0, .int .i64 0, .map none] 26) = w0 at *
  have X1 := blk_new w0 28 #[.int .i64 0, .int .i64 0, .slice none 0 0]
  have B1 := below_alloc' w0 (.cells #[.int .i64 0, .int .i64 0, .slice none 0 0] 28)
  have s1 : (w0.alloc (.cells #[.int .i64 0, .int .i64 0, .slice none 0 0] 28)).heap.size = w.heap.size + 2 := by simp [s0]
  have X01 := X0.below B1
  rw [s0] at X1
  generalize hw1 : w0.alloc (.cells #[.int .i64 0, .int .i64 0, .slice none 0 0] 28) = w1 at *
  have hmk := @run_makeMap Try.prog
  have M2 := MapAt.made Hg.val w1
  have B2 := below_alloc' w1 (.map #[] 0)
  have s2 : (w1.alloc (.map #[] 0)).heap.size = w.heap.size + 3 := by simp [s1]
  rw [s1] at M2
  generalize hw2 : w1.alloc (.map #[] 0) = w2 at *
  obtain ⟨XA3, XB3, B3, _⟩ := lvar w2 ep q (some (w.heap.size + 2))
  have s3 : ((w2.alloc (.cells #[.int .i64 0, .int .i64 0, .map none] 26)).setRow w2.heap.size #[.int .i64 ep, .int .i64 q, .map (some (w.heap.size + 2))]).heap.size = w.heap.size + 4 := by rw [setRow_size]; simp [s2]
  rw [s2] at XA3 XB3 B3 s3
  generalize hwA3 : w2.alloc (.cells #[.int .i64 0, .int .i64 0, .map none] 26) = wA3 at *
  generalize hwB3 : wA3.setRow (w.heap.size + 3) #[.int .i64 ep, .int .i64 q, .map (some (w.heap.size + 2))] = w3 at *
  obtain ⟨XA4, XB4, B4, s4⟩ := rvar w3 ep q (.slice none 0 0)
  rw [s3] at XA4 XB4 B4 s4
  generalize hwA4 : w3.alloc (.cells #[.int .i64 0, .int .i64 0, .slice none 0 0] 28) = wA4 at *
  generalize hwB4 : wA4.setRow (w.heap.size + 4) #[.int .i64 ep, .int .i64 q, .slice none 0 0] = w4 at *
  have B34 : Below (w.heap.size + 3) w2 w4 := B3.trans (B4.mono (by omega))
  have B14 : Below (w.heap.size + 2) w1 w4 := (B2.mono (by omega)).trans (B34.mono (by omega))
  have I4 : BegI w ep q w4 (.slice none 0 0) [] := ⟨X01.of_block (B14.block _ (by omega)), X1.of_block (B14.block _ (by omega)), M2.keep (B34.block _ (by omega)), XB3.of_block (B4.block _ (by omega)), XB4, KRow.nil _ _ _ _, (below_then B0 B1).trans (B14.mono (by omega)), by intro p hp; cases hp⟩
  have HI : Hid (BegI w ep q w4 (.slice none 0 0) []) := I4
  have HS : Hid (w4.heap.size = w.heap.size + 5) := by show _ = _; omega
  have HV := yvar
  clear X0 B0 X1 X01 B1 M2 B2 B3 B4 B34 B14 I4 XB3 XB4 s4
  go_enter Try.func4, Try.ntmps4
  go_wp2_with (first
    | (refine wpList_store_row rfl 26 _ _ rfl (w.heap.size + 3) _ rfl rfl 26 _ XA3 Try.infoLs rfl (lall _ _ _) ?_; rw [hwB3])
    | (refine wpList_store_row rfl 28 _ _ rfl (w.heap.size + 4) _ rfl rfl 28 _ XA4 Try.infoRs rfl (ralls _ _ _ ⟨_, _, _, rfl⟩) ?_; rw [hwB4]))
  go_loopg [10] 10 (fun gg s10 wr => ∃ (i : Nat) (v : Value) (R : List (Int × Hg)), i ≤ 10 ∧ i ≤ n ∧ gg = 10 - i ∧ s10 = .int .i64 (i : Int) ∧ BegI w ep q wr v R ∧ R.length ≤ i ∧ w.heap.size + 5 ≤ wr.heap.size)
  case atStart => exact ⟨0, _, [], by omega, by omega, by omega, rfl, HI.out, by simp, by have := HS.out; omega⟩
  case round =>
  obtain ⟨i, v, R, hi10, hin, rfl, rfl, I, hRi, z0⟩ := hrel
  have hmax := hA.max
  by_cases hgo : i < n ∧ i < 10
  · have d1 : (i : Int) < (n : Int) := by omega
    have d2 : (i : Int) < 10 := by omega
    obtain ⟨ba, oa, rfl, hc⟩ := (hA.below I.bel).cells (by omega)
    have hsm := hA.small i
    obtain ⟨c0, c1, c2, c3⟩ := hc i hgo.1
    generalize Z i = zz at *
    obtain ⟨pl, ho, eo, un⟩ := zz
    simp only at c0 c1 c2 c3 hsm
    obtain ⟨XA, XB, BB, ss⟩ := HV wr pl ho eo un
    have I1 := I.below BB
    have HI1 : Hid (BegI w ep q _ v R) := I1
    have HI0 : Hid (BegI w ep q wr v R) := I
    generalize hwA : wr.alloc (.cells #[.int .i64 0, .int .i64 0, .int .i64 0, .int .i64 0] 33) = wA at *
    generalize hwB : wA.setRow wr.heap.size #[.int .i64 pl, .int .i64 ho, .int .i64 eo, .int .i64 un] = wB at *
    have b0 : wB.cell? ⟨wr.heap.size, 0, none⟩ = some (.int .i64 pl) := XB.cell 0 rfl
    have b1 : wB.cell? ⟨wr.heap.size, 1, none⟩ = some (.int .i64 ho) := XB.cell 1 rfl
    have b2 : wB.cell? ⟨wr.heap.size, 2, none⟩ = some (.int .i64 eo) := XB.cell 2 rfl
    have b3 : wB.cell? ⟨wr.heap.size, 3, none⟩ = some (.int .i64 un) := XB.cell 3 rfl
    have zB : w.heap.size + 6 ≤ wB.heap.size := by omega
    have zB2 : wr.heap.size < wB.heap.size := by omega
    have hRl : R.length ≤ 10 := by omega
    clear hc I ss hgo hA
    by_cases hun : un = 0
    · subst hun
      go_wp2_with (refine wpList_store_row rfl 33 _ _ rfl wr.heap.size _ rfl rfl 33 _ XA Try.infoRhS rfl (hall4 _ _ _ _) ?_; rw [hwB])
      go_roundg (10 - (i + 1))
      case measure => omega
      case rel => exact ⟨i + 1, v, R, by omega, by omega, rfl, by go_num, HI1.out, by omega, by omega⟩
    · obtain ⟨w5, hrun, M5, B5, s5⟩ := I1.m.store Try.underlying24 (by omega) pl hsm.1 ⟨ho, eo, un⟩
      have k5 : wB.cell? ⟨w.heap.size + 3, 2, none⟩ = some (.map (some (w.heap.size + 2))) := I1.vs.cell 2 rfl
      have z5 : wB.heap.size ≤ w5.heap.size := by omega
      clear s5
      unfold Hg.val at hrun
      simp only at hrun
      have hMp := M5.perm (insG_perm (pl, ⟨ho, eo, un⟩) R)
      have vx5 := I1.vx.but B5 (by omega)
      have vs5 := I1.vs.but B5 (by omega)
      have r05 := I1.r0.but B5 (by omega)
      have r15 := I1.r1.but B5 (by omega)
      have xb5 := XB.but B5 (by omega)
      have row5 := KRow.but I1.row B5 (by omega)
      have bel5 := I1.bel.trans (B5.below (B := w.heap.size) I1.bel.size (by omega))
      have rng := I1.rng
      obtain ⟨av, cv, hv, _⟩ := KRow.len row5
      rw [List.length_map] at hv
      have E6 := below_alloc' w5 (.cells #[] 33)
      have O6 := KRow.new w5 33 4
      have s6 : (w5.alloc (.cells #[] 33)).heap.size = w5.heap.size + 1 := by simp
      generalize hw6 : w5.alloc (.cells #[] 33) = w6 at *
      have k6 : w6.cell? ⟨w.heap.size + 4, 2, none⟩ = some v := (vx5.below E6).cell 2 rfl
      have HH : Hid (MapAt Hg.val w5 (w.heap.size + 2) (insG (pl, ⟨ho, eo, un⟩) R) ∧ Blk w5 w.heap.size 26 #[.int .i64 0, .int .i64 0, .map none] ∧ Blk w5 (w.heap.size + 1) 28 #[.int .i64 0, .int .i64 0, .slice none 0 0] ∧ Blk w5 (w.heap.size + 3) 26 #[.int .i64 ep, .int .i64 q, .map (some (w.heap.size + 2))] ∧ Blk w5 (w.heap.size + 4) 28 #[.int .i64 ep, .int .i64 q, v] ∧ Blk w5 wr.heap.size 33 #[.int .i64 pl, .int .i64 ho, .int .i64 eo, .int .i64 un] ∧ KRow w5 (w.heap.size + 5) 33 4 v (R.map cvR) ∧ Below w.heap.size w w5 ∧ inR R) := ⟨hMp, r05, r15, vs5, vx5, xb5, row5, bel5, rng⟩
      have HSM : Hid (i64 pl ∧ i64 ho ∧ i64 eo ∧ i64 un) := hsm
      have HVV : Hid (v = .slice av R.length cv) := hv
      have HE6 : Hid (Below w5.heap.size w5 w6 ∧ w6.heap.size = w5.heap.size + 1) := ⟨E6, s6⟩
      rw [hv] at k6
      clear hMp r05 r15 vs5 vx5 xb5 row5 bel5 rng I1 M5 B5 hsm hv E6 s6
      go_wp2_with (refine wpList_store_row rfl 33 _ _ rfl wr.heap.size _ rfl rfl 33 _ XA Try.infoRhS rfl (hall4 _ _ _ _) ?_; rw [hwB])
      obtain ⟨wo, hwo⟩ : ∃ wo, wo = wr := ⟨_, rfl⟩
      subst hwo
      have hbe : (un == 0) = false := by simpa using hun
      rw [hbe]
      go_loopg [12, 13, 55] R.length (fun gg s12 s13 s55 wx => ∃ j : Nat, j ≤ R.length ∧ gg = R.length - j ∧ s55 = .int .i64 (j : Int) ∧ s13 = .bool (foldG (pl, ⟨ho, eo, un⟩) (R.take j)).2 ∧ KRow wx w5.heap.size 33 4 s12 ((foldG (pl, ⟨ho, eo, un⟩) (R.take j)).1.map cvR) ∧ Below w5.heap.size w6 wx ∧ w5.heap.size + 1 ≤ wx.heap.size)
      case atStart => exact ⟨0, by omega, by omega, rfl, rfl, O6, Below.refl _ _, by have := HE6.out.2; omega⟩
      case round =>
      obtain ⟨j, hj, rfl, rfl, rfl, OX, BX, zX⟩ := hrel
      rcases Nat.lt_or_ge j R.length with hlt | hge
      · have d5 : (j : Int) < (R.length : Int) := by omega
        have HR := HH.out.2.2.2.2.2.2.1
        have XH5 := HH.out.2.2.2.2.2.1
        have BW : Below w5.heap.size w5 wr := HE6.out.1.trans BX
        rcases HR.cases with ⟨_, e0⟩ | ⟨g, cap, e0, hg1, hg2, hle, hcm, hcell⟩
        · rw [List.map_eq_nil_iff] at e0
          rw [e0] at hlt
          exact absurd hlt (Nat.not_lt_zero _)
        · have ev := HVV.out
          rw [e0, List.length_map] at ev
          injection ev with ev1 ev2 ev3
          obtain ⟨⟨yp, yh, ye, yu⟩, hy⟩ : ∃ y : Int × Hg, y = R[j] := ⟨_, rfl⟩
          have hce : ∀ k, k < 4 → wr.cell? ⟨g, j * 4 + k, none⟩ = some (.int .i64 ((cvR (yp, ⟨yh, ye, yu⟩)).getD k 0)) := fun k hk => by
            rw [BW.cell (by exact hg2), hcell j k (by rw [List.length_map]; exact hlt) hk, hrow_get hlt, ← hy]
          have y0 : wr.cell? ⟨g, j * 4, none⟩ = some (.int .i64 yp) := hce 0 (by omega)
          have y1 : wr.cell? ⟨g, j * 4 + 1, none⟩ = some (.int .i64 yh) := hce 1 (by omega)
          have y2 : wr.cell? ⟨g, j * 4 + 2, none⟩ = some (.int .i64 ye) := hce 2 (by omega)
          have y3 : wr.cell? ⟨g, j * 4 + 3, none⟩ = some (.int .i64 yu) := hce 3 (by omega)
          have E0 : foldG (pl, ⟨ho, eo, un⟩) (R.take (j + 1)) = stepG (pl, ⟨ho, eo, un⟩) (foldG (pl, ⟨ho, eo, un⟩) (R.take j)) (yp, ⟨yh, ye, yu⟩) := by
            rw [List.take_succ_eq_append_getElem hlt, foldG_snoc, ← hy]
          have hln0 := foldG_len (pl, ⟨ho, eo, un⟩) (R.take j)
          rw [List.length_take] at hln0
          obtain ⟨XAy, XBy, BBy, sy⟩ := HV wr yp yh ye yu
          generalize hwC : wr.alloc (.cells #[.int .i64 0, .int .i64 0, .int .i64 0, .int .i64 0] 33) = wC at *
          generalize hwD : wC.setRow wr.heap.size #[.int .i64 yp, .int .i64 yh, .int .i64 ye, .int .i64 yu] = wD at *
          have zD : w5.heap.size + 2 ≤ wD.heap.size := by omega
          have zD2 : wr.heap.size < wD.heap.size := by omega
          have XHD : Blk wD wo.heap.size 33 #[.int .i64 pl, .int .i64 ho, .int .i64 eo, .int .i64 un] := (XH5.of_block (BW.block _ (by omega))).of_block (BBy.block _ (by omega))
          have v0 : wD.cell? ⟨wr.heap.size, 0, none⟩ = some (.int .i64 yp) := XBy.cell 0 rfl
          have u0 : wD.cell? ⟨wo.heap.size, 0, none⟩ = some (.int .i64 pl) := XHD.cell 0 rfl
          have OD := KRow.below OX BBy
          have OX' := OX
          have BBD : Below w5.heap.size wr wD := BBy.mono (by omega)
          have F1 : True := trivial
          have F2 : True := trivial
          subst ev1 ev3
          clear hce hcell e0 hcm hg1 hle ev2 sy HR XH5 BW OX hy
          generalize foldG (pl, ⟨ho, eo, un⟩) (R.take j) = st at *
          obtain ⟨acc, dn⟩ := st
          simp only at OD hln0
          unfold stepG at E0
          simp only at E0
          by_cases hyp : yp = pl
          · rw [if_pos hyp] at E0
            have E : Hid (foldG (pl, ⟨ho, eo, un⟩) (R.take (j + 1)) = (acc, dn)) := E0
            clear E0
            have hyd : (yp == pl) = true := by simp [hyp]
            clear hyp
            go_wp2_with (refine wpList_store_row rfl 33 _ _ rfl wr.heap.size _ rfl rfl 33 _ XAy Try.infoRhS rfl (hall4 _ _ _ _) ?_; rw [hwD])
            go_roundg (R.length - (j + 1))
            case measure => omega
            case rel => exact ⟨j + 1, by omega, rfl, by go_num, by rw [E.out], by rw [E.out]; exact OD, BX.trans BBD, by omega⟩
          · rw [if_neg hyp] at E0
            have hyp2 : ¬ pl = yp := fun e => hyp e.symm
            cases dn with
            | true =>
              simp only [Bool.true_eq_false, false_and, if_false] at E0
              have E : Hid (foldG (pl, ⟨ho, eo, un⟩) (R.take (j + 1)) = (acc ++ [(yp, ⟨yh, ye, yu⟩)], true)) := E0
              clear E0
              have OE := KRow.below OD (below_alloc' wD (.cells #[.int .i64 yp, .int .i64 yh, .int .i64 ye, .int .i64 yu] 33))
              have hln : (acc.map cvR).length ≤ 100000 := by rw [List.length_map]; omega
              go_wp2_with (first
                | (refine wpList_store_row rfl 33 _ _ rfl wr.heap.size _ rfl rfl 33 _ XAy Try.infoRhS rfl (hall4 _ _ _ _) ?_; rw [hwD])
                | (refine wpList_load_row rfl 33 _ rfl wr.heap.size rfl 33 _ (0, 0) _ XBy Try.underlying33 rfl Try.infoRhS ?_)
                | (at_builtin; have g := F2; clear g F2; refine wpList_append_k rfl _ _ 33 22 4 _ Try.underlying22 Try.infoRh rfl (by omega) (by omega) rfl w5.heap.size _ _ rfl OE wD.heap.size [yp, yh, ye, yu] rfl rfl (cells4 wD yp yh ye yu) hln (by simp; omega) ?_; intro v8 w8 O8 B8 _))
              go_roundg (R.length - (j + 1))
              case measure => omega
              case rel =>
                refine ⟨j + 1, by omega, rfl, by go_num, by rw [E.out], by rw [E.out, List.map_append]; exact O8, BX.trans ((BBD.alloc (by omega) (.cells #[.int .i64 yp, .int .i64 yh, .int .i64 ye, .int .i64 yu] 33)).trans B8), by have := B8.size; simp at this; omega⟩
            | false =>
              by_cases hpy : pl < yp
              · simp only [true_and, hpy, if_true] at E0
                have E : Hid (foldG (pl, ⟨ho, eo, un⟩) (R.take (j + 1)) = (acc ++ [(pl, ⟨ho, eo, un⟩)] ++ [(yp, ⟨yh, ye, yu⟩)], true)) := E0
                clear E0
                have OE := KRow.below OD (below_alloc' wD (.cells #[.int .i64 pl, .int .i64 ho, .int .i64 eo, .int .i64 un] 33))
                have hln : (acc.map cvR).length ≤ 100000 := by rw [List.length_map]; omega
                have hlt3 : ∀ k, u12.ownBlock = some k → k < wr.heap.size := fun k hk => (OX'.own.lt k hk).2
                have XY2 := XBy.below (below_alloc' wD (.cells #[.int .i64 pl, .int .i64 ho, .int .i64 eo, .int .i64 un] 33))
                go_wp2_with (first
                  | (refine wpList_store_row rfl 33 _ _ rfl wr.heap.size _ rfl rfl 33 _ XAy Try.infoRhS rfl (hall4 _ _ _ _) ?_; rw [hwD])
                  | (refine wpList_load_row rfl 33 _ rfl wo.heap.size rfl 33 _ (0, 0) _ XHD Try.underlying33 rfl Try.infoRhS ?_)
                  | (at_builtin; have g := F1; clear g F1; refine wpList_append_k rfl _ _ 33 22 4 _ Try.underlying22 Try.infoRh rfl (by omega) (by omega) rfl w5.heap.size _ _ rfl OE wD.heap.size [pl, ho, eo, un] rfl rfl (cells4 wD pl ho eo un) hln (by simp; omega) ?_; intro v7 w7 O7 B7 G7; have XY7 := XY2.of_block (G7.block _ (by simp; omega) (fun e => by have := hlt3 _ e.symm; omega)); have z7 := B7.size; have z7' : wD.heap.size + 1 ≤ w7.heap.size := (by simpa using z7); have OF := KRow.below O7 (below_alloc' w7 (.cells #[.int .i64 yp, .int .i64 yh, .int .i64 ye, .int .i64 yu] 33)); have hln' : ((acc.map cvR) ++ [[pl, ho, eo, un]]).length ≤ 100000 := (by rw [List.length_append]; simp; omega); clear z7)
                  | (refine wpList_load_row rfl 33 _ rfl wr.heap.size rfl 33 _ (0, 0) _ XY7 Try.underlying33 rfl Try.infoRhS ?_)
                  | (at_builtin; have g := F2; clear g F2; refine wpList_append_k rfl _ _ 33 22 4 _ Try.underlying22 Try.infoRh rfl (by omega) (by omega) rfl w5.heap.size _ _ rfl OF w7.heap.size [yp, yh, ye, yu] rfl rfl (cells4 w7 yp yh ye yu) hln' (by simp; omega) ?_; intro v8 w8 O8 B8 _))
                go_roundg (R.length - (j + 1))
                case measure => omega
                case rel =>
                  refine ⟨j + 1, by omega, rfl, by go_num, by rw [E.out], by rw [E.out, List.map_append, List.map_append]; exact O8, BX.trans ((((BBD.alloc (by omega) (.cells #[.int .i64 pl, .int .i64 ho, .int .i64 eo, .int .i64 un] 33)).trans B7).alloc (by omega) (.cells #[.int .i64 yp, .int .i64 yh, .int .i64 ye, .int .i64 yu] 33)).trans B8), by have := B8.size; simp at this; omega⟩
              · simp only [hpy, and_false, if_false] at E0
                have E : Hid (foldG (pl, ⟨ho, eo, un⟩) (R.take (j + 1)) = (acc ++ [(yp, ⟨yh, ye, yu⟩)], false)) := E0
                clear E0
                have OE := KRow.below OD (below_alloc' wD (.cells #[.int .i64 yp, .int .i64 yh, .int .i64 ye, .int .i64 yu] 33))
                have hln : (acc.map cvR).length ≤ 100000 := by rw [List.length_map]; omega
                go_wp2_with (first
                  | (refine wpList_store_row rfl 33 _ _ rfl wr.heap.size _ rfl rfl 33 _ XAy Try.infoRhS rfl (hall4 _ _ _ _) ?_; rw [hwD])
                  | (refine wpList_load_row rfl 33 _ rfl wr.heap.size rfl 33 _ (0, 0) _ XBy Try.underlying33 rfl Try.infoRhS ?_)
                  | (at_builtin; have g := F2; clear g F2; refine wpList_append_k rfl _ _ 33 22 4 _ Try.underlying22 Try.infoRh rfl (by omega) (by omega) rfl w5.heap.size _ _ rfl OE wD.heap.size [yp, yh, ye, yu] rfl rfl (cells4 wD yp yh ye yu) hln (by simp; omega) ?_; intro v8 w8 O8 B8 _))
                go_roundg (R.length - (j + 1))
                case measure => omega
                case rel =>
                  refine ⟨j + 1, by omega, rfl, by go_num, by rw [E.out], by rw [E.out, List.map_append]; exact O8, BX.trans ((BBD.alloc (by omega) (.cells #[.int .i64 yp, .int .i64 yh, .int .i64 ye, .int .i64 yu] 33)).trans B8), by have := B8.size; simp at this; omega⟩
      · obtain rfl : j = R.length := by omega
        rw [List.take_length] at OX
        rw [List.take_length]
        have hlnI := insG_len (pl, ⟨ho, eo, un⟩) R
        have hln0 := foldG_len (pl, ⟨ho, eo, un⟩) R
        have EI0 : insG (pl, ⟨ho, eo, un⟩) R = if (foldG (pl, ⟨ho, eo, un⟩) R).2 then (foldG (pl, ⟨ho, eo, un⟩) R).1 else (foldG (pl, ⟨ho, eo, un⟩) R).1 ++ [(pl, ⟨ho, eo, un⟩)] := rfl
        generalize foldG (pl, ⟨ho, eo, un⟩) R = st at *
        obtain ⟨acc, dn⟩ := st
        simp only at OX hln0 EI0 ⊢
        have BW : Below w5.heap.size w5 wr := HE6.out.1.trans BX
        have xv := (HH.out.2.2.2.2.1).of_block (BW.block _ (by omega))
        have xh := (HH.out.2.2.2.2.2.1).of_block (BW.block _ (by omega))
        cases dn with
        | true =>
          simp only [if_true] at EI0
          have EI : Hid (insG (pl, ⟨ho, eo, un⟩) R = acc) := EI0
          obtain ⟨ax, lx, cx, hux⟩ := KRow.sl OX
          subst hux
          have kx : wr.cell? ⟨w.heap.size + 4, 2, none⟩ = some v := xv.cell 2 rfl
          have fx := xv.frozen 2
          have NI : BegI w ep q (wr.setCell ⟨w.heap.size + 4, 2, none⟩ (.slice ax lx cx)) (.slice ax lx cx) (insG (pl, ⟨ho, eo, un⟩) R) := by
            have BWF : Below w5.heap.size w5 wr := BW
            obtain ⟨hMp, r05, r15, vs5, vx5, xb5, row5, bel5, rng⟩ := HH.out
            have ee : ∀ k, k ≠ w.heap.size + 4 → k < w5.heap.size → (wr.setCell ⟨w.heap.size + 4, 2, none⟩ (.slice ax lx cx)).heap[k]? = w5.heap[k]? := fun k h1 h2 => (Below.heap_setCell _ _ _ _ h1).trans (BWF.block k h2)
            refine ⟨r05.of_block (ee _ (by omega) (by omega)), r15.of_block (ee _ (by omega) (by omega)), hMp.keep (ee _ (by omega) (by omega)), vs5.of_block (ee _ (by omega) (by omega)), ?_, ?_, ?_, inR_put rng _ HSM.out⟩
            · exact (vx5.of_block (BWF.block _ (by omega))).set 2 (.slice ax lx cx)
            · have := KRow.of_block (w' := wr.setCell ⟨w.heap.size + 4, 2, none⟩ (.slice ax lx cx)) OX (fun g hg _ => Below.heap_setCell _ _ _ _ (show g ≠ w.heap.size + 4 by omega))
              unfold HRow
              rw [EI.out]
              exact KRow.base this (by omega)
            · exact (bel5.trans (BWF.mono (by omega))).setCell (p := ⟨w.heap.size + 4, 2, none⟩) (show w.heap.size ≤ w.heap.size + 4 by omega) _
          have nz : w.heap.size + 5 ≤ (wr.setCell ⟨w.heap.size + 4, 2, none⟩ (.slice ax lx cx)).heap.size := by simp; omega
          have HNI : Hid _ := NI
          clear NI EI0
          go_wp2_with fail
          go_roundg (10 - (i + 1))
          case measure => omega
          case rel => exact ⟨i + 1, _, _, by omega, by omega, rfl, by go_num, HNI.out, by omega, nz⟩
        | false =>
          simp only [Bool.false_eq_true, if_false] at EI0
          have EI : Hid ((insG (pl, ⟨ho, eo, un⟩) R).map cvR = acc.map cvR ++ [[pl, ho, eo, un]]) := by show _ = _; rw [EI0, List.map_append]; rfl
          have OE := KRow.below OX (below_alloc' wr (.cells #[.int .i64 pl, .int .i64 ho, .int .i64 eo, .int .i64 un] 33))
          have hln : (acc.map cvR).length ≤ 100000 := by rw [List.length_map]; omega
          have F1 : True := trivial
          clear EI0
          go_wp2_with (first
            | (refine wpList_load_row rfl 33 _ rfl wo.heap.size rfl 33 _ (0, 0) _ xh Try.underlying33 rfl Try.infoRhS ?_)
            | (at_builtin; have g := F1; clear g F1; refine wpList_append_k rfl _ _ 33 22 4 _ Try.underlying22 Try.infoRh rfl (by omega) (by omega) rfl w5.heap.size _ _ rfl OE wr.heap.size [pl, ho, eo, un] rfl rfl (cells4 wr pl ho eo un) hln (by simp; omega) ?_; intro v8 w8 O8 B8 _; obtain ⟨ax, lx, cx, hux⟩ := KRow.sl O8; subst hux; have BW8 : Below w5.heap.size wr w8 := (((Below.refl _ wr).alloc (by omega) _).trans B8); have xv8 := xv.of_block (BW8.block _ (by omega)); have kx : w8.cell? ⟨w.heap.size + 4, 2, none⟩ = some v := xv8.cell 2 rfl; have fx := xv8.frozen 2; have z8 := BW8.size))
          have NI : BegI w ep q (w8.setCell ⟨w.heap.size + 4, 2, none⟩ (.slice ax lx cx)) (.slice ax lx cx) (insG (pl, ⟨ho, eo, un⟩) R) := by
            have BWF : Below w5.heap.size w5 w8 := BW.trans BW8
            obtain ⟨hMp, r05, r15, vs5, vx5, xb5, row5, bel5, rng⟩ := HH.out
            have ee : ∀ k, k ≠ w.heap.size + 4 → k < w5.heap.size → (w8.setCell ⟨w.heap.size + 4, 2, none⟩ (.slice ax lx cx)).heap[k]? = w5.heap[k]? := fun k h1 h2 => (Below.heap_setCell _ _ _ _ h1).trans (BWF.block k h2)
            refine ⟨r05.of_block (ee _ (by omega) (by omega)), r15.of_block (ee _ (by omega) (by omega)), hMp.keep (ee _ (by omega) (by omega)), vs5.of_block (ee _ (by omega) (by omega)), ?_, ?_, ?_, inR_put rng _ HSM.out⟩
            · exact (vx5.of_block (BWF.block _ (by omega))).set 2 _
            · have := KRow.of_block (w' := w8.setCell ⟨w.heap.size + 4, 2, none⟩ (.slice ax lx cx)) O8 (fun g hg _ => Below.heap_setCell _ _ _ _ (show g ≠ w.heap.size + 4 by omega))
              unfold HRow
              rw [EI.out]
              exact KRow.base this (by omega)
            · exact (bel5.trans (BWF.mono (by omega))).setCell (p := ⟨w.heap.size + 4, 2, none⟩) (show w.heap.size ≤ w.heap.size + 4 by omega) _
          have nz : w.heap.size + 5 ≤ (w8.setCell ⟨w.heap.size + 4, 2, none⟩ (.slice ax lx cx)).heap.size := by simp; omega
          go_roundg (10 - (i + 1))
          case measure => omega
          case rel => exact ⟨i + 1, _, _, by omega, by omega, rfl, by go_num, NI, by omega, nz⟩
  · have k80 : wr.cell? ⟨w.heap.size + 3, 0, none⟩ = some (.int .i64 ep) := I.vs.cell 0 rfl
    have k81 : wr.cell? ⟨w.heap.size + 3, 1, none⟩ = some (.int .i64 q) := I.vs.cell 1 rfl
    have k82 : wr.cell? ⟨w.heap.size + 3, 2, none⟩ = some (.map (some (w.heap.size + 2))) := I.vs.cell 2 rfl
    have k90 : wr.cell? ⟨w.heap.size + 4, 0, none⟩ = some (.int .i64 ep) := I.vx.cell 0 rfl
    have k91 : wr.cell? ⟨w.heap.size + 4, 1, none⟩ = some (.int .i64 q) := I.vx.cell 1 rfl
    have k92 : wr.cell? ⟨w.heap.size + 4, 2, none⟩ = some v := I.vx.cell 2 rfl
    have k00 : wr.cell? ⟨w.heap.size, 0, none⟩ = some (.int .i64 0) := I.r0.cell 0 rfl
    have k01 : wr.cell? ⟨w.heap.size, 1, none⟩ = some (.int .i64 0) := I.r0.cell 1 rfl
    have k02 : wr.cell? ⟨w.heap.size, 2, none⟩ = some (.map none) := I.r0.cell 2 rfl
    have k10 : wr.cell? ⟨w.heap.size + 1, 0, none⟩ = some (.int .i64 0) := I.r1.cell 0 rfl
    have k11 : wr.cell? ⟨w.heap.size + 1, 1, none⟩ = some (.int .i64 0) := I.r1.cell 1 rfl
    have k12 : wr.cell? ⟨w.heap.size + 1, 2, none⟩ = some (.slice none 0 0) := I.r1.cell 2 rfl
    have f00 := I.r0.frozen 0
    have f01 := I.r0.frozen 1
    have f02 := I.r0.frozen 2
    have f10 := I.r1.frozen 0
    have f11 := I.r1.frozen 1
    have f12 := I.r1.frozen 2
    have X0 := ((I.r0.set 0 (.int .i64 ep)).set 1 (.int .i64 q)).set 2 (.map (some (w.heap.size + 2)))
    have HI9 : Hid (BegI w ep q wr v R) := I
    obtain ⟨av, cv, hv, _⟩ := KRow.len I.row
    rw [List.length_map] at hv
    subst hv
    clear I X0
    have hcase : ¬ i < n ∨ (i < n ∧ ¬ i < 10) := by omega
    rcases hcase with h1 | ⟨h1, h2⟩
    · have d1 : ¬ (i : Int) < (n : Int) := by omega
      clear hgo
      go_wp2_with fail
      go_region
      have hv9 : ∃ W9, W9 = (((((wr.setCell ⟨w.heap.size, 0, none⟩ (.int .i64 ep)).setCell ⟨w.heap.size, 1, none⟩ (.int .i64 q)).setCell ⟨w.heap.size, 2, none⟩ (.map (some (w.heap.size + 2)))).setCell ⟨w.heap.size + 1, 0, none⟩ (.int .i64 ep)).setCell ⟨w.heap.size + 1, 1, none⟩ (.int .i64 q)).setCell ⟨w.heap.size + 1, 2, none⟩ (.slice av R.length cv) := ⟨_, rfl⟩
      obtain ⟨W9, hW9⟩ := hv9
      have HF := begin_end HI9.out hW9
      rw [← hW9]
      clear k80 k81 k82 k90 k91 k92 k00 k01 k02 k10 k11 k12 f00 f01 f02 f10 f11 f12 hW9
      go_wp2_with fail
      refine bodyPost_ret (results_two rfl _ _ w.heap.size (w.heap.size + 1) _ _ rfl (load_s (w := W9.drew) (by exact HF.1)) rfl (load_r (w := W9.drew) (by exact HF.2.1))) rfl ?_
      exact ⟨w.heap.size + 2, _, R, rfl, HF.2.2.1.keep rfl, KRow.of_block HF.2.2.2.1 (fun _ _ _ => rfl), by omega, HI9.out.rng, by omega, HF.2.2.2.2.drew⟩
    · have d1 : (i : Int) < (n : Int) := by omega
      have d2 : ¬ (i : Int) < 10 := by omega
      clear hgo
      go_wp2_with fail
      go_region
      have hv9 : ∃ W9, W9 = (((((wr.setCell ⟨w.heap.size, 0, none⟩ (.int .i64 ep)).setCell ⟨w.heap.size, 1, none⟩ (.int .i64 q)).setCell ⟨w.heap.size, 2, none⟩ (.map (some (w.heap.size + 2)))).setCell ⟨w.heap.size + 1, 0, none⟩ (.int .i64 ep)).setCell ⟨w.heap.size + 1, 1, none⟩ (.int .i64 q)).setCell ⟨w.heap.size + 1, 2, none⟩ (.slice av R.length cv) := ⟨_, rfl⟩
      obtain ⟨W9, hW9⟩ := hv9
      have HF := begin_end HI9.out hW9
      rw [← hW9]
      clear k80 k81 k82 k90 k91 k92 k00 k01 k02 k10 k11 k12 f00 f01 f02 f10 f11 f12 hW9
      go_wp2_with fail
      refine bodyPost_ret (results_two rfl _ _ w.heap.size (w.heap.size + 1) _ _ rfl (load_s (w := W9.drew) (by exact HF.1)) rfl (load_r (w := W9.drew) (by exact HF.2.1))) rfl ?_
      exact ⟨w.heap.size + 2, _, R, rfl, HF.2.2.1.keep rfl, KRow.of_block HF.2.2.2.1 (fun _ _ _ => rfl), by omega, HI9.out.rng, by omega, HF.2.2.2.2.drew⟩
end Go.Proofs.Ytacmphckmjangaa
