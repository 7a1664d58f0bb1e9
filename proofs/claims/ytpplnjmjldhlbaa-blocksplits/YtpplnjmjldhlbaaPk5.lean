/- Contracts of the program's functions, part 5 of 9: what each call returns and leaves of memory. -/
import Derived.Test.YtpplnjmjldhlbaaPk4
import Derived.Deep.MidRow
import Derived.Test.YtpplnjmjldhlbaaPk3
/- Package block: rowsOf (a part of each list of rows, copied). -/
namespace Go.Proofs.Ytpplnjmjldhlbaa
open Go.ChangeShapes Go.WideShapes Go.ChangeAt Go.RowKit
/-- The rows from a place up to another one. -/
def partR (R : List (List Int)) (fr to' : Nat) : List (List Int) := (R.drop fr).take (to' - fr)
theorem rowOf_drop (R : List (List Int)) (m t : Nat) : rowOf (R.drop m) t = rowOf R (m + t) := by
  unfold rowOf
  simp [List.getD_eq_getElem?_getD, List.getElem?_drop]
theorem GridAt.drop {w : World} {b o n : Nat} {R : List (List Int)} (h : GridAt w (some ⟨b, o, none⟩) n R) {m : Nat} (hm : m ≤ n) : GridAt w (some ⟨b, o + m, none⟩) (n - m) (R.drop m) := by
  have hl := h.len
  have hx := h.max
  refine ⟨by rw [List.length_drop]; omega, by omega, fun h0 => ?_⟩
  obtain ⟨b', o', e, hc⟩ := h.cells (by omega)
  simp only [Option.some.injEq, Addr.mk.injEq, and_true] at e
  obtain ⟨rfl, rfl⟩ := e
  refine ⟨b, o + m, rfl, fun t ht => ?_⟩
  rw [rowOf_drop, Nat.add_assoc]
  exact hc (m + t) (by omega)
theorem rowOf_takeB {R : List (List Int)} {m t : Nat} (h : t < m) : rowOf (R.take m) t = rowOf R t := by
  unfold rowOf
  rw [List.getD_eq_getElem?_getD, List.getD_eq_getElem?_getD, List.getElem?_take_of_lt h]
theorem GridAt.takeB {w : World} {ao : Option Addr} {n : Nat} {R : List (List Int)} (h : GridAt w ao n R) {m : Nat} (hm : m ≤ n) : GridAt w ao m (R.take m) := by
  have hl := h.len
  have hx := h.max
  refine ⟨by rw [List.length_take]; omega, by omega, fun h0 => ?_⟩
  obtain ⟨b, o, e, hc⟩ := h.cells (by omega)
  refine ⟨b, o, e, fun t ht => ?_⟩
  rw [rowOf_takeB ht]
  exact hc t (by omega)
theorem GridAt.partR {w : World} {b o n : Nat} {R : List (List Int)} (h : GridAt w (some ⟨b, o, none⟩) n R) {fr to' : Nat} (h1 : fr ≤ to') (h2 : to' ≤ n) : GridAt w (some ⟨b, o + fr, none⟩) (to' - fr) (partR R fr to') := (h.drop (by omega)).takeB (by omega)
/-- A row of rows of the call's own, and what its rows hang on: what the list hangs on. -/
theorem rows_hang {w : World} {B s n gA : Nat} {u : Value} {ua : Option Addr} {uc : Nat} {ns : List Value} {R : List (List Int)} (O : w.ownsRow B 72 1 (.slice ua n uc) n ([] ++ ns)) (H : HRows (offV s u) w ns R) (hub : ∀ g, (Value.slice ua n uc).ownBlock = some g → B ≤ g) (hB : gA < B) (hs : gA < s) (hn : n ≤ 4096) : Hangs (fun b => gA < b) w (fun w => GridV w ua n ns R) := by
  rw [List.nil_append] at O
  intro w2 h2
  have hl := O.1
  have H2 := (H.turn (p' := fun b => gA < b) (w' := w) ⟨Nat.le_refl _, fun b _ hp => ⟨Nat.lt_of_lt_of_le hs hp.1, rfl⟩⟩)
  have O2 : w2.ownsRow B 72 1 (.slice ua n uc) n ns := owns_mono O (Nat.le_refl _) (fun b hb => h2 b (Nat.lt_of_lt_of_le hB (hub b hb)) (O.lt b hb).2)
  refine ⟨⟨H.len, fun t ht => ?_⟩, by omega, by omega, fun h0 => ?_⟩
  · obtain ⟨ro, m, c, e, A⟩ := H2.rows t ht
    exact ⟨ro, m, c, e, A w2 h2⟩
  · rcases O2.2 with ⟨q1, q2⟩ | ⟨g, cap, cur, q1, _⟩
    · omega
    · simp only [Value.slice.injEq] at q1
      obtain ⟨rfl, -, rfl⟩ := q1
      refine ⟨g, 0, rfl, fun j x hj => ?_⟩
      have hc := O2.cells (g := g) rfl j _ hj
      have e3 : (Addr.mk g 0 none).add j = ⟨g, j, none⟩ := by simp [Addr.add]; intro h; exact h.symm
      rw [e3] at hc
      rw [Nat.zero_add]
      exact hc
theorem owns_form {w : World} {B n : Nat} {e : TypeId} {ua : Option Addr} {uc : Nat} {ns : List Value} (O : w.ownsRow B e 1 (.slice ua n uc) n ns) : (ua = none → uc = 0) ∧ n ≤ uc ∧ uc ≤ 9223372036854775807 := by
  rcases O.2 with ⟨q1, q2⟩ | ⟨g, cap, cur, q1, _, _, q4, q5, _⟩
  · simp only [Value.slice.injEq] at q1
    exact ⟨fun _ => q1.2.2, by omega, by omega⟩
  · simp only [Value.slice.injEq] at q1
    obtain ⟨rfl, -, rfl⟩ := q1
    unfold maxLen at q5
    exact ⟨(fun h => by cases h), q4, q5⟩
set_option maxRecDepth 100000 in
set_option maxHeartbeats 3200000 in
theorem rowsOf_any (ao : Option Addr) (m ca : Nat) (C : List (List (List Int))) (fr to' : Nat) (w : World) (hC : CubeAt w ao m C) (hm : m ≤ 4096) (h1 : fr < to') (h2 : to' ≤ 4096) (hl : ∀ R ∈ C, to' ≤ R.length ∧ ∀ t, t < R.length → (rowOf R t).length ≤ 1048576) :
   Calls Try.prog 49 #[.slice ao m ca, .int .i64 (fr : Int), .int .i64 (to' : Int)] w fun e w' => ∃ g, e = .returned (.slice (some ⟨g, 0, none⟩) m m) ∧ New w.heap.size w' (fun w => CubeAt w (some ⟨g, 0, none⟩) m (C.map fun R => partR R fr to')) ∧ Below w.heap.size w w' := by
  have hmk := run_make_row' (P := Try.prog) 25 73 (.slice none 0 0) 24 Try.underlying25 Try.infoList rfl .i64 .i64 m (by omega) (by omega)
  have hmk0 : ∀ w : World, (Instr.makeSlice 73 (.int .i64 0) (.int .i64 ((to' - fr : Nat) : Int))).run Try.prog w = .ok (.slice (some ⟨w.heap.size, 0, none⟩) 0 (to' - fr)) (w.alloc (.cells (madeCells #[.slice none 0 0] (to' - fr)) 72)) := fun w => by
    obtain ⟨i0, hi, hz0, hz1, hz2⟩ := info_parts Try.infoRow
    have h9 := run_make (P := Try.prog) w 73 72 i0 (.slice none 0 0) Try.underlying73 hi hz0 .i64 .i64 0 ((to' - fr : Nat) : Int) (by omega) (by omega) (by rw [hz2]; omega) (by omega)
    rw [hz1, Nat.mul_one] at h9
    exact h9
  have KK := kv_made w m (fun b => w.heap.size < b) (C.map fun R => partR R fr to') [] rfl
  have BB : Below w.heap.size w (w.alloc (.cells (madeCells #[.slice none 0 0] m) 73)) := (Below.refl _ _).alloc (Nat.le_refl _) _
  have hgA : w.heap.size < (w.alloc (.cells (madeCells #[.slice none 0 0] m) 73)).heap.size := by simp
  obtain ⟨gA, hg⟩ : ∃ gA, gA = w.heap.size := ⟨_, rfl⟩
  have hgs : w.heap.size ≤ gA := by omega
  have HSB : Hid (IntKind.i64.wrap ((to' : Int) - (fr : Int)) = ((to' - fr : Nat) : Int)) := by
    show _ = _
    rw [wrap_in (by omega)]
    omega
  have HC : Hid (∀ wv, Below w.heap.size w wv → CubeAt wv ao m C) := fun wv hb => hC.below hb
  have HLN : Hid (C.length = m) := hC.len
  have HLC : Hid (∀ R ∈ C, to' ≤ R.length ∧ ∀ t, t < R.length → (rowOf R t).length ≤ 1048576) := hl
  clear hC hl
  go_enter Try.func49, Try.ntmps49
  go_upto_region 3 with fail
  rw [← hg] at KK hgA
  have hg' : Hid (w.heap.size = gA) := hg.symm
  rw [show (some (⟨w.heap.size, 0, none⟩ : Addr)) = some ⟨gA, 0, none⟩ by rw [hg]]
  clear hg hmk
  generalize w.alloc (.cells (madeCells #[.slice none 0 0] m) 73) = w0 at *
  go_loopg [15] m (fun r s15 wr => ∃ i : Nat, i ≤ m ∧ r = m - i ∧ s15 = .int .i64 (i : Int) ∧ KV wr gA m i (fun b => gA < b) (C.map fun R => partR R fr to') [] ∧ Below w.heap.size w wr ∧ gA < wr.heap.size)
  case atStart => exact ⟨0, by omega, by omega, rfl, KK, BB, hgA⟩
  case round =>
    clear KK BB hgA
    obtain ⟨i, hi, rfl, rfl, KK, BB, hgA⟩ := hrel
    by_cases hlt : i < m
    · obtain ⟨b, o, rfl, hc⟩ := (HC.out wr BB).cells (by omega)
      have hR : C[i]? = some (C[i]'(by rw [HLN.out]; exact hlt)) := List.getElem?_eq_getElem _
      have hmem : C[i]'(by rw [HLN.out]; exact hlt) ∈ C := List.getElem_mem _
      have HAI : Hid ((C.map fun R => partR R fr to').getD i [] = partR (C[i]'(by rw [HLN.out]; exact hlt)) fr to') := by
        show _ = _
        rw [List.getD_eq_getElem?_getD, List.getElem?_map, hR]; rfl
      generalize C[i]'(by rw [HLN.out]; exact hlt) = R at hR hmem HAI
      obtain ⟨ro, n, c, k1, k2, k3, k4, G1⟩ := hc i R hR
      clear hc
      obtain ⟨f1, f2⟩ := HLC.out R hmem
      rw [G1.len] at f1 f2
      obtain ⟨b1, o1, rfl, _⟩ := G1.cells (by omega)
      have CA : ∀ wa wv : World, Below wr.heap.size wr wa → Below wa.heap.size wa wv → wv.ownsRow wa.heap.size 72 1 (.slice (some ⟨wa.heap.size, 0, none⟩) 0 (to' - fr)) 0 [] → Calls Try.prog 51 #[.slice (some ⟨wa.heap.size, 0, none⟩) 0 (to' - fr), .slice (some ⟨b1, o1 + fr, none⟩) (to' - fr) (c - fr)] wv _ := fun wa wv q1 q2 O => addRows_any wa.heap.size _ 0 [] _ (to' - fr) (c - fr) (partR R fr to') wv O (fun wx hx => (G1.below (below_then q1 (q2.grown hx q2.size (fun k hk => by simp [Value.ownBlock] at hk; omega)))).partR (by omega) f1) (fun t ht => by
        unfold partR
        rw [rowOf_takeB ht, rowOf_drop]
        exact f2 _ (by omega)) (by omega) q2.size
      go_upto_region 5 with fail
      have BD : Below wr.heap.size wr wr.drew := (Below.refl _ _).drew
      refine wp_region_held_drew (S := fun _ => True) (by kernel_rfl) (trivial) (fun hHeld => ?_)
      generalize hA : wr.drew = wA at *
      clear hA
      refine wpAnyH_take (i := 0) (v := (.slice (some ⟨gA, 0, none⟩) m m)) rfl (by kernel_rfl) (by kernel_rfl) (by kernel_rfl) (fun _ _ _ h => h) (Or.inl ⟨by rfl, ?_⟩) (by assumption) ?_
      · intro w' hSw
        go_simp
      simp only [List.getElem_toArray, List.getElem_cons_zero, Act.put, List.setIfInBounds_toArray, List.set_cons_zero, List.set_cons_succ]
      refine wpAnyH_take (i := 1) (v := (.int .i64 (i : Int))) rfl (by kernel_rfl) (by kernel_rfl) (by kernel_rfl) (fun _ _ _ h => h) (Or.inl ⟨by rfl, ?_⟩) (by assumption) ?_
      · intro w' hSw
        go_simp
      simp only [List.getElem_toArray, List.getElem_cons_succ, List.getElem_cons_zero, Act.put, List.setIfInBounds_toArray, List.set_cons_zero, List.set_cons_succ]
      refine wpAnyH_take (i := 2) (v := (.int .i64 (to' : Int))) rfl (by kernel_rfl) (by kernel_rfl) (by kernel_rfl) (fun _ _ _ h => h) (Or.inl ⟨by rfl, ?_⟩) (by assumption) ?_
      · intro w' hSw
        go_simp
      simp only [List.getElem_toArray, List.getElem_cons_succ, List.getElem_cons_zero, Act.put, List.setIfInBounds_toArray, List.set_cons_zero, List.set_cons_succ]
      refine wpAnyH_take (i := 3) (v := (.int .i64 (fr : Int))) rfl (by kernel_rfl) (by kernel_rfl) (by kernel_rfl) (fun _ _ _ h => h) (Or.inl ⟨by rfl, ?_⟩) (by assumption) ?_
      · intro w' hSw
        go_simp
      simp only [List.getElem_toArray, List.getElem_cons_succ, List.getElem_cons_zero, Act.put, List.setIfInBounds_toArray, List.set_cons_zero, List.set_cons_succ]
      refine wpAnyH_take (i := 4) (v := (.int .i64 ((to' - fr : Nat) : Int))) rfl (by kernel_rfl) (by kernel_rfl) (by kernel_rfl) (fun _ _ _ h => h) (Or.inl ⟨by rfl, ?_⟩) (by assumption) ?_
      · intro w' hSw
        have hsb := HSB.out
        go_simp
      simp only [List.getElem_toArray, List.getElem_cons_succ, List.getElem_cons_zero, Act.put, List.setIfInBounds_toArray, List.set_cons_zero, List.set_cons_succ]
      refine wpAnyH_take (i := 6) (v := (.slice (some ⟨b1, o1, none⟩) n c)) rfl (by kernel_rfl) (by kernel_rfl) (by kernel_rfl) (fun _ _ _ h => h) (Or.inl ⟨by rfl, ?_⟩) (by assumption) ?_
      · intro w' hSw
        go_simp
      simp only [List.getElem_toArray, List.getElem_cons_succ, List.getElem_cons_zero, Act.put, List.setIfInBounds_toArray, List.set_cons_zero, List.set_cons_succ]
      refine wpAnyH_take (i := 7) (v := (.int .i64 (fr : Int))) rfl (by kernel_rfl) (by kernel_rfl) (by kernel_rfl) (fun _ _ _ h => h) (Or.inl ⟨by rfl, ?_⟩) (by assumption) ?_
      · intro w' hSw
        go_simp
      simp only [List.getElem_toArray, List.getElem_cons_succ, List.getElem_cons_zero, Act.put, List.setIfInBounds_toArray, List.set_cons_zero, List.set_cons_succ]
      refine wpAnyH_take (i := 8) (v := (.int .i64 (to' : Int))) rfl (by kernel_rfl) (by kernel_rfl) (by kernel_rfl) (fun _ _ _ h => h) (Or.inl ⟨by rfl, ?_⟩) (by assumption) ?_
      · intro w' hSw
        go_simp
      simp only [List.getElem_toArray, List.getElem_cons_succ, List.getElem_cons_zero, Act.put, List.setIfInBounds_toArray, List.set_cons_zero, List.set_cons_succ]
      refine wpAnyH_take (i := 9) (v := (.slice (some ⟨b1, o1 + fr, none⟩) (to' - fr) (c - fr))) rfl (by kernel_rfl) (by kernel_rfl) (by kernel_rfl) (fun _ _ _ h => h) (Or.inl ⟨by rfl, ?_⟩) (by assumption) ?_
      · intro w' hSw
        (go_simp; rw [if_pos (show to' ≤ c by omega), if_pos (show fr ≤ to' by omega), if_neg (show ¬ c = fr by omega)])
      simp only [List.getElem_toArray, List.getElem_cons_succ, List.getElem_cons_zero, Act.put, List.setIfInBounds_toArray, List.set_cons_zero, List.set_cons_succ]
      refine wpAnyH_ready (rs := [5]) (by kernel_rfl) (by simp) ?_
      refine AllReadyH.cons rfl (fun Kc hKc => ?_) AllReadyH.nil
      simp only [List.getElem_toArray, List.getElem_cons_succ, List.getElem_cons_zero]
      rw [if_pos (by rfl)]
      go_wp2_with fail
      have BM : Below wA.heap.size wA (wA.alloc (.cells (madeCells #[.slice none 0 0] (to' - fr)) 72)) := (Below.refl _ _).alloc (Nat.le_refl _) _
      have OM : (wA.alloc (.cells (madeCells #[.slice none 0 0] (to' - fr)) 72)).ownsRow wA.heap.size 72 1 (.slice (some ⟨wA.heap.size, 0, none⟩) 0 (to' - fr)) 0 [] := World.ownsRow_made wA _ _ (Nat.le_refl _) (by unfold maxLen; omega) (by simp [madeCells])
      generalize hwM : wA.alloc _ = wM at *
      refine hKc.out _ _ trivial (fun hHeld => ?_)
      clear hKc Kc hwM
      refine wpAnyH_ready (rs := [10]) (by kernel_rfl) (by simp) ?_
      refine AllReadyH.cons rfl (fun Kc hKc => ?_) AllReadyH.nil
      simp only [List.getElem_toArray, List.getElem_cons_succ, List.getElem_cons_zero]
      rw [if_pos (by rfl)]
      go_wp2_with fail
      refine (CA wA wM BD BM OM).mono ?_
      rintro e w3 ⟨ua, uc, rfl, ⟨ns, O3, H3⟩, G3, N3⟩
      go_wp2_with fail
      refine hKc.out _ _ trivial (fun hHeld => ?_)
      clear hKc Kc
      have sA : wA.heap.size ≤ wM.heap.size := BM.size
      have BW : Below wA.heap.size wA w3 := BM.grown G3 (by omega) (fun k hk => by simp [Value.ownBlock] at hk; omega)
      have BWr : Below wr.heap.size wr w3 := below_then BD BW
      have hub : ∀ g, (Value.slice ua (0 + (to' - fr)) uc).ownBlock = some g → wA.heap.size ≤ g := fun g e => by
        rcases N3 g e with a | a
        · simp [Value.ownBlock] at a; omega
        · omega
      have hgA2 : gA < wA.heap.size := Nat.lt_of_lt_of_le hgA BD.size
      have NG : Hangs (fun b => gA < b) w3 (fun w => GridV w ua (0 + (to' - fr)) ns (partR R fr to')) := rows_hang O3 H3 hub hgA2 (by show gA < wM.heap.size; omega) (by omega)
      rw [Nat.zero_add] at NG O3 hub
      obtain ⟨f1, f2, f3⟩ := owns_form O3
      replace KK := KK.below BWr
      have fz := KK.frozen i
      obtain ⟨r9, n9, v9, cu, _, _⟩ := KK.at hlt
      have hAi : (C.map fun R => partR R fr to').getD i [] = partR R fr to' := HAI.out
      have KN := KK.step hlt (fun h => Nat.lt_irrefl _ h) f1 f2 f3 (by rw [hAi]; exact NG)
      have BN := Below.setCell (p := ⟨gA, i, none⟩) (BB.trans (BWr.mono BB.size)) (by show w.heap.size ≤ gA; omega) (.slice ua (to' - fr) uc)
      clear H3 G3 N3 NG
      refine wpAnyH_take (i := 11) (v := (.pointer (some ⟨gA, i, none⟩))) rfl (by kernel_rfl) (by kernel_rfl) (by kernel_rfl) (fun _ _ _ h => h) (Or.inl ⟨by rfl, ?_⟩) (by assumption) ?_
      · intro w' hSw
        go_simp
      simp only [List.getElem_toArray, List.getElem_cons_succ, List.getElem_cons_zero, Act.put, List.setIfInBounds_toArray, List.set_cons_zero, List.set_cons_succ]
      refine wpAnyH_ready (rs := [12]) (by kernel_rfl) (by simp) ?_
      refine AllReadyH.cons rfl (fun Kc hKc => ?_) AllReadyH.nil
      simp only [List.getElem_toArray, List.getElem_cons_succ, List.getElem_cons_zero]
      rw [if_pos (by rfl)]
      go_wp2_with fail
      refine hKc.out _ _ trivial (fun hHeld => ?_)
      clear hKc Kc
      refine wpAnyH_done (by kernel_rfl) ?_ _
      go_wp2_with fail
      go_roundg (m - (i + 1))
      case measure => omega
      case rel => exact ⟨i + 1, by omega, rfl, by go_num, KN, BN, by have := BWr.size; simp [World.setCell]; omega⟩
    · obtain rfl : m = i := by omega
      go_wp2
      go_ret
      exact ⟨gA, rfl, KK.cube (by simp [HLN.out]) (by omega) (fun b hb => by have := hg'.out; omega) hgs, BB⟩
end Go.Proofs.Ytpplnjmjldhlbaa

/- Package block: pages, rows of pages. -/
namespace Go.Proofs.Ytpplnjmjldhlbaa
open Go.ChangeShapes Go.WideShapes Go.ChangeAt Go.RowKit
/-- A page, as lists. -/
structure Pg where
  T : List Int
  F : Int
  K : List (List (List Int))
  V : List (List (List Int))
/-- A page, as cells. -/
structure PgV where
  t : Sl
  f : Int
  k : Sl
  v : Sl
def PgV.cells (p : PgV) : Array Value := #[p.t.v, .int .i64 p.f, p.k.v, p.v.v]
structure PgAt (w : World) (p : PgV) (X : Pg) : Prop where
  t : IArg w p.t.ao p.t.n p.t.c X.T
  f : p.f = X.F
  k : CubeAt w p.k.ao p.k.n X.K
  v : CubeAt w p.v.ao p.v.n X.V
theorem PgAt.below {w w' : World} {p : PgV} {X : Pg} (h : PgAt w p X) (hb : Below w.heap.size w w') : PgAt w' p X := ⟨h.t.below hb, h.f, h.k.below hb, h.v.below hb⟩
theorem pg_one (p : PgV) : p.cells.all (·.oneCell') = true := by simp [PgV.cells, Sl.v, Value.oneCell']
theorem pg_size (p : PgV) : p.cells.size = 4 := rfl
theorem pg_len (p : PgV) : p.cells.toList.length = 4 := rfl
theorem Try.infoPg : (Try.prog.info? 47).map (·.size) = some 4 := by kernel_rfl
theorem Try.infoPgr : (Try.prog.info? 47).map (fun i => (i.zero, i.size, i.bytes)) = some (some (.agg #[.slice none 0 0, .int .i64 0, .slice none 0 0, .slice none 0 0]), 4, 80) := by kernel_rfl
theorem load_pg {w : World} {g : Nat} {cs : Array Value} (h : Blk w g 47 cs) (hs : cs.size = 4) : (loadVar 47 ⟨g, 0, none⟩).run Try.prog w = .ok (.agg cs) w :=
  run_loadVar_row w g _ _ cs _ _ h Try.underlying47 rfl (by rw [hs]; exact Try.infoPg)
theorem results_cB {fn : Func} {p : Tmp} {ty : TypeId} (h : fn.results = #[.cell p ty]) (tmps : Array Value) (w : World) (g : Nat) (cs : Array Value)
    (hp : tmps.getD p undef = .pointer (some ⟨g, 0, none⟩)) (hl : (loadVar ty ⟨g, 0, none⟩).run Try.prog w = .ok (.agg cs) w) :
    (results fn tmps).run Try.prog w = .ok (.agg cs) w := by
  have hp' : tmps[p]?.getD undef = .pointer (some ⟨g, 0, none⟩) := by simpa using hp
  simp [results, h, hp', asAddr, hl]
theorem results_cBt {fn : Func} {p q : Tmp} {ty : TypeId} (h : fn.results = #[.cell p ty, .tmp q]) (tmps : Array Value) (w : World) (g : Nat) (cs : Array Value)
    (hp : tmps.getD p undef = .pointer (some ⟨g, 0, none⟩)) (hl : (loadVar ty ⟨g, 0, none⟩).run Try.prog w = .ok (.agg cs) w) :
    (results fn tmps).run Try.prog w = .ok (.tuple #[.agg cs, tmps.getD q undef]) w := by
  have hp' : tmps[p]?.getD undef = .pointer (some ⟨g, 0, none⟩) := by simpa using hp
  simp [results, h, hp', asAddr, hl]
/-- The page of a view from a place up to another one. -/
def pgOf (X : Vw) (fr to' : Nat) : Pg := ⟨X.T.take to', fr, X.K.map fun R => partR R fr to', X.V.map fun R => partR R fr to'⟩
def flatP (l : List PgV) : List Value := l.flatMap fun p => p.cells.toList
theorem flatP_len : ∀ l : List PgV, (flatP l).length = l.length * 4
  | [] => rfl
  | p :: l => by
    have := flatP_len l
    unfold flatP at *
    rw [List.flatMap_cons, List.length_append, this, pg_len, List.length_cons]
    omega
theorem flatP_snoc (l : List PgV) (p : PgV) : flatP (l ++ [p]) = flatP l ++ p.cells.toList := by unfold flatP; simp
theorem flatP_at : ∀ (l : List PgV) (t : Nat) (x : PgV), l[t]? = some x → ∀ (j : Nat) (v : Value), x.cells.toList[j]? = some v → (flatP l)[t * 4 + j]? = some v
  | [], t, x, h, _, _, _ => by simp at h
  | b :: l, t, x, h, j, v, hv => by
    have hj : j < 4 := by have := (List.getElem?_eq_some_iff.1 hv).1; rw [pg_len] at this; exact this
    have hc : flatP (b :: l) = b.cells.toList ++ flatP l := by unfold flatP; rw [List.flatMap_cons]
    cases t with
    | zero =>
      simp at h
      subst h
      rw [hc, Nat.zero_mul, Nat.zero_add, List.getElem?_append_left (by rw [pg_len]; exact hj)]
      exact hv
    | succ t =>
      have ih := flatP_at l t x (by simpa using h) j v hv
      rw [hc, List.getElem?_append_right (by rw [pg_len]; omega), pg_len, show (t + 1) * 4 + j - 4 = t * 4 + j by omega]
      exact ih
/-- A row of pages, as it is handed in. -/
structure PgsAt (w : World) (s : Sl) (l : List Pg) : Prop where
  len : l.length = s.n
  max : s.n ≤ 1000000
  fit : s.n ≤ s.c
  cells : 0 < s.n → ∃ g o, s.ao = some ⟨g, o, none⟩ ∧ ∀ (t : Nat) (X : Pg), l[t]? = some X → ∃ p : PgV, w.rangeAt g (o + t * 4) p.cells.toList ∧ PgAt w p X
theorem pg_range {w w' : World} {b o : Nat} {p : PgV} (h : w.rangeAt b o p.cells.toList) (hb : Below w.heap.size w w') : w'.rangeAt b o p.cells.toList := by
  have c0 := h 0 p.t.v rfl
  have hlt : b < w.heap.size := by simpa using World.block_lt_of_cell? w _ c0
  exact rangeAt_block h (hb.block b hlt)
theorem PgsAt.below {w w' : World} {s : Sl} {l : List Pg} (h : PgsAt w s l) (hb : Below w.heap.size w w') : PgsAt w' s l := by
  refine ⟨h.len, h.max, h.fit, fun hn => ?_⟩
  obtain ⟨g, o, e, hc⟩ := h.cells hn
  exact ⟨g, o, e, fun t X hX => let ⟨p, h1, h2⟩ := hc t X hX; ⟨p, pg_range h1 hb, h2.below hb⟩⟩
/-- A row of pages of the call's own; its pages hang on blocks from s on. -/
def OwnPg (w : World) (B s : Nat) (u : Value) (l : List Pg) : Prop :=
  ∃ pvs : List PgV, w.ownsRow B 47 4 u l.length (flatP pvs) ∧ pvs.length = l.length ∧ ∀ (t : Nat) (X : Pg), l[t]? = some X → ∃ p, pvs[t]? = some p ∧ Hangs (offV s u) w (fun w => PgAt w p X)
theorem ownPg_nil (w : World) (B s : Nat) : OwnPg w B s (.slice none 0 0) [] := ⟨[], World.ownsRow_nil _ _ _ _, rfl, fun t X h => by simp at h⟩
theorem owns4 {w w' : World} {B n : Nat} {u : Value} {xs : List Value} {e : TypeId} {z : Nat} (h : w.ownsRow B e z u n xs) (hb : ∀ b, u.ownBlock = some b → w'.heap[b]? = w.heap[b]?) : w'.ownsRow B e z u n xs := by
  obtain ⟨h1, h2⟩ := h
  refine ⟨h1, ?_⟩
  rcases h2 with h2 | ⟨g, cap, cur, hv, hg, hh, r⟩
  · exact Or.inl h2
  · exact Or.inr ⟨g, cap, cur, hv, hg, by rw [hb g (by rw [hv]; rfl)]; exact hh, r⟩
theorem owns4_lt {w : World} {B n : Nat} {u : Value} {xs : List Value} {e : TypeId} {z : Nat} (h : w.ownsRow B e z u n xs) {b : Nat} (hb : u.ownBlock = some b) : B ≤ b ∧ b < w.heap.size := by
  rcases h.2 with ⟨h1, _⟩ | ⟨g, cap, cur, hv, hg, hh, _⟩
  · rw [h1] at hb; cases hb
  · rw [hv] at hb
    simp only [Value.ownBlock, Option.some.injEq] at hb
    subst hb
    exact ⟨hg, (Array.getElem?_eq_some_iff.1 hh).1⟩
theorem OwnPg.below {w w' : World} {B s : Nat} {u : Value} {l : List Pg} (h : OwnPg w B s u l) (hb : Below w.heap.size w w') : OwnPg w' B s u l := by
  obtain ⟨pvs, O, hl, hp⟩ := h
  exact ⟨pvs, owns4 O (fun b e => hb.block b (owns4_lt O e).2), hl, fun t X hX => let ⟨p, e, H⟩ := hp t X hX; ⟨p, e, H.below hb⟩⟩
theorem OwnPg.lt {w : World} {B s : Nat} {u : Value} {l : List Pg} (h : OwnPg w B s u l) {b : Nat} (hb : u.ownBlock = some b) : B ≤ b ∧ b < w.heap.size := by
  obtain ⟨pvs, O, _⟩ := h
  exact owns4_lt O hb
theorem OwnPg.form {w : World} {B s : Nat} {u : Value} {l : List Pg} (h : OwnPg w B s u l) : ∃ a c, u = .slice a l.length c := by
  obtain ⟨pvs, O, _⟩ := h
  rcases O.2 with ⟨h1, h2⟩ | ⟨g, cap, cur, hv, _⟩
  · exact ⟨none, 0, by rw [h1, h2]⟩
  · exact ⟨_, _, hv⟩
/-- append(l, page). -/
theorem wpList_append_pg {w : World} {ops : Array Oper} {rest : List Oper} {o : Oper} {a : Act} {Q : Exit → Act → World → Prop} (hgd : o.guard = none) (s' x : Operand)
    (ho : o.op = .call { callee := .builtin .append, args := #[s', x], argTypes := #[33, 33] })
    (B s : Nat) (u : Value) (l : List Pg) (n : Nat) (hn : l.length = n) (hs : a.eval s' = u) (hF : OwnPg w B s u l) (bo : Nat) (p : PgV) (X : Pg) (hx : a.eval x = .slice (some ⟨bo, 0, none⟩) 1 1) (hX : Blk w bo 47 p.cells) (hp : Hangs (offV s u) w (fun w => PgAt w p X))
    (hlen : n + 1 ≤ 1000000) (hB : B ≤ w.heap.size)
    (h : ∀ ea ec w', OwnPg w' B s (.slice ea (n + 1) ec) (l ++ [X]) → w.grownBy w' u.ownBlock → (∀ g, (Value.slice ea (n + 1) ec).ownBlock = some g → u.ownBlock = some g ∨ w.heap.size ≤ g) → wpList Try.prog ops Q rest (a.put o.dst (.slice ea (n + 1) ec)) w') : wpList Try.prog ops Q (o :: rest) a w := by
  subst hn
  obtain ⟨i0, hi, hzz⟩ := Option.map_eq_some_iff.1 Try.infoPgr
  simp only [Prod.mk.injEq] at hzz
  obtain ⟨hz0, hz1, hz2⟩ := hzz
  obtain ⟨pvs, O, hl, hq⟩ := hF
  refine wpList_plain hgd fun _ hK => wp_append_own2 w s' x 33 ho B 47 i0 _ 4 80 Try.underlying33 hi hz0 hz1 hz2 rfl (by decide) u l.length (flatP pvs) hs O ⟨bo, 0, none⟩ 1 1 p.cells.toList hx rfl ?_ ?_ (by unfold maxLen; omega) (by omega) hB ?_
  · intro j v hj
    rw [Addr.add_mid, Nat.zero_add]
    exact hX.cell j (by simpa using hj)
  · intro v hv
    exact (Array.all_eq_true_iff_forall_mem.1 (pg_one p)) v (by simpa using hv)
  · intro v' w' O1 G1 _ N1
    have N2 : ∀ g, v'.ownBlock = some g → u.ownBlock = some g ∨ w.heap.size ≤ g := fun g e => by
      rcases N1 g e with b | b
      · exact Or.inl b
      · exact Or.inr (by omega)
    have T := Tn.offV (s := s) G1 N2
    have F : OwnPg w' B s v' (l ++ [X]) := by
      refine ⟨pvs ++ [p], by rw [flatP_snoc, List.length_append, List.length_singleton]; exact O1, by simp [hl], fun t Y hY => ?_⟩
      rcases Nat.lt_or_ge t l.length with h1 | h1
      · rw [List.getElem?_append_left h1] at hY
        obtain ⟨q, e, H⟩ := hq t Y hY
        exact ⟨q, by rw [List.getElem?_append_left (by omega)]; exact e, H.turn T⟩
      · rw [List.getElem?_append_right h1] at hY
        have e0 : t - l.length = 0 := by
          rcases Nat.eq_zero_or_pos (t - l.length) with e | e
          · exact e
          · rw [List.getElem?_eq_none (by simp; omega)] at hY; cases hY
        rw [e0] at hY
        simp at hY
        subst hY
        exact ⟨p, by rw [List.getElem?_append_right (by omega), hl, e0]; rfl, hp.turn T⟩
    obtain ⟨ea, ec, e4⟩ := F.form
    rw [List.length_append, List.length_singleton] at e4
    subst e4
    exact hK _ _ (h ea ec w' F G1 N2)
/-- What a row of pages hangs on. -/
theorem OwnPg.new {w : World} {B s : Nat} {a : Option Addr} {n c : Nat} {l : List Pg} (h : OwnPg w B s (.slice a n c) l) (hn : n ≤ 1000000) (hB : s ≤ B) : New s w (fun w => PgsAt w ⟨a, n, c⟩ l) := by
  obtain ⟨pvs, O, hl, hq⟩ := h
  have hln : l.length = n := by
    obtain ⟨a2, c2, e⟩ := OwnPg.form (⟨pvs, O, hl, hq⟩ : OwnPg w B s (.slice a n c) l)
    simp only [Value.slice.injEq] at e
    exact e.2.1.symm
  intro w2 h2
  have O2 := owns4 O (fun b e => h2 b (Nat.le_trans hB (owns4_lt O e).1) (owns4_lt O e).2)
  have hfit : n ≤ c := by
    rcases O.2 with ⟨q1, q2⟩ | ⟨g, cap, cur, q1, _, _, q4, _⟩
    · omega
    · simp only [Value.slice.injEq] at q1
      obtain ⟨-, -, rfl⟩ := q1
      omega
  refine ⟨hln, hn, hfit, fun hn0 => ?_⟩
  have hn1 : 0 < n := hn0
  rcases O2.2 with ⟨q1, q2⟩ | ⟨g, cap, cur, q1, _⟩
  · omega
  · simp only [Value.slice.injEq] at q1
    obtain ⟨rfl, -, rfl⟩ := q1
    refine ⟨g, 0, rfl, fun t X hX => ?_⟩
    obtain ⟨p, e, H⟩ := hq t X hX
    refine ⟨p, fun j v hv => ?_, H w2 fun b hb hl2 => h2 b hb.1 hl2⟩
    have hc := O2.cells (g := g) rfl (t * 4 + j) v (flatP_at pvs t p e j v hv)
    rw [Addr.add_mid] at hc
    rw [Nat.zero_add] at hc ⊢
    exact hc
end Go.Proofs.Ytpplnjmjldhlbaa

/- Told and Of of layer 11 over any block; the document's Same of blocks that read alike. -/
namespace Go.Proofs.Ytpplnjmjldhlbaa
open Go.ChangeShapes Go.WideShapes Go.ChangeAt Go.RowKit
/-- A block that came in. -/
structure PgR (w : World) (p : PgV) (X : Pg) : Prop where
  t : IArg w p.t.ao p.t.n p.t.c X.T
  f : p.f = X.F
  k : CubeR w p.k.ao p.k.n X.K
  v : CubeR w p.v.ao p.v.n X.V
theorem PgR.below {w w' : World} {p : PgV} {X : Pg} (h : PgR w p X) (hb : Below w.heap.size w w') : PgR w' p X := ⟨h.t.below hb, h.f, h.k.below hb, h.v.below hb⟩
theorem PgAt.raw {w : World} {p : PgV} {X : Pg} (h : PgAt w p X) : PgR w p X := ⟨h.t, h.f, h.k.raw, h.v.raw⟩
def cutPg (X : Pg) : Pg := ⟨X.T.take 140, X.F, cutC X.K 20, cutC X.V 20⟩
theorem cutPg_twice (X : Pg) : cutPg (cutPg X) = cutPg X := by
  unfold cutPg
  simp only [cutC_twice, List.take_take, Nat.min_self]
theorem Try.infoTg : (Try.prog.info? 44).map (·.size) = some 4 := by kernel_rfl
set_option maxRecDepth 100000 in
set_option maxHeartbeats 800000 in
theorem told11_any (vv : PgV) (X : Pg) (w : World) (hv : PgR w vv X) :
   Calls Try.prog 13 #[.agg vv.cells] w fun e w' => ∃ p2 : PgV, e = .returned (.agg p2.cells) ∧ New w.heap.size w' (fun w => PgAt w p2 (cutPg X)) ∧ Below w.heap.size w w' := by
  have hsm := hv.t.row.small
  have hfx : vv.f = X.F := hv.f
  have HT : Hid (∀ wv, Below w.heap.size w wv → IArg wv vv.t.ao vv.t.n vv.t.c X.T) := fun wv hb => hv.t.below hb
  have HK : Hid (∀ wv, Below w.heap.size w wv → CubeR wv vv.k.ao vv.k.n X.K) := fun wv hb => hv.k.below hb
  have HV : Hid (∀ wv, Below w.heap.size w wv → CubeR wv vv.v.ao vv.v.n X.V) := fun wv hb => hv.v.below hb
  clear hv
  obtain ⟨⟨ta, tn, tc⟩, fr, ⟨ka, kn, kc⟩, ⟨va, vn, vc⟩⟩ := vv
  unfold PgV.cells Sl.v
  simp only at *
  obtain ⟨TT, hTT⟩ : ∃ TT, TT = X.T.take 140 := ⟨_, rfl⟩
  obtain ⟨KK, hKK⟩ : ∃ KK, KK = cutC X.K 20 := ⟨_, rfl⟩
  obtain ⟨VV, hVV⟩ : ∃ VV, VV = cutC X.V 20 := ⟨_, rfl⟩
  obtain ⟨kn5, hkn5⟩ : ∃ m, m = min 5 kn := ⟨_, rfl⟩
  obtain ⟨vn5, hvn5⟩ : ∃ m, m = min 5 vn := ⟨_, rfl⟩
  have hsm2 : Hid (∀ k, -9223372036854775808 ≤ el TT k ∧ el TT k ≤ 9223372036854775807) := by
    intro k
    subst hTT
    rcases Nat.lt_or_ge k 140 with h | h
    · rw [el_take h]; exact hsm k
    · rw [el_over (by rw [List.length_take]; omega)]; omega
  have HTT : Hid (TT = X.T.take 140) := hTT
  have HKK : Hid (KK = cutC X.K 20) := hKK
  have HVV : Hid (VV = cutC X.V 20) := hVV
  have HKN : Hid (kn5 = min 5 kn) := hkn5
  have HVN : Hid (vn5 = min 5 vn) := hvn5
  replace hfx : Hid (fr = X.F) := hfx
  clear hTT hKK hVV hkn5 hvn5 hsm
  have X0 := blk_new w 47 #[.slice ta tn tc, .int .i64 fr, .slice ka kn kc, .slice va vn vc]
  have B0 : Below w.heap.size w (w.alloc (.cells #[.slice ta tn tc, .int .i64 fr, .slice ka kn kc, .slice va vn vc] 47)) := (Below.refl _ _).alloc (Nat.le_refl _) _
  generalize hw0 : w.alloc (.cells #[.slice ta tn tc, .int .i64 fr, .slice ka kn kc, .slice va vn vc] 47) = w0 at *
  have lt0 := X0.lt
  have X1 := blk_new w0 44 #[.slice none 0 0, .int .i64 0, .slice none 0 0, .slice none 0 0]
  have B1 : Below w0.heap.size w0 (w0.alloc (.cells #[.slice none 0 0, .int .i64 0, .slice none 0 0, .slice none 0 0] 44)) := (Below.refl _ _).alloc (Nat.le_refl _) _
  generalize hw1 : w0.alloc (.cells #[.slice none 0 0, .int .i64 0, .slice none 0 0, .slice none 0 0] 44) = w1 at *
  replace X0 := X0.below B1
  have D := below_then B0 B1
  clear B0 B1
  have lt1 := X1.lt
  go_enter Try.func13, Try.ntmps13
  go_wp2_with fail
  clear hw0 hw1
  replace X0 := X0.below ((Below.refl _ _).drew)
  replace X1 := X1.below ((Below.refl _ _).drew)
  replace D := D.drew
  replace lt1 : w0.heap.size < w1.drew.heap.size := lt1
  refine wp_region_held_drew (S := fun w' => Blk w' w.heap.size 47 #[.slice ta tn tc, .int .i64 fr, .slice ka kn kc, .slice va vn vc]) (by kernel_rfl) (X0) (fun hHeld => ?_)
  generalize hA : w1.drew = wA at *
  clear hA
  refine wpAnyH_take (i := 0) (v := (.pointer (some ⟨w.heap.size, 0, none⟩))) rfl (by kernel_rfl) (by kernel_rfl) (by kernel_rfl) (fun _ _ _ h => h) (Or.inl ⟨by rfl, ?_⟩) (by assumption) ?_
  · intro w' hSw
    go_simp
  simp only [List.getElem_toArray, List.getElem_cons_zero, Act.put, List.setIfInBounds_toArray, List.set_cons_zero, List.set_cons_succ]
  refine wpAnyH_take (i := 1) (v := (.slice ta tn tc)) rfl (by kernel_rfl) (by kernel_rfl) (by kernel_rfl) (fun _ _ _ h => h) (Or.inl ⟨by rfl, ?_⟩) (by assumption) ?_
  · intro w' hSw
    have cc0 : w'.cell? ⟨w.heap.size, 0, none⟩ = some (.slice ta tn tc) := hSw.cell 0 rfl
    go_simp
  simp only [List.getElem_toArray, List.getElem_cons_succ, List.getElem_cons_zero, Act.put, List.setIfInBounds_toArray, List.set_cons_zero, List.set_cons_succ]
  refine wpAnyH_take (i := 3) (v := (.pointer (some ⟨w.heap.size, 1, none⟩))) rfl (by kernel_rfl) (by kernel_rfl) (by kernel_rfl) (fun _ _ _ h => h) (Or.inl ⟨by rfl, ?_⟩) (by assumption) ?_
  · intro w' hSw
    go_simp
  simp only [List.getElem_toArray, List.getElem_cons_succ, List.getElem_cons_zero, Act.put, List.setIfInBounds_toArray, List.set_cons_zero, List.set_cons_succ]
  refine wpAnyH_take (i := 4) (v := (.int .i64 fr)) rfl (by kernel_rfl) (by kernel_rfl) (by kernel_rfl) (fun _ _ _ h => h) (Or.inl ⟨by rfl, ?_⟩) (by assumption) ?_
  · intro w' hSw
    have cc1 : w'.cell? ⟨w.heap.size, 1, none⟩ = some (.int .i64 fr) := hSw.cell 1 rfl
    go_simp
  simp only [List.getElem_toArray, List.getElem_cons_succ, List.getElem_cons_zero, Act.put, List.setIfInBounds_toArray, List.set_cons_zero, List.set_cons_succ]
  refine wpAnyH_take (i := 5) (v := (.pointer (some ⟨w.heap.size, 2, none⟩))) rfl (by kernel_rfl) (by kernel_rfl) (by kernel_rfl) (fun _ _ _ h => h) (Or.inl ⟨by rfl, ?_⟩) (by assumption) ?_
  · intro w' hSw
    go_simp
  simp only [List.getElem_toArray, List.getElem_cons_succ, List.getElem_cons_zero, Act.put, List.setIfInBounds_toArray, List.set_cons_zero, List.set_cons_succ]
  refine wpAnyH_take (i := 6) (v := (.pointer (some ⟨w.heap.size, 2, none⟩))) rfl (by kernel_rfl) (by kernel_rfl) (by kernel_rfl) (fun _ _ _ h => h) (Or.inl ⟨by rfl, ?_⟩) (by assumption) ?_
  · intro w' hSw
    go_simp
  simp only [List.getElem_toArray, List.getElem_cons_succ, List.getElem_cons_zero, Act.put, List.setIfInBounds_toArray, List.set_cons_zero, List.set_cons_succ]
  refine wpAnyH_take (i := 7) (v := (.slice ka kn kc)) rfl (by kernel_rfl) (by kernel_rfl) (by kernel_rfl) (fun _ _ _ h => h) (Or.inl ⟨by rfl, ?_⟩) (by assumption) ?_
  · intro w' hSw
    have cc2 : w'.cell? ⟨w.heap.size, 2, none⟩ = some (.slice ka kn kc) := hSw.cell 2 rfl
    go_simp
  simp only [List.getElem_toArray, List.getElem_cons_succ, List.getElem_cons_zero, Act.put, List.setIfInBounds_toArray, List.set_cons_zero, List.set_cons_succ]
  refine wpAnyH_take (i := 9) (v := (.pointer (some ⟨w.heap.size, 2, none⟩))) rfl (by kernel_rfl) (by kernel_rfl) (by kernel_rfl) (fun _ _ _ h => h) (Or.inl ⟨by rfl, ?_⟩) (by assumption) ?_
  · intro w' hSw
    go_simp
  simp only [List.getElem_toArray, List.getElem_cons_succ, List.getElem_cons_zero, Act.put, List.setIfInBounds_toArray, List.set_cons_zero, List.set_cons_succ]
  refine wpAnyH_take (i := 10) (v := (.pointer (some ⟨w.heap.size, 3, none⟩))) rfl (by kernel_rfl) (by kernel_rfl) (by kernel_rfl) (fun _ _ _ h => h) (Or.inl ⟨by rfl, ?_⟩) (by assumption) ?_
  · intro w' hSw
    go_simp
  simp only [List.getElem_toArray, List.getElem_cons_succ, List.getElem_cons_zero, Act.put, List.setIfInBounds_toArray, List.set_cons_zero, List.set_cons_succ]
  refine wpAnyH_take (i := 11) (v := (.slice va vn vc)) rfl (by kernel_rfl) (by kernel_rfl) (by kernel_rfl) (fun _ _ _ h => h) (Or.inl ⟨by rfl, ?_⟩) (by assumption) ?_
  · intro w' hSw
    have cc3 : w'.cell? ⟨w.heap.size, 3, none⟩ = some (.slice va vn vc) := hSw.cell 3 rfl
    go_simp
  simp only [List.getElem_toArray, List.getElem_cons_succ, List.getElem_cons_zero, Act.put, List.setIfInBounds_toArray, List.set_cons_zero, List.set_cons_succ]
  refine wpAnyH_ready (rs := [2]) (by kernel_rfl) (by simp) ?_
  refine AllReadyH.cons rfl (fun Kc hKc => ?_) AllReadyH.nil
  simp only [List.getElem_toArray, List.getElem_cons_succ, List.getElem_cons_zero]
  rw [if_pos (by rfl)]
  go_wp2_with fail
  refine (few8_gen ta tn tc X.T TT 140 _ (HT.out _ D) (by omega) HTT.out).mono ?_
  rintro e w2 ⟨tb, tc2, rfl, OT, B2⟩
  have zA2 := B2.size
  have zD2 := D.size
  replace X0 := X0.below B2
  replace X1 := X1.below B2
  replace D := below_then D B2
  go_wp2_with fail
  refine hKc.out _ _ (X0) (fun hHeld => ?_)
  clear hKc Kc
  refine wpAnyH_ready (rs := [8]) (by kernel_rfl) (by simp) ?_
  refine AllReadyH.cons rfl (fun Kc hKc => ?_) AllReadyH.nil
  simp only [List.getElem_toArray, List.getElem_cons_succ, List.getElem_cons_zero]
  rw [if_pos (by rfl)]
  go_wp2_with fail
  refine (lists11_any ka kn kc X.K kn5 KK _ (HK.out _ D) HKN.out HKK.out).mono ?_
  rintro e w3 ⟨kg, kc2, rfl, NK, B3⟩
  replace OT := owns_below OT B3
  have z3 := B3.size
  replace X0 := X0.below B3
  replace X1 := X1.below B3
  replace D := below_then D B3
  go_wp2_with fail
  refine hKc.out _ _ (X0) (fun hHeld => ?_)
  clear hKc Kc
  refine wpAnyH_ready (rs := [12]) (by kernel_rfl) (by simp) ?_
  refine AllReadyH.cons rfl (fun Kc hKc => ?_) AllReadyH.nil
  simp only [List.getElem_toArray, List.getElem_cons_succ, List.getElem_cons_zero]
  rw [if_pos (by rfl)]
  go_wp2_with fail
  refine (lists11_any va vn vc X.V vn5 VV _ (HV.out _ D) HVN.out HVV.out).mono ?_
  rintro e w4 ⟨vg, vc2, rfl, NV, B4⟩
  replace OT := owns_below OT B4
  replace NK := NK.below B4
  replace X0 := X0.below B4
  replace X1 := X1.below B4
  replace D := below_then D B4
  go_wp2_with fail
  refine hKc.out _ _ (X0) (fun hHeld => ?_)
  clear hKc Kc
  refine wpAnyH_take (i := 13) (v := (.agg #[.slice (some ⟨tb, 0, none⟩) TT.length tc2, .int .i64 fr, .slice (some ⟨kg, 0, none⟩) kn5 kc2, .slice (some ⟨vg, 0, none⟩) vn5 vc2])) rfl (by kernel_rfl) (by kernel_rfl) (by kernel_rfl) (fun _ _ _ h => h) (Or.inl ⟨by rfl, ?_⟩) (by assumption) ?_
  · intro w' hSw
    go_simp
  simp only [List.getElem_toArray, List.getElem_cons_succ, List.getElem_cons_zero, Act.put, List.setIfInBounds_toArray, List.set_cons_zero, List.set_cons_succ]
  refine wpAnyH_ready (rs := [14]) (by kernel_rfl) (by simp) ?_
  refine AllReadyH.cons rfl (fun Kc hKc => ?_) AllReadyH.nil
  simp only [List.getElem_toArray, List.getElem_cons_succ, List.getElem_cons_zero]
  rw [if_pos (by rfl)]
  have hall : Array.all (#[.slice (some ⟨tb, 0, none⟩) TT.length tc2, .int .i64 fr, .slice (some ⟨kg, 0, none⟩) kn5 kc2, .slice (some ⟨vg, 0, none⟩) vn5 vc2] : Array Value) (fun v => v.oneCell') = true := by simp [Value.oneCell']
  refine wp_store_row 44 _ _ rfl w0.heap.size #[.slice (some ⟨tb, 0, none⟩) TT.length tc2, .int .i64 fr, .slice (some ⟨kg, 0, none⟩) kn5 kc2, .slice (some ⟨vg, 0, none⟩) vn5 vc2] rfl rfl 44 _ X1 Try.infoTg rfl hall ?_
  refine hKc.out _ _ (Blk.of_block X0 (setRow_other _ _ _ _ (by omega))) (fun hHeld => ?_)
  clear hKc Kc
  refine wpAnyH_done (by kernel_rfl) ?_ _
  clear hHeld
  go_wp2
  refine bodyPost_ret (results_cell_row rfl _ _ w0.heap.size 44 _ _ _ rfl (X1.row _) Try.underlying44 rfl Try.infoTg) rfl ?_
  have so : ∀ (b : Nat) (x : Array Value), b ≠ w0.heap.size → (w4.setRow w0.heap.size x).heap[b]? = w4.heap[b]? := fun b x hb => setRow_other _ _ _ _ hb
  have OT2 := owns_mono OT (Nat.le_refl _) (fun b hb => so b #[.slice (some ⟨tb, 0, none⟩) TT.length tc2, .int .i64 fr, .slice (some ⟨kg, 0, none⟩) kn5 kc2, .slice (some ⟨vg, 0, none⟩) vn5 vc2] (by have := (OT.lt b hb).1; omega))
  have q1 := Hangs.row NK (g := w0.heap.size) (by show ¬ (_ ≤ _); omega) #[.slice (some ⟨tb, 0, none⟩) TT.length tc2, .int .i64 fr, .slice (some ⟨kg, 0, none⟩) kn5 kc2, .slice (some ⟨vg, 0, none⟩) vn5 vc2]
  have q2 := Hangs.row NV (g := w0.heap.size) (by show ¬ (_ ≤ _); omega) #[.slice (some ⟨tb, 0, none⟩) TT.length tc2, .int .i64 fr, .slice (some ⟨kg, 0, none⟩) kn5 kc2, .slice (some ⟨vg, 0, none⟩) vn5 vc2]
  have hsm3 := hsm2.out
  have E1 := HTT.out
  have E2 := HKK.out
  have E3 := HVV.out
  subst E1 E2 E3
  refine ⟨⟨⟨some ⟨tb, 0, none⟩, _, tc2⟩, fr, ⟨some ⟨kg, 0, none⟩, kn5, kc2⟩, ⟨some ⟨vg, 0, none⟩, vn5, vc2⟩⟩, rfl, fun wz hz => ?_, below_setRow D (by omega) _⟩
  obtain ⟨x1, y1, e1, IT⟩ := IOwn.arg (A := X.T.take 140) (owns_mono OT2 (Nat.le_refl _) (fun b hb => hz b (by have := (OT2.lt b hb).1; show _ ≤ _; omega) (OT2.lt b hb).2)) hsm3
  simp only [Value.slice.injEq, true_and] at e1
  obtain ⟨rfl, rfl⟩ := e1
  exact ⟨IT, hfx, q1 wz (fun b hb hl => hz b (by show _ ≤ _; have hb' : _ ≤ b := hb; omega) hl), q2 wz (fun b hb hl => hz b (by show _ ≤ _; have hb' : _ ≤ b := hb; omega) hl)⟩
set_option maxRecDepth 100000 in
set_option maxHeartbeats 800000 in
theorem of11_any (vv : PgV) (X : Pg) (w : World) (hv : PgR w vv X) :
   Calls Try.prog 17 #[.agg vv.cells] w fun e w' => ∃ p2 : PgV, e = .returned (.agg p2.cells) ∧ New w.heap.size w' (fun w => PgAt w p2 (cutPg X)) ∧ Below w.heap.size w w' := by
  have hsm := hv.t.row.small
  have hfx : vv.f = X.F := hv.f
  have HT : Hid (∀ wv, Below w.heap.size w wv → IArg wv vv.t.ao vv.t.n vv.t.c X.T) := fun wv hb => hv.t.below hb
  have HK : Hid (∀ wv, Below w.heap.size w wv → CubeR wv vv.k.ao vv.k.n X.K) := fun wv hb => hv.k.below hb
  have HV : Hid (∀ wv, Below w.heap.size w wv → CubeR wv vv.v.ao vv.v.n X.V) := fun wv hb => hv.v.below hb
  clear hv
  obtain ⟨⟨ta, tn, tc⟩, fr, ⟨ka, kn, kc⟩, ⟨va, vn, vc⟩⟩ := vv
  unfold PgV.cells Sl.v
  simp only at *
  obtain ⟨TT, hTT⟩ : ∃ TT, TT = X.T.take 140 := ⟨_, rfl⟩
  obtain ⟨KK, hKK⟩ : ∃ KK, KK = cutC X.K 20 := ⟨_, rfl⟩
  obtain ⟨VV, hVV⟩ : ∃ VV, VV = cutC X.V 20 := ⟨_, rfl⟩
  obtain ⟨kn5, hkn5⟩ : ∃ m, m = min 5 kn := ⟨_, rfl⟩
  obtain ⟨vn5, hvn5⟩ : ∃ m, m = min 5 vn := ⟨_, rfl⟩
  have hsm2 : Hid (∀ k, -9223372036854775808 ≤ el TT k ∧ el TT k ≤ 9223372036854775807) := by
    intro k
    subst hTT
    rcases Nat.lt_or_ge k 140 with h | h
    · rw [el_take h]; exact hsm k
    · rw [el_over (by rw [List.length_take]; omega)]; omega
  have HTT : Hid (TT = X.T.take 140) := hTT
  have HKK : Hid (KK = cutC X.K 20) := hKK
  have HVV : Hid (VV = cutC X.V 20) := hVV
  have HKN : Hid (kn5 = min 5 kn) := hkn5
  have HVN : Hid (vn5 = min 5 vn) := hvn5
  replace hfx : Hid (fr = X.F) := hfx
  clear hTT hKK hVV hkn5 hvn5 hsm
  have X0 := blk_new w 44 #[.slice ta tn tc, .int .i64 fr, .slice ka kn kc, .slice va vn vc]
  have B0 : Below w.heap.size w (w.alloc (.cells #[.slice ta tn tc, .int .i64 fr, .slice ka kn kc, .slice va vn vc] 44)) := (Below.refl _ _).alloc (Nat.le_refl _) _
  generalize hw0 : w.alloc (.cells #[.slice ta tn tc, .int .i64 fr, .slice ka kn kc, .slice va vn vc] 44) = w0 at *
  have lt0 := X0.lt
  have X1 := blk_new w0 47 #[.slice none 0 0, .int .i64 0, .slice none 0 0, .slice none 0 0]
  have B1 : Below w0.heap.size w0 (w0.alloc (.cells #[.slice none 0 0, .int .i64 0, .slice none 0 0, .slice none 0 0] 47)) := (Below.refl _ _).alloc (Nat.le_refl _) _
  generalize hw1 : w0.alloc (.cells #[.slice none 0 0, .int .i64 0, .slice none 0 0, .slice none 0 0] 47) = w1 at *
  replace X0 := X0.below B1
  have D := below_then B0 B1
  clear B0 B1
  have lt1 := X1.lt
  go_enter Try.func17, Try.ntmps17
  go_wp2_with fail
  clear hw0 hw1
  replace X0 := X0.below ((Below.refl _ _).drew)
  replace X1 := X1.below ((Below.refl _ _).drew)
  replace D := D.drew
  replace lt1 : w0.heap.size < w1.drew.heap.size := lt1
  refine wp_region_held_drew (S := fun w' => Blk w' w.heap.size 44 #[.slice ta tn tc, .int .i64 fr, .slice ka kn kc, .slice va vn vc]) (by kernel_rfl) (X0) (fun hHeld => ?_)
  generalize hA : w1.drew = wA at *
  clear hA
  refine wpAnyH_take (i := 0) (v := (.pointer (some ⟨w.heap.size, 0, none⟩))) rfl (by kernel_rfl) (by kernel_rfl) (by kernel_rfl) (fun _ _ _ h => h) (Or.inl ⟨by rfl, ?_⟩) (by assumption) ?_
  · intro w' hSw
    go_simp
  simp only [List.getElem_toArray, List.getElem_cons_zero, Act.put, List.setIfInBounds_toArray, List.set_cons_zero, List.set_cons_succ]
  refine wpAnyH_take (i := 1) (v := (.slice ta tn tc)) rfl (by kernel_rfl) (by kernel_rfl) (by kernel_rfl) (fun _ _ _ h => h) (Or.inl ⟨by rfl, ?_⟩) (by assumption) ?_
  · intro w' hSw
    have cc0 : w'.cell? ⟨w.heap.size, 0, none⟩ = some (.slice ta tn tc) := hSw.cell 0 rfl
    go_simp
  simp only [List.getElem_toArray, List.getElem_cons_succ, List.getElem_cons_zero, Act.put, List.setIfInBounds_toArray, List.set_cons_zero, List.set_cons_succ]
  refine wpAnyH_take (i := 3) (v := (.pointer (some ⟨w.heap.size, 1, none⟩))) rfl (by kernel_rfl) (by kernel_rfl) (by kernel_rfl) (fun _ _ _ h => h) (Or.inl ⟨by rfl, ?_⟩) (by assumption) ?_
  · intro w' hSw
    go_simp
  simp only [List.getElem_toArray, List.getElem_cons_succ, List.getElem_cons_zero, Act.put, List.setIfInBounds_toArray, List.set_cons_zero, List.set_cons_succ]
  refine wpAnyH_take (i := 4) (v := (.int .i64 fr)) rfl (by kernel_rfl) (by kernel_rfl) (by kernel_rfl) (fun _ _ _ h => h) (Or.inl ⟨by rfl, ?_⟩) (by assumption) ?_
  · intro w' hSw
    have cc1 : w'.cell? ⟨w.heap.size, 1, none⟩ = some (.int .i64 fr) := hSw.cell 1 rfl
    go_simp
  simp only [List.getElem_toArray, List.getElem_cons_succ, List.getElem_cons_zero, Act.put, List.setIfInBounds_toArray, List.set_cons_zero, List.set_cons_succ]
  refine wpAnyH_take (i := 5) (v := (.pointer (some ⟨w.heap.size, 2, none⟩))) rfl (by kernel_rfl) (by kernel_rfl) (by kernel_rfl) (fun _ _ _ h => h) (Or.inl ⟨by rfl, ?_⟩) (by assumption) ?_
  · intro w' hSw
    go_simp
  simp only [List.getElem_toArray, List.getElem_cons_succ, List.getElem_cons_zero, Act.put, List.setIfInBounds_toArray, List.set_cons_zero, List.set_cons_succ]
  refine wpAnyH_take (i := 6) (v := (.slice ka kn kc)) rfl (by kernel_rfl) (by kernel_rfl) (by kernel_rfl) (fun _ _ _ h => h) (Or.inl ⟨by rfl, ?_⟩) (by assumption) ?_
  · intro w' hSw
    have cc2 : w'.cell? ⟨w.heap.size, 2, none⟩ = some (.slice ka kn kc) := hSw.cell 2 rfl
    go_simp
  simp only [List.getElem_toArray, List.getElem_cons_succ, List.getElem_cons_zero, Act.put, List.setIfInBounds_toArray, List.set_cons_zero, List.set_cons_succ]
  refine wpAnyH_take (i := 8) (v := (.pointer (some ⟨w.heap.size, 3, none⟩))) rfl (by kernel_rfl) (by kernel_rfl) (by kernel_rfl) (fun _ _ _ h => h) (Or.inl ⟨by rfl, ?_⟩) (by assumption) ?_
  · intro w' hSw
    go_simp
  simp only [List.getElem_toArray, List.getElem_cons_succ, List.getElem_cons_zero, Act.put, List.setIfInBounds_toArray, List.set_cons_zero, List.set_cons_succ]
  refine wpAnyH_take (i := 9) (v := (.slice va vn vc)) rfl (by kernel_rfl) (by kernel_rfl) (by kernel_rfl) (fun _ _ _ h => h) (Or.inl ⟨by rfl, ?_⟩) (by assumption) ?_
  · intro w' hSw
    have cc3 : w'.cell? ⟨w.heap.size, 3, none⟩ = some (.slice va vn vc) := hSw.cell 3 rfl
    go_simp
  simp only [List.getElem_toArray, List.getElem_cons_succ, List.getElem_cons_zero, Act.put, List.setIfInBounds_toArray, List.set_cons_zero, List.set_cons_succ]
  refine wpAnyH_ready (rs := [2]) (by kernel_rfl) (by simp) ?_
  refine AllReadyH.cons rfl (fun Kc hKc => ?_) AllReadyH.nil
  simp only [List.getElem_toArray, List.getElem_cons_succ, List.getElem_cons_zero]
  rw [if_pos (by rfl)]
  go_wp2_with fail
  refine (few8_gen ta tn tc X.T TT 140 _ (HT.out _ D) (by omega) HTT.out).mono ?_
  rintro e w2 ⟨tb, tc2, rfl, OT, B2⟩
  have zA2 := B2.size
  have zD2 := D.size
  replace X0 := X0.below B2
  replace X1 := X1.below B2
  replace D := below_then D B2
  go_wp2_with fail
  refine hKc.out _ _ (X0) (fun hHeld => ?_)
  clear hKc Kc
  refine wpAnyH_ready (rs := [7]) (by kernel_rfl) (by simp) ?_
  refine AllReadyH.cons rfl (fun Kc hKc => ?_) AllReadyH.nil
  simp only [List.getElem_toArray, List.getElem_cons_succ, List.getElem_cons_zero]
  rw [if_pos (by rfl)]
  go_wp2_with fail
  refine (lists11_any ka kn kc X.K kn5 KK _ (HK.out _ D) HKN.out HKK.out).mono ?_
  rintro e w3 ⟨kg, kc2, rfl, NK, B3⟩
  replace OT := owns_below OT B3
  have z3 := B3.size
  replace X0 := X0.below B3
  replace X1 := X1.below B3
  replace D := below_then D B3
  go_wp2_with fail
  refine hKc.out _ _ (X0) (fun hHeld => ?_)
  clear hKc Kc
  refine wpAnyH_ready (rs := [10]) (by kernel_rfl) (by simp) ?_
  refine AllReadyH.cons rfl (fun Kc hKc => ?_) AllReadyH.nil
  simp only [List.getElem_toArray, List.getElem_cons_succ, List.getElem_cons_zero]
  rw [if_pos (by rfl)]
  go_wp2_with fail
  refine (lists11_any va vn vc X.V vn5 VV _ (HV.out _ D) HVN.out HVV.out).mono ?_
  rintro e w4 ⟨vg, vc2, rfl, NV, B4⟩
  replace OT := owns_below OT B4
  replace NK := NK.below B4
  replace X0 := X0.below B4
  replace X1 := X1.below B4
  replace D := below_then D B4
  go_wp2_with fail
  refine hKc.out _ _ (X0) (fun hHeld => ?_)
  clear hKc Kc
  refine wpAnyH_take (i := 11) (v := (.agg #[.slice (some ⟨kg, 0, none⟩) kn5 kc2, .slice (some ⟨vg, 0, none⟩) vn5 vc2])) rfl (by kernel_rfl) (by kernel_rfl) (by kernel_rfl) (fun _ _ _ h => h) (Or.inl ⟨by rfl, ?_⟩) (by assumption) ?_
  · intro w' hSw
    go_simp
  simp only [List.getElem_toArray, List.getElem_cons_succ, List.getElem_cons_zero, Act.put, List.setIfInBounds_toArray, List.set_cons_zero, List.set_cons_succ]
  refine wpAnyH_take (i := 12) (v := (.agg #[.slice (some ⟨tb, 0, none⟩) TT.length tc2, .int .i64 fr, .slice (some ⟨kg, 0, none⟩) kn5 kc2, .slice (some ⟨vg, 0, none⟩) vn5 vc2])) rfl (by kernel_rfl) (by kernel_rfl) (by kernel_rfl) (fun _ _ _ h => h) (Or.inl ⟨by rfl, ?_⟩) (by assumption) ?_
  · intro w' hSw
    go_simp
  simp only [List.getElem_toArray, List.getElem_cons_succ, List.getElem_cons_zero, Act.put, List.setIfInBounds_toArray, List.set_cons_zero, List.set_cons_succ]
  refine wpAnyH_ready (rs := [13]) (by kernel_rfl) (by simp) ?_
  refine AllReadyH.cons rfl (fun Kc hKc => ?_) AllReadyH.nil
  simp only [List.getElem_toArray, List.getElem_cons_succ, List.getElem_cons_zero]
  rw [if_pos (by rfl)]
  have hall : Array.all (#[.slice (some ⟨tb, 0, none⟩) TT.length tc2, .int .i64 fr, .slice (some ⟨kg, 0, none⟩) kn5 kc2, .slice (some ⟨vg, 0, none⟩) vn5 vc2] : Array Value) (fun v => v.oneCell') = true := by simp [Value.oneCell']
  refine wp_store_row 47 _ _ rfl w0.heap.size #[.slice (some ⟨tb, 0, none⟩) TT.length tc2, .int .i64 fr, .slice (some ⟨kg, 0, none⟩) kn5 kc2, .slice (some ⟨vg, 0, none⟩) vn5 vc2] rfl rfl 47 _ X1 Try.infoPg rfl hall ?_
  refine hKc.out _ _ (Blk.of_block X0 (setRow_other _ _ _ _ (by omega))) (fun hHeld => ?_)
  clear hKc Kc
  refine wpAnyH_done (by kernel_rfl) ?_ _
  clear hHeld
  go_wp2
  refine bodyPost_ret (results_cell_row rfl _ _ w0.heap.size 47 _ _ _ rfl (X1.row _) Try.underlying47 rfl Try.infoPg) rfl ?_
  have so : ∀ (b : Nat) (x : Array Value), b ≠ w0.heap.size → (w4.setRow w0.heap.size x).heap[b]? = w4.heap[b]? := fun b x hb => setRow_other _ _ _ _ hb
  have OT2 := owns_mono OT (Nat.le_refl _) (fun b hb => so b #[.slice (some ⟨tb, 0, none⟩) TT.length tc2, .int .i64 fr, .slice (some ⟨kg, 0, none⟩) kn5 kc2, .slice (some ⟨vg, 0, none⟩) vn5 vc2] (by have := (OT.lt b hb).1; omega))
  have q1 := Hangs.row NK (g := w0.heap.size) (by show ¬ (_ ≤ _); omega) #[.slice (some ⟨tb, 0, none⟩) TT.length tc2, .int .i64 fr, .slice (some ⟨kg, 0, none⟩) kn5 kc2, .slice (some ⟨vg, 0, none⟩) vn5 vc2]
  have q2 := Hangs.row NV (g := w0.heap.size) (by show ¬ (_ ≤ _); omega) #[.slice (some ⟨tb, 0, none⟩) TT.length tc2, .int .i64 fr, .slice (some ⟨kg, 0, none⟩) kn5 kc2, .slice (some ⟨vg, 0, none⟩) vn5 vc2]
  have hsm3 := hsm2.out
  have E1 := HTT.out
  have E2 := HKK.out
  have E3 := HVV.out
  subst E1 E2 E3
  refine ⟨⟨⟨some ⟨tb, 0, none⟩, _, tc2⟩, fr, ⟨some ⟨kg, 0, none⟩, kn5, kc2⟩, ⟨some ⟨vg, 0, none⟩, vn5, vc2⟩⟩, rfl, fun wz hz => ?_, below_setRow D (by omega) _⟩
  obtain ⟨x1, y1, e1, IT⟩ := IOwn.arg (A := X.T.take 140) (owns_mono OT2 (Nat.le_refl _) (fun b hb => hz b (by have := (OT2.lt b hb).1; show _ ≤ _; omega) (OT2.lt b hb).2)) hsm3
  simp only [Value.slice.injEq, true_and] at e1
  obtain ⟨rfl, rfl⟩ := e1
  exact ⟨IT, hfx, q1 wz (fun b hb hl => hz b (by show _ ≤ _; have hb' : _ ≤ b := hb; omega) hl), q2 wz (fun b hb hl => hz b (by show _ ≤ _; have hb' : _ ≤ b := hb; omega) hl)⟩
set_option maxHeartbeats 800000 in
theorem same11_any (p q : PgV) (X : Pg) (w : World) (h1 : PgAt w p X) (h2 : PgAt w q X) :
   Calls Try.prog 12 #[.agg p.cells, .agg q.cells] w fun e w' => e = .returned (.bool true) ∧ Below w.heap.size w w' := by
  obtain ⟨t, f, k, v⟩ := p
  obtain ⟨t', f', k', v'⟩ := q
  have ef : f = X.F := h1.f
  have ef' : f' = X.F := h2.f
  obtain rfl : f = f' := ef.trans ef'.symm
  clear ef ef'
  unfold PgV.cells
  obtain ⟨tn, hn⟩ : ∃ tn, X.T.length = tn := ⟨_, rfl⟩
  obtain ⟨kn, hkn⟩ : ∃ kn, X.K.length = kn := ⟨_, rfl⟩
  obtain ⟨vn, hvn⟩ : ∃ vn, X.V.length = vn := ⟨_, rfl⟩
  have et1 : X.T.length = t.n := h1.t.row.len
  have et2 : X.T.length = t'.n := h2.t.row.len
  have ek1 : X.K.length = k.n := h1.k.len
  have ek2 : X.K.length = k'.n := h2.k.len
  have ev1 : X.V.length = v.n := h1.v.len
  have ev2 : X.V.length = v'.n := h2.v.len
  rw [hn] at et1 et2
  rw [hkn] at ek1 ek2
  rw [hvn] at ev1 ev2
  have T1 : Hid (∀ wv, Below w.heap.size w wv → IArg wv t.ao t.n t.c X.T) := fun wv hb => h1.t.below hb
  have T2 : Hid (∀ wv, Below w.heap.size w wv → IArg wv t'.ao t'.n t'.c X.T) := fun wv hb => h2.t.below hb
  have K1 : Hid (∀ wv, Below w.heap.size w wv → CubeAt wv k.ao k.n X.K) := fun wv hb => h1.k.below hb
  have K2 : Hid (∀ wv, Below w.heap.size w wv → CubeAt wv k'.ao k'.n X.K) := fun wv hb => h2.k.below hb
  have V1 : Hid (∀ wv, Below w.heap.size w wv → CubeAt wv v.ao v.n X.V) := fun wv hb => h1.v.below hb
  have V2 : Hid (∀ wv, Below w.heap.size w wv → CubeAt wv v'.ao v'.n X.V) := fun wv hb => h2.v.below hb
  obtain ⟨ta, t1, tc⟩ := t
  obtain ⟨ta', t1', tc'⟩ := t'
  obtain ⟨ka, k1, kc⟩ := k
  obtain ⟨ka', k1', kc'⟩ := k'
  obtain ⟨va, v1, vc⟩ := v
  obtain ⟨va', v1', vc'⟩ := v'
  unfold Sl.v
  simp only at *
  subst et1 et2 ek1 ek2 ev1 ev2
  clear h1 h2 hn hkn hvn
  have X0 := blk_new w 44 #[.slice ta tn tc, .int .i64 f, .slice ka kn kc, .slice va vn vc]
  have B0 : Below w.heap.size w (w.alloc (.cells #[.slice ta tn tc, .int .i64 f, .slice ka kn kc, .slice va vn vc] 44)) := (Below.refl _ _).alloc (Nat.le_refl _) _
  generalize hw0 : w.alloc (.cells #[.slice ta tn tc, .int .i64 f, .slice ka kn kc, .slice va vn vc] 44) = w0 at *
  have X1 := blk_new w0 44 #[.slice ta' tn tc', .int .i64 f, .slice ka' kn kc', .slice va' vn vc']
  have B1 : Below w0.heap.size w0 (w0.alloc (.cells #[.slice ta' tn tc', .int .i64 f, .slice ka' kn kc', .slice va' vn vc'] 44)) := (Below.refl _ _).alloc (Nat.le_refl _) _
  generalize hw1 : w0.alloc (.cells #[.slice ta' tn tc', .int .i64 f, .slice ka' kn kc', .slice va' vn vc'] 44) = w1 at *
  replace X0 := X0.below B1
  have D1 := below_then B0 B1
  clear B0 B1
  have a0 : w1.cell? ⟨w.heap.size, 0, none⟩ = some (.slice ta tn tc) := X0.cell 0 rfl
  have a1 : w1.cell? ⟨w.heap.size, 1, none⟩ = some (.int .i64 f) := X0.cell 1 rfl
  have a2 : w1.cell? ⟨w.heap.size, 2, none⟩ = some (.slice ka kn kc) := X0.cell 2 rfl
  have a3 : w1.cell? ⟨w.heap.size, 3, none⟩ = some (.slice va vn vc) := X0.cell 3 rfl
  have b0 : w1.cell? ⟨w0.heap.size, 0, none⟩ = some ((.slice ta' tn tc')) := X1.cell 0 rfl
  have b1 : w1.cell? ⟨w0.heap.size, 1, none⟩ = some (.int .i64 f) := X1.cell 1 rfl
  have b2 : w1.cell? ⟨w0.heap.size, 2, none⟩ = some ((.slice ka' kn kc')) := X1.cell 2 rfl
  have b3 : w1.cell? ⟨w0.heap.size, 3, none⟩ = some ((.slice va' vn vc')) := X1.cell 3 rfl
  have hn := (T1.out w (Below.refl _ _)).row.max
  go_enter Try.func12, Try.ntmps12
  go_wp2_with fail
  refine (cubeSame_eq ka ka' kn kc kc' X.K _ (K1.out _ D1) (K2.out _ D1)).mono ?_
  rintro e w2 ⟨rfl, m2, hm2⟩
  have B2 : Below w1.heap.size w1 w2 := by rw [hm2]; exact below_drewN (Below.refl _ _) m2
  clear hm2 a0 a1 a2 a3 b0 b1 b2 b3 hw0 hw1
  replace X0 := X0.below B2
  replace X1 := X1.below B2
  have D2 := below_then D1 B2
  have a0 : w2.cell? ⟨w.heap.size, 0, none⟩ = some (.slice ta tn tc) := X0.cell 0 rfl
  have a1 : w2.cell? ⟨w.heap.size, 1, none⟩ = some (.int .i64 f) := X0.cell 1 rfl
  have a2 : w2.cell? ⟨w.heap.size, 2, none⟩ = some (.slice ka kn kc) := X0.cell 2 rfl
  have a3 : w2.cell? ⟨w.heap.size, 3, none⟩ = some (.slice va vn vc) := X0.cell 3 rfl
  have b0 : w2.cell? ⟨w0.heap.size, 0, none⟩ = some ((.slice ta' tn tc')) := X1.cell 0 rfl
  have b1 : w2.cell? ⟨w0.heap.size, 1, none⟩ = some (.int .i64 f) := X1.cell 1 rfl
  have b2 : w2.cell? ⟨w0.heap.size, 2, none⟩ = some ((.slice ka' kn kc')) := X1.cell 2 rfl
  have b3 : w2.cell? ⟨w0.heap.size, 3, none⟩ = some ((.slice va' vn vc')) := X1.cell 3 rfl
  go_wp2_with fail
  refine (cubeSame_eq va va' vn vc vc' X.V _ (V1.out _ D2) (V2.out _ D2)).mono ?_
  rintro e w3 ⟨rfl, m3, hm3⟩
  have B3 : Below w2.heap.size w2 w3 := by rw [hm3]; exact below_drewN (Below.refl _ _) m3
  clear hm3 a0 a1 a2 a3 b0 b1 b2 b3 D1
  replace X0 := X0.below B3
  replace X1 := X1.below B3
  have D3 := below_then D2 B3
  have a0 : w3.cell? ⟨w.heap.size, 0, none⟩ = some (.slice ta tn tc) := X0.cell 0 rfl
  have a1 : w3.cell? ⟨w.heap.size, 1, none⟩ = some (.int .i64 f) := X0.cell 1 rfl
  have a2 : w3.cell? ⟨w.heap.size, 2, none⟩ = some (.slice ka kn kc) := X0.cell 2 rfl
  have a3 : w3.cell? ⟨w.heap.size, 3, none⟩ = some (.slice va vn vc) := X0.cell 3 rfl
  have b0 : w3.cell? ⟨w0.heap.size, 0, none⟩ = some ((.slice ta' tn tc')) := X1.cell 0 rfl
  have b1 : w3.cell? ⟨w0.heap.size, 1, none⟩ = some (.int .i64 f) := X1.cell 1 rfl
  have b2 : w3.cell? ⟨w0.heap.size, 2, none⟩ = some ((.slice ka' kn kc')) := X1.cell 2 rfl
  have b3 : w3.cell? ⟨w0.heap.size, 3, none⟩ = some ((.slice va' vn vc')) := X1.cell 3 rfl
  go_wp2_with fail
  clear a0 a1 a2 a3 b0 b1 b2 b3
  go_loopg [39] tn (fun r i wr => ∃ j : Nat, j ≤ tn ∧ r = tn - j ∧ i = .int .i64 j ∧ Blk wr w.heap.size 44 #[.slice ta tn tc, .int .i64 f, .slice ka kn kc, .slice va vn vc] ∧ Blk wr w0.heap.size 44 #[.slice ta' tn tc', .int .i64 f, .slice ka' kn kc', .slice va' vn vc'] ∧ Below w.heap.size w wr)
  case atStart => exact ⟨0, by omega, by omega, rfl, X0, X1, D3⟩
  case round =>
    clear X0 X1 D3 B3 B2 D2
    obtain ⟨j, hj, rfl, rfl, X0, X1, DR⟩ := hrel
    by_cases hjt : j < tn
    · obtain ⟨d, p, rfl, hd⟩ := (T1.out _ DR).row.cells (by omega)
      obtain ⟨d', p', rfl, hd'⟩ := (T2.out _ DR).row.cells (by omega)
      have c1 := hd j hjt
      have c2 := hd' j hjt
      clear hd hd'
      have a0 : wr.cell? ⟨w.heap.size, 0, none⟩ = some (.slice (some ⟨d, p, none⟩) tn tc) := X0.cell 0 rfl
      have b0 : wr.cell? ⟨w0.heap.size, 0, none⟩ = some (.slice (some ⟨d', p', none⟩) tn tc') := X1.cell 0 rfl
      go_wp2_with fail
      go_quiet (fail)
      go_wp2
      go_roundg (tn - (j + 1))
      case measure => omega
      case rel => exact ⟨j + 1, by omega, rfl, by go_num, X0.below (below_drewN (Below.refl _ _) nq), X1.below (below_drewN (Below.refl _ _) nq), below_drewN DR nq⟩
    · obtain rfl : j = tn := by omega
      go_wp2
      go_ret
      exact ⟨rfl, DR⟩
end Go.Proofs.Ytpplnjmjldhlbaa

/- Rows of the document's blocks, of the call's own, that grow. -/
namespace Go.Proofs.Ytpplnjmjldhlbaa
open Go.ChangeShapes Go.WideShapes Go.ChangeAt Go.RowKit
theorem Try.infoTgr : (Try.prog.info? 44).map (fun i => (i.zero, i.size, i.bytes)) = some (some (.agg #[.slice none 0 0, .int .i64 0, .slice none 0 0, .slice none 0 0]), 4, 80) := by kernel_rfl
/-- The blocks ahead of y and from s on, but not a value's own. -/
def offW (y s : Nat) (u : Value) (b : Nat) : Prop := (b < y ∨ s ≤ b) ∧ u.ownBlock ≠ some b
theorem Tn.offW {y s : Nat} {u u' : Value} {w w' : World} (hG : w.grownBy w' u.ownBlock) (hN : ∀ g, u'.ownBlock = some g → u.ownBlock = some g ∨ w.heap.size ≤ g) : Tn (offW y s u) (offW y s u') w w' :=
  ⟨hG.size, fun b hb hp => ⟨⟨hp.1, fun e => by rcases hN b e with a | a; exact hp.2 a; omega⟩, hG.block b hb (fun e => hp.2 e.symm)⟩⟩
/-- A row of pages of the call's own; its pages hang on blocks from s on. -/
def OwnTg (w : World) (B y s : Nat) (u : Value) (l : List Pg) : Prop :=
  ∃ pvs : List PgV, w.ownsRow B 44 4 u l.length (flatP pvs) ∧ pvs.length = l.length ∧ ∀ (t : Nat) (X : Pg), l[t]? = some X → ∃ p, pvs[t]? = some p ∧ Hangs (offW y s u) w (fun w => PgAt w p X)
theorem ownTg_nil (w : World) (B y s : Nat) : OwnTg w B y s (.slice none 0 0) [] := ⟨[], World.ownsRow_nil _ _ _ _, rfl, fun t X h => by simp at h⟩
theorem OwnTg.below {w w' : World} {B y s : Nat} {u : Value} {l : List Pg} (h : OwnTg w B y s u l) (hb : Below w.heap.size w w') : OwnTg w' B y s u l := by
  obtain ⟨pvs, O, hl, hp⟩ := h
  exact ⟨pvs, owns4 O (fun b e => hb.block b (owns4_lt O e).2), hl, fun t X hX => let ⟨p, e, H⟩ := hp t X hX; ⟨p, e, H.below hb⟩⟩
theorem OwnTg.lt {w : World} {B y s : Nat} {u : Value} {l : List Pg} (h : OwnTg w B y s u l) {b : Nat} (hb : u.ownBlock = some b) : B ≤ b ∧ b < w.heap.size := by
  obtain ⟨pvs, O, _⟩ := h
  exact owns4_lt O hb
theorem OwnTg.form {w : World} {B y s : Nat} {u : Value} {l : List Pg} (h : OwnTg w B y s u l) : ∃ a c, u = .slice a l.length c := by
  obtain ⟨pvs, O, _⟩ := h
  rcases O.2 with ⟨h1, h2⟩ | ⟨g, cap, cur, hv, _⟩
  · exact ⟨none, 0, by rw [h1, h2]⟩
  · exact ⟨_, _, hv⟩
/-- append(l, page), as one operation. -/
theorem wp_append_tg {w : World} {o : Oper} {a : Act} {K : Act → World → Prop} {Q : Exit → Act → World → Prop} (s' x : Operand)
    (ho : o.op = .call { callee := .builtin .append, args := #[s', x], argTypes := #[40, 40] })
    (B y s : Nat) (u : Value) (l : List Pg) (n : Nat) (hn : l.length = n) (hs : a.eval s' = u) (hF : OwnTg w B y s u l) (bo : Nat) (p : PgV) (X : Pg) (hx : a.eval x = .slice (some ⟨bo, 0, none⟩) 1 1) (hX : Blk w bo 44 p.cells) (hp : Hangs (offW y s u) w (fun w => PgAt w p X))
    (hlen : n + 1 ≤ 1000000) (hB : B ≤ w.heap.size)
    (h : ∀ ea ec w', OwnTg w' B y s (.slice ea (n + 1) ec) (l ++ [X]) → w.grownBy w' u.ownBlock → (∀ g, (Value.slice ea (n + 1) ec).ownBlock = some g → u.ownBlock = some g ∨ w.heap.size ≤ g) → K (a.put o.dst (.slice ea (n + 1) ec)) w') : o.wp Try.prog a w K Q := by
  subst hn
  obtain ⟨i0, hi, hzz⟩ := Option.map_eq_some_iff.1 Try.infoTgr
  simp only [Prod.mk.injEq] at hzz
  obtain ⟨hz0, hz1, hz2⟩ := hzz
  obtain ⟨pvs, O, hl, hq⟩ := hF
  refine wp_append_own2 w s' x 40 ho B 44 i0 _ 4 80 Try.underlying40 hi hz0 hz1 hz2 rfl (by decide) u l.length (flatP pvs) hs O ⟨bo, 0, none⟩ 1 1 p.cells.toList hx rfl ?_ ?_ (by unfold maxLen; omega) (by omega) hB ?_
  · intro j v hj
    rw [Addr.add_mid, Nat.zero_add]
    exact hX.cell j (by simpa using hj)
  · intro v hv
    exact (Array.all_eq_true_iff_forall_mem.1 (pg_one p)) v (by simpa using hv)
  · intro v' w' O1 G1 _ N1
    have N2 : ∀ g, v'.ownBlock = some g → u.ownBlock = some g ∨ w.heap.size ≤ g := fun g e => by
      rcases N1 g e with b | b
      · exact Or.inl b
      · exact Or.inr (by omega)
    have T := Tn.offW (y := y) (s := s) G1 N2
    have F : OwnTg w' B y s v' (l ++ [X]) := by
      refine ⟨pvs ++ [p], by rw [flatP_snoc, List.length_append, List.length_singleton]; exact O1, by simp [hl], fun t Y hY => ?_⟩
      rcases Nat.lt_or_ge t l.length with h1 | h1
      · rw [List.getElem?_append_left h1] at hY
        obtain ⟨q, e, H⟩ := hq t Y hY
        exact ⟨q, by rw [List.getElem?_append_left (by omega)]; exact e, H.turn T⟩
      · rw [List.getElem?_append_right h1] at hY
        have e0 : t - l.length = 0 := by
          rcases Nat.eq_zero_or_pos (t - l.length) with e | e
          · exact e
          · rw [List.getElem?_eq_none (by simp; omega)] at hY; cases hY
        rw [e0] at hY
        simp at hY
        subst hY
        exact ⟨p, by rw [List.getElem?_append_right (by omega), hl, e0]; rfl, hp.turn T⟩
    obtain ⟨ea, ec, e4⟩ := F.form
    rw [List.length_append, List.length_singleton] at e4
    subst e4
    exact h ea ec w' F G1 N2
/-- append(l, page). -/
theorem wpList_append_tg {w : World} {ops : Array Oper} {rest : List Oper} {o : Oper} {a : Act} {Q : Exit → Act → World → Prop} (hgd : o.guard = none) (s' x : Operand)
    (ho : o.op = .call { callee := .builtin .append, args := #[s', x], argTypes := #[40, 40] })
    (B y s : Nat) (u : Value) (l : List Pg) (n : Nat) (hn : l.length = n) (hs : a.eval s' = u) (hF : OwnTg w B y s u l) (bo : Nat) (p : PgV) (X : Pg) (hx : a.eval x = .slice (some ⟨bo, 0, none⟩) 1 1) (hX : Blk w bo 44 p.cells) (hp : Hangs (offW y s u) w (fun w => PgAt w p X))
    (hlen : n + 1 ≤ 1000000) (hB : B ≤ w.heap.size)
    (h : ∀ ea ec w', OwnTg w' B y s (.slice ea (n + 1) ec) (l ++ [X]) → w.grownBy w' u.ownBlock → (∀ g, (Value.slice ea (n + 1) ec).ownBlock = some g → u.ownBlock = some g ∨ w.heap.size ≤ g) → wpList Try.prog ops Q rest (a.put o.dst (.slice ea (n + 1) ec)) w') : wpList Try.prog ops Q (o :: rest) a w :=
  wpList_plain hgd fun _ hK => wp_append_tg s' x ho B y s u l n hn hs hF bo p X hx hX hp hlen hB (fun ea ec w' h1 h2 h3 => hK _ _ (h ea ec w' h1 h2 h3))
/-- What a row of pages hangs on. -/
theorem OwnTg.new {w : World} {B y s : Nat} {a : Option Addr} {n c : Nat} {l : List Pg} (h : OwnTg w B y s (.slice a n c) l) (hn : n ≤ 1000000) (hB : s ≤ B) : Hangs (fun b => b < y ∨ s ≤ b) w (fun w => PgsAt w ⟨a, n, c⟩ l) := by
  obtain ⟨pvs, O, hl, hq⟩ := h
  have hln : l.length = n := by
    obtain ⟨a2, c2, e⟩ := OwnTg.form (⟨pvs, O, hl, hq⟩ : OwnTg w B y s (.slice a n c) l)
    simp only [Value.slice.injEq] at e
    exact e.2.1.symm
  intro w2 h2
  have O2 := owns4 O (fun b e => h2 b (Or.inr (Nat.le_trans hB (owns4_lt O e).1)) (owns4_lt O e).2)
  have hfit : n ≤ c := by
    rcases O.2 with ⟨q1, q2⟩ | ⟨g, cap, cur, q1, _, _, q4, _⟩
    · omega
    · simp only [Value.slice.injEq] at q1
      obtain ⟨-, -, rfl⟩ := q1
      omega
  refine ⟨hln, hn, hfit, fun hn0 => ?_⟩
  have hn1 : 0 < n := hn0
  rcases O2.2 with ⟨q1, q2⟩ | ⟨g, cap, cur, q1, _⟩
  · omega
  · simp only [Value.slice.injEq] at q1
    obtain ⟨rfl, -, rfl⟩ := q1
    refine ⟨g, 0, rfl, fun t X hX => ?_⟩
    obtain ⟨p, e, H⟩ := hq t X hX
    refine ⟨p, fun j v hv => ?_, H w2 fun b hb hl2 => h2 b hb.1 hl2⟩
    have hc := O2.cells (g := g) rfl (t * 4 + j) v (flatP_at pvs t p e j v hv)
    rw [Addr.add_mid] at hc
    rw [Nat.zero_add] at hc ⊢
    exact hc
end Go.Proofs.Ytpplnjmjldhlbaa

/- Package step: the first rows of lists. -/
namespace Go.Proofs.Ytpplnjmjldhlbaa
open Go.ChangeShapes Go.WideShapes Go.ChangeAt Go.RowKit
theorem rowOf_take9 {R : List (List Int)} {m t : Nat} (h : t < m) : rowOf (R.take m) t = rowOf R t := by
  unfold rowOf
  rw [List.getD_eq_getElem?_getD, List.getD_eq_getElem?_getD, List.getElem?_take_of_lt h]
theorem GridAt.take {w : World} {ao : Option Addr} {n : Nat} {R : List (List Int)} (h : GridAt w ao n R) {m : Nat} (hm : m ≤ n) : GridAt w ao m (R.take m) := by
  have hl := h.len
  have hx := h.max
  refine ⟨by rw [List.length_take]; omega, by omega, fun h0 => ?_⟩
  obtain ⟨b, o, e, hc⟩ := h.cells (by omega)
  refine ⟨b, o, e, fun t ht => ?_⟩
  rw [rowOf_take9 ht]
  exact hc t (by omega)
theorem Lists.cube {w : World} {g m : Nat} {C : List (List (List Int))} (h : Lists w g m m C) (hl : C.length = m) (hm : m ≤ 4096) {B : Nat} (hB : B ≤ g) : New B w (fun w => CubeAt w (some ⟨g, 0, none⟩) m C) := by
  have hlt := h.lt
  obtain ⟨cs, h1, hsz, h3⟩ := h.row
  intro w2 h2
  have hg := (h2 g hB hlt).trans h1
  refine ⟨hl, by omega, fun _ => ⟨g, 0, rfl, fun t R hR => ?_⟩⟩
  have htm : t < m := by rw [← hl]; exact (List.getElem?_eq_some_iff.1 hR).1
  obtain ⟨ro, n, vs, e, h4, N⟩ := h3 t R htm hR
  have GV := N w2 fun b hb hb2 => h2 b (Nat.le_trans (by omega) hb) hb2
  refine ⟨ro, n, n, ?_, h4, Nat.le_refl _, GV.max, GV.grid⟩
  rw [Nat.zero_add]
  unfold World.cell?
  simp only [hg]
  exact e
/-- The view of the first n tokens. -/
def cutV (X : Vw) (n : Nat) : Vw := ⟨X.T.take n, X.K.map (List.take n), X.V.map (List.take n)⟩
end Go.Proofs.Ytpplnjmjldhlbaa

/- The document's Cut of a view that was told. -/
namespace Go.Proofs.Ytpplnjmjldhlbaa
open Go.ChangeShapes Go.WideShapes Go.ChangeAt Go.RowKit
/-- append of one list of rows onto a row of lists of the call's own, by its value. -/
theorem wpList_append_l9 {w : World} {ops : Array Oper} {rest : List Oper} {o : Oper} {a : Act} {Q : Exit → Act → World → Prop} (hgd : o.guard = none) (s x : Operand)
    (ho : o.op = .call { callee := .builtin .append, args := #[s, x], argTypes := #[25, 25] })
    (B g k cap : Nat) (vs : List Value) (hs : a.eval s = .slice (some ⟨g, 0, none⟩) k cap) (O : w.ownsRow B 73 1 (.slice (some ⟨g, 0, none⟩) k cap) k vs)
    (bo : Nat) (u : Value) (hx : a.eval x = .slice (some ⟨bo, 0, none⟩) 1 1) (hX : w.cell? ⟨bo, 0, none⟩ = some u) (hu : u.oneCell' = true)
    (hlen : k + 1 ≤ 1048576) (hB : B ≤ w.heap.size)
    (h : ∀ g' cap' w', w'.ownsRow B 73 1 (.slice (some ⟨g', 0, none⟩) (k + 1) cap') (k + 1) (vs ++ [u]) → w.grownBy w' (some g) → (g' = g ∨ w.heap.size ≤ g') → wpList Try.prog ops Q rest (a.put o.dst (.slice (some ⟨g', 0, none⟩) (k + 1) cap')) w') : wpList Try.prog ops Q (o :: rest) a w := by
  obtain ⟨i0, hi, hz0, hz1, hz2⟩ := info_parts Try.infoList
  refine wpList_plain hgd fun _ hK => wp_append_own2 w s x 25 ho B 73 i0 (.slice none 0 0) 1 24 Try.underlying25 hi hz0 hz1 hz2 rfl (by decide) _ k _ hs O ⟨bo, 0, none⟩ 1 1 [u] hx rfl ?_ (by intro v hv; simp at hv; subst hv; exact hu) (by unfold maxLen; omega) (by omega) hB ?_
  · intro j v hj
    match j, hj with
    | 0, hj =>
      simp at hj
      subst hj
      have e2 : (Addr.mk bo 0 none).add 0 = ⟨bo, 0, none⟩ := by simp [Addr.add]
      rw [e2, hX]
  · intro v' w' O1 G1 _ N1
    have O2 := O1
    rcases O2.2 with ⟨h2, h3⟩ | ⟨g', cap', cur, h3, h4⟩
    · exact absurd h3 (by omega)
    · subst h3
      refine hK _ _ (h g' cap' w' O1 G1 ?_)
      rcases N1 g' rfl with b | b
      · left; simp [Value.ownBlock] at b; exact b.symm
      · right; omega
/-- append of one row onto a row of rows of the call's own, by its value. -/
theorem wpList_append_r9 {w : World} {ops : Array Oper} {rest : List Oper} {o : Oper} {a : Act} {Q : Exit → Act → World → Prop} (hgd : o.guard = none) (s x : Operand)
    (ho : o.op = .call { callee := .builtin .append, args := #[s, x], argTypes := #[73, 73] })
    (B g k cap : Nat) (vs : List Value) (hs : a.eval s = .slice (some ⟨g, 0, none⟩) k cap) (O : w.ownsRow B 72 1 (.slice (some ⟨g, 0, none⟩) k cap) k vs)
    (bo : Nat) (u : Value) (hx : a.eval x = .slice (some ⟨bo, 0, none⟩) 1 1) (hX : w.cell? ⟨bo, 0, none⟩ = some u) (hu : u.oneCell' = true)
    (hlen : k + 1 ≤ 1048576) (hB : B ≤ w.heap.size)
    (h : ∀ g' cap' w', w'.ownsRow B 72 1 (.slice (some ⟨g', 0, none⟩) (k + 1) cap') (k + 1) (vs ++ [u]) → Below B w w' → wpList Try.prog ops Q rest (a.put o.dst (.slice (some ⟨g', 0, none⟩) (k + 1) cap')) w') : wpList Try.prog ops Q (o :: rest) a w := by
  obtain ⟨i0, hi, hz0, hz1, hz2⟩ := info_parts Try.infoRow
  refine wpList_append_own w hgd s x 73 ho B 72 i0 (.slice none 0 0) 1 24 Try.underlying73 hi hz0 hz1 hz2 rfl (by decide) _ k _ hs O ⟨bo, 0, none⟩ 1 1 [u] hx rfl ?_ (by intro v hv; simp at hv; subst hv; exact hu) (by unfold maxLen; omega) (by omega) hB ?_
  · intro j v hj
    match j, hj with
    | 0, hj =>
      simp at hj
      subst hj
      have e2 : (Addr.mk bo 0 none).add 0 = ⟨bo, 0, none⟩ := by simp [Addr.add]
      rw [e2, hX]
  · intro v' w' O1 G1 N1
    have hb : Below B w w' := (Below.refl _ _).grown G1 hB (fun k hk => by simp [Value.ownBlock] at hk; subst hk; exact (O.lt _ rfl).1)
    have O2 := O1
    rcases O2.2 with ⟨h2, h3⟩ | ⟨g', cap', cur, h3, h4⟩
    · exact absurd h3 (by omega)
    · subst h3
      exact h g' cap' w' O1 hb
/-- The values of a row of rows. -/
theorem GridAt.vals9 {w : World} {ao : Option Addr} {n : Nat} {R : List (List Int)} (h : GridAt w ao n R) : ∃ vs : List Value, vs.length = n ∧ (∀ u ∈ vs, u.oneCell' = true) ∧ RowsAt w vs R ∧ ∀ t, t < n → ∃ b o, ao = some ⟨b, o, none⟩ ∧ ∃ u, vs[t]? = some u ∧ w.cell? ⟨b, o + t, none⟩ = some u := by
  rcases Nat.eq_zero_or_pos n with h0 | h0
  · subst h0
    obtain rfl : R = [] := List.length_eq_zero_iff.1 h.len
    exact ⟨[], rfl, (fun u hu => by cases hu), ⟨rfl, fun t ht => by simp at ht⟩, fun t ht => by omega⟩
  · obtain ⟨b, o, e, hc⟩ := h.cells h0
    have each : ∀ t, t < n → ∃ z : Option Addr × Nat × Nat, w.cell? ⟨b, o + t, none⟩ = some (.slice z.1 z.2.1 z.2.2) ∧ Arg w z.1 z.2.1 z.2.2 (rowOf R t) := fun t ht => by
      obtain ⟨ro, m, c, h1, h2⟩ := hc t ht
      exact ⟨(ro, m, c), h1, h2⟩
    have pick : ∃ f : Nat → Option Addr × Nat × Nat, ∀ t, t < n → w.cell? ⟨b, o + t, none⟩ = some (.slice (f t).1 (f t).2.1 (f t).2.2) ∧ Arg w (f t).1 (f t).2.1 (f t).2.2 (rowOf R t) := by
      classical
      refine ⟨fun t => if ht : t < n then Classical.choose (each t ht) else (none, 0, 0), fun t ht => ?_⟩
      simp only [dif_pos ht]
      exact Classical.choose_spec (each t ht)
    obtain ⟨f, hf⟩ := pick
    have at_ : ∀ t, t < n → ((List.range n).map fun t => Value.slice (f t).1 (f t).2.1 (f t).2.2)[t]? = some (.slice (f t).1 (f t).2.1 (f t).2.2) := fun t ht => by simp [ht]
    refine ⟨(List.range n).map fun t => .slice (f t).1 (f t).2.1 (f t).2.2, by simp, fun u hu => ?_, ⟨by simp [h.len], fun t ht => ?_⟩, fun t ht => ⟨b, o, e, _, at_ t ht, (hf t ht).1⟩⟩
    · obtain ⟨t, _, rfl⟩ := List.mem_map.1 hu
      rfl
    · rw [h.len] at ht
      exact ⟨_, _, _, at_ t ht, (hf t ht).2⟩
theorem Arg.same9 {w w' : World} {ro : Option Addr} {m c : Nat} {A : List Int} (h : Arg w ro m c A) (hb : ∀ b, b < w.heap.size → w'.heap[b]? = w.heap[b]?) : Arg w' ro m c A := by
  refine ⟨⟨h.row.len, h.row.max, h.row.small, fun hn => ?_⟩, h.fit, h.max, h.nil, h.cold_of hb⟩
  obtain ⟨b, o, e, hc⟩ := h.row.cells hn
  refine ⟨b, o, e, fun t ht => ?_⟩
  have h1 := hc t ht
  rw [World.cell?_of_block (w := w) (hb b (by simpa using World.block_lt_of_cell? w _ h1))]
  exact h1
theorem RowsAt.below9 {w w' : World} {vs : List Value} {R : List (List Int)} (h : RowsAt w vs R) (hb : Below w.heap.size w w') : RowsAt w' vs R :=
  ⟨h.len, fun t ht => let ⟨ro, m, c, e, A⟩ := h.rows t ht; ⟨ro, m, c, e, A.below hb⟩⟩
theorem RowsAt.take9 {w : World} {vs : List Value} {R : List (List Int)} (h : RowsAt w vs R) (n : Nat) : RowsAt w (vs.take n) (R.take n) :=
  ⟨by rw [List.length_take, List.length_take, h.len], fun t ht => by
    rw [List.length_take] at ht
    obtain ⟨ro, m, c, e, A⟩ := h.rows t (by omega)
    exact ⟨ro, m, c, by rw [List.getElem?_take_of_lt (by omega)]; exact e, by rw [rowOf_take9 (by omega)]; exact A⟩⟩
/-- A row of rows of the call's own, whose rows lie where they lay in w0. -/
structure RowL (w0 w : World) (B rg rn rc : Nat) (R : List (List Int)) : Prop where
  own : ∃ vs, w.ownsRow B 72 1 (.slice (some ⟨rg, 0, none⟩) rn rc) rn vs ∧ RowsAt w0 vs R
theorem RowL.lt {w0 w : World} {B rg rn rc : Nat} {R : List (List Int)} (h : RowL w0 w B rg rn rc R) : B ≤ rg ∧ rg < w.heap.size := by
  obtain ⟨vs, O, _⟩ := h.own
  exact O.lt rg rfl
theorem RowL.stays {w0 w w' : World} {B rg rn rc : Nat} {R : List (List Int)} (h : RowL w0 w B rg rn rc R) (e : w'.heap[rg]? = w.heap[rg]?) : RowL w0 w' B rg rn rc R := by
  obtain ⟨vs, O, A⟩ := h.own
  exact ⟨vs, owns_mono O (Nat.le_refl _) (fun b hb => by simp [Value.ownBlock] at hb; subst hb; exact e), A⟩
theorem RowL.grid {w0 w : World} {B rg rn rc : Nat} {R : List (List Int)} (h : RowL w0 w B rg rn rc R) (hb : ∀ b, b < w0.heap.size → w.heap[b]? = w0.heap[b]?) : rn ≤ rc ∧ rc ≤ 9223372036854775807 ∧ GridAt w (some ⟨rg, 0, none⟩) rn R := by
  obtain ⟨vs, O, A⟩ := h.own
  obtain ⟨p1, p2⟩ := own_caps O
  have hlv : vs.length = rn := by have := O.1; simpa using this
  have hl : R.length = rn := by rw [← A.len, hlv]
  refine ⟨p1, p2, hl, by omega, fun hn => ⟨rg, 0, rfl, fun t ht => ?_⟩⟩
  obtain ⟨ro, m, c, e, A1⟩ := A.rows t (by omega)
  have hc := O.cells (g := rg) rfl t _ e
  have e2 : (Addr.mk rg 0 none).add t = ⟨rg, t, none⟩ := by simp [Addr.add]; intro h; exact h.symm
  rw [e2] at hc
  exact ⟨ro, m, c, by rw [Nat.zero_add]; exact hc, A1.same9 hb⟩
/-- Lists of the call's own (behind w0), whose rows lie where they lay in wo. -/
structure CutL (wo w0 w : World) (g k cap : Nat) (C : List (List (List Int))) : Prop where
  len : C.length = k
  own : ∃ vs, w.ownsRow w0.heap.size 73 1 (.slice (some ⟨g, 0, none⟩) k cap) k vs ∧ ∀ (t : Nat) (R : List (List Int)), C[t]? = some R → ∃ rg rn rc, vs[t]? = some (.slice (some ⟨rg, 0, none⟩) rn rc) ∧ rg ≠ g ∧ RowL wo w w0.heap.size rg rn rc R
  kp : Below w0.heap.size w0 w
theorem CutL.below {wo w0 w w' : World} {g k cap : Nat} {C : List (List (List Int))} (h : CutL wo w0 w g k cap C) (hb : Below w.heap.size w w') : CutL wo w0 w' g k cap C := by
  obtain ⟨vs, O, hr⟩ := h.own
  refine ⟨h.len, ⟨vs, owns_below O hb, fun t R hR => ?_⟩, below_then h.kp hb⟩
  obtain ⟨rg, rn, rc, e, ne, L⟩ := hr t R hR
  exact ⟨rg, rn, rc, e, ne, L.stays (hb.block rg L.lt.2)⟩
theorem cutL_new (wo w : World) : CutL wo w (w.alloc (.cells #[] 73)) w.heap.size 0 0 [] :=
  ⟨rfl, ⟨[], World.ownsRow_made w #[] 0 (Nat.le_refl _) (by decide) rfl, fun t R hR => by simp at hR⟩, (Below.refl _ _).alloc (Nat.le_refl _) _⟩
theorem CutL.snoc {wo w0 w w' : World} {g k cap g' cap' rg rn rc : Nat} {C : List (List (List Int))} {R : List (List Int)} {vs : List Value} (h : CutL wo w0 w g k cap C) (hvs : w.ownsRow w0.heap.size 73 1 (.slice (some ⟨g, 0, none⟩) k cap) k vs) (L : RowL wo w w0.heap.size rg rn rc R) (ne : rg ≠ g)
    (O : w'.ownsRow w0.heap.size 73 1 (.slice (some ⟨g', 0, none⟩) (k + 1) cap') (k + 1) (vs ++ [.slice (some ⟨rg, 0, none⟩) rn rc])) (hG : w.grownBy w' (some g)) (hg : g' = g ∨ w.heap.size ≤ g') : CutL wo w0 w' g' (k + 1) cap' (C ++ [R]) := by
  obtain ⟨vs2, O2, hr⟩ := h.own
  have hl := h.len
  have ev : vs2 = vs := by
    have l1 : vs2.length = k := by have := O2.1; simpa using this
    have l2 : vs.length = k := by have := hvs.1; simpa using this
    apply List.ext_getElem? 
    intro t
    rcases Nat.lt_or_ge t k with ht | ht
    · have c1 := O2.cells (g := g) rfl t _ (List.getElem?_eq_getElem (by omega))
      have c2 := hvs.cells (g := g) rfl t _ (List.getElem?_eq_getElem (by omega))
      rw [List.getElem?_eq_getElem (show t < vs2.length by omega), List.getElem?_eq_getElem (show t < vs.length by omega)]
      rw [c1] at c2
      exact c2
    · rw [List.getElem?_eq_none (by omega), List.getElem?_eq_none (by omega)]
  subst ev
  have lg := (O2.lt g rfl)
  have lv : vs2.length = k := by have := O2.1; simpa using this
  have near : ∀ b, b < w.heap.size → b ≠ g → w'.heap[b]? = w.heap[b]? := fun b hb hn => hG.block b hb (fun e => hn (by simpa using e))
  have far : ∀ {b : Nat}, b < w.heap.size → b ≠ g → b ≠ g' := fun {b} hb hn => by rcases hg with e | e; rw [e]; exact hn; omega
  refine ⟨by simp [hl], ⟨_, O, fun t S hS => ?_⟩, h.kp.trans ⟨hG.os, hG.tape, hG.output, hG.size, fun b hb => hG.block b (Nat.lt_of_lt_of_le hb h.kp.size) (fun e => by have := lg.1; simp only [Option.some.injEq] at e; omega)⟩⟩
  rcases Nat.lt_or_ge t k with ht | ht
  · rw [List.getElem?_append_left (by omega)] at hS
    obtain ⟨rg2, rn2, rc2, e, ne2, L2⟩ := hr t S hS
    exact ⟨rg2, rn2, rc2, by rw [List.getElem?_append_left (by omega)]; exact e, far L2.lt.2 ne2, L2.stays (near _ L2.lt.2 ne2)⟩
  · rw [List.getElem?_append_right (by omega), hl] at hS
    have ht2 : t < k + 1 := by
      rcases Nat.lt_or_ge (t - k) 1 with h1 | h1
      · omega
      · rw [List.getElem?_eq_none (by simpa using h1)] at hS; cases hS
    obtain rfl : t = k := by omega
    simp at hS
    subst hS
    exact ⟨rg, rn, rc, by rw [List.getElem?_append_right (by omega), lv]; simp, far L.lt.2 ne, L.stays (near _ L.lt.2 ne)⟩
/-- What lists of the call's own hang on: what lay ahead of wo, and what came behind w0. -/
theorem CutL.cube {wo w0 w : World} {g k cap : Nat} {C : List (List (List Int))} (h : CutL wo w0 w g k cap C) (hk : k ≤ 9223372036854775807) (hbo : Below wo.heap.size wo w0) : Hangs (fun b => b < wo.heap.size ∨ w0.heap.size ≤ b) w (fun w => CubeAt w (some ⟨g, 0, none⟩) k C) := by
  intro w2 h2
  obtain ⟨vs, O, hr⟩ := h.own
  have O2 := owns_mono O (Nat.le_refl _) (w' := w2) (fun b hb => by simp [Value.ownBlock] at hb; subst hb; exact h2 _ (Or.inr (O.lt g rfl).1) (O.lt g rfl).2)
  refine ⟨h.len, hk, fun _ => ⟨g, 0, rfl, fun t R hR => ?_⟩⟩
  obtain ⟨rg, rn, rc, e, _, L⟩ := hr t R hR
  have L2 := L.stays (w' := w2) (h2 _ (Or.inr L.lt.1) L.lt.2)
  have s0 := hbo.size
  have s1 := h.kp.size
  obtain ⟨p1, p2, G⟩ := L2.grid (fun b hb => by
    rw [h2 b (Or.inl hb) (by omega), h.kp.block b (by omega), hbo.block b hb])
  have hc := O2.cells (g := g) rfl t _ e
  have e2 : (Addr.mk g 0 none).add t = ⟨g, t, none⟩ := by simp [Addr.add]; intro h; exact h.symm
  rw [e2] at hc
  exact ⟨_, rn, rc, by rw [Nat.zero_add]; exact hc, (by intro h; cases h), p1, p2, G⟩
theorem cellL9 (w : World) (v : Value) : (w.alloc (.cells #[v] 73)).cell? ⟨w.heap.size, 0, none⟩ = some v := by
  have e := heap_alloc_new w (.cells #[v] 73)
  unfold World.cell?
  simp only [e]
  rfl
theorem cellR9 (w : World) (v : Value) : (w.alloc (.cells #[v] 72)).cell? ⟨w.heap.size, 0, none⟩ = some v := by
  have e := heap_alloc_new w (.cells #[v] 72)
  unfold World.cell?
  simp only [e]
  rfl
theorem take_val {vs : List Value} {k : Nat} {u : Value} (h : vs[k]? = some u) : vs.take (k + 1) = vs.take k ++ [u] := by
  rw [List.take_add_one, h]; rfl
theorem map_take9 {C : List (List (List Int))} {k n : Nat} {R : List (List Int)} (h : C[k]? = some R) : (C.take (k + 1)).map (List.take n) = (C.take k).map (List.take n) ++ [R.take n] := by
  rw [take_one h]; simp
end Go.Proofs.Ytpplnjmjldhlbaa

/- Package block: part and Split. -/
namespace Go.Proofs.Ytpplnjmjldhlbaa
open Go.ChangeShapes Go.WideShapes Go.ChangeAt Go.RowKit
set_option maxRecDepth 100000 in
set_option maxHeartbeats 3200000 in
theorem pagePart_any (v : VwV) (X : Vw) (fr to' : Nat) (w : World) (hv : VwAt w v X) (h1 : fr < to') (h2 : to' ≤ X.T.length) (hT : X.T.length ≤ 4096) (hkl : X.K.length ≤ 4096) (hvl : X.V.length ≤ 4096) (hlk : ∀ R ∈ X.K, to' ≤ R.length ∧ ∀ t, t < R.length → (rowOf R t).length ≤ 1048576) (hlv : ∀ R ∈ X.V, to' ≤ R.length ∧ ∀ t, t < R.length → (rowOf R t).length ≤ 1048576) :
   Calls Try.prog 28 #[.agg v.cells, .int .i64 (fr : Int), .int .i64 (to' : Int)] w fun e w' => ∃ p : PgV, e = .returned (.agg p.cells) ∧ New w.heap.size w' (fun w => PgAt w p (pgOf X fr to')) ∧ Below w.heap.size w w' := by
  obtain ⟨⟨ta, tn, tz⟩, ⟨ka, kn, kz⟩, ⟨va, vn, vz⟩⟩ := v
  have hvt := hv.t
  have hvk := hv.k
  have hvv := hv.v
  simp only at hvt hvk hvv
  have et := hvt.row.len
  have ek := hvk.len
  have ev := hvv.len
  have hfit := hvt.fit
  have hsm : ∀ k, -9223372036854775808 ≤ el (X.T.take to') k ∧ el (X.T.take to') k ≤ 9223372036854775807 := fun k => by
    rcases Nat.lt_or_ge k to' with h | h
    · rw [el_take h]; exact hvt.row.small k
    · rw [el_over (by rw [List.length_take]; omega)]; omega
  have HT : Hid (∀ wv, Below w.heap.size w wv → IArg wv ta to' tz (X.T.take to')) := fun wv hb => (hvt.below hb).take (by omega)
  have HK : Hid (∀ wv, Below w.heap.size w wv → CubeAt wv ka kn X.K) := fun wv hb => hvk.below hb
  have HV : Hid (∀ wv, Below w.heap.size w wv → CubeAt wv va vn X.V) := fun wv hb => hvv.below hb
  rw [ek] at hkl
  rw [ev] at hvl
  rw [et] at h2 hT
  clear hv hvt hvk hvv et ek ev
  show Calls Try.prog 28 #[.agg #[.slice ta tn tz, .slice ka kn kz, .slice va vn vz], .int .i64 (fr : Int), .int .i64 (to' : Int)] w _
  have X0 := blk_new w 29 #[.slice ta tn tz, .slice ka kn kz, .slice va vn vz]
  have B0 : Below w.heap.size w (w.alloc (.cells #[.slice ta tn tz, .slice ka kn kz, .slice va vn vz] 29)) := (Below.refl _ _).alloc (Nat.le_refl _) _
  have s0 : (w.alloc (.cells #[.slice ta tn tz, .slice ka kn kz, .slice va vn vz] 29)).heap.size = w.heap.size + 1 := by simp
  generalize hw0 : w.alloc (.cells #[.slice ta tn tz, .slice ka kn kz, .slice va vn vz] 29) = w0 at *
  have X1 := blk_new w0 47 #[.slice none 0 0, .int .i64 0, .slice none 0 0, .slice none 0 0]
  have B1 : Below w0.heap.size w0 (w0.alloc (.cells #[.slice none 0 0, .int .i64 0, .slice none 0 0, .slice none 0 0] 47)) := (Below.refl _ _).alloc (Nat.le_refl _) _
  have s1 : (w0.alloc (.cells #[.slice none 0 0, .int .i64 0, .slice none 0 0, .slice none 0 0] 47)).heap.size = w0.heap.size + 1 := by simp
  rw [s0] at X1 s1
  generalize hw1 : w0.alloc (.cells #[.slice none 0 0, .int .i64 0, .slice none 0 0, .slice none 0 0] 47) = w1 at *
  replace X0 := X0.below B1
  replace B1 := below_then B0 B1
  go_enter Try.func28, Try.ntmps28
  go_upto_region 1 with fail
  clear hw0 hw1 s0 B0
  have S0 := X0.below ((Below.refl _ _).drew)
  have Y0 := X1.below ((Below.refl _ _).drew)
  have BD : Below w.heap.size w w1.drew := B1.drew
  refine wp_region_held_drew (S := fun w' => Blk w' w.heap.size 29 #[.slice ta tn tz, .slice ka kn kz, .slice va vn vz]) (by kernel_rfl) (S0) (fun hHeld => ?_)
  generalize hA : w1.drew = wA at *
  clear hA X0 X1
  refine wpAnyH_take (i := 0) (v := (.pointer (some ⟨w.heap.size, 0, none⟩))) rfl (by kernel_rfl) (by kernel_rfl) (by kernel_rfl) (fun _ _ _ h => h) (Or.inl ⟨by rfl, ?_⟩) (by assumption) ?_
  · intro w' hSw
    go_simp
  simp only [List.getElem_toArray, List.getElem_cons_zero, Act.put, List.setIfInBounds_toArray, List.set_cons_zero, List.set_cons_succ]
  refine wpAnyH_take (i := 1) (v := (.slice ta tn tz)) rfl (by kernel_rfl) (by kernel_rfl) (by kernel_rfl) (fun _ _ _ h => h) (Or.inl ⟨by rfl, ?_⟩) (by assumption) ?_
  · intro w' hSw
    have c0 : w'.cell? ⟨w.heap.size, 0, none⟩ = some (.slice ta tn tz) := hSw.cell 0 rfl
    go_simp
  simp only [List.getElem_toArray, List.getElem_cons_succ, List.getElem_cons_zero, Act.put, List.setIfInBounds_toArray, List.set_cons_zero, List.set_cons_succ]
  refine wpAnyH_take (i := 2) (v := (.int .i64 (to' : Int))) rfl (by kernel_rfl) (by kernel_rfl) (by kernel_rfl) (fun _ _ _ h => h) (Or.inl ⟨by rfl, ?_⟩) (by assumption) ?_
  · intro w' hSw
    go_simp
  simp only [List.getElem_toArray, List.getElem_cons_succ, List.getElem_cons_zero, Act.put, List.setIfInBounds_toArray, List.set_cons_zero, List.set_cons_succ]
  refine wpAnyH_take (i := 3) (v := (.slice ta to' tz)) rfl (by kernel_rfl) (by kernel_rfl) (by kernel_rfl) (fun _ _ _ h => h) (Or.inl ⟨by rfl, ?_⟩) (by assumption) ?_
  · intro w' hSw
    (go_simp; intro hbad; exfalso; omega)
  simp only [List.getElem_toArray, List.getElem_cons_succ, List.getElem_cons_zero, Act.put, List.setIfInBounds_toArray, List.set_cons_zero, List.set_cons_succ]
  refine wpAnyH_take (i := 5) (v := (.int .i64 (fr : Int))) rfl (by kernel_rfl) (by kernel_rfl) (by kernel_rfl) (fun _ _ _ h => h) (Or.inl ⟨by rfl, ?_⟩) (by assumption) ?_
  · intro w' hSw
    go_simp
  simp only [List.getElem_toArray, List.getElem_cons_succ, List.getElem_cons_zero, Act.put, List.setIfInBounds_toArray, List.set_cons_zero, List.set_cons_succ]
  refine wpAnyH_take (i := 6) (v := (.pointer (some ⟨w.heap.size, 1, none⟩))) rfl (by kernel_rfl) (by kernel_rfl) (by kernel_rfl) (fun _ _ _ h => h) (Or.inl ⟨by rfl, ?_⟩) (by assumption) ?_
  · intro w' hSw
    go_simp
  simp only [List.getElem_toArray, List.getElem_cons_succ, List.getElem_cons_zero, Act.put, List.setIfInBounds_toArray, List.set_cons_zero, List.set_cons_succ]
  refine wpAnyH_take (i := 7) (v := (.pointer (some ⟨w.heap.size, 1, none⟩))) rfl (by kernel_rfl) (by kernel_rfl) (by kernel_rfl) (fun _ _ _ h => h) (Or.inl ⟨by rfl, ?_⟩) (by assumption) ?_
  · intro w' hSw
    go_simp
  simp only [List.getElem_toArray, List.getElem_cons_succ, List.getElem_cons_zero, Act.put, List.setIfInBounds_toArray, List.set_cons_zero, List.set_cons_succ]
  refine wpAnyH_take (i := 8) (v := (.slice ka kn kz)) rfl (by kernel_rfl) (by kernel_rfl) (by kernel_rfl) (fun _ _ _ h => h) (Or.inl ⟨by rfl, ?_⟩) (by assumption) ?_
  · intro w' hSw
    have c1 : w'.cell? ⟨w.heap.size, 1, none⟩ = some (.slice ka kn kz) := hSw.cell 1 rfl
    go_simp
  simp only [List.getElem_toArray, List.getElem_cons_succ, List.getElem_cons_zero, Act.put, List.setIfInBounds_toArray, List.set_cons_zero, List.set_cons_succ]
  refine wpAnyH_take (i := 9) (v := (.int .i64 (fr : Int))) rfl (by kernel_rfl) (by kernel_rfl) (by kernel_rfl) (fun _ _ _ h => h) (Or.inl ⟨by rfl, ?_⟩) (by assumption) ?_
  · intro w' hSw
    go_simp
  simp only [List.getElem_toArray, List.getElem_cons_succ, List.getElem_cons_zero, Act.put, List.setIfInBounds_toArray, List.set_cons_zero, List.set_cons_succ]
  refine wpAnyH_take (i := 10) (v := (.int .i64 (to' : Int))) rfl (by kernel_rfl) (by kernel_rfl) (by kernel_rfl) (fun _ _ _ h => h) (Or.inl ⟨by rfl, ?_⟩) (by assumption) ?_
  · intro w' hSw
    go_simp
  simp only [List.getElem_toArray, List.getElem_cons_succ, List.getElem_cons_zero, Act.put, List.setIfInBounds_toArray, List.set_cons_zero, List.set_cons_succ]
  refine wpAnyH_take (i := 12) (v := (.pointer (some ⟨w.heap.size, 1, none⟩))) rfl (by kernel_rfl) (by kernel_rfl) (by kernel_rfl) (fun _ _ _ h => h) (Or.inl ⟨by rfl, ?_⟩) (by assumption) ?_
  · intro w' hSw
    go_simp
  simp only [List.getElem_toArray, List.getElem_cons_succ, List.getElem_cons_zero, Act.put, List.setIfInBounds_toArray, List.set_cons_zero, List.set_cons_succ]
  refine wpAnyH_take (i := 13) (v := (.pointer (some ⟨w.heap.size, 2, none⟩))) rfl (by kernel_rfl) (by kernel_rfl) (by kernel_rfl) (fun _ _ _ h => h) (Or.inl ⟨by rfl, ?_⟩) (by assumption) ?_
  · intro w' hSw
    go_simp
  simp only [List.getElem_toArray, List.getElem_cons_succ, List.getElem_cons_zero, Act.put, List.setIfInBounds_toArray, List.set_cons_zero, List.set_cons_succ]
  refine wpAnyH_take (i := 14) (v := (.slice va vn vz)) rfl (by kernel_rfl) (by kernel_rfl) (by kernel_rfl) (fun _ _ _ h => h) (Or.inl ⟨by rfl, ?_⟩) (by assumption) ?_
  · intro w' hSw
    have c2 : w'.cell? ⟨w.heap.size, 2, none⟩ = some (.slice va vn vz) := hSw.cell 2 rfl
    go_simp
  simp only [List.getElem_toArray, List.getElem_cons_succ, List.getElem_cons_zero, Act.put, List.setIfInBounds_toArray, List.set_cons_zero, List.set_cons_succ]
  refine wpAnyH_take (i := 15) (v := (.int .i64 (fr : Int))) rfl (by kernel_rfl) (by kernel_rfl) (by kernel_rfl) (fun _ _ _ h => h) (Or.inl ⟨by rfl, ?_⟩) (by assumption) ?_
  · intro w' hSw
    go_simp
  simp only [List.getElem_toArray, List.getElem_cons_succ, List.getElem_cons_zero, Act.put, List.setIfInBounds_toArray, List.set_cons_zero, List.set_cons_succ]
  refine wpAnyH_take (i := 16) (v := (.int .i64 (to' : Int))) rfl (by kernel_rfl) (by kernel_rfl) (by kernel_rfl) (fun _ _ _ h => h) (Or.inl ⟨by rfl, ?_⟩) (by assumption) ?_
  · intro w' hSw
    go_simp
  simp only [List.getElem_toArray, List.getElem_cons_succ, List.getElem_cons_zero, Act.put, List.setIfInBounds_toArray, List.set_cons_zero, List.set_cons_succ]
  refine wpAnyH_ready (rs := [4]) (by kernel_rfl) (by simp) ?_
  refine AllReadyH.cons rfl (fun Kc hKc => ?_) AllReadyH.nil
  simp only [List.getElem_toArray, List.getElem_cons_succ, List.getElem_cons_zero]
  rw [if_pos (by rfl)]
  go_wp2_with fail
  refine (iclone_any ta to' tz _ wA (HT.out wA BD) (by omega)).mono ?_
  rintro e w2 ⟨tv, rfl, O2, B2⟩
  have S2 := S0.below B2
  have Y2 := Y0.below B2
  have D2 := below_then BD B2
  go_wp2_with fail
  refine hKc.out _ _ (S2) (fun hHeld => ?_)
  clear hKc Kc
  refine wpAnyH_ready (rs := [11]) (by kernel_rfl) (by simp) ?_
  refine AllReadyH.cons rfl (fun Kc hKc => ?_) AllReadyH.nil
  simp only [List.getElem_toArray, List.getElem_cons_succ, List.getElem_cons_zero]
  rw [if_pos (by rfl)]
  go_wp2_with fail
  refine (rowsOf_any ka kn kz _ fr to' w2 (HK.out w2 D2) hkl h1 (by omega) hlk).mono ?_
  rintro e w3 ⟨gk, rfl, N3, B3⟩
  have S3 := S2.below B3
  have Y3 := Y2.below B3
  have D3 := below_then D2 B3
  go_wp2_with fail
  refine hKc.out _ _ (S3) (fun hHeld => ?_)
  clear hKc Kc
  refine wpAnyH_ready (rs := [17]) (by kernel_rfl) (by simp) ?_
  refine AllReadyH.cons rfl (fun Kc hKc => ?_) AllReadyH.nil
  simp only [List.getElem_toArray, List.getElem_cons_succ, List.getElem_cons_zero]
  rw [if_pos (by rfl)]
  go_wp2_with fail
  refine (rowsOf_any va vn vz _ fr to' w3 (HV.out w3 D3) hvl h1 (by omega) hlv).mono ?_
  rintro e w4 ⟨gv, rfl, N4, B4⟩
  have S4 := S3.below B4
  have Y4 := Y3.below B4
  have D4 := below_then D3 B4
  go_wp2_with fail
  refine hKc.out _ _ (S4) (fun hHeld => ?_)
  clear hKc Kc
  obtain ⟨ta2, tz2, rfl, _⟩ := IOwn.arg O2 hsm
  have NT : Hangs (fun b => wA.heap.size ≤ b) w2 (fun w => IArg w ta2 to' tz2 (X.T.take to')) := fun wv hv => by
    have O5 : IOwn wv wA.heap.size (.slice ta2 to' tz2) to' (X.T.take to') := owns_mono O2 (Nat.le_refl _) (fun b hb => hv b (O2.lt b hb).1 (O2.lt b hb).2)
    obtain ⟨x5, y5, e5, A5⟩ := IOwn.arg O5 hsm
    simp only [Value.slice.injEq, true_and] at e5
    obtain ⟨rfl, rfl⟩ := e5
    exact A5
  refine wpAnyH_take (i := 18) (v := (.agg #[.slice (some ⟨gk, 0, none⟩) kn kn, .slice (some ⟨gv, 0, none⟩) vn vn])) rfl (by kernel_rfl) (by kernel_rfl) (by kernel_rfl) (fun _ _ _ h => h) (Or.inl ⟨by rfl, ?_⟩) (by assumption) ?_
  · intro w' hSw
    go_simp
  simp only [List.getElem_toArray, List.getElem_cons_succ, List.getElem_cons_zero, Act.put, List.setIfInBounds_toArray, List.set_cons_zero, List.set_cons_succ]
  refine wpAnyH_take (i := 19) (v := (.agg #[.slice ta2 to' tz2, .int .i64 (fr : Int), .slice (some ⟨gk, 0, none⟩) kn kn, .slice (some ⟨gv, 0, none⟩) vn vn])) rfl (by kernel_rfl) (by kernel_rfl) (by kernel_rfl) (fun _ _ _ h => h) (Or.inl ⟨by rfl, ?_⟩) (by assumption) ?_
  · intro w' hSw
    go_simp
  simp only [List.getElem_toArray, List.getElem_cons_succ, List.getElem_cons_zero, Act.put, List.setIfInBounds_toArray, List.set_cons_zero, List.set_cons_succ]
  refine wpAnyH_ready (rs := [20]) (by kernel_rfl) (by simp) ?_
  refine AllReadyH.cons rfl (fun Kc hKc => ?_) AllReadyH.nil
  simp only [List.getElem_toArray, List.getElem_cons_succ, List.getElem_cons_zero]
  rw [if_pos (by rfl)]
  refine wp_store_row 47 _ _ rfl (w.heap.size + 1) #[.slice ta2 to' tz2, .int .i64 (fr : Int), .slice (some ⟨gk, 0, none⟩) kn kn, .slice (some ⟨gv, 0, none⟩) vn vn] rfl rfl 47 _ Y4 Try.infoPg rfl (by simp [Value.oneCell']) ?_
  refine hKc.out _ _ (Blk.of_block S4 (setRow_other _ _ _ _ (by omega))) (fun hHeld => ?_)
  clear hKc Kc
  refine wpAnyH_done (by kernel_rfl) ?_ _
  go_wp2_with fail
  refine bodyPost_ret (results_cB rfl _ _ (w.heap.size + 1) _ rfl (load_pg (Y4.row _) rfl)) rfl ?_
  have sA := BD.size
  have hs1 : w.heap.size + 2 ≤ wA.heap.size := by have := Y0.lt; omega
  refine ⟨⟨⟨ta2, to', tz2⟩, fr, ⟨some ⟨gk, 0, none⟩, kn, kn⟩, ⟨some ⟨gv, 0, none⟩, vn, vn⟩⟩, rfl, ?_, below_setRow D4 (by omega) _⟩
  have HTT : New w.heap.size (w4.setRow (w.heap.size + 1) _) (fun w => IArg w ta2 to' tz2 (X.T.take to')) := Hangs.mono (Hangs.row ((NT.below B3).below B4) (g := w.heap.size + 1) (by show ¬ (_ ≤ _); omega) #[.slice ta2 to' tz2, .int .i64 (fr : Int), .slice (some ⟨gk, 0, none⟩) kn kn, .slice (some ⟨gv, 0, none⟩) vn vn]) fun b _ h => by show w.heap.size ≤ b; have : wA.heap.size ≤ b := h; omega
  have HKK := Hangs.mono (Hangs.row (N3.below B4) (g := w.heap.size + 1) (by show ¬ (_ ≤ _); have := B2.size; omega) #[.slice ta2 to' tz2, .int .i64 (fr : Int), .slice (some ⟨gk, 0, none⟩) kn kn, .slice (some ⟨gv, 0, none⟩) vn vn]) (q := fun b => w.heap.size ≤ b) fun b _ h => by have : w2.heap.size ≤ b := h; have := D2.size; omega
  have HVV := Hangs.mono (Hangs.row N4 (g := w.heap.size + 1) (by show ¬ (_ ≤ _); have := D3.size; have := B2.size; have := B3.size; omega) #[.slice ta2 to' tz2, .int .i64 (fr : Int), .slice (some ⟨gk, 0, none⟩) kn kn, .slice (some ⟨gv, 0, none⟩) vn vn]) (q := fun b => w.heap.size ≤ b) fun b _ h => by have : w3.heap.size ≤ b := h; have := D3.size; omega
  exact fun w9 h9 => ⟨HTT w9 h9, rfl, HKK w9 h9, HVV w9 h9⟩
/-- The pages of a view. -/
def pagesOf (X : Vw) (page : Nat) : Nat → List Pg
  | 0 => []
  | k + 1 => pagesOf X page k ++ [pgOf X (k * page) (min ((k + 1) * page) X.T.length)]
theorem pagesOf_len (X : Vw) (page : Nat) : ∀ k, (pagesOf X page k).length = k
  | 0 => rfl
  | k + 1 => by show (pagesOf X page k ++ [_]).length = _; rw [List.length_append, pagesOf_len X page k]; rfl
theorem pagesOf_at (X : Vw) (page : Nat) : ∀ k t, t < k → (pagesOf X page k)[t]? = some (pgOf X (t * page) (min ((t + 1) * page) X.T.length))
  | 0, t, h => by omega
  | k + 1, t, h => by
    show (pagesOf X page k ++ [_])[t]? = _
    rcases Nat.lt_or_ge t k with h1 | h1
    · rw [List.getElem?_append_left (by rw [pagesOf_len]; exact h1)]
      exact pagesOf_at X page k t h1
    · obtain rfl : t = k := by omega
      rw [List.getElem?_append_right (by rw [pagesOf_len]; exact Nat.le_refl _), pagesOf_len, Nat.sub_self]
      rfl
/-- How many pages there are. -/
def pageN (n page : Nat) : Nat := (n + page - 1) / page
theorem pageN_lt {n page k : Nat} (hp : 1 ≤ page) : k * page < n ↔ k < pageN n page := by
  unfold pageN
  rw [Nat.lt_div_iff_mul_lt hp]
  omega
set_option maxRecDepth 100000 in
set_option maxHeartbeats 3200000 in
theorem split_any (Vo : Int) (D : Nat) (Hd H : Int) (L : Nat) (v : VwV) (X : Vw) (page : Nat) (w : World) (hv : VwAt w v X) (hf : VwFit Vo D L X) (hD : D ≤ 4096) (hL : L ≤ 4096) (hp1 : 1 ≤ page) (hp2 : page ≤ 16) :
   Calls Try.prog 7 #[.agg (cfgC Vo D Hd H L), .agg v.cells, .int .i64 (page : Int)] w fun e w' => ∃ a c, e = .returned (.tuple #[.slice a (pageN X.T.length page) c, .int .i64 0]) ∧ New w.heap.size w' (fun w => PgsAt w ⟨a, pageN X.T.length page, c⟩ (pagesOf X page (pageN X.T.length page))) ∧ Below w.heap.size w w' := by
  have hm := hf.most
  have hkl : X.K.length ≤ 4096 := by rw [hf.k]; split <;> omega
  have hvl : X.V.length ≤ 4096 := by rw [hf.v]; split <;> omega
  have hks := hf.ks
  have hvs := hf.vs
  have CF := fun (wv : World) (hb : Below w.heap.size w wv) => sfits_ok Vo D Hd H L v X wv (hv.below hb) hf hD
  have CP := fun (wv : World) (fr to' : Nat) (hb : Below w.heap.size w wv) (h1 : fr < to') (h2 : to' ≤ X.T.length) => pagePart_any v X fr to' wv (hv.below hb) h1 h2 (by omega) hkl hvl (fun R hR => ⟨by rw [(hks R hR).1]; exact h2, fun t ht => by rw [(hks R hR).2 t (by rw [← (hks R hR).1]; exact ht)]; omega⟩) (fun R hR => ⟨by rw [(hvs R hR).1]; exact h2, fun t ht => by rw [(hvs R hR).2 t (by rw [← (hvs R hR).1]; exact ht)]; omega⟩)
  obtain ⟨⟨ta, tn, tz⟩, ⟨ka, kn, kz⟩, ⟨va, vn, vz⟩⟩ := v
  have et := hv.t.row.len
  simp only at et
  clear hv hf hks hvs
  unfold VwV.cells Sl.v at CF CP ⊢
  unfold cfgC at CF ⊢
  simp only at CF CP ⊢
  obtain ⟨NP, hNP⟩ : ∃ NP, pageN X.T.length page = NP := ⟨_, rfl⟩
  have HLT : Hid (∀ k, k * page < tn ↔ k < NP) := fun k => by rw [← et, ← hNP]; exact pageN_lt hp1
  have HET : Hid (X.T.length = tn) := et
  have hNP2 : NP ≤ 128 := by have := HLT.out 128; omega
  rw [hNP]
  rw [et] at hm
  clear hNP et
  have X0 := blk_new w 23 #[.int .i64 Vo, .int .i64 (D : Int), .int .i64 Hd, .int .i64 H, .int .i64 (L : Int)]
  have B0 : Below w.heap.size w (w.alloc (.cells #[.int .i64 Vo, .int .i64 (D : Int), .int .i64 Hd, .int .i64 H, .int .i64 (L : Int)] 23)) := (Below.refl _ _).alloc (Nat.le_refl _) _
  have s0 : (w.alloc (.cells #[.int .i64 Vo, .int .i64 (D : Int), .int .i64 Hd, .int .i64 H, .int .i64 (L : Int)] 23)).heap.size = w.heap.size + 1 := by simp
  generalize hw0 : w.alloc (.cells #[.int .i64 Vo, .int .i64 (D : Int), .int .i64 Hd, .int .i64 H, .int .i64 (L : Int)] 23) = w0 at *
  have X1 := blk_new w0 29 #[.slice ta tn tz, .slice ka kn kz, .slice va vn vz]
  have B1 : Below w0.heap.size w0 (w0.alloc (.cells #[.slice ta tn tz, .slice ka kn kz, .slice va vn vz] 29)) := (Below.refl _ _).alloc (Nat.le_refl _) _
  have s1 : (w0.alloc (.cells #[.slice ta tn tz, .slice ka kn kz, .slice va vn vz] 29)).heap.size = w0.heap.size + 1 := by simp
  rw [s0] at X1 s1
  generalize hw1 : w0.alloc (.cells #[.slice ta tn tz, .slice ka kn kz, .slice va vn vz] 29) = w1 at *
  replace X0 := X0.below B1
  replace B1 := below_then B0 B1
  have hsz : w.heap.size + 2 ≤ w1.heap.size := by omega
  have a0 : w1.cell? ⟨w.heap.size, 0, none⟩ = some (.int .i64 Vo) := X0.cell 0 rfl
  have a1 : w1.cell? ⟨w.heap.size, 1, none⟩ = some (.int .i64 (D : Int)) := X0.cell 1 rfl
  have a2 : w1.cell? ⟨w.heap.size, 2, none⟩ = some (.int .i64 Hd) := X0.cell 2 rfl
  have a3 : w1.cell? ⟨w.heap.size, 3, none⟩ = some (.int .i64 H) := X0.cell 3 rfl
  have a4 : w1.cell? ⟨w.heap.size, 4, none⟩ = some (.int .i64 (L : Int)) := X0.cell 4 rfl
  have b0 : w1.cell? ⟨w.heap.size + 1, 0, none⟩ = some (.slice ta tn tz) := X1.cell 0 rfl
  have b1 : w1.cell? ⟨w.heap.size + 1, 1, none⟩ = some (.slice ka kn kz) := X1.cell 1 rfl
  have b2 : w1.cell? ⟨w.heap.size + 1, 2, none⟩ = some (.slice va vn vz) := X1.cell 2 rfl
  go_enter Try.func7, Try.ntmps7
  go_wp2_with fail
  refine (CF _ B1).mono ?_
  rintro e w2 ⟨rfl, B2⟩
  have D2 := below_then B1 B2
  replace X1 := X1.below B2
  have hsz2 := B2.size
  clear hw0 hw1 a0 a1 a2 a3 a4 b0 b1 b2 CF s0 s1 B0 B1 B2 X0
  go_upto_region 7 with fail
  go_loopg [8, 9] (NP + 1) (fun r s8 s9 wr => ∃ (k : Nat) (u : Value), k ≤ NP ∧ r = NP - k + 1 ∧ s9 = .int .i64 ((k * page : Nat) : Int) ∧ s8 = u ∧ OwnPg wr w2.heap.size w2.heap.size u (pagesOf X page k) ∧ Blk wr (w.heap.size + 1) 29 #[.slice ta tn tz, .slice ka kn kz, .slice va vn vz] ∧ Below w2.heap.size w2 wr)
  case atStart => exact ⟨0, _, by omega, by omega, by simp, rfl, ownPg_nil _ _ _, X1, Below.refl _ _⟩
  case round =>
    clear X1
    obtain ⟨k, u, hk, rfl, rfl, hu, OP, X1, BB⟩ := hrel
    have hu2 := hu.symm
    subst hu2
    clear hu
    have b0 : wr.cell? ⟨w.heap.size + 1, 0, none⟩ = some (.slice ta tn tz) := X1.cell 0 rfl
    have b1 : wr.cell? ⟨w.heap.size + 1, 1, none⟩ = some (.slice ka kn kz) := X1.cell 1 rfl
    have b2 : wr.cell? ⟨w.heap.size + 1, 2, none⟩ = some (.slice va vn vz) := X1.cell 2 rfl
    by_cases hlt : k * page < tn
    · have hkN := (HLT.out k).1 hlt
      have hkp : (k + 1) * page = k * page + page := Nat.succ_mul k page
      obtain ⟨t2, ht2⟩ : ∃ t2, min ((k + 1) * page) tn = t2 := ⟨_, rfl⟩
      have HPG : Hid (pagesOf X page (k + 1) = pagesOf X page k ++ [pgOf X (k * page) t2]) := by
        show pagesOf X page k ++ [pgOf X (k * page) (min ((k + 1) * page) X.T.length)] = _
        rw [HET.out, ht2]
      obtain ⟨fr, hfr⟩ : ∃ fr, k * page = fr := ⟨_, rfl⟩
      have HFR : Hid ((k + 1) * page = fr + page) := by show _ = _; omega
      rw [hfr] at hlt
      have ht3 : t2 = min (fr + page) tn := by rw [← ht2]; omega
      have HKP : Hid (pagesOf X page k ++ [pgOf X (k * page) t2] = pagesOf X page k ++ [pgOf X fr t2]) := by
        show _ = _
        rw [hfr]
      simp only [hfr]
      have DW := below_then D2 BB
      have CC := CP wr fr t2 DW (by omega) (by rw [HET.out]; omega)
      have hsr := BB.size
      have w9 : IntKind.i64.wrap ((fr : Int) + (page : Int)) = (fr : Int) + (page : Int) := wrap_in (by omega)
      clear hkp ht2 hfr
      have hkk : (pagesOf X page k).length = k := pagesOf_len X page k
      by_cases hmn : (((fr + page : Nat)) : Int) ≤ (tn : Int)
      · obtain rfl : t2 = fr + page := by omega
        clear ht3
        go_wp2_with fail
        refine CC.mono ?_
        rintro e w3 ⟨⟨⟨p1, p2, p3⟩, pf, ⟨p4, p5, p6⟩, ⟨p7, p8, p9⟩⟩, rfl, NP3, B3⟩
        rw [show PgV.cells ⟨⟨p1, p2, p3⟩, pf, ⟨p4, p5, p6⟩, ⟨p7, p8, p9⟩⟩ = #[.slice p1 p2 p3, .int .i64 pf, .slice p4 p5 p6, .slice p7 p8 p9] from rfl]
        have O3 := OP.below B3
        have BA : Below w3.heap.size w3 (w3.alloc (.cells #[.slice p1 p2 p3, .int .i64 pf, .slice p4 p5 p6, .slice p7 p8 p9] 47)) := (Below.refl _ _).alloc (Nat.le_refl _) _
        have CN := blk_new w3 47 #[.slice p1 p2 p3, .int .i64 pf, .slice p4 p5 p6, .slice p7 p8 p9]
        generalize hw4 : w3.alloc (.cells #[.slice p1 p2 p3, .int .i64 pf, .slice p4 p5 p6, .slice p7 p8 p9] 47) = w4 at *
        have O4 := O3.below BA
        have H4 : Hangs (offV w2.heap.size u) w4 (fun w => PgAt w ⟨⟨p1, p2, p3⟩, pf, ⟨p4, p5, p6⟩, ⟨p7, p8, p9⟩⟩ (pgOf X fr (fr + page))) := Hangs.mono (NP3.below BA) fun b _ h => by
          have h' : wr.heap.size ≤ b := h
          refine ⟨by omega, fun e => ?_⟩
          have := (OP.lt e).2
          omega
        have hs3 := B3.size
        have hs4 := BA.size
        clear CC b0 b1 b2 OP O3 NP3
        go_wp2_with (at_builtin; refine wpList_append_pg rfl _ _ rfl w2.heap.size w2.heap.size u (pagesOf X page k) k hkk rfl (by exact O4) w3.heap.size ⟨⟨p1, p2, p3⟩, pf, ⟨p4, p5, p6⟩, ⟨p7, p8, p9⟩⟩ (pgOf X fr (fr + page)) rfl (by exact CN) (by exact H4) (by omega) (by omega) ?_; intro ea ec w5 O5 G5 N5)
        go_roundg (NP - (k + 1) + 1)
        case measure => omega
        case rel =>
          have B5 : Below w2.heap.size w2 w5 := ((BB.trans (B3.mono hsr)).trans (BA.mono (by omega))).grown G5 (by omega) (fun g e => (O4.lt e).1)
          refine ⟨k + 1, _, by omega, by omega, ?_, rfl, ?_, ?_, B5⟩
          · rw [HFR.out]; first | rfl | (simp; done) | (congr 1; omega)
          · rw [HPG.out, HKP.out]; exact O5
          · refine ((X1.below B3).below BA).of_block (G5.block _ (Nat.lt_of_lt_of_le X1.lt (by omega)) (fun e => ?_))
            have := (O4.lt e.symm).1
            omega
      · obtain rfl : tn = t2 := by omega
        clear ht3
        go_wp2_with fail
        refine CC.mono ?_
        rintro e w3 ⟨⟨⟨p1, p2, p3⟩, pf, ⟨p4, p5, p6⟩, ⟨p7, p8, p9⟩⟩, rfl, NP3, B3⟩
        rw [show PgV.cells ⟨⟨p1, p2, p3⟩, pf, ⟨p4, p5, p6⟩, ⟨p7, p8, p9⟩⟩ = #[.slice p1 p2 p3, .int .i64 pf, .slice p4 p5 p6, .slice p7 p8 p9] from rfl]
        have O3 := OP.below B3
        have BA : Below w3.heap.size w3 (w3.alloc (.cells #[.slice p1 p2 p3, .int .i64 pf, .slice p4 p5 p6, .slice p7 p8 p9] 47)) := (Below.refl _ _).alloc (Nat.le_refl _) _
        have CN := blk_new w3 47 #[.slice p1 p2 p3, .int .i64 pf, .slice p4 p5 p6, .slice p7 p8 p9]
        generalize hw4 : w3.alloc (.cells #[.slice p1 p2 p3, .int .i64 pf, .slice p4 p5 p6, .slice p7 p8 p9] 47) = w4 at *
        have O4 := O3.below BA
        have H4 : Hangs (offV w2.heap.size u) w4 (fun w => PgAt w ⟨⟨p1, p2, p3⟩, pf, ⟨p4, p5, p6⟩, ⟨p7, p8, p9⟩⟩ (pgOf X fr tn)) := Hangs.mono (NP3.below BA) fun b _ h => by
          have h' : wr.heap.size ≤ b := h
          refine ⟨by omega, fun e => ?_⟩
          have := (OP.lt e).2
          omega
        have hs3 := B3.size
        have hs4 := BA.size
        clear CC b0 b1 b2 OP O3 NP3
        go_wp2_with (at_builtin; refine wpList_append_pg rfl _ _ rfl w2.heap.size w2.heap.size u (pagesOf X page k) k hkk rfl (by exact O4) w3.heap.size ⟨⟨p1, p2, p3⟩, pf, ⟨p4, p5, p6⟩, ⟨p7, p8, p9⟩⟩ (pgOf X fr tn) rfl (by exact CN) (by exact H4) (by omega) (by omega) ?_; intro ea ec w5 O5 G5 N5)
        go_roundg (NP - (k + 1) + 1)
        case measure => omega
        case rel =>
          have B5 : Below w2.heap.size w2 w5 := ((BB.trans (B3.mono hsr)).trans (BA.mono (by omega))).grown G5 (by omega) (fun g e => (O4.lt e).1)
          refine ⟨k + 1, _, by omega, by omega, ?_, rfl, ?_, ?_, B5⟩
          · rw [HFR.out]; first | rfl | (simp; done) | (congr 1; omega)
          · rw [HPG.out, HKP.out]; exact O5
          · refine ((X1.below B3).below BA).of_block (G5.block _ (Nat.lt_of_lt_of_le X1.lt (by omega)) (fun e => ?_))
            have := (O4.lt e.symm).1
            omega
    · have hkN : k = NP := by
        rcases Nat.lt_or_ge k NP with h | h
        · exact absurd ((HLT.out k).2 h) hlt
        · omega
      have hlt' : (tn : Int) ≤ ((k * page : Nat) : Int) := by omega
      generalize k * page = fr at *
      obtain ⟨a, c, e9⟩ := OP.form
      rw [pagesOf_len] at e9
      subst e9
      go_wp2_with fail
      go_ret2
      subst hkN
      exact ⟨a, c, rfl, New.mono (OP.new (by omega) (Nat.le_refl _)) D2.size, below_then D2 BB⟩
end Go.Proofs.Ytpplnjmjldhlbaa
