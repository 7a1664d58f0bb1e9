/- Contracts of the program's functions, part 6 of 13: what each call returns and leaves of memory. -/
import Derived.Test.YtcanjlofnpnhkaaGreatDoorPk5
import Derived.Deep.RegionHeld3
/- Package step: copies of rows and of lists of rows. -/
namespace Go.Proofs.YtcanjlofnpnhkaaGreatDoor
open Go.ChangeShapes Go.WideShapes Go.ChangeAt Go.RowKit
/-- Block g is filled up to place k with rows that hang on newer blocks alone. -/
structure FillTo (w : World) (g m k : Nat) (R : List (List Int)) : Prop where
  row : ∃ cs : Array Value, w.heap[g]? = some (.cells cs 35 (0, 0)) ∧ cs.size = m ∧ ∀ t, t < k → ∃ ro n c, cs[t]? = some (.slice ro n c) ∧ New (g + 1) w (fun w => Arg w ro n c (rowOf R t))
theorem FillTo.lt {w : World} {g m k : Nat} {R : List (List Int)} (h : FillTo w g m k R) : g < w.heap.size := by
  obtain ⟨cs, h1, _⟩ := h.row
  exact (Array.getElem?_eq_some_iff.1 h1).1
theorem FillTo.below {w w' : World} {g m k : Nat} {R : List (List Int)} (h : FillTo w g m k R) (hb : Below w.heap.size w w') : FillTo w' g m k R := by
  have hl := h.lt
  obtain ⟨cs, h1, h2, h3⟩ := h.row
  exact ⟨cs, (hb.block g hl).trans h1, h2, fun t ht => let ⟨ro, n, c, e, N⟩ := h3 t ht; ⟨ro, n, c, e, N.below hb⟩⟩
theorem FillTo.frozen {w : World} {g m k : Nat} {R : List (List Int)} (h : FillTo w g m k R) (t : Nat) : w.frozen? ⟨g, t, none⟩ = false := by
  obtain ⟨cs, h1, _⟩ := h.row
  unfold World.frozen?; simp only [h1]; rfl
theorem FillTo.cell {w : World} {g m k : Nat} {R : List (List Int)} (h : FillTo w g m k R) {t : Nat} (ht : t < m) : ∃ v, w.cell? ⟨g, t, none⟩ = some v := by
  obtain ⟨cs, h1, h2, _⟩ := h.row
  refine ⟨cs[t]'(by omega), ?_⟩
  unfold World.cell?; simp only [h1]
  exact Array.getElem?_eq_getElem (by omega)
theorem FillTo.step {w : World} {g m k : Nat} {R : List (List Int)} (h : FillTo w g m k R) (hk : k < m) {ro : Option Addr} {n c : Nat} (hA : New (g + 1) w fun w => Arg w ro n c (rowOf R k)) : FillTo (w.setCell ⟨g, k, none⟩ (.slice ro n c)) g m (k + 1) R := by
  obtain ⟨cs, h1, h2, h3⟩ := h.row
  refine ⟨cs.setIfInBounds k (.slice ro n c), by simp [World.setCell, Array.getElem?_modify, h1], by simpa using h2, fun t ht => ?_⟩
  rw [Array.getElem?_setIfInBounds]
  by_cases e : k = t
  · subst e
    rw [if_pos rfl, if_pos (by omega)]
    exact ⟨ro, n, c, rfl, hA.set (by show g < g + 1; omega) _⟩
  · rw [if_neg e]
    obtain ⟨ro', n', c', e2, N⟩ := h3 t (by omega)
    exact ⟨ro', n', c', e2, N.set (by show g < g + 1; omega) _⟩
theorem fillTo_made (w : World) (m : Nat) (R : List (List Int)) : FillTo (w.alloc (.cells (madeCells #[.slice none 0 0] m) 35)) w.heap.size m 0 R :=
  ⟨_, heap_alloc_new _ _, by simp [madeCells], fun t ht => by omega⟩
/-- In w the slice of n rows that begins at ro has the values vs, and they read as R. -/
structure GridV (w : World) (ro : Option Addr) (n : Nat) (vs : List Value) (R : List (List Int)) : Prop where
  rows : RowsAt w vs R
  len : vs.length = n
  max : n ≤ 9223372036854775807
  cells : 0 < n → ∃ b o, ro = some ⟨b, o, none⟩ ∧ ∀ j u, vs[j]? = some u → w.cell? ⟨b, o + j, none⟩ = some u
theorem GridV.grid {w : World} {ro : Option Addr} {n : Nat} {vs : List Value} {R : List (List Int)} (h : GridV w ro n vs R) : GridAt w ro n R := by
  have hl : R.length = n := by rw [← h.len, h.rows.len]
  refine ⟨hl, h.max, fun hn => ?_⟩
  obtain ⟨b, o, e, hc⟩ := h.cells hn
  refine ⟨b, o, e, fun t ht => ?_⟩
  obtain ⟨r, m, c, e2, A⟩ := h.rows.rows t (by omega)
  exact ⟨r, m, c, hc t _ e2, A⟩
theorem gridV_nil (w : World) (ro : Option Addr) : GridV w ro 0 [] [] := ⟨⟨rfl, fun t ht => by simp at ht⟩, rfl, by omega, fun h => by omega⟩
/-- A whole list of rows hangs on its own blocks alone. -/
theorem FillTo.grid {w : World} {g m : Nat} {R : List (List Int)} (h : FillTo w g m m R) (hl : R.length = m) (hm : m ≤ 9223372036854775807) {B : Nat} (hB : B ≤ g) : ∃ vs, New B w fun w => GridV w (some ⟨g, 0, none⟩) m vs R := by
  have hlt := h.lt
  obtain ⟨cs, h1, hsz, h3⟩ := h.row
  refine ⟨cs.toList, fun w2 h2 => ?_⟩
  have hg := (h2 g hB hlt).trans h1
  refine ⟨⟨by simp [hsz, hl], fun t ht => ?_⟩, by simp [hsz], hm, fun _ => ⟨g, 0, rfl, fun j u hj => ?_⟩⟩
  · obtain ⟨ro, n, c, e, N⟩ := h3 t (by omega)
    exact ⟨ro, n, c, by simpa using e, N w2 fun b hb hb2 => h2 b (Nat.le_trans (by omega) hb) hb2⟩
  · rw [Nat.zero_add]
    unfold World.cell?
    simp only [hg]
    simpa using hj
set_option maxHeartbeats 800000 in
theorem copyRows_any (ao : Option Addr) (m ca : Nat) (R : List (List Int)) (w : World) (hR : GridAt w ao m R) (hm : m ≤ 4096) (hl : ∀ t, t < m → (rowOf R t).length ≤ 1048576) :
   Calls Tryz.prog 79 #[.slice ao m ca] w fun e w' => ∃ g vs, e = .returned (.slice (some ⟨g, 0, none⟩) m m) ∧ New w.heap.size w' (fun w => GridV w (some ⟨g, 0, none⟩) m vs R) ∧ Below w.heap.size w w' := by
  have hmk := run_make_row' (P := Tryz.prog) 105 35 (.slice none 0 0) 24 Tryz.underlying105 Tryz.infoRow rfl .i64 .i64 m (by omega) (by omega)
  have F0 := fillTo_made w m R
  have B0 : Below w.heap.size w (w.alloc (.cells (madeCells #[.slice none 0 0] m) 35)) := (Below.refl _ _).alloc (Nat.le_refl _) _
  go_enter Tryz.func79, Tryz.ntmps79
  go_wp2
  clear hmk
  generalize w.alloc (.cells (madeCells #[.slice none 0 0] m) 35) = w0 at *
  go_loopg [11] m (fun r i wr => ∃ k : Nat, k ≤ m ∧ r = m - k ∧ i = .int .i64 k ∧ FillTo wr w.heap.size m k R ∧ Below w.heap.size w wr)
  case atStart => exact ⟨0, by omega, by omega, rfl, F0, B0⟩
  case round =>
    obtain ⟨k, hk, rfl, rfl, F1, B1⟩ := hrel
    clear F0 B0
    by_cases hlt : k < m
    · obtain ⟨b, o, rfl, hc⟩ := (hR.below B1).cells (by omega)
      obtain ⟨ro, n, c, h1, A1⟩ := hc k hlt
      clear hc
      have hn := hl k hlt
      rw [A1.row.len] at hn
      go_wp2_with fail
      refine (clone_arg ro n c _ wr A1 hn).mono ?_
      rintro e w2 ⟨ao', c', rfl, N2, B2⟩
      have s1 := F1.lt
      have F2 := (F1.below B2)
      have F3 := F2.step hlt (N2.mono (by omega))
      have ff := F2.frozen k
      obtain ⟨v, hv⟩ := F2.cell hlt
      have B3 := below_then B1 B2
      clear N2 A1 F1
      go_wp2
      go_roundg (m - (k + 1))
      case measure => omega
      case rel => exact ⟨k + 1, by omega, rfl, by go_num, F3, B3.setCell (Nat.le_refl _) _⟩
    · obtain rfl : k = m := by omega
      go_wp2
      go_ret
      obtain ⟨vs, N⟩ := F1.grid hR.len (by omega) (Nat.le_refl w.heap.size)
      exact ⟨w.heap.size, vs, rfl, N, B1⟩
/-- In w the slice of lists that begins at ao reads as C. -/
structure CubeAt (w : World) (ao : Option Addr) (m : Nat) (C : List (List (List Int))) : Prop where
  len : C.length = m
  max : m ≤ 9223372036854775807
  cells : 0 < m → ∃ b o, ao = some ⟨b, o, none⟩ ∧ ∀ (t : Nat) (R : List (List Int)), C[t]? = some R → ∃ ro n c, w.cell? ⟨b, o + t, none⟩ = some (.slice ro n c) ∧ (ro = none → c = 0) ∧ n ≤ c ∧ c ≤ 9223372036854775807 ∧ GridAt w ro n R
theorem CubeAt.below {w w' : World} {ao : Option Addr} {m : Nat} {C : List (List (List Int))} (h : CubeAt w ao m C) (hb : Below w.heap.size w w') : CubeAt w' ao m C := by
  refine ⟨h.len, h.max, fun hn => ?_⟩
  obtain ⟨b, o, e, hc⟩ := h.cells hn
  refine ⟨b, o, e, fun t R hR => ?_⟩
  obtain ⟨ro, n, c, h1, h2, h3, h4, h5⟩ := hc t R hR
  have hlt : b < w.heap.size := by simpa using World.block_lt_of_cell? w _ h1
  exact ⟨ro, n, c, by rw [hb.cell (by exact hlt)]; exact h1, h2, h3, h4, h5.below hb⟩
/-- The block g of lists, filled up to place k with full lists that hang on newer blocks alone. -/
structure Lists (w : World) (g m k : Nat) (C : List (List (List Int))) : Prop where
  row : ∃ cs : Array Value, w.heap[g]? = some (.cells cs 105 (0, 0)) ∧ cs.size = m ∧ ∀ (t : Nat) (R : List (List Int)), t < k → C[t]? = some R → ∃ ro n vs, cs[t]? = some (.slice ro n n) ∧ (ro = none → n = 0) ∧ New (g + 1) w (fun w => GridV w ro n vs R)
theorem Lists.lt {w : World} {g m k : Nat} {C : List (List (List Int))} (h : Lists w g m k C) : g < w.heap.size := by
  obtain ⟨cs, h1, _⟩ := h.row
  exact (Array.getElem?_eq_some_iff.1 h1).1
theorem Lists.below {w w' : World} {g m k : Nat} {C : List (List (List Int))} (h : Lists w g m k C) (hb : Below w.heap.size w w') : Lists w' g m k C := by
  have hl := h.lt
  obtain ⟨cs, h1, h2, h3⟩ := h.row
  exact ⟨cs, (hb.block g hl).trans h1, h2, fun t R ht hR => let ⟨ro, n, vs, e, h4, N⟩ := h3 t R ht hR; ⟨ro, n, vs, e, h4, N.below hb⟩⟩
theorem Lists.frozen {w : World} {g m k : Nat} {C : List (List (List Int))} (h : Lists w g m k C) (t : Nat) : w.frozen? ⟨g, t, none⟩ = false := by
  obtain ⟨cs, h1, _⟩ := h.row
  unfold World.frozen?; simp only [h1]; rfl
theorem Lists.cell {w : World} {g m k : Nat} {C : List (List (List Int))} (h : Lists w g m k C) {t : Nat} (ht : t < m) : ∃ v, w.cell? ⟨g, t, none⟩ = some v := by
  obtain ⟨cs, h1, h2, _⟩ := h.row
  refine ⟨cs[t]'(by omega), ?_⟩
  unfold World.cell?; simp only [h1]
  exact Array.getElem?_eq_getElem (by omega)
theorem Lists.step {w : World} {g m k : Nat} {C : List (List (List Int))} (h : Lists w g m k C) (hk : k < m) {ro : Option Addr} {n : Nat} {vs : List Value} {R : List (List Int)} (hR : C[k]? = some R) (hn : ro = none → n = 0) (hA : New (g + 1) w fun w => GridV w ro n vs R) : Lists (w.setCell ⟨g, k, none⟩ (.slice ro n n)) g m (k + 1) C := by
  obtain ⟨cs, h1, h2, h3⟩ := h.row
  refine ⟨cs.setIfInBounds k (.slice ro n n), by simp [World.setCell, Array.getElem?_modify, h1], by simpa using h2, fun t R' ht hR' => ?_⟩
  rw [Array.getElem?_setIfInBounds]
  by_cases e : k = t
  · subst e
    rw [hR] at hR'
    simp only [Option.some.injEq] at hR'
    subst hR'
    rw [if_pos rfl, if_pos (by omega)]
    exact ⟨ro, n, vs, rfl, hn, hA.set (by show g < g + 1; omega) _⟩
  · rw [if_neg e]
    obtain ⟨ro', n', vs', e2, h4, N⟩ := h3 t R' (by omega) hR'
    exact ⟨ro', n', vs', e2, h4, N.set (by show g < g + 1; omega) _⟩
theorem lists_made (w : World) (m : Nat) (C : List (List (List Int))) : Lists (w.alloc (.cells (madeCells #[.slice none 0 0] m) 105)) w.heap.size m 0 C :=
  ⟨_, heap_alloc_new _ _, by simp [madeCells], fun t R ht => by omega⟩
theorem Tryz.infoList : (Tryz.prog.info? 105).map (fun i => (i.zero, i.size, i.bytes)) = some (some (.slice none 0 0), 1, 24) := by kernel_rfl
set_option maxHeartbeats 800000 in
theorem copyLists_any (ao : Option Addr) (m ca : Nat) (C : List (List (List Int))) (w : World) (hC : CubeAt w ao m C) (hm : m ≤ 4096) (hl : ∀ R ∈ C, R.length ≤ 4096 ∧ ∀ t, t < R.length → (rowOf R t).length ≤ 1048576) :
   Calls Tryz.prog 68 #[.slice ao m ca] w fun e w' => e = .returned (.slice (some ⟨w.heap.size, 0, none⟩) m m) ∧ Lists w' w.heap.size m m C ∧ Below w.heap.size w w' := by
  have hmk := run_make_row' (P := Tryz.prog) 26 105 (.slice none 0 0) 24 Tryz.underlying26 Tryz.infoList rfl .i64 .i64 m (by omega) (by omega)
  have F0 := lists_made w m C
  have B0 : Below w.heap.size w (w.alloc (.cells (madeCells #[.slice none 0 0] m) 105)) := (Below.refl _ _).alloc (Nat.le_refl _) _
  go_enter Tryz.func68, Tryz.ntmps68
  go_wp2
  clear hmk
  generalize w.alloc (.cells (madeCells #[.slice none 0 0] m) 105) = w0 at *
  go_loopg [11] m (fun r i wr => ∃ k : Nat, k ≤ m ∧ r = m - k ∧ i = .int .i64 k ∧ Lists wr w.heap.size m k C ∧ Below w.heap.size w wr)
  case atStart => exact ⟨0, by omega, by omega, rfl, F0, B0⟩
  case round =>
    obtain ⟨k, hk, rfl, rfl, F1, B1⟩ := hrel
    clear F0 B0
    by_cases hlt : k < m
    · obtain ⟨b, o, rfl, hc⟩ := (hC.below B1).cells (by omega)
      have hR : C[k]? = some (C[k]'(by rw [hC.len]; exact hlt)) := List.getElem?_eq_getElem _
      have hmem : C[k]'(by rw [hC.len]; exact hlt) ∈ C := List.getElem_mem _
      generalize C[k]'(by rw [hC.len]; exact hlt) = R at hR hmem
      obtain ⟨ro, n, c, h1, h2, h3, h4, G1⟩ := hc k R hR
      clear hc
      obtain ⟨q1, q2⟩ := hl R hmem
      rw [G1.len] at q1 q2
      go_wp2_with fail
      refine (copyRows_any ro n c R wr G1 q1 q2).mono ?_
      rintro e w2 ⟨g, vs, rfl, N2, B2⟩
      have s1 := F1.lt
      have F2 := (F1.below B2)
      have F3 := F2.step hlt hR (fun h => by cases h) (N2.mono (by omega))
      have ff := F2.frozen k
      obtain ⟨v, hv⟩ := F2.cell hlt
      have B3 := below_then B1 B2
      clear N2 F1 hR h2 h3 h4
      go_wp2
      go_roundg (m - (k + 1))
      case measure => omega
      case rel => exact ⟨k + 1, by omega, rfl, by go_num, F3, B3.setCell (Nat.le_refl _) _⟩
    · obtain rfl : k = m := by omega
      go_wp2
      go_ret
      exact ⟨rfl, F1, B1⟩
end Go.Proofs.YtcanjlofnpnhkaaGreatDoor

/- Package step: which tokens and lists fit; a view's copy. -/
namespace Go.Proofs.YtcanjlofnpnhkaaGreatDoor
open Go.ChangeShapes Go.WideShapes Go.ChangeAt Go.RowKit
/-- Is it a token? -/
def tokB (V x : Int) : Bool := decide (0 ≤ x ∧ x < V)
/-- The error's number of a row of tokens that are asked for. -/
def promptN (V : Int) (A : List Int) : Int := if A.length = 0 then 8 else if 128 < A.length then 2 else if A.all (tokB V) = true then 0 else 7
theorem all_take_el {A : List Int} {k : Nat} {p : Int → Bool} (hk : k < A.length) : (A.take (k + 1)).all p = ((A.take k).all p && p (el A k)) := by
  have e : A[k]? = some (el A k) := by unfold el; simp [List.getD_eq_getElem?_getD, List.getElem?_eq_getElem hk]
  rw [List.take_add_one, e, List.all_append]; simp
theorem all_el {A : List Int} {p : Int → Bool} {k : Nat} (hk : k < A.length) (h : A.all p = true) : p (el A k) = true := by
  have := List.all_eq_true.1 h (el A k) (el_mem hk)
  exact this
theorem all_not {A : List Int} {p : Int → Bool} {k : Nat} (hk : k < A.length) (h : p (el A k) = false) : A.all p = false := by
  cases e : A.all p with
  | false => rfl
  | true => rw [all_el hk e] at h; cases h
theorem prompt_any (V D Hd H L : Int) (ao : Option Addr) (n ca : Nat) (A : List Int) (w : World) (hA : IArg w ao n ca A) :
   Calls Tryz.prog 26 #[.agg (cfgC V D Hd H L), .slice ao n ca] w fun e w' => e = .returned (.int .i64 (promptN V A)) ∧ Below w.heap.size w w' := by
  have hl := hA.row.len
  have hm := hA.row.max
  have X0 := blk_new w 23 (cfgC V D Hd H L)
  have B0 : Below w.heap.size w (w.alloc (.cells (cfgC V D Hd H L) 23)) := (Below.refl _ _).alloc (Nat.le_refl _) _
  unfold cfgC at *
  generalize hw0 : w.alloc (.cells #[.int .i64 V, .int .i64 D, .int .i64 Hd, .int .i64 H, .int .i64 L] 23) = w0 at *
  have a0 : w0.cell? ⟨w.heap.size, 0, none⟩ = some (.int .i64 V) := X0.cell 0 rfl
  have R := hA.row.below B0
  clear hA
  have HN : Hid (promptN V A = if A.length = 0 then 8 else if 128 < A.length then 2 else if A.all (tokB V) = true then 0 else 7) := rfl
  generalize promptN V A = res at *
  by_cases h0 : n = 0
  · subst h0
    have HF : Hid (res = 8) := by show _ = _; rw [HN.out, hl]; rfl
    clear HN
    go_enter Tryz.func26, Tryz.ntmps26
    go_wp2
    go_ret
    exact ⟨ret_int HF.out.symm, B0⟩
  · by_cases h1 : 128 < n
    · have HF : Hid (res = 2) := by show _ = _; rw [HN.out, hl, if_neg h0, if_pos h1]
      clear HN
      go_enter Tryz.func26, Tryz.ntmps26
      go_wp2
      go_ret
      exact ⟨ret_int HF.out.symm, B0⟩
    · have HF : Hid (res = if A.all (tokB V) = true then 0 else 7) := by show _ = _; rw [HN.out, hl, if_neg h0, if_neg h1]
      clear HN
      obtain ⟨b, o, rfl, hc⟩ := R.cells (by omega)
      have hz0 : ((n : Int) == 0) = false := by simpa using h0
      go_enter Tryz.func26, Tryz.ntmps26
      go_wp2_with fail
      go_loopg [15] n (fun r i wr => ∃ k : Nat, k ≤ n ∧ r = n - k ∧ i = .int .i64 k ∧ (A.take k).all (tokB V) = true ∧ wr = w0)
      case atStart => exact ⟨0, by omega, by omega, rfl, rfl, rfl⟩
      case round =>
        obtain ⟨k, hk, rfl, rfl, hall, rfl⟩ := hrel
        by_cases hlt : k < n
        · have ck := hc k hlt
          have sx := R.small k
          have HS : Hid ((A.take (k + 1)).all (tokB V) = ((A.take k).all (tokB V) && tokB V (el A k))) := all_take_el (by omega)
          have HB : Hid (tokB V (el A k) = false → A.all (tokB V) = false) := fun h => all_not (by omega) h
          have HT : Hid (tokB V (el A k) = decide (0 ≤ el A k ∧ el A k < V)) := rfl
          clear hc
          generalize el A k = x at *
          by_cases h2 : x < 0
          · have HR : Hid (res = 7) := by show _ = _; rw [HF.out, HB.out (by rw [HT.out]; exact decide_eq_false (by omega))]; rfl
            clear HF HS HB HT
            go_wp2
            go_ret
            exact ⟨ret_int HR.out.symm, B0⟩
          · by_cases h3 : V ≤ x
            · have HR : Hid (res = 7) := by show _ = _; rw [HF.out, HB.out (by rw [HT.out]; exact decide_eq_false (by omega))]; rfl
              clear HF HS HB HT
              go_wp2
              go_ret
              exact ⟨ret_int HR.out.symm, B0⟩
            · have HA : Hid ((A.take (k + 1)).all (tokB V) = true) := by show _ = _; rw [HS.out, hall, HT.out, decide_eq_true (by omega)]; rfl
              clear HS HB HT
              go_wp2
              go_roundg (n - (k + 1))
              case measure => omega
              case rel => exact ⟨k + 1, by omega, rfl, by go_num, HA.out, rfl⟩
        · obtain rfl : k = n := by omega
          rw [← hl, List.take_length] at hall
          have HR : Hid (res = 0) := by show _ = _; rw [HF.out, hall]; rfl
          clear HF
          go_wp2
          go_ret
          exact ⟨ret_int HR.out.symm, B0⟩
theorem isToken_any (V D Hd H L : Int) (x : Int) (w : World) :
   Calls Tryz.prog 47 #[.agg (cfgC V D Hd H L), .int .i64 x] w fun e w' => e = .returned (.bool (tokB V x)) ∧ Below w.heap.size w w' := by
  have X0 := blk_new w 23 (cfgC V D Hd H L)
  have B0 : Below w.heap.size w (w.alloc (.cells (cfgC V D Hd H L) 23)) := (Below.refl _ _).alloc (Nat.le_refl _) _
  unfold cfgC at *
  generalize hw0 : w.alloc (.cells #[.int .i64 V, .int .i64 D, .int .i64 Hd, .int .i64 H, .int .i64 L] 23) = w0 at *
  have a0 : w0.cell? ⟨w.heap.size, 0, none⟩ = some (.int .i64 V) := X0.cell 0 rfl
  have HT : Hid (tokB V x = decide (0 ≤ x ∧ x < V)) := rfl
  generalize tokB V x = res at *
  by_cases h2 : x < 0
  · have HR : Hid (res = false) := by show _ = _; rw [HT.out]; exact decide_eq_false (by omega)
    clear HT
    go_enter Tryz.func47, Tryz.ntmps47
    go_wp2
    go_ret
    exact ⟨by rw [HR.out]; rfl, B0⟩
  · by_cases h3 : V ≤ x
    · have HR : Hid (res = false) := by show _ = _; rw [HT.out]; exact decide_eq_false (by omega)
      have h3' : ¬ x < V := by omega
      clear HT
      go_enter Tryz.func47, Tryz.ntmps47
      go_wp2
      go_ret
      exact ⟨by rw [HR.out]; rfl, B0⟩
    · have HR : Hid (res = true) := by show _ = _; rw [HT.out]; exact decide_eq_true (by omega)
      clear HT
      go_enter Tryz.func47, Tryz.ntmps47
      go_wp2
      go_ret
      exact ⟨by rw [HR.out]; rfl, B0⟩
set_option maxHeartbeats 800000 in
theorem listsFit_ok (V : Int) (D : Nat) (Hd H : Int) (m : Nat) (ao : Option Addr) (ca n : Nat) (C : List (List (List Int))) (w : World) (hC : CubeAt w ao m C) (hf : ∀ R ∈ C, R.length = n ∧ ∀ t, t < n → (rowOf R t).length = D) (hn : n ≤ 4096) (hD : D ≤ 4096) :
   Calls Tryz.prog 50 #[.agg (cfgC V D Hd H m), .slice ao m ca, .int .i64 n] w fun e w' => e = .returned (.bool true) ∧ Below w.heap.size w w' := by
  have hm := hC.max
  have X0 := blk_new w 23 (cfgC V D Hd H m)
  have B0 : Below w.heap.size w (w.alloc (.cells (cfgC V D Hd H m) 23)) := (Below.refl _ _).alloc (Nat.le_refl _) _
  unfold cfgC at *
  generalize hw0 : w.alloc (.cells #[.int .i64 V, .int .i64 (D : Int), .int .i64 Hd, .int .i64 H, .int .i64 (m : Int)] 23) = w0 at *
  have a1 : w0.cell? ⟨w.heap.size, 1, none⟩ = some (.int .i64 (D : Int)) := X0.cell 1 rfl
  have a4 : w0.cell? ⟨w.heap.size, 4, none⟩ = some (.int .i64 (m : Int)) := X0.cell 4 rfl
  replace hC := hC.below B0
  go_enter Tryz.func50, Tryz.ntmps50
  go_wp2_with fail
  go_loopg [18] m (fun r i wr => ∃ k : Nat, k ≤ m ∧ r = m - k ∧ i = .int .i64 k ∧ wr = w0)
  case atStart => exact ⟨0, by omega, by omega, rfl, rfl⟩
  case round =>
    obtain ⟨k, hk, rfl, rfl, rfl⟩ := hrel
    by_cases hlt : k < m
    · obtain ⟨b, o, rfl, hc⟩ := hC.cells (by omega)
      have hR : C[k]? = some (C[k]'(by rw [hC.len]; exact hlt)) := List.getElem?_eq_getElem _
      have hmem : C[k]'(by rw [hC.len]; exact hlt) ∈ C := List.getElem_mem _
      generalize C[k]'(by rw [hC.len]; exact hlt) = R at hR hmem
      obtain ⟨ro, n', c, h1, h2, h3, h4, G1⟩ := hc k R hR
      obtain ⟨q1, q2⟩ := hf R hmem
      obtain rfl : n' = n := by rw [← q1, G1.len]
      clear hc h2 h3 h4 q1 hR
      go_wp2_with fail
      go_loopg [28] n' (fun r i wx => ∃ j : Nat, j ≤ n' ∧ r = n' - j ∧ i = .int .i64 j ∧ wx = wr)
      case atStart => exact ⟨0, by omega, by omega, rfl, rfl⟩
      case round =>
        obtain ⟨j, hj, rfl, rfl, rfl⟩ := hrel
        by_cases hjt : j < n'
        · obtain ⟨b2, o2, rfl, hc⟩ := G1.cells (by omega)
          obtain ⟨ro2, d, c2, e1, A1⟩ := hc j hjt
          obtain rfl : d = D := by rw [← q2 j hjt, A1.row.len]
          clear hc A1
          go_wp2
          go_roundg (n' - (j + 1))
          case measure => omega
          case rel => exact ⟨j + 1, by omega, rfl, by go_num, rfl⟩
        · obtain rfl : j = n' := by omega
          go_wp2
          go_roundg (m - (k + 1))
          case measure => omega
          case rel => exact ⟨k + 1, by omega, rfl, by go_num, rfl⟩
    · obtain rfl : k = m := by omega
      go_wp2
      go_ret
      exact ⟨rfl, B0⟩
/-- A view: its tokens, and the lists of its keys and values. -/
structure Vw where
  T : List Int
  K : List (List (List Int))
  V : List (List (List Int))
/-- A view's values. -/
structure VwV where
  t : Sl
  k : Sl
  v : Sl
def VwV.cells (v : VwV) : Array Value := #[v.t.v, v.k.v, v.v.v]
structure VwAt (w : World) (v : VwV) (X : Vw) : Prop where
  t : IArg w v.t.ao v.t.n v.t.c X.T
  k : CubeAt w v.k.ao v.k.n X.K
  v : CubeAt w v.v.ao v.v.n X.V
theorem VwAt.below {w w' : World} {v : VwV} {X : Vw} (h : VwAt w v X) (hb : Below w.heap.size w w') : VwAt w' v X := ⟨h.t.below hb, h.k.below hb, h.v.below hb⟩
/-- A view that fits: of nothing, or of tokens with as many rows in each list. -/
structure VwFit (V : Int) (D L : Nat) (X : Vw) : Prop where
  most : X.T.length ≤ 128
  toks : X.T.all (tokB V) = true
  k : X.K.length = if X.T.length = 0 then 0 else L
  v : X.V.length = if X.T.length = 0 then 0 else L
  ks : ∀ R ∈ X.K, R.length = X.T.length ∧ ∀ t, t < X.T.length → (rowOf R t).length = D
  vs : ∀ R ∈ X.V, R.length = X.T.length ∧ ∀ t, t < X.T.length → (rowOf R t).length = D
theorem Tryz.infoV : (Tryz.prog.info? 48).map (·.size) = some 3 := by kernel_rfl
theorem Tryz.infoC : (Tryz.prog.info? 23).map (·.size) = some 5 := by kernel_rfl
set_option maxRecDepth 100000 in
set_option maxHeartbeats 1600000 in
theorem sfits_ok (V : Int) (D : Nat) (Hd H : Int) (L : Nat) (v : VwV) (X : Vw) (w : World) (hv : VwAt w v X) (hf : VwFit V D L X) (hD : D ≤ 4096) :
   Calls Tryz.prog 28 #[.agg (cfgC V D Hd H L), .agg v.cells] w fun e w' => e = .returned (.bool true) ∧ Below w.heap.size w w' := by
  obtain ⟨⟨ta, tn, tz⟩, ⟨ka, kn, kz⟩, ⟨va, vn, vz⟩⟩ := v
  have hT := hv.t.row
  have hK := hv.k
  have hV := hv.v
  clear hv
  simp only at hT hK hV
  have hl := hT.len
  have most := hf.most
  have kl := hK.len
  have vl := hV.len
  have e1 := hf.k
  have e2 := hf.v
  rw [hl] at most e1 e2
  rw [kl] at e1
  rw [vl] at e2
  show Calls Tryz.prog 28 #[.agg #[.int .i64 V, .int .i64 (D : Int), .int .i64 Hd, .int .i64 H, .int .i64 (L : Int)], .agg #[.slice ta tn tz, .slice ka kn kz, .slice va vn vz]] w _
  have X0 := blk_new w 23 #[.int .i64 V, .int .i64 (D : Int), .int .i64 Hd, .int .i64 H, .int .i64 (L : Int)]
  have B0 : Below w.heap.size w (w.alloc (.cells #[.int .i64 V, .int .i64 (D : Int), .int .i64 Hd, .int .i64 H, .int .i64 (L : Int)] 23)) := (Below.refl _ _).alloc (Nat.le_refl _) _
  have s0 : (w.alloc (.cells #[.int .i64 V, .int .i64 (D : Int), .int .i64 Hd, .int .i64 H, .int .i64 (L : Int)] 23)).heap.size = w.heap.size + 1 := by simp
  generalize hw0 : w.alloc (.cells #[.int .i64 V, .int .i64 (D : Int), .int .i64 Hd, .int .i64 H, .int .i64 (L : Int)] 23) = w0 at *
  have X1 := blk_new w0 48 #[.slice ta tn tz, .slice ka kn kz, .slice va vn vz]
  have B1 : Below w0.heap.size w0 (w0.alloc (.cells #[.slice ta tn tz, .slice ka kn kz, .slice va vn vz] 48)) := (Below.refl _ _).alloc (Nat.le_refl _) _
  rw [s0] at X1
  generalize hw1 : w0.alloc (.cells #[.slice ta tn tz, .slice ka kn kz, .slice va vn vz] 48) = w1 at *
  replace X0 := X0.below B1
  replace B1 := below_then B0 B1
  have b0 : w1.cell? ⟨w.heap.size + 1, 0, none⟩ = some (.slice ta tn tz) := X1.cell 0 rfl
  have b1 : w1.cell? ⟨w.heap.size + 1, 1, none⟩ = some (.slice ka kn kz) := X1.cell 1 rfl
  have b2 : w1.cell? ⟨w.heap.size + 1, 2, none⟩ = some (.slice va vn vz) := X1.cell 2 rfl
  by_cases h0 : tn = 0
  · subst h0
    rw [if_pos rfl] at e1 e2
    subst e1 e2
    go_enter Tryz.func28, Tryz.ntmps28
    go_wp2
    go_ret
    exact ⟨rfl, B1⟩
  · rw [if_neg h0] at e1 e2
    subst e1
    obtain rfl : vn = kn := e2
    have HK := fun wv (h : CubeAt wv ka vn X.K) => listsFit_ok V D Hd H vn ka kz tn X.K wv h (by rw [← hl]; exact hf.ks) (by omega) hD
    have HV := fun wv (h : CubeAt wv va vn X.V) => listsFit_ok V D Hd H vn va vz tn X.V wv h (by rw [← hl]; exact hf.vs) (by omega) hD
    have HI := fun wv x => isToken_any V D Hd H vn x wv
    have tk := hf.toks
    clear hf
    unfold cfgC at HK HV HI
    replace hT := hT.below B1
    obtain ⟨b, o, rfl, hc⟩ := hT.cells (by omega)
    have hz0 : ((tn : Int) == 0) = false := by simpa using h0
    go_enter Tryz.func28, Tryz.ntmps28
    go_wp2_with fail
    go_loopg [30] tn (fun r i wr => ∃ k : Nat, k ≤ tn ∧ r = tn - k ∧ i = .int .i64 k ∧ Below w1.heap.size w1 wr)
    case atStart => exact ⟨0, by omega, by omega, rfl, Below.refl _ _⟩
    case round =>
      obtain ⟨k, hk, rfl, rfl, BR⟩ := hrel
      have Y0 := X0.below BR
      have Y1 := X1.below BR
      have a0 : wr.cell? ⟨w.heap.size, 0, none⟩ = some (.int .i64 V) := Y0.cell 0 rfl
      have a1 : wr.cell? ⟨w.heap.size, 1, none⟩ = some (.int .i64 (D : Int)) := Y0.cell 1 rfl
      have a2 : wr.cell? ⟨w.heap.size, 2, none⟩ = some (.int .i64 Hd) := Y0.cell 2 rfl
      have a3 : wr.cell? ⟨w.heap.size, 3, none⟩ = some (.int .i64 H) := Y0.cell 3 rfl
      have a4 : wr.cell? ⟨w.heap.size, 4, none⟩ = some (.int .i64 (vn : Int)) := Y0.cell 4 rfl
      clear b0 b1 b2
      by_cases hlt : k < tn
      · have ck : wr.cell? ⟨b, o + k, none⟩ = some (.int .i64 (el X.T k)) := by
          have h1 := hc k hlt
          have hb : b < w1.heap.size := by simpa using World.block_lt_of_cell? w1 _ h1
          rw [BR.cell (by exact hb)]
          exact h1
        have tx := all_el (k := k) (by rw [hl]; exact hlt) tk
        generalize el X.T k = x at *
        go_wp2_with fail
        refine (HI _ x).mono ?_
        rintro e w2 ⟨rfl, B2⟩
        rw [tx]
        have B3 := below_then BR B2
        go_wp2
        go_roundg (tn - (k + 1))
        case measure => omega
        case rel => exact ⟨k + 1, by omega, rfl, by go_num, B3⟩
      · obtain rfl : k = tn := by omega
        have b0 : wr.cell? ⟨w.heap.size + 1, 0, none⟩ = some (.slice (some ⟨b, o, none⟩) k tz) := Y1.cell 0 rfl
        have b1 : wr.cell? ⟨w.heap.size + 1, 1, none⟩ = some (.slice ka vn kz) := Y1.cell 1 rfl
        have b2 : wr.cell? ⟨w.heap.size + 1, 2, none⟩ = some (.slice va vn vz) := Y1.cell 2 rfl
        have BW := below_then B1 BR
        go_wp2_with fail
        refine (HK _ (hK.below BW)).mono ?_
        rintro e w2 ⟨rfl, B2⟩
        have BX := below_then BW B2
        replace Y0 := Y0.below B2
        replace Y1 := Y1.below B2
        clear a0 a1 a2 a3 a4 b0 b1 b2
        have a0 : w2.cell? ⟨w.heap.size, 0, none⟩ = some (.int .i64 V) := Y0.cell 0 rfl
        have a1 : w2.cell? ⟨w.heap.size, 1, none⟩ = some (.int .i64 (D : Int)) := Y0.cell 1 rfl
        have a2 : w2.cell? ⟨w.heap.size, 2, none⟩ = some (.int .i64 Hd) := Y0.cell 2 rfl
        have a3 : w2.cell? ⟨w.heap.size, 3, none⟩ = some (.int .i64 H) := Y0.cell 3 rfl
        have a4 : w2.cell? ⟨w.heap.size, 4, none⟩ = some (.int .i64 (vn : Int)) := Y0.cell 4 rfl
        have b0 : w2.cell? ⟨w.heap.size + 1, 0, none⟩ = some (.slice (some ⟨b, o, none⟩) k tz) := Y1.cell 0 rfl
        have b2 : w2.cell? ⟨w.heap.size + 1, 2, none⟩ = some (.slice va vn vz) := Y1.cell 2 rfl
        go_wp2_with fail
        refine (HV _ (hV.below BX)).mono ?_
        rintro e w3 ⟨rfl, B3⟩
        go_wp2
        go_ret
        exact ⟨rfl, below_then BX B3⟩
/-- A row of the call's own, told anew. -/
theorem owns_mono {w w' : World} {B B' n : Nat} {e : TypeId} {v : Value} {xs : List Value} (h : w.ownsRow B e 1 v n xs) (hB : B' ≤ B) (hb : ∀ b, v.ownBlock = some b → w'.heap[b]? = w.heap[b]?) : w'.ownsRow B' e 1 v n xs := by
  refine ⟨h.1, ?_⟩
  rcases h.2 with h3 | ⟨g, cap, cur, hv, hg, hh, h4⟩
  · exact .inl h3
  · subst hv
    exact .inr ⟨g, cap, cur, rfl, by omega, (hb g rfl).trans hh, h4⟩
/-- The block g of m lists: those ahead of place i read as A's, the others, which are full, as C's; they hang on the blocks that p tells. -/
structure KV (w : World) (g m i : Nat) (p : Nat → Prop) (A C : List (List (List Int))) : Prop where
  row : ∃ cs : Array Value, w.heap[g]? = some (.cells cs 105 (0, 0)) ∧ cs.size = m ∧
    (∀ t, t < i → ∃ ro n c vs, cs[t]? = some (.slice ro n c) ∧ (ro = none → c = 0) ∧ n ≤ c ∧ c ≤ 9223372036854775807 ∧ Hangs p w (fun w => GridV w ro n vs (A.getD t []))) ∧
    (∀ t, i ≤ t → t < m → ∃ ro n vs, cs[t]? = some (.slice ro n n) ∧ (ro = none → n = 0) ∧ Hangs p w (fun w => GridV w ro n vs (C.getD t [])))
theorem KV.lt {w : World} {g m i : Nat} {p : Nat → Prop} {A C : List (List (List Int))} (h : KV w g m i p A C) : g < w.heap.size := by
  obtain ⟨cs, h1, _⟩ := h.row
  exact (Array.getElem?_eq_some_iff.1 h1).1
theorem KV.below {w w' : World} {g m i : Nat} {p : Nat → Prop} {A C : List (List (List Int))} (h : KV w g m i p A C) (hb : Below w.heap.size w w') : KV w' g m i p A C := by
  have hl := h.lt
  obtain ⟨cs, h1, h2, h3, h4⟩ := h.row
  exact ⟨cs, (hb.block g hl).trans h1, h2, fun t ht => let ⟨ro, n, c, vs, e, q1, q2, q3, N⟩ := h3 t ht; ⟨ro, n, c, vs, e, q1, q2, q3, N.below hb⟩, fun t ht h5 => let ⟨ro, n, vs, e, q1, N⟩ := h4 t ht h5; ⟨ro, n, vs, e, q1, N.below hb⟩⟩
theorem KV.mono {w : World} {g m i : Nat} {p q : Nat → Prop} {A C : List (List (List Int))} (h : KV w g m i p A C) (hq : ∀ b, b < w.heap.size → p b → q b) : KV w g m i q A C := by
  obtain ⟨cs, h1, h2, h3, h4⟩ := h.row
  exact ⟨cs, h1, h2, fun t ht => let ⟨ro, n, c, vs, e, q1, q2, q3, N⟩ := h3 t ht; ⟨ro, n, c, vs, e, q1, q2, q3, N.mono hq⟩, fun t ht h5 => let ⟨ro, n, vs, e, q1, N⟩ := h4 t ht h5; ⟨ro, n, vs, e, q1, N.mono hq⟩⟩
theorem KV.other {w w' : World} {g m i : Nat} {p : Nat → Prop} {A C : List (List (List Int))} (h : KV w g m i p A C) (hs : w'.heap.size = w.heap.size) (hg : w'.heap[g]? = w.heap[g]?) (ho : ∀ b, p b → w'.heap[b]? = w.heap[b]?) : KV w' g m i p A C := by
  obtain ⟨cs, h1, h2, h3, h4⟩ := h.row
  exact ⟨cs, hg.trans h1, h2, fun t ht => let ⟨ro, n, c, vs, e, q1, q2, q3, N⟩ := h3 t ht; ⟨ro, n, c, vs, e, q1, q2, q3, N.other hs ho⟩, fun t ht h5 => let ⟨ro, n, vs, e, q1, N⟩ := h4 t ht h5; ⟨ro, n, vs, e, q1, N.other hs ho⟩⟩
theorem KV.put {w : World} {g m i : Nat} {p : Nat → Prop} {A C : List (List (List Int))} (h : KV w g m i p A C) {g2 : Nat} (hg : g2 ≠ g) (hp : ¬ p g2) (cs : Array Value) : KV (w.setRow g2 cs) g m i p A C :=
  h.other (by simp [World.setRow]) (setRow_other _ _ _ _ (Ne.symm hg)) fun b hb => setRow_other _ _ _ _ (fun e => hp (by rw [← e]; exact hb))
theorem KV.far {w : World} {g m i : Nat} {p : Nat → Prop} {A C : List (List (List Int))} (h : KV w g m i p A C) {a : Addr} (hg : a.block ≠ g) (hp : ¬ p a.block) (v : Value) : KV (w.setCell a v) g m i p A C :=
  h.other (by simp [World.setCell]) (Below.heap_setCell _ _ _ _ (Ne.symm hg)) fun b hb => Below.heap_setCell _ _ _ _ (fun e => hp (by rw [← e]; exact hb))
theorem KV.frozen {w : World} {g m i : Nat} {p : Nat → Prop} {A C : List (List (List Int))} (h : KV w g m i p A C) (t : Nat) : w.frozen? ⟨g, t, none⟩ = false := by
  obtain ⟨cs, h1, _⟩ := h.row
  unfold World.frozen?; simp only [h1]; rfl
/-- The list at place i. -/
theorem KV.at {w : World} {g m i : Nat} {p : Nat → Prop} {A C : List (List (List Int))} (h : KV w g m i p A C) (hi : i < m) : ∃ ro n vs, w.cell? ⟨g, i, none⟩ = some (.slice ro n n) ∧ (ro = none → n = 0) ∧ Hangs p w (fun w => GridV w ro n vs (C.getD i [])) := by
  obtain ⟨cs, h1, h2, h3, h4⟩ := h.row
  obtain ⟨ro, n, vs, e, q1, N⟩ := h4 i (Nat.le_refl _) hi
  refine ⟨ro, n, vs, ?_, q1, N⟩
  unfold World.cell?; simp only [h1]; exact e
/-- The list at place i is told anew. -/
theorem KV.step {w : World} {g m i : Nat} {p : Nat → Prop} {A C : List (List (List Int))} (h : KV w g m i p A C) (hi : i < m) (hp : ¬ p g) {ro : Option Addr} {n c : Nat} {vs : List Value} (q1 : ro = none → c = 0) (q2 : n ≤ c) (q3 : c ≤ 9223372036854775807) (N : Hangs p w fun w => GridV w ro n vs (A.getD i [])) : KV (w.setCell ⟨g, i, none⟩ (.slice ro n c)) g m (i + 1) p A C := by
  obtain ⟨cs, h1, h2, h3, h4⟩ := h.row
  refine ⟨cs.setIfInBounds i (.slice ro n c), by simp [World.setCell, Array.getElem?_modify, h1], by simpa using h2, fun t ht => ?_, fun t ht h5 => ?_⟩
  · rw [Array.getElem?_setIfInBounds]
    by_cases e : i = t
    · subst e
      rw [if_pos rfl, if_pos (by omega)]
      exact ⟨ro, n, c, vs, rfl, q1, q2, q3, N.set hp _⟩
    · rw [if_neg e]
      obtain ⟨ro', n', c', vs', e2, x1, x2, x3, N'⟩ := h3 t (by omega)
      exact ⟨ro', n', c', vs', e2, x1, x2, x3, N'.set hp _⟩
  · rw [Array.getElem?_setIfInBounds, if_neg (by omega)]
    obtain ⟨ro', n', vs', e2, x1, N'⟩ := h4 t (by omega) h5
    exact ⟨ro', n', vs', e2, x1, N'.set hp _⟩
theorem Lists.kv {w : World} {g m : Nat} {C : List (List (List Int))} (h : Lists w g m m C) (hl : C.length = m) (A : List (List (List Int))) : KV w g m 0 (fun b => g < b ∧ b < w.heap.size) A C := by
  obtain ⟨cs, h1, h2, h3⟩ := h.row
  refine ⟨cs, h1, h2, fun t ht => by omega, fun t _ ht => ?_⟩
  have e : C[t]? = some (C.getD t []) := by rw [List.getD_eq_getElem?_getD, List.getElem?_eq_getElem (by omega)]; rfl
  obtain ⟨ro, n, vs, e2, q1, N⟩ := h3 t _ ht e
  exact ⟨ro, n, vs, e2, q1, Hangs.mono N fun b hb h => ⟨h, hb⟩⟩
set_option maxRecDepth 100000 in
set_option maxHeartbeats 1600000 in
theorem scopy_any (v : VwV) (X : Vw) (A1 A2 : List (List (List Int))) (w : World) (hv : VwAt w v X) (hT : X.T.length ≤ 4096) (hk : X.K.length ≤ 4096) (hvl : X.V.length ≤ 4096) (hks : ∀ R ∈ X.K, R.length ≤ 4096 ∧ ∀ t, t < R.length → (rowOf R t).length ≤ 1048576) (hvs : ∀ R ∈ X.V, R.length ≤ 4096 ∧ ∀ t, t < R.length → (rowOf R t).length ≤ 1048576) :
   Calls Tryz.prog 58 #[.agg v.cells] w fun e w' => ∃ tv gk gv, e = .returned (.agg #[tv, .slice (some ⟨gk, 0, none⟩) X.K.length X.K.length, .slice (some ⟨gv, 0, none⟩) X.V.length X.V.length]) ∧ IOwn w' w.heap.size tv X.T.length X.T ∧ KV w' gk X.K.length 0 (fun b => gk < b ∧ b < gv) A1 X.K ∧ KV w' gv X.V.length 0 (fun b => gv < b) A2 X.V ∧ w.heap.size + 1 < gk ∧ gk < gv ∧ (∀ b, tv.ownBlock = some b → b < gk) ∧ Below w.heap.size w w' := by
  obtain ⟨⟨ta, tn, tz⟩, ⟨ka, kn, kz⟩, ⟨va, vn, vz⟩⟩ := v
  have aT := hv.t
  have aK := hv.k
  have aV := hv.v
  clear hv
  simp only at aT aK aV
  have hl := aT.row.len
  have kl := aK.len
  have vl := aV.len
  show Calls Tryz.prog 58 #[.agg #[.slice ta tn tz, .slice ka kn kz, .slice va vn vz]] w _
  have X0 := blk_new w 48 #[.slice ta tn tz, .slice ka kn kz, .slice va vn vz]
  have B0 : Below w.heap.size w (w.alloc (.cells #[.slice ta tn tz, .slice ka kn kz, .slice va vn vz] 48)) := (Below.refl _ _).alloc (Nat.le_refl _) _
  have s0 : (w.alloc (.cells #[.slice ta tn tz, .slice ka kn kz, .slice va vn vz] 48)).heap.size = w.heap.size + 1 := by simp
  generalize hw0 : w.alloc (.cells #[.slice ta tn tz, .slice ka kn kz, .slice va vn vz] 48) = w0 at *
  have X1 := blk_new w0 48 #[.slice none 0 0, .slice none 0 0, .slice none 0 0]
  have B1 : Below w0.heap.size w0 (w0.alloc (.cells #[.slice none 0 0, .slice none 0 0, .slice none 0 0] 48)) := (Below.refl _ _).alloc (Nat.le_refl _) _
  have s1 : (w0.alloc (.cells #[.slice none 0 0, .slice none 0 0, .slice none 0 0] 48)).heap.size = w0.heap.size + 1 := by simp
  rw [s0] at X1 s1
  generalize hw1 : w0.alloc (.cells #[.slice none 0 0, .slice none 0 0, .slice none 0 0] 48) = w1 at *
  replace X0 := X0.below B1
  replace B1 := below_then B0 B1
  go_enter Tryz.func58, Tryz.ntmps58
  go_wp2_with fail
  clear hw0 hw1 s0 B0
  replace X0 := X0.below ((Below.refl _ _).drew)
  replace X1 := X1.below ((Below.refl _ _).drew)
  replace B1 := B1.drew
  have aT1 := aT.below B1
  have s1' : w.heap.size + 1 + 1 ≤ w1.drew.heap.size := by show _ ≤ w1.heap.size; omega
  refine wp_region_held_drew (S := fun w' => Blk w' w.heap.size 48 #[.slice ta tn tz, .slice ka kn kz, .slice va vn vz]) (by kernel_rfl) (X0) (fun hHeld => ?_)
  refine wpAnyH_take (i := 0) (v := (.pointer (some ⟨w.heap.size, 0, none⟩))) rfl (by kernel_rfl) (by kernel_rfl) (by kernel_rfl) (fun _ _ _ h => h) (Or.inl ⟨by rfl, ?_⟩) (by assumption) ?_
  · intro w' hSw
    go_simp
  simp only [List.getElem_toArray, List.getElem_cons_zero, Act.put, List.setIfInBounds_toArray, List.set_cons_zero, List.set_cons_succ]
  refine wpAnyH_take (i := 1) (v := (.slice ta tn tz)) rfl (by kernel_rfl) (by kernel_rfl) (by kernel_rfl) (fun _ _ _ h => h) (Or.inl ⟨by rfl, ?_⟩) (by assumption) ?_
  · intro w' hSw
    have c0 : w'.cell? ⟨w.heap.size, 0, none⟩ = some (.slice ta tn tz) := hSw.cell 0 rfl
    go_simp
  simp only [List.getElem_toArray, List.getElem_cons_succ, List.getElem_cons_zero, Act.put, List.setIfInBounds_toArray, List.set_cons_zero, List.set_cons_succ]
  refine wpAnyH_take (i := 3) (v := (.pointer (some ⟨w.heap.size, 1, none⟩))) rfl (by kernel_rfl) (by kernel_rfl) (by kernel_rfl) (fun _ _ _ h => h) (Or.inl ⟨by rfl, ?_⟩) (by assumption) ?_
  · intro w' hSw
    go_simp
  simp only [List.getElem_toArray, List.getElem_cons_succ, List.getElem_cons_zero, Act.put, List.setIfInBounds_toArray, List.set_cons_zero, List.set_cons_succ]
  refine wpAnyH_take (i := 4) (v := (.pointer (some ⟨w.heap.size, 1, none⟩))) rfl (by kernel_rfl) (by kernel_rfl) (by kernel_rfl) (fun _ _ _ h => h) (Or.inl ⟨by rfl, ?_⟩) (by assumption) ?_
  · intro w' hSw
    go_simp
  simp only [List.getElem_toArray, List.getElem_cons_succ, List.getElem_cons_zero, Act.put, List.setIfInBounds_toArray, List.set_cons_zero, List.set_cons_succ]
  refine wpAnyH_take (i := 5) (v := (.slice ka kn kz)) rfl (by kernel_rfl) (by kernel_rfl) (by kernel_rfl) (fun _ _ _ h => h) (Or.inl ⟨by rfl, ?_⟩) (by assumption) ?_
  · intro w' hSw
    have c1 : w'.cell? ⟨w.heap.size, 1, none⟩ = some (.slice ka kn kz) := hSw.cell 1 rfl
    go_simp
  simp only [List.getElem_toArray, List.getElem_cons_succ, List.getElem_cons_zero, Act.put, List.setIfInBounds_toArray, List.set_cons_zero, List.set_cons_succ]
  refine wpAnyH_take (i := 7) (v := (.pointer (some ⟨w.heap.size, 1, none⟩))) rfl (by kernel_rfl) (by kernel_rfl) (by kernel_rfl) (fun _ _ _ h => h) (Or.inl ⟨by rfl, ?_⟩) (by assumption) ?_
  · intro w' hSw
    go_simp
  simp only [List.getElem_toArray, List.getElem_cons_succ, List.getElem_cons_zero, Act.put, List.setIfInBounds_toArray, List.set_cons_zero, List.set_cons_succ]
  refine wpAnyH_take (i := 8) (v := (.pointer (some ⟨w.heap.size, 2, none⟩))) rfl (by kernel_rfl) (by kernel_rfl) (by kernel_rfl) (fun _ _ _ h => h) (Or.inl ⟨by rfl, ?_⟩) (by assumption) ?_
  · intro w' hSw
    go_simp
  simp only [List.getElem_toArray, List.getElem_cons_succ, List.getElem_cons_zero, Act.put, List.setIfInBounds_toArray, List.set_cons_zero, List.set_cons_succ]
  refine wpAnyH_take (i := 9) (v := (.slice va vn vz)) rfl (by kernel_rfl) (by kernel_rfl) (by kernel_rfl) (fun _ _ _ h => h) (Or.inl ⟨by rfl, ?_⟩) (by assumption) ?_
  · intro w' hSw
    have c2 : w'.cell? ⟨w.heap.size, 2, none⟩ = some (.slice va vn vz) := hSw.cell 2 rfl
    go_simp
  simp only [List.getElem_toArray, List.getElem_cons_succ, List.getElem_cons_zero, Act.put, List.setIfInBounds_toArray, List.set_cons_zero, List.set_cons_succ]
  refine wpAnyH_ready (rs := [2]) (by kernel_rfl) (by simp) ?_
  refine AllReadyH.cons rfl (fun Kc hKc => ?_) AllReadyH.nil
  simp only [List.getElem_toArray, List.getElem_cons_succ, List.getElem_cons_zero]
  rw [if_pos (by rfl)]
  go_wp2_with fail
  refine (iclone_any _ _ _ X.T _ aT1 (by omega)).mono ?_
  rintro e w2 ⟨tv, rfl, O2, B2⟩
  replace X0 := X0.below B2
  replace X1 := X1.below B2
  have D2 := below_then B1 B2
  have s2 := B2.size
  have aK2 := aK.below D2
  go_wp2_with fail
  refine hKc.out _ _ (X0) (fun hHeld => ?_)
  clear hKc Kc
  refine wpAnyH_ready (rs := [6]) (by kernel_rfl) (by simp) ?_
  refine AllReadyH.cons rfl (fun Kc hKc => ?_) AllReadyH.nil
  simp only [List.getElem_toArray, List.getElem_cons_succ, List.getElem_cons_zero]
  rw [if_pos (by rfl)]
  go_wp2_with fail
  refine (copyLists_any _ _ _ X.K _ aK2 (by omega) hks).mono ?_
  rintro e w3 ⟨rfl, L3, B3⟩
  replace X0 := X0.below B3
  replace X1 := X1.below B3
  have O3 := owns_below O2 B3
  have D3 := below_then D2 B3
  have s3 := L3.lt
  have L3 := L3.kv kl A1
  have aV3 := aV.below D3
  go_wp2_with fail
  refine hKc.out _ _ (X0) (fun hHeld => ?_)
  clear hKc Kc
  refine wpAnyH_ready (rs := [10]) (by kernel_rfl) (by simp) ?_
  refine AllReadyH.cons rfl (fun Kc hKc => ?_) AllReadyH.nil
  simp only [List.getElem_toArray, List.getElem_cons_succ, List.getElem_cons_zero]
  rw [if_pos (by rfl)]
  go_wp2_with fail
  refine (copyLists_any _ _ _ X.V _ aV3 (by omega) hvs).mono ?_
  rintro e w4 ⟨rfl, L4, B4⟩
  replace X0 := X0.below B4
  replace X1 := X1.below B4
  have O4 := owns_below O3 B4
  replace L3 := L3.below B4
  have D4 := below_then D3 B4
  have hlt4 := fun b hb => (O2.lt b hb).2
  have L4 := (L4.kv vl A2).mono (q := fun b => w3.heap.size < b) fun b _ h => h.1
  go_wp2_with fail
  refine hKc.out _ _ (X0) (fun hHeld => ?_)
  clear hKc Kc
  obtain ⟨ta', tc', rfl⟩ : ∃ a c, tv = .slice a tn c := by
    rcases O4.2 with ⟨h3, h4⟩ | ⟨g, cap, cur, hv, _⟩
    · exact ⟨none, 0, by rw [h3, h4]⟩
    · exact ⟨_, _, hv⟩
  refine wpAnyH_take (i := 11) (v := (.agg #[.slice (some ⟨w2.heap.size, 0, none⟩) kn kn, .slice (some ⟨w3.heap.size, 0, none⟩) vn vn])) rfl (by kernel_rfl) (by kernel_rfl) (by kernel_rfl) (fun _ _ _ h => h) (Or.inl ⟨by rfl, ?_⟩) (by assumption) ?_
  · intro w' hSw
    go_simp
  simp only [List.getElem_toArray, List.getElem_cons_succ, List.getElem_cons_zero, Act.put, List.setIfInBounds_toArray, List.set_cons_zero, List.set_cons_succ]
  refine wpAnyH_take (i := 12) (v := (.agg #[.slice ta' tn tc', .slice (some ⟨w2.heap.size, 0, none⟩) kn kn, .slice (some ⟨w3.heap.size, 0, none⟩) vn vn])) rfl (by kernel_rfl) (by kernel_rfl) (by kernel_rfl) (fun _ _ _ h => h) (Or.inl ⟨by rfl, ?_⟩) (by assumption) ?_
  · intro w' hSw
    go_simp
  simp only [List.getElem_toArray, List.getElem_cons_succ, List.getElem_cons_zero, Act.put, List.setIfInBounds_toArray, List.set_cons_zero, List.set_cons_succ]
  refine wpAnyH_ready (rs := [13]) (by kernel_rfl) (by simp) ?_
  refine AllReadyH.cons rfl (fun Kc hKc => ?_) AllReadyH.nil
  simp only [List.getElem_toArray, List.getElem_cons_succ, List.getElem_cons_zero]
  rw [if_pos (by rfl)]
  have hall : Array.all (#[.slice ta' tn tc', .slice (some ⟨w2.heap.size, 0, none⟩) kn kn, .slice (some ⟨w3.heap.size, 0, none⟩) vn vn] : Array Value) (fun v => v.oneCell') = true := by simp [Value.oneCell']
  refine wp_store_row 48 _ _ rfl (w.heap.size + 1) #[.slice ta' tn tc', .slice (some ⟨w2.heap.size, 0, none⟩) kn kn, .slice (some ⟨w3.heap.size, 0, none⟩) vn vn] rfl rfl 48 _ X1 Tryz.infoV rfl hall ?_
  refine hKc.out _ _ (Blk.of_block X0 (setRow_other _ _ _ _ (by omega))) (fun hHeld => ?_)
  clear hKc Kc
  refine wpAnyH_done (by kernel_rfl) ?_ _
  clear hHeld
  go_wp2
  refine bodyPost_ret (results_cell_row rfl _ _ (w.heap.size + 1) 48 _ _ _ rfl (X1.row _) Tryz.underlying48 rfl Tryz.infoV) rfl ?_
  subst kl vl hl
  have so : ∀ (b : Nat) (x : Array Value), b ≠ w.heap.size + 1 → (w4.setRow (w.heap.size + 1) x).heap[b]? = w4.heap[b]? := fun b x hb => setRow_other _ _ _ _ hb
  refine ⟨_, _, _, rfl, ?_, ?_, ?_, by omega, by omega, hlt4, below_setRow D4 (by omega) _⟩
  · refine (owns_mono O4 (by omega) ?_)
    intro b hb
    have := (O2.lt b hb).1
    exact so b _ (by omega)
  · exact L3.put (by omega) (by omega) _
  · exact L4.put (by omega) (by omega) _
end Go.Proofs.YtcanjlofnpnhkaaGreatDoor

/- A region that draws its order: what a store waits for may be taken first, though the store turns what was read. -/
namespace Go.Proofs.YtcanjlofnpnhkaaGreatDoor
section
variable {P : Program} {ops : Array Oper} {Q : Exit → Act → World → Prop} {S : World → Prop} {z : Nat}
/-- Whatever comes up next; S holds as long as operation z hasn't come up. -/
def wpLate (P : Program) (ops : Array Oper) (Q : Exit → Act → World → Prop) (S : World → Prop) (z : Nat) : Nat → Array Bool → Act → World → Prop
  | 0, listed, a, w => Region.ready .any ops listed = [] ∧ Q .normal a w
  | fuel + 1, listed, a, w =>
    (Region.ready .any ops listed = [] → Q .normal a w) ∧
    ∀ i ∈ Region.ready .any ops listed, wpOp P ops Q i (fun a' w' => (i ≠ z → listed.getD z true = false → S w') ∧ wpLate P ops Q S z fuel (listed.setIfInBounds i true) a' w') a w
theorem wpAny_of_late : ∀ (fuel : Nat) (listed : Array Bool) (a : Act) (w : World), wpLate P ops Q S z fuel listed a w → wpAny P .any ops Q fuel listed a w
  | 0, _, _, _, h => h
  | fuel + 1, _, _, _, h => ⟨h.1, fun i hi => wpOp_mono (fun a' w' h' => wpAny_of_late fuel _ a' w' h'.2) (h.2 i hi)⟩
theorem wpLate_first {i : Nat} {oi oz : Oper} {v : Value} (hi : ops[i]? = some oi) (hz : ops[z]? = some oz) (hzi : ∃ e ∈ oz.after, Region.binds .any e = true ∧ e.on = i)
    (hsel : ∀ (j : Nat) (o : Oper) cs b, ops[j]? = some o → o.op ≠ .select cs b) (hQ : ∀ c a w, Q (.panic c) (a.put oi.dst v) w → Q (.panic c) a w) :
    ∀ (fuel : Nat) (listed : Array Bool) (a : Act) (w : World),
      (∀ j oj, ops[j]? = some oj → j ≠ i → listed.getD j true = false → (∀ e ∈ oj.after, Region.binds .any e = true → e.on ≠ i) → oi.apart ops oj = true) →
      i ∈ Region.ready .any ops listed → listed.getD z true = false → YieldsIf P ops S oi v a → S w →
      wpLate P ops Q S z fuel (listed.setIfInBounds i true) (a.put oi.dst v) w → wpLate P ops Q S z (fuel + 1) listed a w := by
  intro fuel
  induction fuel with
  | zero =>
    intro listed a w _ hr _ hy hS H
    refine ⟨fun h => (by rw [h] at hr; cases hr), fun j hj => ?_⟩
    by_cases hji : j = i
    · subst hji
      exact hy.wpOp hi hS ⟨fun _ _ => hS, H⟩
    · have hc := ready_mono hj hji
      rw [H.1] at hc
      cases hc
  | succ fuel ih =>
    intro listed a w hfree hr hu hy hS H
    refine ⟨fun h => (by rw [h] at hr; cases hr), fun j hj => ?_⟩
    by_cases hji : j = i
    · subst hji
      exact hy.wpOp hi hS ⟨fun _ _ => hS, H⟩
    · obtain ⟨hjun, oj, hoj, hall⟩ := mem_ready.1 hj
      have hnot : ∀ e ∈ oj.after, Region.binds .any e = true → e.on ≠ i := fun e he hb heq => by
        have h1 := hall e he hb
        have h0 := (mem_ready.1 hr).1
        rw [heq] at h1
        rcases Nat.lt_or_ge i listed.size with h' | h'
        · simp [h'] at h0 h1; rw [h0] at h1; cases h1
        · simp [Array.getElem?_eq_none h'] at h1
      have hjz : j ≠ z := by
        rintro rfl
        rw [hz] at hoj
        simp only [Option.some.injEq] at hoj
        subst hoj
        obtain ⟨e, h1, h2, h3⟩ := hzi
        exact hnot e h1 h2 h3
      have hiz : i ≠ z := by
        rintro rfl
        rw [hi] at hz
        simp only [Option.some.injEq] at hz
        subst hz
        obtain ⟨e, h1, h2, h3⟩ := hzi
        obtain ⟨hun, o', ho', hall'⟩ := mem_ready.1 hr
        rw [hi] at ho'
        simp only [Option.some.injEq] at ho'
        subst ho'
        have h4 := hall' e h1 h2
        rw [h3] at h4
        rcases Nat.lt_or_ge i listed.size with h' | h'
        · simp [h'] at hun h4; rw [hun] at h4; cases h4
        · simp [Array.getElem?_eq_none h'] at h4
      have h2 := wpOp_putIf hoj (hfree j oj hoj hji hjun hnot) (fun cs b => hsel i oi cs b hi) (fun cs b => hsel j oj cs b hoj) hQ hy (H.2 j (ready_mono hj hji))
      have hfree' : ∀ k ok, ops[k]? = some ok → k ≠ i → (listed.setIfInBounds j true).getD k true = false →
          (∀ e ∈ ok.after, Region.binds .any e = true → e.on ≠ i) → oi.apart ops ok = true := fun k ok hk hki hun hno => by
        refine hfree k ok hk hki ?_ hno
        by_cases hjk : j = k
        · subst hjk; exact hjun
        · rw [getD_set_ne true hjk] at hun; exact hun
      refine wpOp_mono (fun a' w' h3 => ?_) h2
      have hS' : S w' := h3.2.1 hjz (by rw [getD_set_ne true hiz]; exact hu)
      refine ⟨fun _ _ => hS', ih (listed.setIfInBounds j true) a' w' hfree' (ready_mono hr (Ne.symm hji)) (by rw [getD_set_ne true hjz]; exact hu) h3.1 hS' ?_⟩
      rw [Array.setIfInBounds_comm _ _ hji]
      exact h3.2.2
/-- The same of an operation that yields its value in whatever world: z needn't wait for it. -/
theorem wpLate_plain {i : Nat} {oi : Oper} {v : Value} (hi : ops[i]? = some oi) (hiz : i ≠ z)
    (hsel : ∀ (j : Nat) (o : Oper) cs b, ops[j]? = some o → o.op ≠ .select cs b) (hQ : ∀ c a w, Q (.panic c) (a.put oi.dst v) w → Q (.panic c) a w) :
    ∀ (fuel : Nat) (listed : Array Bool) (a : Act) (w : World),
      (∀ j oj, ops[j]? = some oj → j ≠ i → listed.getD j true = false → (∀ e ∈ oj.after, Region.binds .any e = true → e.on ≠ i) → oi.apart ops oj = true) →
      i ∈ Region.ready .any ops listed → (listed.getD z true = false → S w) → YieldsIf P ops (fun _ => True) oi v a →
      wpLate P ops Q S z fuel (listed.setIfInBounds i true) (a.put oi.dst v) w → wpLate P ops Q S z (fuel + 1) listed a w := by
  intro fuel
  induction fuel with
  | zero =>
    intro listed a w _ hr hS hy H
    refine ⟨fun h => (by rw [h] at hr; cases hr), fun j hj => ?_⟩
    by_cases hji : j = i
    · subst hji
      exact hy.wpOp hi trivial ⟨fun _ => hS, H⟩
    · have hc := ready_mono hj hji
      rw [H.1] at hc
      cases hc
  | succ fuel ih =>
    intro listed a w hfree hr hS hy H
    refine ⟨fun h => (by rw [h] at hr; cases hr), fun j hj => ?_⟩
    by_cases hji : j = i
    · subst hji
      exact hy.wpOp hi trivial ⟨fun _ => hS, H⟩
    · obtain ⟨hjun, oj, hoj, hall⟩ := mem_ready.1 hj
      have hnot : ∀ e ∈ oj.after, Region.binds .any e = true → e.on ≠ i := fun e he hb heq => by
        have h1 := hall e he hb
        have h0 := (mem_ready.1 hr).1
        rw [heq] at h1
        rcases Nat.lt_or_ge i listed.size with h' | h'
        · simp [h'] at h0 h1; rw [h0] at h1; cases h1
        · simp [Array.getElem?_eq_none h'] at h1
      have h2 := wpOp_putIf hoj (hfree j oj hoj hji hjun hnot) (fun cs b => hsel i oi cs b hi) (fun cs b => hsel j oj cs b hoj) hQ hy (H.2 j (ready_mono hj hji))
      have hfree' : ∀ k ok, ops[k]? = some ok → k ≠ i → (listed.setIfInBounds j true).getD k true = false →
          (∀ e ∈ ok.after, Region.binds .any e = true → e.on ≠ i) → oi.apart ops ok = true := fun k ok hk hki hun hno => by
        refine hfree k ok hk hki ?_ hno
        by_cases hjk : j = k
        · subst hjk; exact hjun
        · rw [getD_set_ne true hjk] at hun; exact hun
      refine wpOp_mono (fun a' w' h3 => ?_) h2
      have hS' : j ≠ z → listed.getD z true = false → S w' := fun hjz hu => h3.2.1 hjz (by rw [getD_set_ne true hiz]; exact hu)
      refine ⟨hS', ih (listed.setIfInBounds j true) a' w' hfree' (ready_mono hr (Ne.symm hji)) (fun hu => ?_) h3.1 ?_⟩
      · by_cases hjz : j = z
        · subst hjz
          have hlt : j < listed.size := by
            rcases Nat.lt_or_ge j listed.size with h' | h'
            · exact h'
            · simp [h'] at hjun
          simp [hlt] at hu
        · exact hS' hjz (by rw [getD_set_ne true hjz] at hu; exact hu)
      · rw [Array.setIfInBounds_comm _ _ hji]
        exact h3.2.2
/-- Does operation z wait for i? -/
def waitsOn (ops : Array Oper) (z i : Nat) : Bool := ((ops[z]?).map fun o => o.after.any fun e => Region.binds .any e && (e.on == i)).getD false
theorem waitsOn_spec {i : Nat} (h : waitsOn ops z i = true) : ∃ oz, ops[z]? = some oz ∧ ∃ e ∈ oz.after, Region.binds .any e = true ∧ e.on = i := by
  unfold waitsOn at h
  cases e : ops[z]? with
  | none => rw [e] at h; simp at h
  | some oz =>
    rw [e] at h
    simp only [Option.map_some, Option.getD_some, Array.any_eq_true, Bool.and_eq_true, beq_iff_eq] at h
    obtain ⟨k, hk, h1, h2⟩ := h
    exact ⟨oz, rfl, _, Array.getElem_mem hk, h1, h2⟩
/-- Take number i first. -/
theorem wpLate_take {i : Nat} {oi : Oper} {v : Value} {fuel : Nat} {listed : Array Bool} {a : Act} {w : World} (hi : ops[i]? = some oi) (hz : waitsOn ops z i = true) (hu : listed.getD z true = false)
    (hs : Region.noSelect ops = true) (hf : Region.free .any ops listed i = true) (hr : (Region.ready .any ops listed).contains i = true)
    (hQ : ∀ c a w, Q (.panic c) (a.put oi.dst v) w → Q (.panic c) a w) (hy : YieldsIf P ops S oi v a) (hS : S w)
    (h : wpLate P ops Q S z fuel (listed.setIfInBounds i true) (a.put oi.dst v) w) : wpLate P ops Q S z (fuel + 1) listed a w := by
  obtain ⟨oz, h1, h2⟩ := waitsOn_spec hz
  exact wpLate_first hi h1 h2 (Region.noSelect_spec hs) hQ fuel listed a w (Region.free_spec hi hf) (by simpa using hr) hu hy hS h
/-- Take number i first: it yields its value in whatever world. -/
theorem wpLate_pure {i : Nat} {oi : Oper} {v : Value} {fuel : Nat} {listed : Array Bool} {a : Act} {w : World} (hi : ops[i]? = some oi) (hiz : i ≠ z)
    (hs : Region.noSelect ops = true) (hf : Region.free .any ops listed i = true) (hr : (Region.ready .any ops listed).contains i = true)
    (hQ : ∀ c a w, Q (.panic c) (a.put oi.dst v) w → Q (.panic c) a w) (hy : YieldsIf P ops (fun _ => True) oi v a) (hS : listed.getD z true = false → S w)
    (h : wpLate P ops Q S z fuel (listed.setIfInBounds i true) (a.put oi.dst v) w) : wpLate P ops Q S z (fuel + 1) listed a w :=
  wpLate_plain hi hiz (Region.noSelect_spec hs) hQ fuel listed a w (Region.free_spec hi hf) (by simpa using hr) hS hy h
/-- One of those that may come up. -/
theorem wpLate_nil {fuel : Nat} {listed : Array Bool} {a : Act} {w : World} : ∀ i ∈ ([] : List Nat), wpOp P ops Q i (fun a' w' => (i ≠ z → listed.getD z true = false → S w') ∧ wpLate P ops Q S z fuel (listed.setIfInBounds i true) a' w') a w := fun _ h => by cases h
theorem wpLate_cons {fuel : Nat} {listed : Array Bool} {a : Act} {w : World} {i : Nat} {o : Oper} {rs : List Nat} (ho : ops[i]? = some o)
    (h : ∀ K' : Act → World → Prop, Shut (∀ a w, (i ≠ z → listed.getD z true = false → S w) → wpLate P ops Q S z fuel (listed.setIfInBounds i true) a w → K' a w) → if Region.wanted o (yielded ops a.tmps) = true then Oper.wp P o a w K' Q else K' (a.put o.dst undef) w)
    (hs : ∀ j ∈ rs, wpOp P ops Q j (fun a' w' => (j ≠ z → listed.getD z true = false → S w') ∧ wpLate P ops Q S z fuel (listed.setIfInBounds j true) a' w') a w) :
    ∀ j ∈ i :: rs, wpOp P ops Q j (fun a' w' => (j ≠ z → listed.getD z true = false → S w') ∧ wpLate P ops Q S z fuel (listed.setIfInBounds j true) a' w') a w := fun j hj => by
  rcases List.mem_cons.1 hj with rfl | hj
  · exact wpOp_step ho (fun K' hK => h K' (fun a w hS hW => hK a w ⟨hS, hW⟩))
  · exact hs j hj
theorem wpLate_ready {rs : List Nat} {fuel : Nat} {listed : Array Bool} {a : Act} {w : World} (hr : Region.ready .any ops listed = rs) (hne : rs ≠ [])
    (h : ∀ i ∈ rs, wpOp P ops Q i (fun a' w' => (i ≠ z → listed.getD z true = false → S w') ∧ wpLate P ops Q S z fuel (listed.setIfInBounds i true) a' w') a w) : wpLate P ops Q S z (fuel + 1) listed a w :=
  ⟨fun h0 => absurd (hr ▸ h0) hne, hr ▸ h⟩
theorem wpLate_done {listed : Array Bool} {a : Act} {w : World} (hr : Region.ready .any ops listed = []) (h : Q .normal a w) : ∀ fuel, wpLate P ops Q S z fuel listed a w
  | 0 => ⟨hr, h⟩
  | _ + 1 => ⟨fun _ => h, by rw [hr]; simp⟩
theorem wp_region_late {id : Nat} {a : Act} {w : World} (z : Nat) (hm : P.follows .mixedOrders = true) (hS : S w.drew)
    (h : S w.drew → wpLate P ops Q S z ops.size (Array.replicate ops.size false) a w.drew) : (Code.region id ops true).wp P Q a w :=
  wp_region_any hm (wpAny_of_late _ _ _ _ (h hS))
end
end Go.Proofs.YtcanjlofnpnhkaaGreatDoor

/- Package step: append of a row to a full list of rows; what a token more makes of a view. -/
namespace Go.Proofs.YtcanjlofnpnhkaaGreatDoor
open Go.ChangeShapes Go.WideShapes Go.ChangeAt Go.RowKit
theorem front_get (l : List Value) (z : Array Value) {j : Nat} {u : Value} (h : l[j]? = some u) : (l.toArray ++ z)[j]? = some u := by
  have hj := (List.getElem?_eq_some_iff.1 h).1
  rw [Array.getElem?_append_left (by simpa using hj)]
  simpa using h
/-- append(rows, row), rows a full list. -/
theorem wp_append_full {o : Oper} {a : Act} {w : World} {K : Act → World → Prop} {Q : Exit → Act → World → Prop} (s x : Operand) (hop : o.op = .call { callee := .builtin .append, args := #[s, x], argTypes := #[105, 105] })
    (p : Nat → Prop) (ro : Option Addr) (n : Nat) (vs : List Value) (R : List (List Int)) (hs : a.eval s = .slice ro n n) (hnil : ro = none → n = 0) (hG : Hangs p w (fun w => GridV w ro n vs R))
    (bo g1 m1 c1 : Nat) (Y : List Int) (hx : a.eval x = .slice (some ⟨bo, 0, none⟩) 1 1) (hX : w.cell? ⟨bo, 0, none⟩ = some (.slice (some ⟨g1, 0, none⟩) m1 c1)) (hY : Hangs p w (fun w => Arg w (some ⟨g1, 0, none⟩) m1 c1 Y)) (hn : n ≤ 4096) (hp : p w.heap.size)
    (h : ∀ cap w', n + 1 ≤ cap → cap ≤ 9223372036854775807 → Hangs p w' (fun wv => GridV wv (some ⟨w.heap.size, 0, none⟩) (n + 1) (vs ++ [.slice (some ⟨g1, 0, none⟩) m1 c1]) (R ++ [Y])) → Below w.heap.size w w' → K (a.put o.dst (.slice (some ⟨w.heap.size, 0, none⟩) (n + 1) cap)) w') : Oper.wp Tryz.prog o a w K Q := by
  obtain ⟨i0, hi, hz0, hz1, hz2⟩ := info_parts Tryz.infoRow
  have hnews : ∀ j u, [Value.slice (some ⟨g1, 0, none⟩) m1 c1][j]? = some u → w.cell? ((Addr.mk bo 0 none).add j) = some u := by
    intro j u hj
    match j, hj with
    | 0, hj =>
      simp at hj
      subst hj
      have e2 : (Addr.mk bo 0 none).add 0 = ⟨bo, 0, none⟩ := by simp [Addr.add]
      rw [e2, hX]
  have hgo : ∀ (cs : Array Value) (cap : Nat), (∀ (j : Nat) (u : Value), (vs ++ [.slice (some ⟨g1, 0, none⟩) m1 c1])[j]? = some u → cs[j]? = some u) → n + 1 ≤ cap → cap ≤ 9223372036854775807 → K (a.put o.dst (.slice (some ⟨w.heap.size, 0, none⟩) (n + 1) cap)) (w.drew.alloc (.cells cs 35)) := by
    intro cs cap hcs h1 h2
    have hb : Below w.heap.size w (w.drew.alloc (.cells cs 35)) := ((Below.refl _ _).drew).alloc (Nat.le_refl _) _
    refine h cap _ h1 h2 (fun w2 h3 => ?_) hb
    have hnew := heap_alloc_new w.drew (.cells cs 35)
    have hg : w2.heap[w.heap.size]? = some (.cells cs 35 (0, 0)) := (h3 w.heap.size hp (by simp)).trans hnew
    have ho : ∀ b, p b → b < w.heap.size → w2.heap[b]? = w.heap[b]? := fun b hb1 hb2 => (h3 b hb1 (Nat.lt_of_lt_of_le hb2 hb.size)).trans (hb.block b hb2)
    have V := hG w2 ho
    have A := hY w2 ho
    refine ⟨V.rows.snoc A, by simp [V.len], by omega, fun _ => ⟨w.heap.size, 0, rfl, fun j u hj => ?_⟩⟩
    rw [Nat.zero_add]
    unfold World.cell?
    simp only [hg]
    exact hcs j u hj
  have V0 := hG.now
  have hmx := fun (nd od : Nat) (hh : nd ≤ maxLen) => grownCap_le_maxLen w nd od 35 hh
  have hge := fun (nd od : Nat) => grownCap_ge w nd od 35
  cases ro with
  | none =>
    obtain rfl : n = 0 := hnil rfl
    obtain rfl : vs = [] := List.length_eq_zero_iff.1 V0.len
    have hrun := run_append_nil (P := Tryz.prog) w 105 o.type 35 i0 (.slice none 0 0) Tryz.underlying105 hi hz0 ⟨bo, 0, none⟩ 1 1 [.slice (some ⟨g1, 0, none⟩) m1 c1] (by simp [hz1]) hnews (by omega) (by omega) (by rw [hz2]; omega)
    unfold Oper.wp
    simp [execOp, hop, resolve, invoke, builtin, hs, hx, hrun, Result.andThen]
    refine hgo _ _ (fun j u hj => ?_) (hge 1 0) (by have := hmx 1 0 (by decide); unfold maxLen at this; omega)
    exact front_get [.slice (some ⟨g1, 0, none⟩) m1 c1] _ hj
  | some ad =>
    have holds : ∀ j v, vs[j]? = some v → w.cell? (ad.add j) = some v := fun j v hj => by
      have hjn : j < n := by rw [← V0.len]; exact (List.getElem?_eq_some_iff.1 hj).1
      obtain ⟨b, o', e, hc⟩ := V0.cells (by omega)
      simp only [Option.some.injEq] at e
      subst e
      have e2 : (Addr.mk b o' none).add j = ⟨b, o' + j, none⟩ := by simp [Addr.add]
      rw [e2]
      exact hc j v hj
    have hrun := run_append_grow (P := Tryz.prog) w 105 o.type 35 i0 (.slice none 0 0) Tryz.underlying105 hi hz0 ad n n vs (by rw [hz1, V0.len]; omega) holds ⟨bo, 0, none⟩ 1 1 [.slice (some ⟨g1, 0, none⟩) m1 c1] (by simp [hz1]) hnews (by omega) (by omega) (growslice_fits (by omega) (by rw [hz2]; omega))
    unfold Oper.wp
    simp [execOp, hop, resolve, invoke, builtin, hs, hx, hrun, Result.andThen]
    refine hgo _ _ (fun j u hj => ?_) (hge (n + 1) n) (by have := hmx (n + 1) n (by unfold maxLen; omega); unfold maxLen at this; omega)
    exact front_get (vs ++ [.slice (some ⟨g1, 0, none⟩) m1 c1]) _ hj
end Go.Proofs.YtcanjlofnpnhkaaGreatDoor
