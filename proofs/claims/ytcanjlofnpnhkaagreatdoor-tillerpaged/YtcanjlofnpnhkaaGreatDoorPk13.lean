/- Contracts of the program's functions, part 13 of 13: what each call returns and leaves of memory. -/
import Derived.Test.YtcanjlofnpnhkaaGreatDoorPk12
import Derived.Test.YtcanjlofnpnhkaaGreatDoorPk5
import Derived.Test.YtcanjlofnpnhkaaGreatDoorPk4
import Derived.Test.YtcanjlofnpnhkaaGreatDoorPk6
import Derived.Test.YtcanjlofnpnhkaaGreatDoorPk2
import Derived.LaidMore
import Derived.Lib.LaidTab
import Derived.Stop.Joined
/- Numbers that leave the row of idle ones. -/
namespace Go.Proofs.YtcanjlofnpnhkaaGreatDoor.Pl
open Go.ChangeShapes Go.WideShapes Go.ChangeAt Go.RowKit
theorem blk_setCells (g : Nat) (T : TypeId) : ∀ (l : List Value) (o : Nat) (w : World) (cs : Array Value), Blk w g T cs → ∃ cs', Blk (w.setCells g o l) g T cs' ∧ cs'.size = cs.size ∧ ∀ t, t < o → cs'[t]? = cs[t]?
  | [], _, _, cs, h => ⟨cs, h, rfl, fun _ _ => rfl⟩
  | v :: r, o, w, cs, h => by
    obtain ⟨cs', h1, h2, h3⟩ := blk_setCells g T r (o + 1) _ _ (h.set o v)
    refine ⟨cs', h1, by rw [h2]; simp, fun t ht => ?_⟩
    rw [h3 t (by omega), Array.getElem?_setIfInBounds, if_neg (by omega)]
theorem grownBy_set {w w' : World} {g : Nat} (h : w.grownBy w' (some g)) (k : Nat) (v : Value) : w.grownBy (w'.setCell ⟨g, k, none⟩ v) (some g) :=
  ⟨h.os, h.tape, h.output, by simpa [World.setCell] using h.size, fun j hj hn => by
    rw [Below.heap_setCell _ _ _ _ (fun e => hn (by rw [e]))]; exact h.block j hj hn⟩
theorem grownBy_setCells {w : World} (g : Nat) : ∀ (l : List Value) (o : Nat) (w' : World), w.grownBy w' (some g) → w.grownBy (w'.setCells g o l) (some g)
  | [], _, _, h => h
  | _ :: r, o, _, h => grownBy_setCells g r (o + 1) _ (grownBy_set h o _)
theorem grownBy_refl (w : World) (r : Option Nat) : w.grownBy w r := ⟨rfl, rfl, rfl, Nat.le_refl _, fun _ _ _ => rfl⟩
/-- A row without a number. -/
def less (A : List Nat) (i : Nat) : List Nat := A.filter fun x => decide (x ≠ i)
theorem less_none {A : List Nat} {i : Nat} (h : ∀ j, j < A.length → A.getD j 0 ≠ i) : less A i = A := by
  unfold less
  rw [List.filter_eq_self]
  intro x hx
  obtain ⟨j, hj, e⟩ := List.getElem_of_mem hx
  have := h j hj
  rw [← getD_get hj, e] at this
  simpa using this
theorem less_take_succ {A : List Nat} {i j : Nat} (hj : j < A.length) : less (A.take (j + 1)) i = less (A.take j) i ++ (if A.getD j 0 = i then [] else [A.getD j 0]) := by
  unfold less
  rw [List.take_succ_eq_append_getElem hj, List.filter_append, getD_get hj]
  generalize A.getD j 0 = z
  by_cases h : z = i
  · simp [h]
  · rw [if_neg h]; simp [h]
theorem less_take_len {A : List Nat} {i j : Nat} : (less (A.take j) i).length ≤ j := Nat.le_trans (List.length_filter_le _ _) (List.length_take_le _ _)
/-- The row while numbers leave it: the first j are looked at, p of them stay. -/
structure Mid (A : List Nat) (i j p : Nat) (cs : Array Value) : Prop where
  len : (less (A.take j) i).length = p
  lt : p < j
  low : ∀ t, t < p → cs[t]? = some (.int .i64 (((less (A.take j) i).getD t 0 : Nat) : Int))
  high : ∀ t, j ≤ t → t < A.length → cs[t]? = some (.int .i64 ((A.getD t 0 : Nat) : Int))
theorem Mid.skip {A : List Nat} {i j p : Nat} {cs : Array Value} (h : Mid A i j p cs) (hj : j < A.length) (e : A.getD j 0 = i) : Mid A i (j + 1) p cs := by
  have e2 : less (A.take (j + 1)) i = less (A.take j) i := by rw [less_take_succ hj, if_pos e, List.append_nil]
  have := h.lt
  exact ⟨by rw [e2]; exact h.len, by omega, by rw [e2]; exact h.low, fun t h1 h2 => h.high t (by omega) h2⟩
theorem Mid.keep {A : List Nat} {i j p : Nat} {cs : Array Value} (h : Mid A i j p cs) (hj : j < A.length) (e : A.getD j 0 ≠ i) (hs : A.length ≤ cs.size) : Mid A i (j + 1) (p + 1) (cs.setIfInBounds p (.int .i64 ((A.getD j 0 : Nat) : Int))) := by
  have e2 : less (A.take (j + 1)) i = less (A.take j) i ++ [A.getD j 0] := by rw [less_take_succ hj, if_neg e]
  have hl := h.len
  have hp := h.lt
  refine ⟨by rw [e2, List.length_append, hl]; rfl, by omega, fun t ht => ?_, fun t h1 h2 => ?_⟩
  · rw [e2]
    generalize A.getD j 0 = z
    rw [List.getD_eq_getElem?_getD, List.getElem?_append, Array.getElem?_setIfInBounds]
    by_cases ht2 : t = p
    · subst ht2
      rw [if_pos rfl, if_pos (by omega), if_neg (by omega), hl]
      simp
    · rw [if_neg (fun e => ht2 e.symm), if_pos (by omega), h.low t (by omega), List.getD_eq_getElem?_getD]
  · rw [Array.getElem?_setIfInBounds, if_neg (by omega)]
    exact h.high t (by omega) h2
theorem mid_start {A : List Nat} {i k : Nat} {cs : Array Value} (hk : k < A.length) (h : A.getD k 0 = i) (hb : ∀ j, j < k → A.getD j 0 ≠ i) (hc : ∀ t, t < A.length → cs[t]? = some (.int .i64 ((A.getD t 0 : Nat) : Int))) : Mid A i (k + 1) k cs := by
  have e0 : less (A.take k) i = A.take k := less_none fun j hj => by
    have hj' : j < k := by simp at hj; omega
    rw [List.getD_eq_getElem?_getD, List.getElem?_take, if_pos hj', ← List.getD_eq_getElem?_getD]
    exact hb j hj'
  have e1 : less (A.take (k + 1)) i = A.take k := by rw [less_take_succ hk, if_pos h, List.append_nil, e0]
  refine ⟨by rw [e1]; simp; omega, by omega, fun t ht => ?_, fun t _ h2 => hc t h2⟩
  rw [e1, hc t (by omega), List.getD_eq_getElem?_getD, List.getD_eq_getElem?_getD, List.getElem?_take, if_pos ht]
theorem idxI_cases (A : List Nat) (i : Nat) : (idxI A i = -1 ∧ ∀ j, j < A.length → A.getD j 0 ≠ i) ∨ ∃ k, k < A.length ∧ idxI A i = k ∧ A.getD k 0 = i ∧ ∀ j, j < k → A.getD j 0 ≠ i := by
  unfold idxI
  by_cases h : A.idxOf i < A.length
  · refine Or.inr ⟨A.idxOf i, h, if_pos h, ?_, fun j hj => ?_⟩
    · rw [← getD_get h]; exact List.getElem_idxOf h
    · rw [← getD_get (by omega)]
      have := List.not_of_lt_findIdx (p := (· == i)) (xs := A) (i := j) hj
      simpa using this
  · refine Or.inl ⟨if_neg h, fun j hj e => h ?_⟩
    rw [List.idxOf_lt_length_iff, ← e, ← getD_get hj]
    exact List.getElem_mem _
theorem Tryz.zeroInt : ∀ w, (zeroValue 3).run Tryz.prog w = .ok (.int .i64 0) w := fun w => by simp [go_sem]
set_option maxHeartbeats 2000000 in
theorem del_any (c i B : Nat) (v : Value) (A : List Nat) (w : World) (hI : Idl w B v A) (hl : A.length ≤ 64) (hc : w.cell? ⟨c, 0, none⟩ = some (.int .i64 (i : Int))) (hg : ∀ g, v.ownBlock = some g → g ≠ c) :
   Calls Tryz.prog 52 #[v, .func (.func 53) #[] #[.pointer (some ⟨c, 0, none⟩)]] w fun e w' => ∃ v', e = .returned v' ∧ Idl w' B v' (less A i) ∧ w.grownBy w' v.ownBlock ∧ v'.ownBlock = v.ownBlock := by
  rcases hI.cases with ⟨rfl, rfl⟩ | ⟨g, cap, cs, rfl, h4, h5, h6, h7, h8, h9⟩
  · have hQ : Calls Tryz.prog 63 #[.slice none 0 0, .func (.func 53) #[] #[.pointer (some ⟨c, 0, none⟩)]] w fun e w' => e = .returned (.int .i64 (-1)) ∧ w' = w := by
      go_enter Tryz.func63, Tryz.ntmps63
      go_wp2
      refine wp_loop_rounds 1 ?_
      rw [rounds_succ]
      go_wp2
      go_ret
      exact ⟨rfl, rfl⟩
    clear hc
    go_enter Tryz.func52, Tryz.ntmps52
    go_wp2_with (go_at_call 63; refine hQ.mono ?_; rintro e w' ⟨rfl, rfl⟩)
    go_ret
    exact ⟨_, rfl, Idl.nil _ _, grownBy_refl _ _, rfl⟩
  · have hcg := hg g rfl
    have hQ := iidx_any c i g cap cs A w h5 hl h9 hc
    have hm : cap ≤ 9223372036854775807 := by simpa [maxLen] using h7
    rcases idxI_cases A i with ⟨e1, hall⟩ | ⟨k0, hk0, e1, e2, hall⟩
    · rw [e1] at hQ
      have HI : Hid _ := hI
      have HA : Hid _ := hall
      clear hI h9 hall hc h5
      go_enter Tryz.func52, Tryz.ntmps52
      go_wp2_with (go_at_call 63; refine hQ.mono ?_; rintro e w' ⟨rfl, rfl⟩)
      go_ret
      exact ⟨_, rfl, by rw [less_none HA.out]; exact HI.out, grownBy_refl _ _, rfl⟩
    · rw [e1] at hQ
      have M0 : Hid (Mid A i (k0 + 1) k0 cs) := mid_start hk0 e2 hall h9
      have hne1 : ((k0 : Int) == -1) = false := beq_eq_false_iff_ne.2 (by omega)
      clear hI h9 hall e1 e2
      generalize hn : A.length = n at *
      go_enter Tryz.func52, Tryz.ntmps52
      go_wp2_with (go_at_call 63; refine hQ.mono ?_; rintro e w' ⟨rfl, rfl⟩)
      clear hQ
      go_loopg [5, 6, 7] (n - (k0 + 1)) (fun gg s5 s6 _ wr => ∃ (p j : Nat) (ds : Array Value), s5 = .int .i64 p ∧ s6 = .int .i64 j ∧ j ≤ n ∧ gg = n - j ∧ Blk wr g 3 ds ∧ ds.size = cap ∧ w'.grownBy wr (some g) ∧ Hid (Mid A i j p ds))
      case atStart => exact ⟨k0, k0 + 1, cs, rfl, by go_num, by omega, rfl, h5, h8, grownBy_refl _ _, M0⟩
      case round =>
        obtain ⟨p, j, ds, rfl, rfl, hj, rfl, D1, D2, G1, M1⟩ := hrel
        have hpj := M1.out.lt
        clear M0 h5
        by_cases hlt : j < n
        · have cj := D1.cell j (M1.out.high j (Nat.le_refl _) (by omega))
          have fp := D1.frozen p
          obtain ⟨up, hup⟩ : ∃ u, ds[p]? = some u := ⟨_, Array.getElem?_eq_getElem (by omega)⟩
          have cp := D1.cell p hup
          have hc2 : wr.cell? ⟨c, 0, none⟩ = some (.int .i64 (i : Int)) := G1.cell hc (fun e => hcg (by simpa using e.symm))
          have hcall := leaveHit_any (A.getD j 0) i c wr hc2
          clear hc2
          generalize hz : A.getD j 0 = z at *
          by_cases hq : z = i
          · rw [decide_eq_true hq] at hcall
            have HQ : Hid (z = i) := hq
            clear hq
            go_wp2_with (go_at_call 53; refine hcall.mono ?_; rintro e w' ⟨rfl, rfl⟩)
            go_roundg (n - (j + 1))
            case measure => omega
            case rel => exact ⟨p, j + 1, ds, rfl, by go_num, by omega, rfl, D1, D2, G1, M1.out.skip (by omega) (hz.trans HQ.out)⟩
          · rw [decide_eq_false hq] at hcall
            have HQ : Hid (¬ z = i) := hq
            clear hq
            go_wp2_with (go_at_call 53; refine hcall.mono ?_; rintro e w' ⟨rfl, rfl⟩)
            go_roundg (n - (j + 1))
            case measure => omega
            case rel => exact ⟨p + 1, j + 1, _, by go_num, by go_num, by omega, rfl, D1.set p _, by simpa using D2, grownBy_set G1 p _, by have := M1.out.keep (by omega) (by rw [hz]; exact HQ.out) (by omega); rw [hz] at this; exact this⟩
        · obtain rfl : j = n := by omega
          have hcl : ∀ ty, (Builtin.clear_ #[25] ty #[.slice (some ⟨g, p, none⟩) (j - p) (cap - p)]).run Tryz.prog wr = .ok (.tuple #[]) (wr.setCells g p (List.replicate (j - p) (.int .i64 0))) :=
            fun ty => Lib.run_clear_slice wr 25 3 ty _ Tryz.underlying25 Tryz.zeroInt rfl rfl g p _ _ (by omega) (fun t ht => by rw [D1.cell (p + t) (Array.getElem?_eq_getElem (by omega))]; rfl) (fun t ht => D1.frozen _)
          obtain ⟨ds2, E1, E2, E3⟩ := blk_setCells g 3 (List.replicate (j - p) (.int .i64 0)) p wr ds D1
          have G2 := grownBy_setCells g (List.replicate (j - p) (Value.int .i64 0)) p wr G1
          clear D1 G1
          generalize wr.setCells g p (List.replicate (j - p) (Value.int .i64 0)) = w2 at *
          go_wp2
          go_ret
          have M := M1.out
          have e3 : less (A.take j) i = less A i := by rw [← hn, List.take_length]
          have hl2 := M.len
          have hlow := M.low
          rw [e3] at hl2 hlow
          subst hl2
          exact ⟨_, rfl, Idl.mk' h4 E1 (by omega) h7 (by omega) (fun t ht => by rw [E3 t ht]; exact hlow t ht), G2, rfl⟩
end Go.Proofs.YtcanjlofnpnhkaaGreatDoor.Pl

/- A new pool; a page of it; a page that leaves the row of idle ones. -/
namespace Go.Proofs.YtcanjlofnpnhkaaGreatDoor.Pl
open Go.ChangeShapes Go.WideShapes Go.ChangeAt Go.RowKit
theorem Tryz.infoPage : (Tryz.prog.info? 92).map (fun i => (i.zero, i.size, i.bytes)) = some (some (.agg #[.int .i64 0, .bool false, .int .i64 0]), 3, 24) := by kernel_rfl
theorem Tryz.infoPageS : (Tryz.prog.info? 92).map (·.size) = some 3 := by kernel_rfl
theorem run_make_pages (n : Nat) (hn : n ≤ 64) (w : World) : (Instr.makeSlice 83 (.int .i64 (n : Int)) (.int .i64 (n : Int))).run Tryz.prog w = .ok (.slice (some ⟨w.heap.size, 0, none⟩) n n) (w.alloc (.cells (madeCells #[.int .i64 0, .bool false, .int .i64 0] (n * 3)) 92)) := by
  obtain ⟨i, hi, hzz⟩ := Option.map_eq_some_iff.1 Tryz.infoPage
  simp only [Prod.mk.injEq] at hzz
  obtain ⟨hz, hs, hb⟩ := hzz
  have hr := run_make (P := Tryz.prog) w 83 92 i _ Tryz.underlying83 hi hz .i64 .i64 n n (by omega) (Int.le_refl _) (by rw [hb]; omega) (by omega)
  simp only [Int.toNat_natCast, hs] at hr
  exact hr
theorem pgs_made (w : World) (n : Nat) : Pgs (w.alloc (.cells (madeCells #[.int .i64 0, .bool false, .int .i64 0] (n * 3)) 92)) w.heap.size (List.replicate n default) := by
  refine ⟨_, blk_new _ _ _, by rw [size_madeCells]; simp, fun i hi => ?_⟩
  simp only [List.length_replicate] at hi
  have e : pg (List.replicate n default) i = default := by unfold pg; simp [List.getD_eq_getElem?_getD, hi]
  rw [e]
  have hk : ∀ k, k < n * 3 → (madeCells #[.int .i64 0, .bool false, .int .i64 0] (n * 3))[k]? = some ((#[Value.int .i64 0, .bool false, .int .i64 0] : Array Value)[k % 3]!) := fun k hk => by
    unfold madeCells
    simp [hk]
  refine ⟨?_, ?_, ?_⟩
  · rw [hk _ (by omega), show i * 3 % 3 = 0 by omega]; rfl
  · rw [hk _ (by omega), show (i * 3 + 1) % 3 = 1 by omega]; rfl
  · rw [hk _ (by omega), show (i * 3 + 2) % 3 = 2 by omega]; rfl
theorem pnew_any (n : Nat) (w : World) (h1 : 1 ≤ n) (h2 : n ≤ 64) : Calls Tryz.prog 7 #[.int .i64 (n : Int)] w fun e w' => e = .returned (.tuple #[.pointer (some ⟨w.heap.size + 1, 0, none⟩), .int .i64 0]) ∧ PoolAt w' w.heap.size (List.replicate n default) [] ∧ Below w.heap.size w w' := by
  have hmk := run_make_pages n h2
  have P0 := pgs_made w n
  have B0 : Below w.heap.size w (w.alloc (.cells (madeCells #[.int .i64 0, .bool false, .int .i64 0] (n * 3)) 92)) := (Below.refl _ _).alloc (Nat.le_refl _) _
  have s0 : (w.alloc (.cells (madeCells #[.int .i64 0, .bool false, .int .i64 0] (n * 3)) 92)).heap.size = w.heap.size + 1 := by simp
  go_enter Tryz.func7, Tryz.ntmps7
  go_wp2
  clear hmk
  generalize w.alloc (.cells (madeCells #[.int .i64 0, .bool false, .int .i64 0] (n * 3)) 92) = w0 at *
  go_ret2
  refine ⟨rfl, ⟨P0.below ((Below.refl _ _).alloc (Nat.le_refl _) _) P0.lt, _, ?_, Idl.nil _ _⟩, below_then B0 ((Below.refl _ _).alloc (Nat.le_refl _) _)⟩
  rw [← s0, List.length_replicate]
  exact blk_new _ _ _
theorem pnew_few (n : Int) (w : World) (h1 : n < 1) : Calls Tryz.prog 7 #[.int .i64 n] w fun e w' => e = .returned (.tuple #[.pointer none, .int .i64 1]) ∧ w' = w := by
  go_enter Tryz.func7, Tryz.ntmps7
  go_wp2
  go_ret2
  exact ⟨rfl, rfl⟩
theorem pnew_many (n : Int) (w : World) (h1 : 64 < n) : Calls Tryz.prog 7 #[.int .i64 n] w fun e w' => e = .returned (.tuple #[.pointer none, .int .i64 2]) ∧ w' = w := by
  have h2 : ¬ n < 1 := by omega
  go_enter Tryz.func7, Tryz.ntmps7
  go_wp2
  go_ret2
  exact ⟨rfl, rfl⟩
theorem PoolAt.box0 {w : World} {b : Nat} {L : List Pg} {I : List Nat} (h : PoolAt w b L I) : w.cell? ⟨b + 1, 0, none⟩ = some (.slice (some ⟨b, 0, none⟩) L.length L.length) := by
  obtain ⟨vi, h1, _⟩ := h.box
  exact h1.cell 0 rfl
set_option maxHeartbeats 800000 in
theorem at_any (b : Nat) (i : Int) (L : List Pg) (I : List Nat) (w : World) (h : PoolAt w b L I) (hi : -9223372036854775808 ≤ i ∧ i ≤ 9223372036854775807) :
   Calls Tryz.prog 34 #[.pointer (some ⟨b + 1, 0, none⟩), .int .i64 i] w fun e w' => e = .returned (atN L i).val ∧ Below w.heap.size w w' := by
  have X0 := blk_new w 92 #[.int .i64 0, .bool false, .int .i64 0]
  have B0 : Below w.heap.size w (w.alloc (.cells #[.int .i64 0, .bool false, .int .i64 0] 92)) := (Below.refl _ _).alloc (Nat.le_refl _) _
  have h' := h.below B0
  have c0 := h'.box0
  have f0 := X0.frozen 0
  have f1 := X0.frozen 1
  have f2 := X0.frozen 2
  have u0 := X0.cell 0 (v := .int .i64 0) rfl
  have u1 := X0.cell 1 (v := .bool false) rfl
  have u2 := X0.cell 2 (v := .int .i64 0) rfl
  generalize hw0 : w.alloc (.cells #[.int .i64 0, .bool false, .int .i64 0] 92) = w0 at *
  generalize hn : L.length = n at *
  by_cases h0 : i < 0
  · have HE : Hid (atN L i = default) := atN_out L i (Or.inl h0)
    clear h h'
    go_enter Tryz.func34, Tryz.ntmps34
    go_wp2
    refine bodyPost_ret (results_cell_row rfl _ _ w.heap.size 92 _ _ _ rfl (((X0.set 0 _).set 1 _).set 2 _) Tryz.underlying92 rfl Tryz.infoPageS) rfl ?_
    exact ⟨by rw [HE.out]; rfl, ((B0.setCell (Nat.le_refl _) _).setCell (Nat.le_refl _) _).setCell (Nat.le_refl _) _⟩
  · obtain ⟨j, rfl⟩ : ∃ j : Nat, i = j := ⟨i.toNat, by omega⟩
    by_cases h1 : j < n
    · have p0 := h'.pages.c0 (i := j) (by omega)
      have p1 := h'.pages.c1 (i := j) (by omega)
      have p2 := h'.pages.c2 (i := j) (by omega)
      have HE : Hid (atN L j = pg L j) := atN_nat L j
      have hb := h'.pages.lt
      have hne : b ≠ w.heap.size := by have := h.size; omega
      clear h h'
      generalize pg L j = z at *
      obtain ⟨zr, zs, zk⟩ := z
      simp only at p0 p1 p2
      go_enter Tryz.func34, Tryz.ntmps34
      go_wp2
      refine bodyPost_ret (results_cell_row rfl _ _ w.heap.size 92 _ _ _ rfl (((X0.set 0 _).set 1 _).set 2 _) Tryz.underlying92 rfl Tryz.infoPageS) rfl ?_
      exact ⟨by rw [HE.out]; rfl, ((B0.setCell (Nat.le_refl _) _).setCell (Nat.le_refl _) _).setCell (Nat.le_refl _) _⟩
    · have HE : Hid (atN L j = default) := atN_out L j (Or.inr (by omega))
      clear h h'
      go_enter Tryz.func34, Tryz.ntmps34
      go_wp2
      refine bodyPost_ret (results_cell_row rfl _ _ w.heap.size 92 _ _ _ rfl (((X0.set 0 _).set 1 _).set 2 _) Tryz.underlying92 rfl Tryz.infoPageS) rfl ?_
      exact ⟨by rw [HE.out]; rfl, ((B0.setCell (Nat.le_refl _) _).setCell (Nat.le_refl _) _).setCell (Nat.le_refl _) _⟩
theorem Idl.slice {w : World} {B : Nat} {v : Value} {A : List Nat} (h : Idl w B v A) : ∃ ao c, v = .slice ao A.length c := by
  rcases h.cases with ⟨rfl, rfl⟩ | ⟨g, cap, cs, rfl, _⟩
  · exact ⟨none, 0, rfl⟩
  · exact ⟨_, _, rfl⟩
theorem PoolAt.idle {w : World} {b : Nat} {L : List Pg} {I : List Nat} (h : PoolAt w b L I) : ∃ vi, Blk w (b + 1) 85 #[.slice (some ⟨b, 0, none⟩) L.length L.length, vi] ∧ Idl w (b + 2) vi I ∧ ∀ g, vi.ownBlock = some g → b + 2 ≤ g ∧ g < w.heap.size := by
  obtain ⟨vi, h1, h2⟩ := h.box
  exact ⟨vi, h1, h2, fun g hg => World.ownsRow.lt h2 g hg⟩
/-- The block of the row of idle pages. -/
def idleBlk (w : World) (b : Nat) : Option Nat := (w.cell? ⟨b + 1, 1, none⟩).bind Value.ownBlock
theorem idleBlk_of {w : World} {b : Nat} {v : Value} (h : w.cell? ⟨b + 1, 1, none⟩ = some v) : idleBlk w b = v.ownBlock := by unfold idleBlk; rw [h]; rfl
theorem idleBlk_same {w w' : World} {b : Nat} (h : w'.heap[b + 1]? = w.heap[b + 1]?) : idleBlk w' b = idleBlk w b := by
  unfold idleBlk
  rw [World.cell?_of_block (w := w) (w' := w') (a := ⟨b + 1, 1, none⟩) h]
/-- Of what was there, only the pool from b on may have turned; its row of idle pages stays in its block or goes into a new one. -/
structure Turns (b : Nat) (w w' : World) : Prop where
  below : Below b w w'
  block : ∀ k, k < w.heap.size → k ≠ b → k ≠ b + 1 → idleBlk w b ≠ some k → w'.heap[k]? = w.heap[k]?
  idle : idleBlk w' b = idleBlk w b ∨ ∃ k, idleBlk w' b = some k ∧ w.heap.size ≤ k
theorem Turns.of_below {b : Nat} {w w' : World} (h : Below w.heap.size w w') (hb : b + 1 < w.heap.size) : Turns b w w' :=
  ⟨h.mono (by omega), fun k hk _ _ _ => h.block k hk, Or.inl (idleBlk_same (h.block _ hb))⟩
theorem Turns.trans {b : Nat} {w w1 w2 : World} (h : Turns b w w1) (k : Turns b w1 w2) : Turns b w w2 := by
  refine ⟨h.below.trans k.below, fun j hj h1 h2 h3 => ?_, ?_⟩
  · rw [k.block j (Nat.lt_of_lt_of_le hj h.below.size) h1 h2 ?_]
    · exact h.block j hj h1 h2 h3
    · rcases h.idle with e | ⟨q, e, hq⟩
      · rw [e]; exact h3
      · rw [e]; intro e2; simp at e2; omega
  · rcases k.idle with e | ⟨q, e, hq⟩
    · rw [e]; exact h.idle
    · exact Or.inr ⟨q, e, Nat.le_trans h.below.size hq⟩
theorem Turns.set {b : Nat} {w w' : World} (h : Turns b w w') (k : Nat) (v : Value) : Turns b w (w'.setCell ⟨b, k, none⟩ v) := by
  refine ⟨h.below.setCell (Nat.le_refl _) _, fun j hj h1 h2 h3 => ?_, ?_⟩
  · rw [Below.heap_setCell _ _ _ _ h1]; exact h.block j hj h1 h2 h3
  · rw [idleBlk_same (w := w') (Below.heap_setCell _ _ _ _ (by show b + 1 ≠ b; omega))]; exact h.idle
theorem Turns.drew {b : Nat} {w w' : World} (h : Turns b w w') : Turns b w w'.drew := ⟨h.below.drew, h.block, h.idle⟩
theorem Turns.put {b i : Nat} {w w' : World} (h : Turns b w w') (v0 v1 v2 : Value) : Turns b w (((w'.setCell ⟨b, i * 3, none⟩ v0).setCell ⟨b, i * 3 + 1, none⟩ v1).setCell ⟨b, i * 3 + 2, none⟩ v2) := ((h.set _ _).set _ _).set _ _
theorem turns_idle {b : Nat} {w w0 w2 : World} {r : Option Nat} {v v0 v1 : Value} (B0 : Below w.heap.size w w0) (hs : b + 2 ≤ w.heap.size) (hr : idleBlk w b = r) (hr2 : ∀ g, r = some g → b + 2 ≤ g) (G1 : w0.grownBy w2 r) (hb : Blk w2 (b + 1) 85 #[v0, v1]) (hv : ∀ g, v.ownBlock = some g → r = some g ∨ w.heap.size ≤ g) (hn : v.ownBlock = none → r = none) : Turns b w (w2.setCell ⟨b + 1, 1, none⟩ v) := by
  refine ⟨((B0.mono (by omega)).grown G1 (by have := B0.size; omega) (fun k hk => by have := hr2 k hk; omega)).setCell (by show b ≤ b + 1; omega) _, fun k hk h1 h2 h3 => ?_, ?_⟩
  · rw [Below.heap_setCell _ _ _ _ h2, G1.block k (Nat.lt_of_lt_of_le hk B0.size) (by rw [← hr]; exact fun e => h3 e.symm)]
    exact B0.block k hk
  · have e : idleBlk (w2.setCell ⟨b + 1, 1, none⟩ v) b = v.ownBlock := idleBlk_of ((hb.set 1 v).cell 1 rfl)
    rw [e, hr]
    cases hq : v.ownBlock with
    | none => exact Or.inl (hn hq).symm
    | some g =>
      rcases hv g hq with e2 | e2
      · exact Or.inl e2.symm
      · exact Or.inr ⟨g, rfl, e2⟩
set_option maxHeartbeats 800000 in
theorem leave_any (b i : Nat) (L : List Pg) (I : List Nat) (w : World) (h : PoolAt w b L I) (hl : I.length ≤ 64) :
   Calls Tryz.prog 32 #[.pointer (some ⟨b + 1, 0, none⟩), .int .i64 (i : Int)] w fun e w' => e = .returned (.tuple #[]) ∧ PoolAt w' b L (less I i) ∧ Turns b w w' := by
  have hs := h.size
  have X0 := blk_new w 3 #[.int .i64 (i : Int)]
  have B0 : Below w.heap.size w (w.alloc (.cells #[.int .i64 (i : Int)] 3)) := (Below.refl _ _).alloc (Nat.le_refl _) _
  have h' := h.below B0
  have s0 : (w.alloc (.cells #[.int .i64 (i : Int)] 3)).heap.size = w.heap.size + 1 := by simp
  obtain ⟨vi, K1, K2, K3⟩ := h.idle
  have HI : Hid (idleBlk w b = vi.ownBlock) := idleBlk_of (K1.cell 1 rfl)
  replace K1 := K1.below B0 K1.lt
  replace K2 := K2.below B0
  have k3' : ∀ g, vi.ownBlock = some g → g ≠ w.heap.size := fun g hg => by have := K3 g hg; omega
  have C := del_any w.heap.size i (b + 2) vi I _ K2 hl (X0.cell 0 rfl) k3'
  have c1 := K1.cell 1 (v := vi) rfl
  have P0 := h'.pages
  generalize hw0 : w.alloc (.cells #[.int .i64 (i : Int)] 3) = w0 at *
  clear h h' K2 X0 k3'
  go_enter Tryz.func32, Tryz.ntmps32
  go_wp2_with (go_at_call 52; refine C.mono ?_; rintro e w2 ⟨v', rfl, D1, G1, N1⟩; obtain ⟨ao', c', rfl⟩ := D1.slice; have g1 := (K1.of_block (G1.block (b + 1) K1.lt (fun e => by have := K3 _ e.symm; omega))); have f1 := g1.frozen 1; have f2 := g1.cell 1 (v := vi) rfl)
  refine bodyPost_end (results_none rfl _ _ _) rfl ?_
  have P2 := P0.of_block (G1.block b P0.lt (fun e => by have := K3 _ e.symm; omega))
  refine ⟨rfl, ⟨P2.other (by show b ≠ b + 1; omega) _, _, g1.set 1 _, D1.other (by show b + 1 < b + 2; omega) _⟩, ?_⟩
  exact turns_idle B0 hs HI.out (fun g hg => (K3 g hg).1) G1 g1 (fun g hg => Or.inl (N1 ▸ hg)) (fun hg => by rw [← N1]; exact hg)
end Go.Proofs.YtcanjlofnpnhkaaGreatDoor.Pl

/- The pool's calls: Find, Open, Refs, Take. -/
namespace Go.Proofs.YtcanjlofnpnhkaaGreatDoor.Pl
open Go.ChangeShapes Go.WideShapes Go.ChangeAt Go.RowKit
theorem results_tmp4 {fn : Func} {t u v x : Tmp} (h : fn.results = #[.tmp t, .tmp u, .tmp v, .tmp x]) (tmps : Array Value) (P : Program) (w : World) :
    (results fn tmps).run P w = .ok (.tuple #[tmps.getD t undef, tmps.getD u undef, tmps.getD v undef, tmps.getD x undef]) w := by
  simp [results, h]
theorem PoolAt.set0 {w : World} {b : Nat} {L : List Pg} {I : List Nat} (h : PoolAt w b L I) {i : Nat} (hi : i < L.length) (r : Nat) : PoolAt (w.setCell ⟨b, i * 3, none⟩ (.int .i64 (r : Int))) b (L.set i { pg L i with r := r }) I := by
  obtain ⟨vi, h1, h2⟩ := h.box
  refine ⟨h.pages.set0 hi r, vi, ?_, h2.other (by show b < b + 2; omega) _⟩
  rw [List.length_set]
  exact h1.other (by show b + 1 ≠ b; omega) _
theorem PoolAt.set1 {w : World} {b : Nat} {L : List Pg} {I : List Nat} (h : PoolAt w b L I) {i : Nat} (hi : i < L.length) (r : Bool) : PoolAt (w.setCell ⟨b, i * 3 + 1, none⟩ (.bool r)) b (L.set i { pg L i with s := r }) I := by
  obtain ⟨vi, h1, h2⟩ := h.box
  refine ⟨h.pages.set1 hi r, vi, ?_, h2.other (by show b < b + 2; omega) _⟩
  rw [List.length_set]
  exact h1.other (by show b + 1 ≠ b; omega) _
theorem PoolAt.set2 {w : World} {b : Nat} {L : List Pg} {I : List Nat} (h : PoolAt w b L I) {i : Nat} (hi : i < L.length) (r : Int) : PoolAt (w.setCell ⟨b, i * 3 + 2, none⟩ (.int .i64 r)) b (L.set i { pg L i with k := r }) I := by
  obtain ⟨vi, h1, h2⟩ := h.box
  refine ⟨h.pages.set2 hi r, vi, ?_, h2.other (by show b < b + 2; omega) _⟩
  rw [List.length_set]
  exact h1.other (by show b + 1 ≠ b; omega) _
theorem PoolAt.put {w : World} {b : Nat} {L : List Pg} {I : List Nat} (h : PoolAt w b L I) {i : Nat} (hi : i < L.length) (p : Pg) :
    PoolAt (((w.setCell ⟨b, i * 3, none⟩ (.int .i64 (p.r : Int))).setCell ⟨b, i * 3 + 1, none⟩ (.bool p.s)).setCell ⟨b, i * 3 + 2, none⟩ (.int .i64 p.k)) b (L.set i p) I := by
  obtain ⟨vi, h1, h2⟩ := h.box
  have k : b < b + 2 := by omega
  have k' : b + 1 ≠ b := by omega
  refine ⟨h.pages.put hi p, vi, ?_, ((h2.other k _).other k _).other k _⟩
  rw [List.length_set]
  exact ((h1.other k' _).other k' _).other k' _
theorem below_put {B b i : Nat} {w w' : World} (h : Below B w w') (hB : B ≤ b) (v0 v1 v2 : Value) : Below B w (((w'.setCell ⟨b, i * 3, none⟩ v0).setCell ⟨b, i * 3 + 1, none⟩ v1).setCell ⟨b, i * 3 + 2, none⟩ v2) := ((h.setCell hB _).setCell hB _).setCell hB _
theorem Tryz.fieldRefs (r : Nat) (s : Bool) (k : Int) (w : World) : (Instr.field 92 (.agg #[.int .i64 (r : Int), .bool s, .int .i64 k]) 0).run Tryz.prog w = .ok (.int .i64 (r : Int)) w := by
  simp [Instr.field, asAgg, go_sem]
def Pg.open (p : Pg) : Bool := decide (0 < p.r) && !p.s
theorem idxN_cases (p : Pg → Bool) (L : List Pg) : (idxN p L = -1 ∧ ∀ j, j < L.length → p (pg L j) = false) ∨ ∃ k, k < L.length ∧ idxN p L = k ∧ p (pg L k) = true ∧ ∀ j, j < k → p (pg L j) = false := by
  unfold idxN
  by_cases h : L.findIdx p < L.length
  · refine Or.inr ⟨_, h, if_pos h, ?_, fun j hj => ?_⟩
    · rw [← pg_get h]; exact List.findIdx_getElem
    · rw [← pg_get (by omega)]
      have := List.not_of_lt_findIdx hj
      simpa using this
  · refine Or.inl ⟨if_neg h, fun j hj => ?_⟩
    cases hp : p (pg L j) with
    | false => rfl
    | true =>
      exact absurd (List.findIdx_lt_length_of_exists ⟨L[j], List.getElem_mem _, by rw [pg_get hj]; exact hp⟩) h
set_option maxHeartbeats 800000 in
theorem find_any (b : Nat) (key : Int) (L : List Pg) (I : List Nat) (w : World) (h : PoolAt w b L I) (hl : L.length ≤ 64) :
   Calls Tryz.prog 15 #[.pointer (some ⟨b + 1, 0, none⟩), .int .i64 key] w fun e w' => e = .returned (.tuple #[.int .i64 (max (idxN (Pg.hit key) L) 0), .bool (decide (0 ≤ idxN (Pg.hit key) L))]) ∧ Below w.heap.size w w' := by
  have X0 := blk_new w 3 #[.int .i64 key]
  have B0 : Below w.heap.size w (w.alloc (.cells #[.int .i64 key] 3)) := (Below.refl _ _).alloc (Nat.le_refl _) _
  have h' := h.below B0
  have c0 := h'.box0
  have C := pidx_any 36 #[.pointer (some ⟨w.heap.size, 0, none⟩)] (Pg.hit key) b L _ h'.pages hl (enters_of Tryz.func36 (by kernel_rfl) rfl) (fun W x hb => findHit_any x key w.heap.size W (by rw [hb.cell (by exact X0.lt)]; exact X0.cell 0 rfl))
  generalize hw0 : w.alloc (.cells #[.int .i64 key] 3) = w0 at *
  clear X0 h h'
  rcases idxN_cases (Pg.hit key) L with ⟨e1, _⟩ | ⟨k, hk, e1, _⟩
  · rw [e1] at C
    have E1 : Hid (idxN (Pg.hit key) L = -1) := e1
    clear e1
    go_enter Tryz.func15, Tryz.ntmps15
    go_wp2_with (go_at_call 30; refine C.mono ?_; rintro e w2 ⟨rfl, B2⟩)
    go_ret2
    exact ⟨by rw [E1.out]; rfl, below_then B0 B2⟩
  · rw [e1] at C
    have E1 : Hid (idxN (Pg.hit key) L = k) := e1
    clear e1
    go_enter Tryz.func15, Tryz.ntmps15
    go_wp2_with (go_at_call 30; refine C.mono ?_; rintro e w2 ⟨rfl, B2⟩)
    go_ret2
    exact ⟨by rw [E1.out]; simp, below_then B0 B2⟩
end Go.Proofs.YtcanjlofnpnhkaaGreatDoor.Pl

/- The pool's calls: Take, Hold, Forget. -/
namespace Go.Proofs.YtcanjlofnpnhkaaGreatDoor.Pl
open Go.ChangeShapes Go.WideShapes Go.ChangeAt Go.RowKit
/-- A page that was just taken. -/
def one : Pg := ⟨1, false, 0⟩
theorem free_idx (b : Nat) (L : List Pg) (I : List Nat) (w : World) (h : PoolAt w b L I) (hl : L.length ≤ 64) :
   Calls Tryz.prog 30 #[.slice (some ⟨b, 0, none⟩) L.length L.length, .func (.func 31) #[] #[]] w fun e w' => e = .returned (.int .i64 (idxN Pg.free L)) ∧ Below w.heap.size w w' :=
  pidx_any 31 #[] Pg.free b L w h.pages hl (enters_of Tryz.func31 (by kernel_rfl) rfl) (fun W x _ => isFree_any x W)
set_option maxHeartbeats 1000000 in
theorem take_free (b k : Nat) (L : List Pg) (I : List Nat) (w : World) (h : PoolAt w b L I) (hl : L.length ≤ 64) (hk : k < L.length) (e1 : idxN Pg.free L = k) :
   Calls Tryz.prog 11 #[.pointer (some ⟨b + 1, 0, none⟩)] w fun e w' => e = .returned (.tuple #[.int .i64 (k : Int), .int .i64 0, .bool false, .int .i64 0]) ∧ PoolAt w' b (L.set k one) I ∧ Turns b w w' := by
  have C := free_idx b L I w h hl
  rw [e1] at C
  have c0 := h.box0
  have hs := h.size
  have HH : Hid _ := h
  clear h e1
  go_enter Tryz.func11, Tryz.ntmps11
  go_wp2_with (go_at_call 30; refine C.mono ?_; rintro e w2 ⟨rfl, B2⟩; have h2 := HH.out.below B2; have d0 := h2.box0; have p0 := h2.pages.c0 hk; have p1 := h2.pages.c1 hk; have p2 := h2.pages.c2 hk; have f0 := h2.pages.frozen (k * 3); have f1 := h2.pages.frozen (k * 3 + 1); have f2 := h2.pages.frozen (k * 3 + 2))
  refine bodyPost_ret (results_tmp4 rfl _ _ _) rfl ?_
  exact ⟨rfl, h2.put hk one, (Turns.of_below B2 (by omega)).put _ _ _⟩
set_option maxHeartbeats 1000000 in
theorem take_full (b : Nat) (L : List Pg) (w : World) (h : PoolAt w b L []) (hl : L.length ≤ 64) (e1 : idxN Pg.free L = -1) :
   Calls Tryz.prog 11 #[.pointer (some ⟨b + 1, 0, none⟩)] w fun e w' => e = .returned (.tuple #[.int .i64 0, .int .i64 0, .bool false, .int .i64 10]) ∧ Below w.heap.size w w' := by
  have C := free_idx b L [] w h hl
  rw [e1] at C
  have c0 := h.box0
  obtain ⟨vi, K1, K2, K3⟩ := h.idle
  obtain ⟨ao, cc, rfl⟩ := K2.slice
  rw [List.length_nil] at K1
  have HK : Hid (Blk w (b + 1) _ _) := K1
  clear h e1 K1 K2 K3
  go_enter Tryz.func11, Tryz.ntmps11
  go_wp2_with (go_at_call 30; refine C.mono ?_; rintro e w2 ⟨rfl, B2⟩; have k1 := HK.out.below B2 HK.out.lt; have d0 := k1.cell 1 (v := .slice ao 0 cc) rfl)
  refine bodyPost_ret (results_tmp4 rfl _ _ _) rfl ?_
  exact ⟨rfl, B2⟩
set_option maxHeartbeats 1000000 in
theorem take_idle (b i : Nat) (L : List Pg) (R : List Nat) (w : World) (h : PoolAt w b L (i :: R)) (hl : L.length ≤ 64) (hr : (i :: R).length ≤ 64) (hi : i < L.length) (e1 : idxN Pg.free L = -1) :
   Calls Tryz.prog 11 #[.pointer (some ⟨b + 1, 0, none⟩)] w fun e w' => e = .returned (.tuple #[.int .i64 (i : Int), .int .i64 (pg L i).k, .bool true, .int .i64 0]) ∧ PoolAt w' b (L.set i one) (less (i :: R) i) ∧ Turns b w w' := by
  have C := free_idx b L (i :: R) w h hl
  rw [e1] at C
  have c0 := h.box0
  have hs := h.size
  obtain ⟨vi, K1, K2, K3⟩ := h.idle
  rcases K2.cases with ⟨_, h0⟩ | ⟨g, cap, cs, rfl, h4, h5, h6, h7, h8, h9⟩
  · cases h0
  have q0 := h9 0 (by simp)
  simp only [List.getD_cons_zero] at q0
  have hlen : (0 : Int) < ((i :: R).length : Int) := by simp
  have HK : Hid (Blk w (b + 1) _ _) := K1
  have HG : Hid (Blk w g _ _) := h5
  have HH : Hid _ := h
  have hne : ((i :: R).length : Int) ≠ 0 := by omega
  clear h e1 K1 K2 K3 h5 h9
  generalize hz : (i :: R).length = z at *
  have HZ : Hid ((i :: R).length = z) := hz
  clear hz
  go_enter Tryz.func11, Tryz.ntmps11
  go_wp2_with first
    | (go_at_call 30; refine C.mono ?_; rintro e w2 ⟨rfl, B2⟩; have k1 := HK.out.below B2 HK.out.lt; have d1 := k1.cell 1 (v := .slice (some ⟨g, 0, none⟩) z cap) rfl; have d2 := (HG.out.below B2 HG.out.lt).cell 0 q0; have h2 := HH.out.below B2; have d0 := h2.box0; have p2 := h2.pages.c2 hi; have C2 := leave_any b i L (i :: R) w2 h2 (by rw [HZ.out]; omega); clear HK HG k1)
    | (go_at_call 32; refine C2.mono ?_; rintro e w3 ⟨rfl, h3, B3⟩; have x0 := h3.box0; have y0 := h3.pages.c0 hi; have y1 := h3.pages.c1 hi; have y2 := h3.pages.c2 hi; have f0 := h3.pages.frozen (i * 3); have f1 := h3.pages.frozen (i * 3 + 1); have f2 := h3.pages.frozen (i * 3 + 2))
  refine bodyPost_ret (results_tmp4 rfl _ _ _) rfl ?_
  exact ⟨rfl, h3.put hi one, ((Turns.of_below B2 (by omega)).trans B3).put _ _ _⟩
end Go.Proofs.YtcanjlofnpnhkaaGreatDoor.Pl

/- The pool's calls: Hold, Forget, Seal. -/
namespace Go.Proofs.YtcanjlofnpnhkaaGreatDoor.Pl
open Go.ChangeShapes Go.WideShapes Go.ChangeAt Go.RowKit
end Go.Proofs.YtcanjlofnpnhkaaGreatDoor.Pl

/- The pool's calls: Forget, Seal. -/
namespace Go.Proofs.YtcanjlofnpnhkaaGreatDoor.Pl
open Go.ChangeShapes Go.WideShapes Go.ChangeAt Go.RowKit
theorem seal_none (b : Nat) (i key : Int) (L : List Pg) (I : List Nat) (w : World) (h : PoolAt w b L I) (hi : -9223372036854775808 ≤ i ∧ i ≤ 9223372036854775807) (hf : (atN L i).free = true) :
   Calls Tryz.prog 13 #[.pointer (some ⟨b + 1, 0, none⟩), .int .i64 i, .int .i64 key] w fun e w' => e = .returned (.int .i64 8) ∧ Below w.heap.size w w' := by
  have C := at_any b i L I w h hi
  have D := isFree_any (atN L i)
  rw [hf] at D
  generalize atN L i = p at *
  obtain ⟨r, s, k⟩ := p
  unfold Pg.val at C D
  clear h hf
  go_enter Tryz.func13, Tryz.ntmps13
  go_wp2_with first
    | (go_at_call 34; refine C.mono ?_; rintro e w2 ⟨rfl, B2⟩)
    | (go_at_call 31; refine (D _).mono ?_; rintro e w3 ⟨rfl, B3⟩)
  go_ret
  exact ⟨rfl, below_then (below_then B2 ((Below.refl _ _).alloc (Nat.le_refl _) _)) B3⟩
set_option maxHeartbeats 1000000 in
theorem seal_there (b : Nat) (i key : Int) (L : List Pg) (I : List Nat) (w : World) (h : PoolAt w b L I) (hl : L.length ≤ 64) (hi : -9223372036854775808 ≤ i ∧ i ≤ 9223372036854775807) (hf : (atN L i).free = false) (ht : 0 ≤ idxN (Pg.hit key) L ∨ (atN L i).s = true) :
   Calls Tryz.prog 13 #[.pointer (some ⟨b + 1, 0, none⟩), .int .i64 i, .int .i64 key] w fun e w' => e = .returned (.int .i64 9) ∧ Below w.heap.size w w' := by
  have C := at_any b i L I w h hi
  have D := isFree_any (atN L i)
  have HH : Hid _ := h
  rw [hf] at D
  generalize atN L i = p at *
  obtain ⟨r, s, k⟩ := p
  unfold Pg.val at C D
  simp only at ht
  have E := fun w (h : PoolAt w b L I) => find_any b key L I w h hl
  generalize max (idxN (Pg.hit key) L) 0 = m at *
  have X : ∀ w2 : World, Blk (w2.alloc (.cells #[.int .i64 (r : Int), .bool s, .int .i64 k] 92)) w2.heap.size 92 #[.int .i64 (r : Int), .bool s, .int .i64 k] := fun w2 => blk_new _ _ _
  clear h hf
  by_cases h0 : 0 ≤ idxN (Pg.hit key) L
  · rw [decide_eq_true h0] at E
    clear ht h0
    go_enter Tryz.func13, Tryz.ntmps13
    go_wp2_with first
      | (go_at_call 34; refine C.mono ?_; rintro e w2 ⟨rfl, B2⟩)
      | (go_at_call 31; refine (D _).mono ?_; rintro e w3 ⟨rfl, B3⟩; have B4 := below_then (below_then B2 ((Below.refl _ _).alloc (Nat.le_refl _) _)) B3; have h3 := HH.out.below B4; have C3 := E w3 h3)
      | (go_at_call 15; refine C3.mono ?_; rintro e w4 ⟨rfl, B5⟩)
    go_ret
    exact ⟨rfl, below_then B4 B5⟩
  · have hs : s = true := ht.resolve_left h0
    subst hs
    rw [decide_eq_false h0] at E
    clear ht h0
    go_enter Tryz.func13, Tryz.ntmps13
    go_wp2_with first
      | (go_at_call 34; refine C.mono ?_; rintro e w2 ⟨rfl, B2⟩)
      | (go_at_call 31; refine (D _).mono ?_; rintro e w3 ⟨rfl, B3⟩; have B4 := below_then (below_then B2 ((Below.refl _ _).alloc (Nat.le_refl _) _)) B3; have h3 := HH.out.below B4; have C3 := E w3 h3; have X3 := (X w2).below B3 (X w2).lt)
      | (go_at_call 15; refine C3.mono ?_; rintro e w4 ⟨rfl, B5⟩; have x1 := (X3.below B5 X3.lt).cell 1 rfl)
    go_ret
    exact ⟨rfl, below_then B4 B5⟩
set_option maxHeartbeats 1000000 in
theorem seal_ok (b j : Nat) (key : Int) (L : List Pg) (I : List Nat) (w : World) (h : PoolAt w b L I) (hl : L.length ≤ 64) (hj : j < L.length) (hf : (pg L j).free = false) (hs : (pg L j).s = false) (ht : idxN (Pg.hit key) L = -1) :
   Calls Tryz.prog 13 #[.pointer (some ⟨b + 1, 0, none⟩), .int .i64 (j : Int), .int .i64 key] w fun e w' => e = .returned (.int .i64 0) ∧ PoolAt w' b (L.set j ⟨(pg L j).r, true, key⟩) I ∧ Turns b w w' := by
  have C := at_any b j L I w h (by omega)
  rw [atN_nat] at C
  have D := isFree_any (pg L j)
  have HH : Hid _ := h
  have hz := h.size
  rw [hf] at D
  have E := fun w (h : PoolAt w b L I) => find_any b key L I w h hl
  rw [ht] at E
  have HS : Hid (∀ w3, PoolAt w3 b L I → PoolAt ((w3.setCell ⟨b, j * 3 + 1, none⟩ (.bool true)).setCell ⟨b, j * 3 + 2, none⟩ (.int .i64 key)) b (L.set j ⟨(pg L j).r, true, key⟩) I) := fun w3 h3 => by
    have h5 := (h3.set1 hj true).set2 (i := j) (by simpa using hj) key
    rw [List.set_set, pg_set hj, if_pos rfl] at h5
    exact h5
  generalize hp : pg L j = p at *
  obtain ⟨r, s, k⟩ := p
  unfold Pg.val at C D
  simp only at hs
  subst hs
  have X : ∀ w2 : World, Blk (w2.alloc (.cells #[.int .i64 (r : Int), .bool false, .int .i64 k] 92)) w2.heap.size 92 #[.int .i64 (r : Int), .bool false, .int .i64 k] := fun w2 => blk_new _ _ _
  clear h hf ht hp
  go_enter Tryz.func13, Tryz.ntmps13
  go_wp2_with first
    | (go_at_call 34; refine C.mono ?_; rintro e w2 ⟨rfl, B2⟩)
    | (go_at_call 31; refine (D _).mono ?_; rintro e w3 ⟨rfl, B3⟩; have B4 := below_then (below_then B2 ((Below.refl _ _).alloc (Nat.le_refl _) _)) B3; have h3 := HH.out.below B4; have C3 := E w3 h3; have X3 := (X w2).below B3 (X w2).lt)
    | (go_at_call 15; refine C3.mono ?_; rintro e w4 ⟨rfl, B5⟩; have x1 := (X3.below B5 X3.lt).cell 1 rfl; have h4 := h3.below B5; have d0 := h4.box0; have d1 := h4.pages.c1 hj; have d2 := h4.pages.c2 hj; have f1 := h4.pages.frozen (j * 3 + 1); have f2 := h4.pages.frozen (j * 3 + 2))
  clear C D E X C3 X3 x1 B3
  go_region
  go_wp2
  go_ret
  have B6 : Turns b w w4 := Turns.of_below (below_then B4 B5) (by omega)
  exact ⟨rfl, (HS.out w4 h4).below ((Below.refl _ _).drew), ((B6.set _ _).set _ _).drew⟩
end Go.Proofs.YtcanjlofnpnhkaaGreatDoor.Pl

/- append onto a row of the call's own: the row stays in its block, or goes into a new one; all other blocks stay. -/
namespace Go.Proofs.YtcanjlofnpnhkaaGreatDoor.Pl
open Go.ChangeShapes Go.WideShapes Go.ChangeAt Go.RowKit
section
variable {P : Program} (w : World)
theorem run_append_own2 (base : Nat) (t ty e : TypeId) (i : TypeInfo) (z : Value) (size bytes : Nat) (ht : P.underlying t = some (.slice e)) (hi : P.info? e = some i) (hz : i.zero = some z)
    (hsize : i.size = size) (hby : i.bytes = bytes) (hzs : z.cells.size = size) (hsz : 0 < size)
    (v : Value) (n : Nat) (xs : List Value) (hown : w.ownsRow base e size v n xs)
    (a : Addr) (m c : Nat) (news : List Value) (hl : news.length = m * size) (hnews : ∀ j u, news[j]? = some u → w.cell? (a.add j) = some u) (h1 : ∀ u ∈ news, u.oneCell' = true)
    (h63 : n + m ≤ maxLen) (hbytes : (n + m) * bytes ≤ 140737488355328) (hbase : base ≤ w.heap.size) :
    ∃ v' w', (Builtin.append_ #[t, t] ty #[v, .slice (some a) m c]).run P w = .ok v' w' ∧ w'.ownsRow base e size v' (n + m) (xs ++ news) ∧ w.grownBy w' v.ownBlock ∧
      (v' = .slice none 0 0 ↔ v = .slice none 0 0 ∧ m = 0) ∧ ∀ g', v'.ownBlock = some g' → v.ownBlock = some g' ∨ g' = w.heap.size := by
  obtain ⟨v', w', hr, h2, h3, h4⟩ := run_append_own (P := P) w base t ty e i z size bytes ht hi hz hsize hby hzs hsz v n xs hown a m c news hl hnews h1 h63 hbytes hbase
  refine ⟨v', w', hr, h2, h3, h4, ?_⟩
  subst hsize
  subst hby
  have hsmall : n + m ≤ 9223372036854775807 := by simp only [maxLen] at h63; omega
  rcases hown.2 with ⟨rfl, rfl⟩ | ⟨g, cap, cur, rfl, hbg, hg, hnc, hcm, hcs, htake⟩
  · by_cases hm : m = 0
    · have := h4.2 ⟨rfl, hm⟩
      subst this
      intro g' hg'
      cases hg'
    · have hr2 := run_append_nil (P := P) w t ty e i z ht hi hz a m c news hl hnews (by omega) (by omega) (by have hb := hbytes; simp only [Nat.zero_add] at hb; omega)
      rw [hr] at hr2
      injection hr2 with e1 e2
      subst e1
      intro g' hg'
      exact Or.inr (Option.some.inj hg').symm
  · by_cases hroom : n + m ≤ cap
    · have hfit : n * i.size + news.length ≤ cur.size := by rw [hl, hcs, ← Nat.add_mul]; exact Nat.mul_le_mul_right _ hroom
      have hr2 := run_append_room (P := P) w t ty e i ht hi g n cap cur hg a m c news hl hnews h1 hroom hfit
      rw [hr] at hr2
      injection hr2 with e1 e2
      subst e1
      intro g' hg'
      exact Or.inl hg'
    · have holds : ∀ j u, xs[j]? = some u → w.cell? ((⟨g, 0, none⟩ : Addr).add j) = some u := hown.cells (g := g) rfl
      have hr2 := run_append_grow (P := P) w t ty e i z ht hi hz ⟨g, 0, none⟩ n cap xs hown.1 holds a m c news hl hnews (by omega) (by omega) (growslice_fits (by omega) hbytes)
      rw [hr] at hr2
      injection hr2 with e1 e2
      subst e1
      intro g' hg'
      exact Or.inr (Option.some.inj hg').symm
theorem wp_append_own2 {o : Oper} {a : Act} {K : Act → World → Prop} {Q : Exit → Act → World → Prop} (s x : Operand) (t : TypeId)
    (ho : o.op = .call { callee := .builtin .append, args := #[s, x], argTypes := #[t, t] })
    (base : Nat) (e : TypeId) (i : TypeInfo) (z : Value) (size bytes : Nat) (ht : P.underlying t = some (.slice e)) (hi : P.info? e = some i) (hz : i.zero = some z)
    (hsize : i.size = size) (hby : i.bytes = bytes) (hzs : z.cells.size = size) (hsz : 0 < size)
    (v : Value) (n : Nat) (xs : List Value) (hs : a.eval s = v) (hown : w.ownsRow base e size v n xs)
    (ad : Addr) (m c : Nat) (news : List Value) (hx : a.eval x = .slice (some ad) m c) (hl : news.length = m * size) (hnews : ∀ j u, news[j]? = some u → w.cell? (ad.add j) = some u) (h1 : ∀ u ∈ news, u.oneCell' = true)
    (h63 : n + m ≤ maxLen) (hbytes : (n + m) * bytes ≤ 140737488355328) (hbase : base ≤ w.heap.size)
    (h : ∀ v' w', w'.ownsRow base e size v' (n + m) (xs ++ news) → w.grownBy w' v.ownBlock → (v' = .slice none 0 0 ↔ v = .slice none 0 0 ∧ m = 0) → (∀ g', v'.ownBlock = some g' → v.ownBlock = some g' ∨ g' = w.heap.size) → K (a.put o.dst v') w') : o.wp P a w K Q := by
  obtain ⟨v', w', hr, h2, h3, h4, h5⟩ := run_append_own2 (P := P) w base t o.type e i z size bytes ht hi hz hsize hby hzs hsz v n xs hown ad m c news hl hnews h1 h63 hbytes hbase
  unfold Oper.wp execOp
  simp only [ho, resolve, invoke, builtin, Sem.run_bind, Sem.run_pure, Result.andThen_ok, List.map_toArray, List.map_cons, List.map_nil, hs, hx, hr]
  exact h v' w' h2 h3 h4 h5
theorem wpList_append_own2 {ops : Array Oper} {rest : List Oper} {o : Oper} {a : Act} {Q : Exit → Act → World → Prop} (hgd : o.guard = none) (s x : Operand) (t : TypeId)
    (ho : o.op = .call { callee := .builtin .append, args := #[s, x], argTypes := #[t, t] })
    (base : Nat) (e : TypeId) (i : TypeInfo) (z : Value) (size bytes : Nat) (ht : P.underlying t = some (.slice e)) (hi : P.info? e = some i) (hz : i.zero = some z)
    (hsize : i.size = size) (hby : i.bytes = bytes) (hzs : z.cells.size = size) (hsz : 0 < size)
    (v : Value) (n : Nat) (xs : List Value) (hs : a.eval s = v) (hown : w.ownsRow base e size v n xs)
    (ad : Addr) (m c : Nat) (news : List Value) (hx : a.eval x = .slice (some ad) m c) (hl : news.length = m * size) (hnews : ∀ j u, news[j]? = some u → w.cell? (ad.add j) = some u) (h1 : ∀ u ∈ news, u.oneCell' = true)
    (h63 : n + m ≤ maxLen) (hbytes : (n + m) * bytes ≤ 140737488355328) (hbase : base ≤ w.heap.size)
    (h : ∀ v' w', w'.ownsRow base e size v' (n + m) (xs ++ news) → w.grownBy w' v.ownBlock → (v' = .slice none 0 0 ↔ v = .slice none 0 0 ∧ m = 0) → (∀ g', v'.ownBlock = some g' → v.ownBlock = some g' ∨ g' = w.heap.size) → wpList P ops Q rest (a.put o.dst v') w') : wpList P ops Q (o :: rest) a w :=
  wpList_plain hgd fun _ hK => wp_append_own2 w s x t ho base e i z size bytes ht hi hz hsize hby hzs hsz v n xs hs hown ad m c news hx hl hnews h1 h63 hbytes hbase fun v' w' h2 h3 h4 h5 => hK _ _ (h v' w' h2 h3 h4 h5)
end
end Go.Proofs.YtcanjlofnpnhkaaGreatDoor.Pl

/- The pool's calls: Drop, Counts. -/
namespace Go.Proofs.YtcanjlofnpnhkaaGreatDoor.Pl
open Go.ChangeShapes Go.WideShapes Go.ChangeAt Go.RowKit
theorem drop_none (b : Nat) (i : Int) (L : List Pg) (I : List Nat) (w : World) (h : PoolAt w b L I) (hi : -9223372036854775808 ≤ i ∧ i ≤ 9223372036854775807) (hf : (atN L i).r = 0) :
   Calls Tryz.prog 14 #[.pointer (some ⟨b + 1, 0, none⟩), .int .i64 i] w fun e w' => e = .returned (.int .i64 8) ∧ Below w.heap.size w w' := by
  have C := at_any b i L I w h hi
  generalize atN L i = p at *
  obtain ⟨r, s, k⟩ := p
  simp only at hf
  subst hf
  unfold Pg.val at C
  have hfd := Tryz.fieldRefs 0 s k
  clear h
  simp only [Int.natCast_zero] at C hfd
  go_enter Tryz.func14, Tryz.ntmps14
  go_wp2_with (go_at_call 34; refine C.mono ?_; rintro e w2 ⟨rfl, B2⟩)
  go_ret
  exact ⟨rfl, B2⟩
theorem Tryz.infoInt : (Tryz.prog.info? 3).map (fun i => (i.zero, i.size, i.bytes)) = some (some (.int .i64 0), 1, 8) := by kernel_rfl
set_option maxHeartbeats 1000000 in
set_option maxRecDepth 100000 in
theorem drop_stay (b j : Nat) (L : List Pg) (I : List Nat) (w : World) (h : PoolAt w b L I) (hl : L.length ≤ 64) (hj : j < L.length) (hr : 1 ≤ (pg L j).r) (hr2 : (pg L j).r ≤ 1000) (hn : ({ pg L j with r := (pg L j).r - 1 } : Pg).idle = false) :
   Calls Tryz.prog 14 #[.pointer (some ⟨b + 1, 0, none⟩), .int .i64 (j : Int)] w fun e w' => e = .returned (.int .i64 0) ∧ PoolAt w' b (L.set j { pg L j with r := (pg L j).r - 1 }) I ∧ Turns b w w' := by
  have C := at_any b j L I w h (by omega)
  rw [atN_nat] at C
  have D := isIdle_any { pg L j with r := (pg L j).r - 1 }
  rw [hn] at D
  have HH : Hid _ := h
  have hs := h.size
  have HS : Hid (∀ w3, PoolAt w3 b L I → w3.cell? ⟨b, j * 3, none⟩ = some (.int .i64 ((pg L j).r : Int)) ∧ PoolAt (w3.setCell ⟨b, j * 3, none⟩ (.int .i64 (((pg L j).r - 1 : Nat) : Int))) b (L.set j { pg L j with r := (pg L j).r - 1 }) I ∧ (w3.setCell ⟨b, j * 3, none⟩ (.int .i64 (((pg L j).r - 1 : Nat) : Int))).cell? ⟨b, j * 3 + 1, none⟩ = some (.bool (pg L j).s) ∧ (w3.setCell ⟨b, j * 3, none⟩ (.int .i64 (((pg L j).r - 1 : Nat) : Int))).cell? ⟨b, j * 3 + 2, none⟩ = some (.int .i64 (pg L j).k) ∧ (w3.setCell ⟨b, j * 3, none⟩ (.int .i64 (((pg L j).r - 1 : Nat) : Int))).cell? ⟨b, j * 3, none⟩ = some (.int .i64 (((pg L j).r - 1 : Nat) : Int))) := fun w3 h3 => by
    have h5 := h3.set0 hj ((pg L j).r - 1)
    have u0 := h5.pages.c0 (i := j) (by simpa using hj)
    have u1 := h5.pages.c1 (i := j) (by simpa using hj)
    have u2 := h5.pages.c2 (i := j) (by simpa using hj)
    rw [pg_set hj, if_pos rfl] at u0 u1 u2
    exact ⟨h3.pages.c0 hj, h5, u1, u2, u0⟩
  generalize pg L j = p at *
  obtain ⟨r, s, k⟩ := p
  unfold Pg.val at C D
  simp only at hr hr2 D HS
  obtain ⟨q, rfl⟩ : ∃ q, r = q + 1 := ⟨r - 1, by omega⟩
  simp only [Nat.add_sub_cancel] at D HS
  have hfd := Tryz.fieldRefs (q + 1) s k
  clear h hn
  have hq1 : (0 : Int) ≤ (q : Int) ∧ (q : Int) < 1000 := by omega
  have e1 : (((q + 1 : Nat)) : Int) = (q : Int) + 1 := by omega
  simp only [e1] at C hfd HS
  clear hr hr2 e1
  go_enter Tryz.func14, Tryz.ntmps14
  go_wp2_with first
    | (go_at_call 34; refine C.mono ?_; rintro e w2 ⟨rfl, B2⟩; have h2 := HH.out.below B2; have y0 := h2.box0; have f0 := h2.pages.frozen (j * 3); obtain ⟨y1, h5, y2, y3, y4⟩ := HS.out w2 h2; have y5 := h5.box0; simp only [List.length_set] at y5)
    | (go_at_call 35; refine (D _).mono ?_; rintro e w3 ⟨rfl, B3⟩)
  go_ret
  have B4 : Turns b w (w2.setCell ⟨b, j * 3, none⟩ (.int .i64 (q : Int))) := (Turns.of_below B2 (by omega)).set _ _
  exact ⟨rfl, by rw [Nat.add_sub_cancel]; exact h5.below B3, B4.trans (Turns.of_below B3 (by have := h5.size; omega))⟩
theorem one_cell {w : World} {g : Nat} {v : Value} (h : w.cell? ⟨g, 0, none⟩ = some v) : ∀ t u, [v][t]? = some u → w.cell? ((⟨g, 0, none⟩ : Addr).add t) = some u := by
  intro t u ht
  cases t with
  | zero =>
    simp only [List.getElem?_cons_zero, Option.some.injEq] at ht
    subst ht
    have e : (⟨g, 0, none⟩ : Addr).add 0 = ⟨g, 0, none⟩ := rfl
    rw [e]; exact h
  | succ t => simp at ht
theorem one_one (x : Int) : ∀ u ∈ [Value.int .i64 x], u.oneCell' = true := by
  intro u hu
  simp only [List.mem_singleton] at hu
  subst hu
  rfl
set_option maxHeartbeats 2000000 in
set_option maxRecDepth 100000 in
theorem drop_idle (b j : Nat) (L : List Pg) (I : List Nat) (w : World) (h : PoolAt w b L I) (hl : L.length ≤ 64) (hI : I.length ≤ 64) (hj : j < L.length) (hr : (pg L j).r = 1) (hs1 : (pg L j).s = true) :
   Calls Tryz.prog 14 #[.pointer (some ⟨b + 1, 0, none⟩), .int .i64 (j : Int)] w fun e w' => e = .returned (.int .i64 0) ∧ PoolAt w' b (L.set j { pg L j with r := 0 }) (I ++ [j]) ∧ Turns b w w' := by
  have C := at_any b j L I w h (by omega)
  rw [atN_nat] at C
  have D := isIdle_any { pg L j with r := 0 }
  have hn : ({ pg L j with r := 0 } : Pg).idle = true := by unfold Pg.idle; simp [hs1]
  rw [hn] at D
  have HH : Hid _ := h
  have hs := h.size
  have HS : Hid (∀ w3, PoolAt w3 b L I → w3.cell? ⟨b, j * 3, none⟩ = some (.int .i64 1) ∧ PoolAt (w3.setCell ⟨b, j * 3, none⟩ (.int .i64 0)) b (L.set j { pg L j with r := 0 }) I ∧ (w3.setCell ⟨b, j * 3, none⟩ (.int .i64 0)).cell? ⟨b, j * 3 + 1, none⟩ = some (.bool (pg L j).s) ∧ (w3.setCell ⟨b, j * 3, none⟩ (.int .i64 0)).cell? ⟨b, j * 3 + 2, none⟩ = some (.int .i64 (pg L j).k) ∧ (w3.setCell ⟨b, j * 3, none⟩ (.int .i64 0)).cell? ⟨b, j * 3, none⟩ = some (.int .i64 0)) := fun w3 h3 => by
    have h5 := h3.set0 hj 0
    have u0 := h5.pages.c0 (i := j) (by simpa using hj)
    have u1 := h5.pages.c1 (i := j) (by simpa using hj)
    have u2 := h5.pages.c2 (i := j) (by simpa using hj)
    rw [pg_set hj, if_pos rfl] at u0 u1 u2
    have u3 := h3.pages.c0 hj
    rw [hr] at u3
    exact ⟨u3, h5, u1, u2, u0⟩
  generalize pg L j = p at *
  obtain ⟨r, s, k⟩ := p
  unfold Pg.val at C D
  simp only at hr hs1 D HS
  subst hr hs1
  have hfd := Tryz.fieldRefs 1 true k
  simp only [Int.natCast_zero, Int.natCast_one] at C D hfd HS
  clear h hn
  obtain ⟨i0, hi, hz0, hz1, hz2⟩ := info_parts Tryz.infoInt
  go_enter Tryz.func14, Tryz.ntmps14
  go_wp2_with first
    | (go_at_call 34; refine C.mono ?_; rintro e w2 ⟨rfl, B2⟩; have h2 := HH.out.below B2; have y0 := h2.box0; have f0 := h2.pages.frozen (j * 3); obtain ⟨y1, h5, y2, y3, y4⟩ := HS.out w2 h2; have y5 := h5.box0; simp only [List.length_set] at y5)
    | (go_at_call 35; refine (D _).mono ?_; rintro e w3 ⟨rfl, B3⟩; have h6 := h5.below B3; obtain ⟨vi, K1, K2, K3⟩ := h6.idle; obtain ⟨ao, cc, rfl⟩ := K2.slice; have d1 := K1.cell 1 (v := .slice ao I.length cc) rfl; have B6 : Below w3.heap.size w3 (w3.alloc (.cells #[.int .i64 (j : Int)] 3)) := (Below.refl _ _).alloc (Nat.le_refl _) _; have h7 := h6.below B6; have K4 := K2.below B6; have K5 := K1.below B6 K1.lt; have z0 := (blk_new w3 3 #[.int .i64 (j : Int)]).cell 0 (v := .int .i64 (j : Int)) rfl; clear K2 h6 y0 y1 y2 y3 y4 y5 f0)
    | (at_builtin; refine wpList_append_own2 _ rfl _ _ 25 rfl (b + 2) 3 i0 (.int .i64 0) 1 8 Tryz.underlying25 hi hz0 hz1 hz2 rfl (by decide) _ I.length _ rfl K4 ⟨w3.heap.size, 0, none⟩ 1 1 [.int .i64 (j : Int)] rfl rfl (one_cell z0) (one_one _) (by unfold maxLen; omega) (by omega) (by have := K1.lt; simp; omega) ?_; intro v' w5 O1 G1 N1 N2; have D1 : Idl w5 (b + 2) v' (I ++ [j]) := (by unfold Idl; simpa using O1); obtain ⟨ao2, c2, rfl⟩ := D1.slice; have g5 := K5.of_block (G1.block (b + 1) K5.lt (fun e => by have := K3 _ e.symm; omega)); have f5 := g5.frozen 1; have x5 := g5.cell 1 (v := .slice ao I.length cc) rfl)
  go_ret
  have e9 : (I ++ [j]).length = I.length + 1 := by simp
  rw [e9] at D1 N2
  have P5 := h7.pages.of_block (G1.block b h7.pages.lt (fun e => by have := K3 _ e.symm; omega))
  have B4 : Turns b w (w2.setCell ⟨b, j * 3, none⟩ (.int .i64 0)) := (Turns.of_below B2 (by omega)).set _ _
  have q1 := h5.size
  have q2 := K1.lt
  have B7 : Turns b w w3 := B4.trans (Turns.of_below B3 (by omega))
  have e10 : idleBlk w3 b = (Value.slice ao I.length cc).ownBlock := idleBlk_of d1
  have B8 : Turns b w3 (w5.setCell ⟨b + 1, 1, none⟩ (.slice ao2 (I.length + 1) c2)) := turns_idle B6 (by omega) e10 (fun g hg => (K3 g hg).1) G1 g5 (fun g hg => (N2 g hg).elim Or.inl (fun e => Or.inr (by simp at e; omega))) (fun hg => by
    exfalso
    cases ao2 with
    | none =>
      rcases D1.cases with ⟨_, h0⟩ | ⟨g, cap, cs, h0, _⟩
      · simp at h0
      · cases h0
    | some a => cases hg)
  refine ⟨rfl, ⟨P5.other (a := ⟨b + 1, 1, none⟩) (by show b ≠ b + 1; omega) _, _, g5.set 1 _, ?_⟩, B7.trans B8⟩
  have D2 := D1.other (a := ⟨b + 1, 1, none⟩) (by show b + 1 < b + 2; omega) (.slice ao2 (I.length + 1) c2)
  exact D2
/-- How many pages are needed. -/
def need (L : List Pg) : Nat := (L.filter fun p => decide (0 < p.r)).length
theorem need_take {L : List Pg} {k : Nat} (h : k < L.length) : need (L.take (k + 1)) = need (L.take k) + (if 0 < (pg L k).r then 1 else 0) := by
  unfold need
  rw [List.take_succ_eq_append_getElem h, List.filter_append, List.length_append, pg_get h]
  by_cases h2 : 0 < (pg L k).r
  · rw [if_pos h2]; simp [h2]
  · rw [if_neg h2]; simp [h2]
theorem need_le (L : List Pg) : need L ≤ L.length := List.length_filter_le _ _
end Go.Proofs.YtcanjlofnpnhkaaGreatDoor.Pl

/- The answers that the document fixes of a pool. -/
namespace Go.Proofs.YtcanjlofnpnhkaaGreatDoor.Pl
open Go.ChangeShapes Go.WideShapes Go.ChangeAt Go.RowKit
theorem replicate_one : List.replicate 1 (default : Pg) = [default] := rfl
theorem idx_new : idxN Pg.free [default] = ((0 : Nat) : Int) := by decide
theorem idx_taken : idxN Pg.free [one] = -1 := by decide
end Go.Proofs.YtcanjlofnpnhkaaGreatDoor.Pl

/- What a pool's pages and its row of idle ones keep to, behind any calls. -/
namespace Go.Proofs.YtcanjlofnpnhkaaGreatDoor.Pl
open Go.ChangeShapes Go.WideShapes Go.ChangeAt Go.RowKit
/-- The row of idle pages has each of them once; no page is needed too often. -/
structure WF (L : List Pg) (I : List Nat) : Prop where
  nodup : I.Nodup
  mem : ∀ i, i ∈ I ↔ i < L.length ∧ (pg L i).idle = true
  refs : ∀ i, (pg L i).r ≤ 1000
theorem less_mem {I : List Nat} {i j : Nat} : i ∈ less I j ↔ i ∈ I ∧ i ≠ j := by unfold less; simp
theorem less_nodup {I : List Nat} (h : I.Nodup) (j : Nat) : (less I j).Nodup := h.filter _
theorem WF.keep {L : List Pg} {I : List Nat} (h : WF L I) {j : Nat} (hj : j < L.length) {p : Pg} (hp : p.idle = (pg L j).idle) (hr : p.r ≤ 1000) : WF (L.set j p) I := by
  refine ⟨h.nodup, fun i => ?_, fun i => ?_⟩
  · rw [List.length_set, pg_set hj, h.mem]
    by_cases e : i = j
    · subst e; rw [if_pos rfl, hp]
    · rw [if_neg e]
  · rw [pg_set hj]
    by_cases e : i = j
    · rw [if_pos e]; exact hr
    · rw [if_neg e]; exact h.refs i
theorem WF.less {L : List Pg} {I : List Nat} (h : WF L I) {j : Nat} (hj : j < L.length) {p : Pg} (hp : p.idle = false) (hr : p.r ≤ 1000) : WF (L.set j p) (less I j) := by
  refine ⟨less_nodup h.nodup j, fun i => ?_, fun i => ?_⟩
  · rw [List.length_set, pg_set hj, less_mem, h.mem]
    by_cases e : i = j
    · subst e; rw [if_pos rfl, hp]; simp
    · rw [if_neg e]; simp [e]
  · rw [pg_set hj]
    by_cases e : i = j
    · rw [if_pos e]; exact hr
    · rw [if_neg e]; exact h.refs i
theorem WF.add {L : List Pg} {I : List Nat} (h : WF L I) {j : Nat} (hj : j < L.length) {p : Pg} (h0 : (pg L j).idle = false) (hp : p.idle = true) (hr : p.r ≤ 1000) : WF (L.set j p) (I ++ [j]) := by
  have hn : j ∉ I := fun hm => by have := ((h.mem j).1 hm).2; rw [h0] at this; cases this
  refine ⟨?_, fun i => ?_, fun i => ?_⟩
  · rw [List.nodup_append]
    refine ⟨h.nodup, by simp, fun a ha b hb => ?_⟩
    simp at hb
    subst hb
    intro e
    subst e
    exact hn ha
  · rw [List.length_set, pg_set hj, List.mem_append, h.mem]
    by_cases e : i = j
    · subst e; rw [if_pos rfl, hp]; simp [hj]
    · rw [if_neg e]; simp [e]
  · rw [pg_set hj]
    by_cases e : i = j
    · rw [if_pos e]; exact hr
    · rw [if_neg e]; exact h.refs i
/-- How many pages are such. -/
def cnt (f : Pg → Bool) (L : List Pg) : Nat := (L.filter f).length
theorem need_cnt (L : List Pg) : need L = cnt (fun p => decide (0 < p.r)) L := rfl
theorem cnt_set (f : Pg → Bool) : ∀ (L : List Pg) (j : Nat) (p : Pg), j < L.length → cnt f (L.set j p) + (if f (pg L j) = true then 1 else 0) = cnt f L + (if f p = true then 1 else 0)
  | [], _, _, h => by simp at h
  | x :: L, 0, p, _ => by
    have e : pg (x :: L) 0 = x := rfl
    unfold cnt
    rw [e, List.set_cons_zero, List.filter_cons, List.filter_cons]
    by_cases h1 : f x = true <;> by_cases h2 : f p = true <;> simp [h1, h2]
  | x :: L, j + 1, p, h => by
    have ih := cnt_set f L j p (by simpa using h)
    have e : pg (x :: L) (j + 1) = pg L j := rfl
    unfold cnt at *
    rw [e, List.set_cons_succ, List.filter_cons, List.filter_cons]
    by_cases h1 : f x = true <;> simp only [h1, if_true, if_false, List.length_cons, Bool.false_eq_true] <;> omega
theorem cnt_all : ∀ L : List Pg, cnt Pg.free L + need L + cnt Pg.idle L = L.length
  | [] => rfl
  | x :: L => by
    have ih := cnt_all L
    rw [need_cnt] at *
    unfold cnt at *
    rw [List.filter_cons, List.filter_cons, List.filter_cons, List.length_cons]
    obtain ⟨r, s, k⟩ := x
    unfold Pg.free Pg.idle at *
    by_cases h : r = 0
    · subst h
      cases s <;> simp at * <;> omega
    · have h2 : 0 < r := by omega
      simp [h, h2] at *
      omega
theorem cnt_range (f : Pg → Bool) (L : List Pg) : ((List.range L.length).filter fun i => f (pg L i)).length = cnt f L := by
  have e : (List.range L.length).map (pg L) = L := by
    apply List.ext_getElem
    · simp
    · intro i h1 h2
      simp [pg_get h2]
  unfold cnt
  conv => rhs; rw [← e, List.filter_map, List.length_map]
  rfl
theorem WF.len {L : List Pg} {I : List Nat} (h : WF L I) : I.length = cnt Pg.idle L := by
  rw [← cnt_range]
  refine List.Perm.length_eq ((List.perm_ext_iff_of_nodup h.nodup (List.nodup_range.filter _)).2 fun a => ?_)
  rw [h.mem, List.mem_filter, List.mem_range]
theorem WF.few {L : List Pg} {I : List Nat} (h : WF L I) : I.length ≤ L.length := by
  rw [h.len]; exact List.length_filter_le _ _
theorem cnt_zero {f : Pg → Bool} {L : List Pg} (h : cnt f L = 0) : idxN f L = -1 := by
  refine idxN_miss _ _ fun j hj => ?_
  cases hf : f (pg L j) with
  | false => rfl
  | true =>
    have : pg L j ∈ L.filter f := by rw [List.mem_filter, ← pg_get hj]; exact ⟨List.getElem_mem _, by rw [pg_get hj]; exact hf⟩
    have := List.length_pos_of_mem this
    unfold cnt at h
    omega
theorem cnt_pos {f : Pg → Bool} {L : List Pg} (h : 0 < cnt f L) : ∃ k, k < L.length ∧ idxN f L = (k : Nat) ∧ f (pg L k) = true := by
  rcases idxN_cases f L with ⟨_, e⟩ | ⟨k, h1, h2, h3, _⟩
  · exfalso
    have : L.filter f = [] := by
      rw [List.filter_eq_nil_iff]
      intro x hx
      obtain ⟨j, hj, e2⟩ := List.getElem_of_mem hx
      rw [← e2, pg_get hj, e j hj]
      simp
    unfold cnt at h
    rw [this] at h
    simp at h
  · exact ⟨k, h1, h2, h3⟩
theorem wf_new (n : Nat) : WF (List.replicate n default) [] := by
  have e : ∀ i, pg (List.replicate n default) i = default := fun i => by
    unfold pg
    rw [List.getD_eq_getElem?_getD, List.getElem?_replicate]
    split <;> rfl
  refine ⟨List.nodup_nil, fun i => ?_, fun i => ?_⟩
  · rw [e]; simp [Pg.idle, show (default : Pg).s = false from rfl]
  · rw [e]; exact Nat.zero_le _
theorem atN_or (L : List Pg) (i : Int) : atN L i = default ∨ ∃ j : Nat, i = j ∧ j < L.length ∧ atN L i = pg L j := by
  by_cases h : i < 0 ∨ (L.length : Int) ≤ i
  · exact Or.inl (atN_out L i h)
  · obtain ⟨j, rfl⟩ : ∃ j : Nat, i = j := ⟨i.toNat, by omega⟩
    exact Or.inr ⟨j, rfl, by omega, atN_nat L j⟩
end Go.Proofs.YtcanjlofnpnhkaaGreatDoor.Pl

/- Each call of a pool as one step: what it answers, and the pool behind it. -/
namespace Go.Proofs.YtcanjlofnpnhkaaGreatDoor.Pl
open Go.ChangeShapes Go.WideShapes Go.ChangeAt Go.RowKit
/-- A pool's state: its pages, the row of idle ones. -/
structure St where
  L : List Pg
  I : List Nat
/-- In w the pool from b on is in state x, which keeps to what pools keep to. -/
structure In (w : World) (b : Nat) (x : St) : Prop where
  at' : PoolAt w b x.L x.I
  wf : WF x.L x.I
  few : x.L.length ≤ 64
theorem In.below {w w' : World} {b : Nat} {x : St} (h : In w b x) (hb : Below w.heap.size w w') : In w' b x := ⟨h.at'.below hb, h.wf, h.few⟩
theorem In.few2 {w : World} {b : Nat} {x : St} (h : In w b x) : x.I.length ≤ 64 := Nat.le_trans h.wf.few h.few
theorem In.lt {w : World} {b : Nat} {x : St} (h : In w b x) : b + 1 < w.heap.size := by have := h.at'.size; omega
structure TakeR where
  x : St
  i : Nat
  k : Int
  did : Bool
  e : Int
def takeR (x : St) : TakeR := if x.L.findIdx Pg.free < x.L.length then ⟨⟨x.L.set (x.L.findIdx Pg.free) one, x.I⟩, x.L.findIdx Pg.free, 0, false, 0⟩ else
  match x.I with
  | [] => ⟨x, 0, 0, false, 10⟩
  | i :: _ => ⟨⟨x.L.set i one, less x.I i⟩, i, (pg x.L i).k, true, 0⟩
theorem idxN_pos {α : Type} {f : α → Bool} {L : List α} (h : L.findIdx f < L.length) : idxN f L = (L.findIdx f : Int) := by unfold idxN; rw [if_pos h]
theorem idxN_neg {α : Type} {f : α → Bool} {L : List α} (h : ¬ L.findIdx f < L.length) : idxN f L = -1 := by unfold idxN; rw [if_neg h]
theorem free_not_idle {p : Pg} (h : p.free = true) : p.idle = false := by
  obtain ⟨r, s, k⟩ := p
  unfold Pg.free Pg.idle at *
  cases s <;> simp at *
theorem take_step (b : Nat) (x : St) (w : World) (h : In w b x) :
   Calls Tryz.prog 11 #[.pointer (some ⟨b + 1, 0, none⟩)] w fun e w' => e = .returned (.tuple #[.int .i64 ((takeR x).i : Int), .int .i64 (takeR x).k, .bool (takeR x).did, .int .i64 (takeR x).e]) ∧ In w' b (takeR x).x ∧ Turns b w w' := by
  obtain ⟨L, I⟩ := x
  unfold takeR
  by_cases hf : L.findIdx Pg.free < L.length
  · simp only [hf, if_true]
    have e1 := idxN_pos hf
    have hfr : (pg L (L.findIdx Pg.free)).free = true := by rw [← pg_get hf]; exact List.findIdx_getElem
    refine (take_free b _ L I w h.at' h.few hf e1).mono fun e w' ⟨he, hp, ht⟩ => ⟨he, ⟨hp, h.wf.keep hf (by rw [free_not_idle hfr]; rfl) (by decide), by rw [List.length_set]; exact h.few⟩, ht⟩
  · simp only [hf, if_false]
    have e1 := idxN_neg hf
    cases I with
    | nil => exact (take_full b L w h.at' h.few e1).mono fun e w' ⟨he, hb⟩ => ⟨he, h.below hb, Turns.of_below hb h.lt⟩
    | cons i R =>
      have hi := ((h.wf.mem i).1 (by simp)).1
      exact (take_idle b i L R w h.at' h.few h.few2 hi e1).mono fun e w' ⟨he, hp, ht⟩ => ⟨he, ⟨hp, h.wf.less hi rfl (by decide), by rw [List.length_set]; exact h.few⟩, ht⟩
structure Res where
  x : St
  e : Int
def holdR (x : St) (i : Int) : Res := if (atN x.L i).free then ⟨x, 8⟩ else if 1000 ≤ (atN x.L i).r then ⟨x, 2⟩ else ⟨⟨x.L.set i.toNat { atN x.L i with r := (atN x.L i).r + 1 }, less x.I i.toNat⟩, 0⟩
theorem default_free : (default : Pg).free = true := rfl
theorem atN_in {L : List Pg} {i : Int} (h : (atN L i).free = false) : ∃ j : Nat, i = j ∧ j < L.length ∧ atN L i = pg L j := by
  rcases atN_or L i with e | e
  · rw [e] at h; cases h
  · exact e
def sealR (x : St) (i key : Int) : Res := if (atN x.L i).free then ⟨x, 8⟩ else if x.L.findIdx (Pg.hit key) < x.L.length ∨ (atN x.L i).s = true then ⟨x, 9⟩ else ⟨⟨x.L.set i.toNat ⟨(atN x.L i).r, true, key⟩, x.I⟩, 0⟩
theorem seal_step (b : Nat) (i key : Int) (x : St) (w : World) (h : In w b x) (hi : -9223372036854775808 ≤ i ∧ i ≤ 9223372036854775807) :
   Calls Tryz.prog 13 #[.pointer (some ⟨b + 1, 0, none⟩), .int .i64 i, .int .i64 key] w fun e w' => e = .returned (.int .i64 (sealR x i key).e) ∧ In w' b (sealR x i key).x ∧ Turns b w w' := by
  unfold sealR
  cases hf : (atN x.L i).free with
  | true => exact (seal_none b i key x.L x.I w h.at' hi hf).mono fun e w' ⟨he, hb⟩ => ⟨he, h.below hb, Turns.of_below hb h.lt⟩
  | false =>
    by_cases hr : x.L.findIdx (Pg.hit key) < x.L.length ∨ (atN x.L i).s = true
    · simp only [hr, if_true, Bool.false_eq_true, if_false]
      exact (seal_there b i key x.L x.I w h.at' h.few hi hf (hr.imp_left fun h => by rw [idxN_pos h]; omega)).mono fun e w' ⟨he, hb⟩ => ⟨he, h.below hb, Turns.of_below hb h.lt⟩
    · simp only [hr, if_false, Bool.false_eq_true]
      obtain ⟨j, rfl, hj, e⟩ := atN_in hf
      rw [e] at hf hr ⊢
      rw [Int.toNat_natCast]
      have hs : (pg x.L j).s = false := by
        cases hq : (pg x.L j).s with
        | false => rfl
        | true => exact absurd (Or.inr hq) hr
      have hr0 : (pg x.L j).r ≠ 0 := fun e => by unfold Pg.free at hf; rw [e, hs] at hf; cases hf
      have hid : (pg x.L j).idle = false := by unfold Pg.idle; rw [hs]; simp
      exact (seal_ok b j key x.L x.I w h.at' h.few hj hf hs (idxN_neg fun h => hr (Or.inl h))).mono fun e w' ⟨he, hp, ht⟩ => ⟨he, ⟨hp, h.wf.keep hj (by rw [hid]; unfold Pg.idle; simp [hr0]) (h.wf.refs j), by rw [List.length_set]; exact h.few⟩, ht⟩
def dropR (x : St) (i : Int) : Res := if (atN x.L i).r = 0 then ⟨x, 8⟩ else ⟨⟨x.L.set i.toNat { atN x.L i with r := (atN x.L i).r - 1 }, if ({ atN x.L i with r := (atN x.L i).r - 1 } : Pg).idle then x.I ++ [i.toNat] else x.I⟩, 0⟩
theorem drop_step (b : Nat) (i : Int) (x : St) (w : World) (h : In w b x) (hi : -9223372036854775808 ≤ i ∧ i ≤ 9223372036854775807) :
   Calls Tryz.prog 14 #[.pointer (some ⟨b + 1, 0, none⟩), .int .i64 i] w fun e w' => e = .returned (.int .i64 (dropR x i).e) ∧ In w' b (dropR x i).x ∧ Turns b w w' := by
  unfold dropR
  by_cases hr : (atN x.L i).r = 0
  · simp only [hr, if_true]
    exact (drop_none b i x.L x.I w h.at' hi hr).mono fun e w' ⟨he, hb⟩ => ⟨he, h.below hb, Turns.of_below hb h.lt⟩
  · simp only [hr, if_false]
    have hnf : (atN x.L i).free = false := by unfold Pg.free; simp [hr]
    obtain ⟨j, rfl, hj, e⟩ := atN_in hnf
    rw [e] at hr ⊢
    rw [Int.toNat_natCast]
    have hid : (pg x.L j).idle = false := by unfold Pg.idle; simp [hr]
    have h1000 := h.wf.refs j
    cases hd : ({ pg x.L j with r := (pg x.L j).r - 1 } : Pg).idle with
    | false =>
      simp only [Bool.false_eq_true, if_false]
      exact (drop_stay b j x.L x.I w h.at' h.few hj (by omega) h1000 hd).mono fun e w' ⟨he, hp, ht⟩ => ⟨he, ⟨hp, h.wf.keep hj (by rw [hid]; exact hd) (by show _ - 1 ≤ 1000; omega), by rw [List.length_set]; exact h.few⟩, ht⟩
    | true =>
      simp only [if_true]
      have h1 : (pg x.L j).r = 1 := by unfold Pg.idle at hd; simp at hd; omega
      have h2 : (pg x.L j).s = true := by unfold Pg.idle at hd; simp at hd; exact hd.2
      have e0 : (pg x.L j).r - 1 = 0 := by omega
      rw [e0] at hd ⊢
      exact (drop_idle b j x.L x.I w h.at' h.few h.few2 hj h1 h2).mono fun e w' ⟨he, hp, ht⟩ => ⟨he, ⟨hp, h.wf.add hj hid hd (Nat.zero_le _), by rw [List.length_set]; exact h.few⟩, ht⟩
def forgetR (x : St) (i : Int) : Res := if (atN x.L i).idle then ⟨⟨x.L.set i.toNat default, less x.I i.toNat⟩, 0⟩ else ⟨x, 8⟩
end Go.Proofs.YtcanjlofnpnhkaaGreatDoor.Pl

/- A pool of four: pages sealed by their places, then taken again. -/
namespace Go.Proofs.YtcanjlofnpnhkaaGreatDoor.Pl
open Go.ChangeShapes Go.WideShapes Go.ChangeAt Go.RowKit
/-- k pages sealed and idle; the next one needed; sealed too. -/
def S1 (k : Nat) : St := ⟨(List.range 4).map fun j => if j < k then ⟨0, true, 10 * (j : Int)⟩ else ⟨0, false, 0⟩, List.range k⟩
def S1a (k : Nat) : St := ⟨(List.range 4).map fun j => if j < k then ⟨0, true, 10 * (j : Int)⟩ else if j = k then ⟨1, false, 0⟩ else ⟨0, false, 0⟩, List.range k⟩
def S1b (k : Nat) : St := ⟨(List.range 4).map fun j => if j < k then ⟨0, true, 10 * (j : Int)⟩ else if j = k then ⟨1, true, 10 * (k : Int)⟩ else ⟨0, false, 0⟩, List.range k⟩
theorem s1_take (k : Nat) (h : k < 4) : takeR (S1 k) = ⟨S1a k, k, 0, false, 0⟩ := by
  match k, h with
  | 0, _ => rfl
  | 1, _ => rfl
  | 2, _ => rfl
  | 3, _ => rfl
theorem s1_seal (k : Nat) (h : k < 4) : sealR (S1a k) k (10 * (k : Int)) = ⟨S1b k, 0⟩ := by
  match k, h with
  | 0, _ => rfl
  | 1, _ => rfl
  | 2, _ => rfl
  | 3, _ => rfl
theorem s1_drop (k : Nat) (h : k < 4) : dropR (S1b k) k = ⟨S1 (k + 1), 0⟩ := by
  match k, h with
  | 0, _ => rfl
  | 1, _ => rfl
  | 2, _ => rfl
  | 3, _ => rfl
/-- n pages sealed, then t taken. -/
def S2 (n : Nat) : Nat → St
  | 0 => S1 n
  | t + 1 => (takeR (S2 n t)).x
theorem s2_take : ∀ n : Nat, n < 5 → ∀ t : Nat, t < 4 → (takeR (S2 n t)).e = 0 ∧ (takeR (S2 n t)).did = decide (4 - n ≤ t) := by decide
theorem s2_find : ∀ n : Nat, n < 5 → ∀ t : Nat, t < 5 → ∀ k : Nat, k < n → idxN (Pg.hit (10 * (k : Int))) (S2 n t).L = if t - (4 - n) ≤ k then (k : Int) else -1 := by decide
theorem s1_in {w : World} {b : Nat} (h : PoolAt w b (List.replicate 4 default) []) : In w b (S1 0) := ⟨h, wf_new 4, by show 4 ≤ 64; omega⟩
theorem In.grown2 {w w' : World} {b : Nat} {x : St} {r : Option Nat} (h : In w b x) (G : w.grownBy w' r) (hr : ∀ g, r = some g → b + 2 ≤ g ∧ idleBlk w b ≠ some g) : In w' b x ∧ idleBlk w' b = idleBlk w b := by
  have hne : ∀ k, k < b + 2 → some k ≠ r := fun k hk e => by have := (hr k e.symm).1; omega
  have hs := h.lt
  have e1 := G.block (b + 1) hs (hne _ (by omega))
  obtain ⟨vi, K1, K2, K3⟩ := h.at'.idle
  have ei := idleBlk_of (K1.cell 1 (v := vi) rfl)
  have ob : ∀ g, vi.ownBlock = some g → w'.heap[g]? = w.heap[g]? := fun g hg => G.block g (K3 g hg).2 fun e => (hr g e.symm).2 (ei.trans hg)
  have K2' : Idl w' (b + 2) vi x.I := by
    refine ⟨K2.1, ?_⟩
    rcases K2.2 with h2 | ⟨g, cap, cur, h3, h4, h5, h6⟩
    · exact Or.inl h2
    · subst h3
      exact Or.inr ⟨g, cap, cur, rfl, h4, (ob g rfl).trans h5, h6⟩
  exact ⟨⟨⟨h.at'.pages.of_block (G.block b (by omega) (hne _ (by omega))), vi, K1.of_block e1, K2'⟩, h.wf, h.few⟩, idleBlk_same e1⟩
/-- Where the pool stands, while a map at bm is filled; what came since s1, and what was before the pool, stays. -/
structure Sit (w7 w : World) (b s1 bm : Nat) (x : St) : Prop where
  pool : In w b x
  idle : ∀ g, idleBlk w b = some g → g < s1 ∨ bm < g
  keep : ∀ k, (k < b ∨ s1 ≤ k) → k < bm → w.heap[k]? = w7.heap[k]?
  size : bm < w.heap.size
  below : Below b w7 w
theorem Sit.turns {w7 w w' : World} {b s1 bm : Nat} {x x' : St} (h : Sit w7 w b s1 bm x) (t : Turns b w w') (i : In w' b x') (hs : b + 2 ≤ s1) (hm : s1 ≤ bm) : Sit w7 w' b s1 bm x' ∧ w'.heap[bm]? = w.heap[bm]? := by
  have hz := h.size
  have one : ∀ k, (k < b ∨ s1 ≤ k) → k ≤ bm → w'.heap[k]? = w.heap[k]? := fun k hk hl => by
    refine t.block k (by omega) (by omega) (by omega) (fun e => ?_)
    have h1 := h.idle k e
    obtain ⟨vi, K1, _, K3⟩ := h.pool.at'.idle
    have ei := idleBlk_of (K1.cell 1 (v := vi) rfl)
    have := (K3 k (ei.symm.trans e)).1
    omega
  refine ⟨⟨i, fun g hg => ?_, fun k hk hl => (one k hk (by omega)).trans (h.keep k hk hl), Nat.lt_of_lt_of_le h.size t.below.size, h.below.trans t.below⟩, one bm (Or.inr hm) (Nat.le_refl _)⟩
  rcases t.idle with e | ⟨q, e, hq⟩
  · exact h.idle g (by rw [← e]; exact hg)
  · rw [e] at hg
    have := Option.some.inj hg
    omega
theorem Sit.next {w7 w w' : World} {b s1 bm : Nat} {x : St} (h : Sit w7 w b s1 bm x) (hb : Below w.heap.size w w') (hs : b + 2 ≤ s1) (hm : s1 ≤ bm) : Sit w7 w' b s1 bm x :=
  (h.turns (Turns.of_below hb (by have := h.size; omega)) (h.pool.below hb) hs hm).1
theorem Sit.aside {w7 w w' : World} {b s1 bm : Nat} {x : St} (h : Sit w7 w b s1 bm x) (hb : Below w.heap.size w w') {g : Nat} (hg : w.heap.size ≤ g) : idleBlk w' b ≠ some g := fun e => by
  obtain ⟨vi, K1, _, K3⟩ := h.pool.at'.idle
  have ei := idleBlk_of (K1.cell 1 (v := vi) rfl)
  have e2 := idleBlk_same (b := b) (hb.block (b + 1) (by have := h.pool.lt; omega))
  have := (K3 g (ei.symm.trans (e2.symm.trans e))).2
  omega
/-- A block of the round's own behind a call of the pool. -/
theorem Sit.own {w7 w w0 w' : World} {b s1 bm : Nat} {x : St} (h : Sit w7 w b s1 bm x) (hb : Below w.heap.size w w0) (t : Turns b w0 w') (hs : b + 2 ≤ s1) (hm : s1 ≤ bm) {g : Nat} (hg : w.heap.size ≤ g) (hl : g < w0.heap.size) : w'.heap[g]? = w0.heap[g]? := by
  have := h.size
  exact t.block g hl (by omega) (by omega) (h.aside hb hg)
theorem Sit.grown {w7 w w' : World} {b s1 bm : Nat} {x : St} (h : Sit w7 w b s1 bm x) (G : w.grownBy w' (some bm)) (hs : b + 2 ≤ s1) (hm : s1 ≤ bm) : Sit w7 w' b s1 bm x := by
  have hz := h.size
  obtain ⟨i, e⟩ := h.pool.grown2 G (fun g hg => by
    have hg' := Option.some.inj hg
    refine ⟨by omega, fun e => ?_⟩
    have := h.idle g e
    omega)
  exact ⟨i, fun g hg => h.idle g (by rw [← e]; exact hg), fun k hk hl => (G.block k (by omega) (fun e => by have := Option.some.inj e; omega)).trans (h.keep k hk hl), Nat.lt_of_lt_of_le hz G.size, h.below.trans ⟨G.os, G.tape, G.output, G.size, fun k hk => G.block k (by omega) (fun e => by have := Option.some.inj e; omega)⟩⟩
theorem Sit.start {wp w7 w8 : World} {b : Nat} (h : PoolAt wp b (List.replicate 4 default) []) (hb : Below wp.heap.size wp w7) (hb2 : Below w7.heap.size w7 w8) (hl : w7.heap.size < w8.heap.size) : Sit w7 w8 b wp.heap.size w7.heap.size (S1 0) := by
  have hs := h.size
  have hz := hb.size
  refine ⟨s1_in ((h.below hb).below hb2), fun g hg => Or.inl ?_, fun k _ hk => hb2.block k hk, hl, hb2.mono (by omega)⟩
  obtain ⟨vi, K1, _, K3⟩ := h.idle
  have ei := idleBlk_of (K1.cell 1 (v := vi) rfl)
  have e2 := idleBlk_same (b := b) (hb.block (b + 1) (by omega))
  have e3 := idleBlk_same (b := b) (hb2.block (b + 1) (by omega))
  exact (K3 g (ei.symm.trans (e2.symm.trans (e3.symm.trans hg)))).2
end Go.Proofs.YtcanjlofnpnhkaaGreatDoor.Pl

/- Small shapes, and rows of tokens that are the same. -/
namespace Go.Proofs.YtcanjlofnpnhkaaGreatDoor
open Go.ChangeShapes Go.WideShapes Go.ChangeAt Go.RowKit
/-- Is a shape a small one? -/
def smallN (D H L : Int) : Int := if 8 < D ∨ 8 < H ∨ 2 < L then 0 else 1
theorem small8_any (V D Hd H L : Int) (w : World) : Calls Tryz.prog 8 #[.agg (cfgC V D Hd H L)] w fun e w' => e = .returned (.int .i64 (smallN D H L)) ∧ Below w.heap.size w w' := by
  have X0 := blk_new w 23 (cfgC V D Hd H L)
  have B0 : Below w.heap.size w (w.alloc (.cells (cfgC V D Hd H L) 23)) := (Below.refl _ _).alloc (Nat.le_refl _) _
  unfold cfgC at *
  generalize hw0 : w.alloc (.cells #[.int .i64 V, .int .i64 D, .int .i64 Hd, .int .i64 H, .int .i64 L] 23) = w0 at *
  have a1 : w0.cell? ⟨w.heap.size, 1, none⟩ = some (.int .i64 D) := X0.cell 1 rfl
  have a3 : w0.cell? ⟨w.heap.size, 3, none⟩ = some (.int .i64 H) := X0.cell 3 rfl
  have a4 : w0.cell? ⟨w.heap.size, 4, none⟩ = some (.int .i64 L) := X0.cell 4 rfl
  have HN : Hid (smallN D H L = if 8 < D ∨ 8 < H ∨ 2 < L then 0 else 1) := rfl
  generalize smallN D H L = res at *
  by_cases h1 : 8 < D
  · have HF : Hid (res = 0) := by show _ = _; rw [HN.out, if_pos (Or.inl h1)]
    clear HN
    go_enter Tryz.func8, Tryz.ntmps8
    go_wp2
    go_ret
    exact ⟨ret_int HF.out.symm, B0⟩
  · by_cases h2 : 8 < H
    · have HF : Hid (res = 0) := by show _ = _; rw [HN.out, if_pos (Or.inr (Or.inl h2))]
      clear HN
      go_enter Tryz.func8, Tryz.ntmps8
      go_wp2
      go_ret
      exact ⟨ret_int HF.out.symm, B0⟩
    · by_cases h3 : 2 < L
      · have HF : Hid (res = 0) := by show _ = _; rw [HN.out, if_pos (Or.inr (Or.inr h3))]
        clear HN
        go_enter Tryz.func8, Tryz.ntmps8
        go_wp2
        go_ret
        exact ⟨ret_int HF.out.symm, B0⟩
      · have HF : Hid (res = 1) := by show _ = _; rw [HN.out, if_neg (by omega)]
        clear HN
        go_enter Tryz.func8, Tryz.ntmps8
        go_wp2
        go_ret
        exact ⟨ret_int HF.out.symm, B0⟩
theorem IArg.drop {w : World} {b o n ca : Nat} {A : List Int} (h : IArg w (some ⟨b, o, none⟩) n ca A) {m : Nat} (hm : m ≤ n) : IRowAt w (some ⟨b, o + m, none⟩) (n - m) (A.drop m) := by
  have hl := h.row.len
  refine ⟨by rw [List.length_drop]; omega, by have := h.row.max; omega, fun k => ?_, fun hn => ?_⟩
  · rw [el_drop]; exact h.row.small _
  · obtain ⟨b', o', e, hc⟩ := h.row.cells (by omega)
    simp only [Option.some.injEq, Addr.mk.injEq, and_true] at e
    obtain ⟨rfl, rfl⟩ := e
    refine ⟨b, o + m, rfl, fun t ht => ?_⟩
    rw [el_drop, Nat.add_assoc]
    exact hc _ (by omega)
end Go.Proofs.YtcanjlofnpnhkaaGreatDoor

/- The table of steps lies in its block, wherever the row's listed variable reads as listed. -/
namespace Go.Proofs.YtcanjlofnpnhkaaGreatDoor
open Go.ChangeShapes Go.WideShapes Go.ChangeAt Go.RowKit
theorem gSteps : Tryz.prog.globalNamed "tiller/curve.steps" = some 0 := by kernel_rfl
theorem tSteps : (Tryz.prog.globals[0]?).map (·.type) = some 166 := by kernel_rfl
theorem cSteps : Tryz.prog.cellsOf 166 = 65 := by kernel_rfl
theorem cNum : Tryz.prog.cellsOf 106 = 1 := by kernel_rfl
theorem tab_of_laid {W : World} (h : laidMetH Tryz.prog [("tiller/curve.steps", Rows.laid_tiller_curve_steps)] W) : Tab W := by
  rw [MakeChecks.laidMetH_plain _ _ _ (by kernel_rfl)] at h
  have h' : laidMet Tryz.prog [("tiller/curve.steps", Lib.tabData .i32 (stp.map fun (n : Nat) => (n : Int)))] W := h
  have ht := Lib.tabIs_of_head gSteps tSteps Tryz.underlying166 Tryz.underlying106 cNum cSteps h'
  unfold Lib.TabIs World.var? at ht
  rw [gSteps] at ht
  simp only [Option.bind_some] at ht
  split at ht
  · rename_i cs t fr hc
    refine ⟨t, fr, ?_⟩
    rw [hc]
    simp only [Option.some.injEq] at ht
    rw [ht]
    simp [tabCells]
  · cases ht
end Go.Proofs.YtcanjlofnpnhkaaGreatDoor

/- An argument that is a row of whole numbers, opened once: nil, empty or not. -/
namespace Go.Proofs.YtcanjlofnpnhkaaGreatDoor
open Go.ChangeShapes Go.WideShapes Go.ChangeAt Go.RowKit
theorem Tryz.cellsInt : Tryz.prog.cellsOf 3 = 1 := by kernel_rfl
theorem viewI_cells {H : Type} {enc : TypeId × Value → H} {W : World} {fuel : Nat} {cs : List Value} {x : DataW H × List MemPlace}
    (hf : DataW.trod enc Tryz.prog W 0 (fun _ => true) true fuel 25 cs = some x) :
    ∃ (a0 : Option Addr) (len cap : Nat) (Z : List Int), cs = [.slice a0 len cap] ∧ IArg W a0 len cap Z := by
  rcases open_ints Tryz.underlying25 Tryz.underlying3 Tryz.cellsInt hf with ⟨hcs, hx⟩ | ⟨a, len', cap', zs, hcs, _, hl, hm, hz, hx, hcell, hwz⟩
  · exact ⟨none, 0, 0, [], hcs, iarg_nil _⟩
  · simp only [if_true] at hz
    unfold maxLen at hm
    refine ⟨some a, len', cap', zs.take len', hcs, ⟨by simp; omega, by omega, fun k => ?_, fun hn => ?_⟩, hl, by omega, fun h => by cases h⟩
    · rcases Nat.lt_or_ge k (zs.take len').length with hk | hk
      · exact bounds_i64 (hwz _ (List.mem_of_mem_take (el_mem hk)))
      · rw [el_over hk]; omega
    · obtain ⟨b, o, s⟩ := a
      have h0 := hcell 0 (by omega)
      have hs : s = none := by simpa [Addr.add] using World.cell?_spot h0
      subst hs
      refine ⟨b, o, rfl, fun t ht => ?_⟩
      have e : (Addr.mk b o none).add t = ⟨b, o + t, none⟩ := by simp [Addr.add]
      rw [← e, hcell t (by omega), el_take ht]
      rfl
set_option maxRecDepth 100000 in
theorem viewI {H : Type} {enc : TypeId × Value → H} {W : World} {b0 : Nat} {v : Value} {d : DataW H} {p : List MemPlace} (hv : Value.okWide Tryz.prog W .any b0 25 v)
    (h : DataW.Trod enc Tryz.prog W 0 (fun _ => true) true 25 v d p) : ∃ (a0 : Option Addr) (len cap : Nat) (Z : List Int), v = .slice a0 len cap ∧ IArg W a0 len cap Z := by
  obtain ⟨a0, la, ca, rfl⟩ := okWide_slice Tryz.underlying25 hv
  obtain ⟨f, hf⟩ := h
  obtain ⟨a1, l1, c1, Z, e, hA⟩ := viewI_cells hf
  simp [Value.cells] at e
  obtain ⟨rfl, rfl, rfl⟩ := e
  exact ⟨_, _, _, Z, rfl, hA⟩
end Go.Proofs.YtcanjlofnpnhkaaGreatDoor
