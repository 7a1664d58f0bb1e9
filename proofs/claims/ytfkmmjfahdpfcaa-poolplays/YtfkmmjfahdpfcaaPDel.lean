/- Numbers that leave the row of idle ones. -/
import Derived.Test.YtfkmmjfahdpfcaaPFun2
namespace Go.Proofs.Ytfkmmjfahdpfcaa
open Go.ChangeShapes Go.WideShapes Go.ChangeAt Go.RowKit
theorem blk_setCells (g : Nat) (T : TypeId) : ∀ (l : List Value) (o : Nat) (w : World) (cs : Array Value), Blk w g T cs → ∃ cs', Blk (w.setCells g o l) g T cs' ∧ cs'.size = cs.size ∧ ∀ t, t < o → cs'[t]? = cs[t]?
  | [], _, _, cs, h => ⟨cs, h, rfl, fun _ _ => rfl⟩
  | v :: r, o, w, cs, h => by
    obtain ⟨cs', h1, h2, h3⟩ := blk_setCells g T r (o + 1) _ _ (h.set o v)
    refine ⟨cs', h1, by rw [h2]; simp, fun t ht => ?_⟩
    rw [h3 t (by omega), Array.getElem?_setIfInBounds, if_neg (by omega)]
theorem grownBy_set {w w' : World} {g : Nat} (h : w.grownBy w' (some g)) (k : Nat) (v : Value) : w.grownBy (w'.setCell ⟨g, k, none⟩ v) (some g) :=
  ⟨h.os, h.tape, h.output, by simpa [World.setCell] using h.size, fun j hj hn => by
    rw [Below.heap_setCell _ _ _ _ (fun e => hn (by rw [e]))]; exact h.block j hj hn⟩
theorem grownBy_setCells {w : World} (g : Nat) : ∀ (l : List Value) (o : Nat) (w' : World), w.grownBy w' (some g) → w.grownBy (w'.setCells g o l) (some g)
  | [], _, _, h => h
  | _ :: r, o, _, h => grownBy_setCells g r (o + 1) _ (grownBy_set h o _)
theorem grownBy_refl (w : World) (r : Option Nat) : w.grownBy w r := ⟨rfl, rfl, rfl, Nat.le_refl _, fun _ _ _ => rfl⟩
/-- A row without a number. -/
def less (A : List Nat) (i : Nat) : List Nat := A.filter fun x => decide (x ≠ i)
theorem less_none {A : List Nat} {i : Nat} (h : ∀ j, j < A.length → A.getD j 0 ≠ i) : less A i = A := by
  unfold less
  rw [List.filter_eq_self]
  intro x hx
  obtain ⟨j, hj, e⟩ := List.getElem_of_mem hx
  have := h j hj
  rw [← getD_get hj, e] at this
  simpa using this
theorem less_take_succ {A : List Nat} {i j : Nat} (hj : j < A.length) : less (A.take (j + 1)) i = less (A.take j) i ++ (if A.getD j 0 = i then [] else [A.getD j 0]) := by
  unfold less
  rw [List.take_succ_eq_append_getElem hj, List.filter_append, getD_get hj]
  generalize A.getD j 0 = z
  by_cases h : z = i
  · simp [h]
  · rw [if_neg h]; simp [h]
theorem less_take_len {A : List Nat} {i j : Nat} : (less (A.take j) i).length ≤ j := Nat.le_trans (List.length_filter_le _ _) (List.length_take_le _ _)
/-- The row while numbers leave it: the first j are looked at, p of them stay. -/
structure Mid (A : List Nat) (i j p : Nat) (cs : Array Value) : Prop where
  len : (less (A.take j) i).length = p
  lt : p < j
  low : ∀ t, t < p → cs[t]? = some (.int .i64 (((less (A.take j) i).getD t 0 : Nat) : Int))
  high : ∀ t, j ≤ t → t < A.length → cs[t]? = some (.int .i64 ((A.getD t 0 : Nat) : Int))
theorem Mid.skip {A : List Nat} {i j p : Nat} {cs : Array Value} (h : Mid A i j p cs) (hj : j < A.length) (e : A.getD j 0 = i) : Mid A i (j + 1) p cs := by
  have e2 : less (A.take (j + 1)) i = less (A.take j) i := by rw [less_take_succ hj, if_pos e, List.append_nil]
  have := h.lt
  exact ⟨by rw [e2]; exact h.len, by omega, by rw [e2]; exact h.low, fun t h1 h2 => h.high t (by omega) h2⟩
theorem Mid.keep {A : List Nat} {i j p : Nat} {cs : Array Value} (h : Mid A i j p cs) (hj : j < A.length) (e : A.getD j 0 ≠ i) (hs : A.length ≤ cs.size) : Mid A i (j + 1) (p + 1) (cs.setIfInBounds p (.int .i64 ((A.getD j 0 : Nat) : Int))) := by
  have e2 : less (A.take (j + 1)) i = less (A.take j) i ++ [A.getD j 0] := by rw [less_take_succ hj, if_neg e]
  have hl := h.len
  have hp := h.lt
  refine ⟨by rw [e2, List.length_append, hl]; rfl, by omega, fun t ht => ?_, fun t h1 h2 => ?_⟩
  · rw [e2]
    generalize A.getD j 0 = z
    rw [List.getD_eq_getElem?_getD, List.getElem?_append, Array.getElem?_setIfInBounds]
    by_cases ht2 : t = p
    · subst ht2
      rw [if_pos rfl, if_pos (by omega), if_neg (by omega), hl]
      simp
    · rw [if_neg (fun e => ht2 e.symm), if_pos (by omega), h.low t (by omega), List.getD_eq_getElem?_getD]
  · rw [Array.getElem?_setIfInBounds, if_neg (by omega)]
    exact h.high t (by omega) h2
theorem mid_start {A : List Nat} {i k : Nat} {cs : Array Value} (hk : k < A.length) (h : A.getD k 0 = i) (hb : ∀ j, j < k → A.getD j 0 ≠ i) (hc : ∀ t, t < A.length → cs[t]? = some (.int .i64 ((A.getD t 0 : Nat) : Int))) : Mid A i (k + 1) k cs := by
  have e0 : less (A.take k) i = A.take k := less_none fun j hj => by
    have hj' : j < k := by simp at hj; omega
    rw [List.getD_eq_getElem?_getD, List.getElem?_take, if_pos hj', ← List.getD_eq_getElem?_getD]
    exact hb j hj'
  have e1 : less (A.take (k + 1)) i = A.take k := by rw [less_take_succ hk, if_pos h, List.append_nil, e0]
  refine ⟨by rw [e1]; simp; omega, by omega, fun t ht => ?_, fun t _ h2 => hc t h2⟩
  rw [e1, hc t (by omega), List.getD_eq_getElem?_getD, List.getD_eq_getElem?_getD, List.getElem?_take, if_pos ht]
theorem idxI_cases (A : List Nat) (i : Nat) : (idxI A i = -1 ∧ ∀ j, j < A.length → A.getD j 0 ≠ i) ∨ ∃ k, k < A.length ∧ idxI A i = k ∧ A.getD k 0 = i ∧ ∀ j, j < k → A.getD j 0 ≠ i := by
  unfold idxI
  by_cases h : A.idxOf i < A.length
  · refine Or.inr ⟨A.idxOf i, h, if_pos h, ?_, fun j hj => ?_⟩
    · rw [← getD_get h]; exact List.getElem_idxOf h
    · rw [← getD_get (by omega)]
      have := List.not_of_lt_findIdx (p := (· == i)) (xs := A) (i := j) hj
      simpa using this
  · refine Or.inl ⟨if_neg h, fun j hj e => h ?_⟩
    rw [List.idxOf_lt_length_iff, ← e, ← getD_get hj]
    exact List.getElem_mem _
theorem Try.zeroInt : ∀ w, (zeroValue 3).run Try.prog w = .ok (.int .i64 0) w := fun w => by simp [go_sem]
set_option maxHeartbeats 2000000 in
theorem del_any (c i B : Nat) (v : Value) (A : List Nat) (w : World) (hI : Idl w B v A) (hl : A.length ≤ 64) (hc : w.cell? ⟨c, 0, none⟩ = some (.int .i64 (i : Int))) (hg : ∀ g, v.ownBlock = some g → g ≠ c) :
   Calls Try.prog 38 #[v, .func (.func 39) #[] #[.pointer (some ⟨c, 0, none⟩)]] w fun e w' => ∃ v', e = .returned v' ∧ Idl w' B v' (less A i) ∧ w.grownBy w' v.ownBlock ∧ v'.ownBlock = v.ownBlock := by
  rcases hI.cases with ⟨rfl, rfl⟩ | ⟨g, cap, cs, rfl, h4, h5, h6, h7, h8, h9⟩
  · have hQ : Calls Try.prog 40 #[.slice none 0 0, .func (.func 39) #[] #[.pointer (some ⟨c, 0, none⟩)]] w fun e w' => e = .returned (.int .i64 (-1)) ∧ w' = w := by
      go_enter Try.func40, Try.ntmps40
      go_wp2
      refine wp_loop_rounds 1 ?_
      rw [rounds_succ]
      go_wp2
      go_ret
      exact ⟨rfl, rfl⟩
    clear hc
    go_enter Try.func38, Try.ntmps38
    go_wp2_with (go_at_call 40; refine hQ.mono ?_; rintro e w' ⟨rfl, rfl⟩)
    go_ret
    exact ⟨_, rfl, Idl.nil _ _, grownBy_refl _ _, rfl⟩
  · have hcg := hg g rfl
    have hQ := iidx_any c i g cap cs A w h5 hl h9 hc
    have hm : cap ≤ 9223372036854775807 := by simpa [maxLen] using h7
    rcases idxI_cases A i with ⟨e1, hall⟩ | ⟨k0, hk0, e1, e2, hall⟩
    · rw [e1] at hQ
      have HI : Hid _ := hI
      have HA : Hid _ := hall
      clear hI h9 hall hc h5
      go_enter Try.func38, Try.ntmps38
      go_wp2_with (go_at_call 40; refine hQ.mono ?_; rintro e w' ⟨rfl, rfl⟩)
      go_ret
      exact ⟨_, rfl, by rw [less_none HA.out]; exact HI.out, grownBy_refl _ _, rfl⟩
    · rw [e1] at hQ
      have M0 : Hid (Mid A i (k0 + 1) k0 cs) := mid_start hk0 e2 hall h9
      have hne1 : ((k0 : Int) == -1) = false := beq_eq_false_iff_ne.2 (by omega)
      clear hI h9 hall e1 e2
      generalize hn : A.length = n at *
      go_enter Try.func38, Try.ntmps38
      go_wp2_with (go_at_call 40; refine hQ.mono ?_; rintro e w' ⟨rfl, rfl⟩)
      clear hQ
      go_loopg [5, 6, 7] (n - (k0 + 1)) (fun gg s5 s6 _ wr => ∃ (p j : Nat) (ds : Array Value), s5 = .int .i64 p ∧ s6 = .int .i64 j ∧ j ≤ n ∧ gg = n - j ∧ Blk wr g 3 ds ∧ ds.size = cap ∧ w'.grownBy wr (some g) ∧ Hid (Mid A i j p ds))
      case atStart => exact ⟨k0, k0 + 1, cs, rfl, by go_num, by omega, rfl, h5, h8, grownBy_refl _ _, M0⟩
      case round =>
        obtain ⟨p, j, ds, rfl, rfl, hj, rfl, D1, D2, G1, M1⟩ := hrel
        have hpj := M1.out.lt
        clear M0 h5
        by_cases hlt : j < n
        · have cj := D1.cell j (M1.out.high j (Nat.le_refl _) (by omega))
          have fp := D1.frozen p
          obtain ⟨up, hup⟩ : ∃ u, ds[p]? = some u := ⟨_, Array.getElem?_eq_getElem (by omega)⟩
          have cp := D1.cell p hup
          have hc2 : wr.cell? ⟨c, 0, none⟩ = some (.int .i64 (i : Int)) := G1.cell hc (fun e => hcg (by simpa using e.symm))
          have hcall := leaveHit_any (A.getD j 0) i c wr hc2
          clear hc2
          generalize hz : A.getD j 0 = z at *
          by_cases hq : z = i
          · rw [decide_eq_true hq] at hcall
            have HQ : Hid (z = i) := hq
            clear hq
            go_wp2_with (go_at_call 39; refine hcall.mono ?_; rintro e w' ⟨rfl, rfl⟩)
            go_roundg (n - (j + 1))
            case measure => omega
            case rel => exact ⟨p, j + 1, ds, rfl, by go_num, by omega, rfl, D1, D2, G1, M1.out.skip (by omega) (hz.trans HQ.out)⟩
          · rw [decide_eq_false hq] at hcall
            have HQ : Hid (¬ z = i) := hq
            clear hq
            go_wp2_with (go_at_call 39; refine hcall.mono ?_; rintro e w' ⟨rfl, rfl⟩)
            go_roundg (n - (j + 1))
            case measure => omega
            case rel => exact ⟨p + 1, j + 1, _, by go_num, by go_num, by omega, rfl, D1.set p _, by simpa using D2, grownBy_set G1 p _, by have := M1.out.keep (by omega) (by rw [hz]; exact HQ.out) (by omega); rw [hz] at this; exact this⟩
        · obtain rfl : j = n := by omega
          have hcl : ∀ ty, (Builtin.clear_ #[29] ty #[.slice (some ⟨g, p, none⟩) (j - p) (cap - p)]).run Try.prog wr = .ok (.tuple #[]) (wr.setCells g p (List.replicate (j - p) (.int .i64 0))) :=
            fun ty => Lib.run_clear_slice wr 29 3 ty _ Try.underlying29 Try.zeroInt rfl rfl g p _ _ (by omega) (fun t ht => by rw [D1.cell (p + t) (Array.getElem?_eq_getElem (by omega))]; rfl) (fun t ht => D1.frozen _)
          obtain ⟨ds2, E1, E2, E3⟩ := blk_setCells g 3 (List.replicate (j - p) (.int .i64 0)) p wr ds D1
          have G2 := grownBy_setCells g (List.replicate (j - p) (Value.int .i64 0)) p wr G1
          clear D1 G1
          generalize wr.setCells g p (List.replicate (j - p) (Value.int .i64 0)) = w2 at *
          go_wp2
          go_ret
          have M := M1.out
          have e3 : less (A.take j) i = less A i := by rw [← hn, List.take_length]
          have hl2 := M.len
          have hlow := M.low
          rw [e3] at hl2 hlow
          subst hl2
          exact ⟨_, rfl, Idl.mk' h4 E1 (by omega) h7 (by omega) (fun t ht => by rw [E3 t ht]; exact hlow t ht), G2, rfl⟩
end Go.Proofs.Ytfkmmjfahdpfcaa
