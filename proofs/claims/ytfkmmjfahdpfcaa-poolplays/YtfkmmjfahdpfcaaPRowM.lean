/- Pages that are sealed by turns, dropped, and taken again, in their order. -/
import Derived.Test.YtfkmmjfahdpfcaaPWhole
namespace Go.Proofs.Ytfkmmjfahdpfcaa
open Go.ChangeShapes Go.WideShapes Go.ChangeAt Go.RowKit
/-- The pages that f tells. -/
def lst (n : Nat) (f : Nat → Pg) : List Pg := (List.range n).map f
theorem lst_len (n : Nat) (f : Nat → Pg) : (lst n f).length = n := by unfold lst; simp
theorem lst_pg {n : Nat} (f : Nat → Pg) {i : Nat} (h : i < n) : pg (lst n f) i = f i := by
  unfold lst pg
  rw [List.getD_eq_getElem?_getD, List.getElem?_map, List.getElem?_range h]
  rfl
theorem lst_out {n : Nat} (f : Nat → Pg) {i : Nat} (h : ¬ i < n) : pg (lst n f) i = default := by
  unfold pg
  rw [List.getD_eq_getElem?_getD, List.getElem?_eq_none (by rw [lst_len]; omega)]
  rfl
theorem lst_ext {n : Nat} {f : Nat → Pg} {L : List Pg} (hl : L.length = n) (h : ∀ i, i < n → pg L i = f i) : L = lst n f := by
  apply List.ext_getElem
  · rw [hl, lst_len]
  · intro i h1 h2
    rw [pg_get h1, pg_get h2, h i (by omega), lst_pg _ (by omega)]
theorem lst_idx (n : Nat) (f : Nat → Pg) (p : Pg → Bool) (h : ∀ i, i < n → p (f i) = false) : ¬ (lst n f).findIdx p < (lst n f).length := fun h2 => by
  have h3 := idxN_miss p (lst n f) fun j hj => by rw [lst_len] at hj; rw [lst_pg f hj]; exact h j hj
  rw [idxN_pos h2] at h3
  omega
theorem lst_at {n : Nat} {f : Nat → Pg} {p : Pg → Bool} {k : Nat} (hk : k < n) (h1 : p (f k) = true) (h2 : ∀ i, i < k → p (f i) = false) : (lst n f).findIdx p = k := by
  have h3 := idxN_hit p (lst n f) k (by rw [lst_len]; exact hk) (by rw [lst_pg f hk]; exact h1) (fun j hj => by rw [lst_pg f (by omega)]; exact h2 j hj)
  by_cases h4 : (lst n f).findIdx p < (lst n f).length
  · rw [idxN_pos h4] at h3; omega
  · rw [idxN_neg h4] at h3; omega
/-- A page with its first key, that so many need. -/
def keyed (r i : Nat) : Pg := ⟨r, true, 100 + (i : Int)⟩
/-- The first k pages are taken and sealed. -/
def U (n k : Nat) : St := ⟨lst n fun i => if i < k then keyed 1 i else default, []⟩
/-- All pages were sealed; those of I are idle, those of T taken again. -/
def V (n : Nat) (T I : List Nat) : St := ⟨lst n fun i => if i ∈ T then one else keyed (if i ∈ I then 0 else 1) i, I⟩
theorem U_zero (n : Nat) : U n 0 = ⟨List.replicate n default, []⟩ := by
  unfold U
  congr 1
  symm
  refine lst_ext (by simp) fun i hi => ?_
  unfold pg
  simp [List.getD_eq_getElem?_getD, hi]
theorem U_done (n : Nat) : U n n = V n [] [] := by
  unfold U V
  congr 1
  refine lst_ext (lst_len _ _) fun i hi => ?_
  rw [lst_pg _ hi, if_pos hi]
  simp
theorem V_len (n : Nat) (T I : List Nat) : (V n T I).L.length = n := lst_len _ _
theorem V_pg {n : Nat} (T I : List Nat) {i : Nat} (h : i < n) : pg (V n T I).L i = if i ∈ T then one else keyed (if i ∈ I then 0 else 1) i := lst_pg _ h
theorem U_take {n k : Nat} (h : k < n) : takeR (U n k) = ⟨⟨(U n k).L.set k one, []⟩, k, 0, false, 0⟩ := by
  have e : (U n k).L.findIdx Pg.free = k := lst_at h (by rw [if_neg (by omega)]; rfl) (fun i hi => by rw [if_pos hi]; rfl)
  unfold takeR
  rw [e, if_pos (by show k < (lst _ _).length; rw [lst_len]; exact h)]
  rfl
theorem U_seal {n k : Nat} (h : k < n) : sealR ⟨(U n k).L.set k one, []⟩ (k : Int) (100 + (k : Int)) = ⟨U n (k + 1), 0⟩ := by
  have hl : (U n k).L.length = n := lst_len _ _
  have hp : ∀ j, j < n → pg ((U n k).L.set k one) j = if j = k then one else if j < k then keyed 1 j else default := fun j hj => by
    rw [pg_set (by rw [hl]; exact h)]
    by_cases e : j = k
    · rw [if_pos e, if_pos e]
    · rw [if_neg e, if_neg e]; exact lst_pg _ hj
  have ea : atN ((U n k).L.set k one) (k : Int) = one := by rw [atN_nat, hp k h, if_pos rfl]
  unfold sealR
  simp only [ea]
  rw [if_neg (by decide), if_neg]
  · simp only [Int.toNat_natCast, List.set_set]
    unfold U
    congr 2
    refine lst_ext (by rw [List.length_set]; exact lst_len _ _) fun i hi => ?_
    rw [pg_set (by rw [lst_len]; exact h)]
    by_cases e : i = k
    · subst e; rw [if_pos rfl, if_pos (by omega)]; rfl
    · rw [if_neg e, lst_pg _ hi]
      by_cases e2 : i < k
      · rw [if_pos e2, if_pos (by omega)]
      · rw [if_neg e2, if_neg (by omega)]
  · rintro (h1 | h1)
    · have h2 := idxN_miss (Pg.hit (100 + (k : Int))) ((U n k).L.set k one) fun j hj => by
        rw [List.length_set, hl] at hj
        rw [hp j hj]
        by_cases e : j = k
        · rw [if_pos e]; rfl
        · rw [if_neg e]
          by_cases e2 : j < k
          · rw [if_pos e2]; unfold Pg.hit keyed; simp; omega
          · rw [if_neg e2]; rfl
      rw [idxN_pos h1] at h2
      omega
    · cases h1
theorem V_take {n i : Nat} {T R : List Nat} (hw : WF (V n T (i :: R)).L (i :: R)) : takeR (V n T (i :: R)) = ⟨V n (i :: T) R, i, 100 + (i : Int), true, 0⟩ := by
  have hi := (hw.mem i).1 (by simp)
  have hin : i < n := by have := hi.1; rwa [V_len] at this
  have hiT : i ∉ T := fun hm => by have := hi.2; rw [V_pg _ _ hin, if_pos hm] at this; cases this
  have hn := List.nodup_cons.1 hw.nodup
  have hf : ¬ (V n T (i :: R)).L.findIdx Pg.free < (V n T (i :: R)).L.length := lst_idx _ _ _ fun j _ => by
    by_cases e : j ∈ T
    · rw [if_pos e]; rfl
    · rw [if_neg e]; unfold Pg.free keyed; simp
  have hk : (pg (V n T (i :: R)).L i).k = 100 + (i : Int) := by rw [V_pg _ _ hin, if_neg hiT]; rfl
  have e1 : less (i :: R) i = R := by
    unfold less
    rw [List.filter_cons, if_neg (by simp), List.filter_eq_self]
    intro a ha
    have : a ≠ i := fun e => hn.1 (e ▸ ha)
    simpa using this
  have e2 : (V n T (i :: R)).L.set i one = (V n (i :: T) R).L := by
    refine lst_ext (by rw [List.length_set, V_len]) fun j hj => ?_
    rw [pg_set (by rw [V_len]; exact hin), V_pg _ _ hj]
    by_cases e : j = i
    · subst e; simp
    · rw [if_neg e]; simp [e]
  unfold takeR
  rw [if_neg hf]
  show TakeR.mk ⟨(V n T (i :: R)).L.set i one, less (i :: R) i⟩ i (pg (V n T (i :: R)).L i).k true 0 = _
  rw [e1, e2, hk]
  rfl
theorem V_full (n : Nat) (T : List Nat) : (takeR (V n T [])).e = 10 ∧ (takeR (V n T [])).x = V n T [] := by
  have hf : ¬ (V n T []).L.findIdx Pg.free < (V n T []).L.length := lst_idx _ _ _ fun j _ => by
    by_cases e : j ∈ T
    · rw [if_pos e]; rfl
    · rw [if_neg e]; unfold Pg.free keyed; simp
  unfold takeR
  rw [if_neg hf]
  exact ⟨rfl, rfl⟩
theorem V_at {n : Nat} (I : List Nat) {i : Nat} (h : i < n) : atN (V n [] I).L (i : Int) = keyed (if i ∈ I then 0 else 1) i := by rw [atN_nat, V_pg _ _ h]; simp
theorem V_at_out {n : Nat} (I : List Nat) {v : Int} (h : v < 0 ∨ (n : Int) ≤ v) : atN (V n [] I).L v = default := atN_out _ _ (by rw [V_len]; exact h)
theorem V_drop {n i : Nat} {I : List Nat} (h : i < n) (hI : i ∉ I) : dropR (V n [] I) (i : Int) = ⟨V n [] (I ++ [i]), 0⟩ := by
  have ea := V_at I h
  rw [if_neg hI] at ea
  unfold dropR
  simp only [ea, Int.toNat_natCast]
  rw [if_neg (show ¬ (keyed 1 i).r = 0 from by show ¬ (1 : Nat) = 0; decide)]
  have ei : ({ keyed 1 i with r := (keyed 1 i).r - 1 } : Pg).idle = true := rfl
  rw [if_pos ei]
  have e2 : (V n [] I).L.set i { keyed 1 i with r := (keyed 1 i).r - 1 } = (V n [] (I ++ [i])).L := by
    refine lst_ext (by rw [List.length_set, V_len]) fun j hj => ?_
    rw [pg_set (by rw [V_len]; exact h), V_pg _ _ hj]
    by_cases e : j = i
    · subst e; simp [keyed]
    · rw [if_neg e]; simp [e]
  show Res.mk ⟨(V n [] I).L.set i { keyed 1 i with r := (keyed 1 i).r - 1 }, I ++ [i]⟩ 0 = _
  rw [e2]
  rfl
theorem V_drop_not {n : Nat} {I : List Nat} {v : Int} (h : v < 0 ∨ (n : Int) ≤ v ∨ ∃ i : Nat, v = i ∧ i < n ∧ i ∈ I) : dropR (V n [] I) v = ⟨V n [] I, 8⟩ := by
  have ea : (atN (V n [] I).L v).r = 0 := by
    rcases h with h | h | ⟨i, rfl, h1, h2⟩
    · rw [V_at_out I (Or.inl h)]; rfl
    · rw [V_at_out I (Or.inr h)]; rfl
    · rw [V_at I h1, if_pos h2]; rfl
  unfold dropR
  rw [if_pos ea]
theorem V_hold {n i : Nat} {I : List Nat} (h : i < n) (hI : i ∈ I) : holdR (V n [] I) (i : Int) = ⟨V n [] (less I i), 0⟩ := by
  have ea := V_at I h
  rw [if_pos hI] at ea
  unfold holdR
  simp only [ea, Int.toNat_natCast]
  have e0 : (keyed 0 i).free = false := rfl
  have e1 : ¬ 1000 ≤ (keyed 0 i).r := by show ¬ 1000 ≤ 0; omega
  rw [e0, if_neg (by simp), if_neg e1]
  have e2 : (V n [] I).L.set i { keyed 0 i with r := (keyed 0 i).r + 1 } = (V n [] (less I i)).L := by
    refine lst_ext (by rw [List.length_set, V_len]) fun j hj => ?_
    rw [pg_set (by rw [V_len]; exact h), V_pg _ _ hj]
    by_cases e : j = i
    · subst e; simp [keyed, less_mem]
    · rw [if_neg e]; simp [e, less_mem]
  show Res.mk ⟨(V n [] I).L.set i { keyed 0 i with r := (keyed 0 i).r + 1 }, less I i⟩ 0 = _
  rw [e2]
  rfl
theorem V_hold_not {n : Nat} {I : List Nat} {v : Int} (h : v < 0 ∨ (n : Int) ≤ v) : holdR (V n [] I) v = ⟨V n [] I, 8⟩ := by
  unfold holdR
  rw [V_at_out I h]
  rfl
theorem less_not (I : List Nat) (i : Nat) : i ∉ less I i := fun h => (less_mem.1 h).2 rfl
/-- A row of numbers of the call's own beside the pool from b on. -/
structure Ap (w : World) (b : Nat) (v : Value) (A : List Nat) : Prop where
  row : Idl w (b + 2) v A
  ap : ∀ g, v.ownBlock = some g → idleBlk w b ≠ some g
theorem Idl.lt {w : World} {B : Nat} {v : Value} {A : List Nat} (h : Idl w B v A) : ∀ g, v.ownBlock = some g → B ≤ g ∧ g < w.heap.size := fun g hg => World.ownsRow.lt h g hg
theorem Idl.of_block {w w' : World} {B : Nat} {v : Value} {A : List Nat} (h : Idl w B v A) (hb : ∀ g, v.ownBlock = some g → w'.heap[g]? = w.heap[g]?) : Idl w' B v A := by
  refine ⟨h.1, ?_⟩
  rcases h.2 with h2 | ⟨g, cap, cur, h3, h4, h5, h6⟩
  · exact Or.inl h2
  · subst h3
    exact Or.inr ⟨g, cap, cur, rfl, h4, (hb g rfl).trans h5, h6⟩
theorem Ap.turns {w w' : World} {b : Nat} {v : Value} {A : List Nat} (h : Ap w b v A) (t : Turns b w w') : Ap w' b v A := by
  refine ⟨h.row.of_block fun g hg => ?_, fun g hg => ?_⟩
  · have := h.row.lt g hg
    exact t.block g this.2 (by omega) (by omega) (h.ap g hg)
  · have := h.row.lt g hg
    rcases t.idle with e | ⟨q, e, hq⟩
    · rw [e]; exact h.ap g hg
    · rw [e]; intro e2; simp at e2; omega
theorem Ap.below {w w' : World} {b : Nat} {v : Value} {A : List Nat} (h : Ap w b v A) (hb : Below w.heap.size w w') (h1 : b + 1 < w.heap.size) : Ap w' b v A := h.turns (Turns.of_below hb h1)
theorem In.grown {w w' : World} {b : Nat} {x : St} {r : Option Nat} (h : In w b x) (G : w.grownBy w' r) (hr : ∀ g, r = some g → b + 2 ≤ g ∧ idleBlk w b ≠ some g) : In w' b x ∧ idleBlk w' b = idleBlk w b := by
  have hne : ∀ k, k < b + 2 → some k ≠ r := fun k hk e => by have := (hr k e.symm).1; omega
  have hs := h.lt
  have e1 := G.block (b + 1) hs (hne _ (by omega))
  obtain ⟨vi, K1, K2, K3⟩ := h.at'.idle
  have ei := idleBlk_of (K1.cell 1 (v := vi) rfl)
  refine ⟨⟨⟨h.at'.pages.of_block (G.block b (by omega) (hne _ (by omega))), vi, K1.of_block e1, K2.of_block fun g hg => G.block g (K3 g hg).2 fun e => ?_⟩, h.wf, h.few⟩, idleBlk_same e1⟩
  exact (hr g e.symm).2 (ei.trans hg)
/-- What an append onto a row of the call's own leaves of the pool, and of the row itself. -/
theorem ap_grown {w w' : World} {b : Nat} {x : St} {v v' : Value} {A B : List Nat} (h : In w b x) (a : Ap w b v A) (G : w.grownBy w' v.ownBlock) (N : ∀ g', v'.ownBlock = some g' → v.ownBlock = some g' ∨ g' = w.heap.size) (O : Idl w' (b + 2) v' B) : In w' b x ∧ Ap w' b v' B := by
  obtain ⟨h1, h2⟩ := h.grown G fun g hg => ⟨(a.row.lt g hg).1, a.ap g hg⟩
  refine ⟨h1, O, fun g hg => ?_⟩
  rw [h2]
  rcases N g hg with e | e
  · exact a.ap g e
  · intro e2
    have := (h.idle_lt g e2).2
    omega
theorem ap_new {w : World} {b : Nat} {x : St} (h : In w b x) : Ap (w.alloc (.cells #[] 3)) b (.slice (some ⟨w.heap.size, 0, none⟩) 0 0) [] := by
  have hl := h.lt
  refine ⟨World.ownsRow_made w #[] 0 (by omega) (by decide) rfl, fun g hg e => ?_⟩
  rw [idleBlk_same (Below.heap_alloc w _ _ hl)] at e
  have := (h.idle_lt g e).2
  have hg2 : w.heap.size = g := by simpa [Value.ownBlock] using hg
  omega
/-- What stands of a pool and a row when one number is laid to be appended. -/
theorem idl_app {w : World} {B : Nat} {v : Value} {A : List Nat} {n m : Nat} (j : Nat) (h : w.ownsRow B 3 1 v (n + m) (A.map (fun i : Nat => Value.int .i64 (i : Int)) ++ [Value.int .i64 (j : Int)])) (hn : n = A.length) (hm : m = 1) : Idl w B v (A ++ [j]) := by
  subst hn hm
  unfold Idl
  simpa using h
theorem Idl.cell {w : World} {B g cap : Nat} {A : List Nat} {n : Nat} (h : Idl w B (.slice (some ⟨g, 0, none⟩) n cap) A) {k : Nat} (hk : k < A.length) : w.cell? ⟨g, k, none⟩ = some (.int .i64 ((A.getD k 0 : Nat) : Int)) := by
  rcases h.cases with ⟨h0, _⟩ | ⟨g', cap', cs, h1, _, h5, _, _, _, h9⟩
  · cases h0
  · simp only [Value.slice.injEq, Option.some.injEq, Addr.mk.injEq, and_true] at h1
    obtain ⟨rfl, _⟩ := h1
    exact h5.cell k (h9 k hk)
theorem ap_keep {w w' : World} {b : Nat} {x : St} {u v : Value} {A C : List Nat} (h : In w b x) (a : Ap w b v A) (c : Ap w b u C) (hne : ∀ g, v.ownBlock = some g → u.ownBlock ≠ some g) (G : w.grownBy w' u.ownBlock) : Ap w' b v A := by
  obtain ⟨_, h2⟩ := h.grown G fun g hg => ⟨(c.row.lt g hg).1, c.ap g hg⟩
  refine ⟨a.row.of_block fun g hg => G.block g (a.row.lt g hg).2 fun e => hne g hg e.symm, fun g hg => ?_⟩
  rw [h2]; exact a.ap g hg
theorem one_cell' {w : World} {g : Nat} {v : Value} (h : w.cell? ⟨g, 0, none⟩ = some v) : ∀ t u, [v][t]? = some u → w.cell? ((⟨g, 0, none⟩ : Addr).add t) = some u := one_cell h
/-- append(row, j), row of the call's own beside a pool. -/
theorem wpList_append_ap {w : World} {ops : Array Oper} {rest : List Oper} {o : Oper} {a : Act} {Q : Exit → Act → World → Prop} (hgd : o.guard = none) (s x : Operand)
    (ho : o.op = .call { callee := .builtin .append, args := #[s, x], argTypes := #[29, 29] })
    (b : Nat) (y : St) (v : Value) (A : List Nat) (j g : Nat) (hs : a.eval s = v) (hx : a.eval x = .slice (some ⟨g, 0, none⟩) 1 1) (hc : w.cell? ⟨g, 0, none⟩ = some (.int .i64 (j : Int))) (hI : In w b y) (hA : Ap w b v A) (hl : A.length ≤ 100)
    (h : ∀ ao c w', In w' b y → Ap w' b (.slice ao (A.length + 1) c) (A ++ [j]) → w.grownBy w' v.ownBlock → (∀ g', (Value.slice ao (A.length + 1) c).ownBlock = some g' → v.ownBlock = some g' ∨ g' = w.heap.size) → wpList Try.prog ops Q rest (a.put o.dst (.slice ao (A.length + 1) c)) w') : wpList Try.prog ops Q (o :: rest) a w := by
  obtain ⟨i0, hi, hz0, hz1, hz2⟩ := info_parts Try.infoInt
  have hlt := hI.lt
  refine wpList_append_own2 _ hgd s x 29 ho (b + 2) 3 i0 (.int .i64 0) 1 8 Try.underlying29 hi hz0 hz1 hz2 rfl (by decide) v A.length _ hs hA.row ⟨g, 0, none⟩ 1 1 [.int .i64 (j : Int)] hx rfl (one_cell hc) (one_one _) (by unfold maxLen; omega) (by omega) (by omega) ?_
  intro v' w5 O1 G1 N1 N2
  have D1 : Idl w5 (b + 2) v' (A ++ [j]) := idl_app j O1 rfl rfl
  obtain ⟨k1, k2⟩ := ap_grown hI hA G1 N2 D1
  obtain ⟨ao, c, rfl⟩ := D1.slice
  have e : (A ++ [j]).length = A.length + 1 := by simp
  rw [e] at k2 N2 ⊢
  exact h ao c w5 k1 k2 G1 N2
end Go.Proofs.Ytfkmmjfahdpfcaa
