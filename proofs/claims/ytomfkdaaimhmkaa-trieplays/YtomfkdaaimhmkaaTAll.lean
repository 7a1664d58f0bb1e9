/- All rows of a trie: each is copied, in order. -/
import Derived.Test.YtomfkdaaimhmkaaTWalk
import Derived.Test.YtomfkdaaimhmkaaLate
namespace Go.Proofs.Ytomfkdaaimhmkaa
open Go.ChangeShapes Go.WideShapes Go.ChangeAt Go.RowKit Go.Maps
theorem run_eql_nil (w : World) (t e : TypeId) (a : Option Addr) (l c : Nat) (h : Try.prog.underlying t = some (.slice e)) : (binOp .eql t (.slice a l c) (.slice none 0 0)).run Try.prog w = .ok (.bool a.isNone) w := by
  simp [binOp, run_equal_slice_nil w t e a l c h]
set_option maxRecDepth 100000 in
set_option maxHeartbeats 1000000 in
theorem clone_any (rv : Value) (n : Nat) (q : List Int) (w : World) (hO : IOwn w 0 rv n q) (hs : Sm q) (hn : n ≤ 4096) :
   Calls Try.prog 29 #[rv] w fun e w' => ∃ a c, e = .returned (.slice a n c) ∧ IOwn w' w.heap.size (.slice a n c) n q ∧ Below w.heap.size w w' := by
  obtain ⟨i0, hi, hz0, hz1, hz2⟩ := info_parts Try.infoInt
  obtain ⟨ao, ca, rfl, hA⟩ := hO.arg hs
  have hl := hA.row.len
  cases ao with
  | none =>
    have hc0 := hA.nil rfl
    have hm0 : n = 0 := by have := hA.fit; omega
    subst hm0 hc0
    obtain rfl : q = [] := List.length_eq_zero_iff.1 hl
    have hq : ∀ w : World, (binOp .eql 23 (.slice none 0 0) (.slice none 0 0)).run Try.prog w = .ok (.bool true) w := fun w => run_eql_nil w _ 3 _ _ _ Try.underlying23
    clear hO hA hl
    go_enter Try.func29, Try.ntmps29
    go_wp2_with fail
    go_ret
    exact ⟨none, 0, rfl, World.ownsRow_nil _ _ _ _, Below.refl _ _⟩
  | some ad =>
    have B0 : Below w.heap.size w (w.alloc (.cells #[] 3)) := (Below.refl _ _).alloc (Nat.le_refl _) _
    have O0 : (w.alloc (.cells #[] 3)).ownsRow w.heap.size 3 1 (.slice (some ⟨w.heap.size, 0, none⟩) 0 0) 0 [] := World.ownsRow_made w #[] 0 (Nat.le_refl _) (by decide) rfl
    have hq : ∀ w : World, (binOp .eql 23 (.slice (some ad) n ca) (.slice none 0 0)).run Try.prog w = .ok (.bool false) w := fun w => run_eql_nil w _ 3 _ _ _ Try.underlying23
    go_enter Try.func29, Try.ntmps29
    go_wp2_with (at_builtin; refine wpList_append_own _ rfl _ _ 23 rfl w.heap.size 3 i0 (.int .i64 0) 1 8 Try.underlying23 hi hz0 hz1 hz2 rfl (by decide) _ 0 [] rfl O0 ad n ca (q.map (Value.int .i64)) rfl (by simp [hl]) ((hA.row.below B0).vals) (ints_oneCell _ _) (by unfold maxLen; omega) (by omega) (by simp) ?_; intro v' w' O1 G1 N1)
    go_ret
    rw [Nat.zero_add, List.nil_append] at O1
    have hv : ∃ b c, v' = .slice (some ⟨b, 0, none⟩) n c := by
      rcases O1.2 with ⟨h3, _⟩ | ⟨g, cap, cur, hv, _⟩
      · have := (N1.1 h3).1; cases this
      · exact ⟨_, _, hv⟩
    obtain ⟨b, c, rfl⟩ := hv
    exact ⟨_, _, rfl, O1, B0.trans ((Below.refl _ _).grown G1 (by simp) (fun k hk => (O0.lt k hk).1))⟩
/-- A variable of one cell in block b. -/
def Blk1 (w : World) (b : Nat) (T : TypeId) (v : Value) : Prop := w.heap[b]? = some (.cells #[v] T (0, 0))
theorem Blk1.cell {w : World} {b : Nat} {T : TypeId} {v : Value} (h : Blk1 w b T v) : w.cell? ⟨b, 0, none⟩ = some v := by simp [World.cell?, show w.heap[b]? = _ from h]
theorem Blk1.lt {w : World} {b : Nat} {T : TypeId} {v : Value} (h : Blk1 w b T v) : b < w.heap.size := cell_lt h.cell
theorem Blk1.below {w w' : World} {b : Nat} {T : TypeId} {v : Value} (h : Blk1 w b T v) (hb : Below w.heap.size w w') : Blk1 w' b T v := (hb.block b h.lt).trans h
theorem Blk1.frozen {w : World} {b : Nat} {T : TypeId} {v : Value} (h : Blk1 w b T v) : w.frozen? ⟨b, 0, none⟩ = false := by simp [World.frozen?, show w.heap[b]? = _ from h]
theorem Blk1.set {w : World} {b : Nat} {T : TypeId} {v : Value} (h : Blk1 w b T v) (v' : Value) : Blk1 (w.setCell ⟨b, 0, none⟩ v') b T v' := by
  have e : w.heap[b]? = some (.cells #[v] T (0, 0)) := h
  show (w.setCell ⟨b, 0, none⟩ v').heap[b]? = _
  simp [World.setCell, Array.getElem?_modify, e]
abbrev RE := Value × List Int × Int
def flatE (E : List RE) : List Value := E.flatMap fun e => [e.1, .int .i64 e.2.2]
/-- v is a row of the call's own: entries with rows of its own. -/
structure EOwn (w : World) (B : Nat) (v : Value) (E : List RE) : Prop where
  row : w.ownsRow B 59 2 v E.length (flatE E)
  own : ∀ e ∈ E, IOwn w B e.1 e.2.1.length e.2.1
  sm : ∀ e ∈ E, Sm e.2.1
def ins (v : Value) (E : List RE) (x : Nat) : Prop := v.ownBlock = some x ∨ ∃ e ∈ E, e.1.ownBlock = some x
theorem ownsRow_keep {w w' : World} {B : Nat} {T : TypeId} {k : Nat} {v : Value} {n : Nat} {L : List Value} (h : w.ownsRow B T k v n L) (hb : ∀ x, v.ownBlock = some x → w'.heap[x]? = w.heap[x]?) : w'.ownsRow B T k v n L := by
  refine ⟨h.1, ?_⟩
  rcases h.2 with a | ⟨g, cap, cur, rfl, hbg, hg, r⟩
  · exact Or.inl a
  · exact Or.inr ⟨g, cap, cur, rfl, hbg, (hb g rfl).trans hg, r⟩
theorem EOwn.keep {w w' : World} {B : Nat} {v : Value} {E : List RE} (h : EOwn w B v E) (hb : ∀ x, ins v E x → w'.heap[x]? = w.heap[x]?) : EOwn w' B v E :=
  ⟨ownsRow_keep h.row (fun x hx => hb x (Or.inl hx)), fun e he => (h.own e he).keep (fun x hx => hb x (Or.inr ⟨e, he, hx⟩)), h.sm⟩
theorem EOwn.lt {w : World} {B : Nat} {v : Value} {E : List RE} (h : EOwn w B v E) {x : Nat} (hx : ins v E x) : B ≤ x ∧ x < w.heap.size := by
  rcases hx with a | ⟨e, he, a⟩
  · exact World.ownsRow.lt h.row x a
  · exact World.ownsRow.lt (h.own e he) x a
theorem EOwn.below {w w' : World} {B : Nat} {v : Value} {E : List RE} (h : EOwn w B v E) (hb : Below w.heap.size w w') : EOwn w' B v E := h.keep (fun x hx => hb.block x (h.lt hx).2)
theorem Try.infoEnt : (Try.prog.info? 59).map (fun i => (i.zero, i.size, i.bytes)) = some (some (.agg #[.slice none 0 0, .int .i64 0]), 2, 32) := by kernel_rfl
theorem ownsRow_mono {w : World} {B B' : Nat} {T : TypeId} {k : Nat} {v : Value} {n : Nat} {L : List Value} (h : w.ownsRow B T k v n L) (hb : B' ≤ B) : w.ownsRow B' T k v n L := by
  refine ⟨h.1, ?_⟩
  rcases h.2 with a | ⟨g, cap, cur, rfl, hbg, r⟩
  · exact Or.inl a
  · exact Or.inr ⟨g, cap, cur, rfl, Nat.le_trans hb hbg, r⟩
theorem own_apart {w : World} {B B' : Nat} {T T' : TypeId} {k k' : Nat} {v v' : Value} {n n' : Nat} {L L' : List Value} (h : w.ownsRow B T k v n L) (h' : w.ownsRow B' T' k' v' n' L') (hT : T ≠ T') (x : Nat) (hx : v.ownBlock = some x) : v'.ownBlock ≠ some x := fun hy => by
  rcases h.2 with ⟨rfl, _⟩ | ⟨g, cap, cur, rfl, hbg, hg, _⟩
  · cases hx
  · rcases h'.2 with ⟨rfl, _⟩ | ⟨g', cap', cur', rfl, hbg', hg', _⟩
    · cases hy
    · injection hx with hx
      injection hy with hy
      obtain rfl : g = g' := hx.trans hy.symm
      rw [hg] at hg'
      injection hg' with hg'
      injection hg' with _ h2
      exact hT h2
theorem flatE_snoc (E : List RE) (e : RE) : flatE (E ++ [e]) = flatE E ++ [e.1, .int .i64 e.2.2] := by simp [flatE]
theorem wp_appE {o : Oper} {a : Act} {K : Act → World → Prop} {Q : Exit → Act → World → Prop} {w : World} (s x : Operand)
    (ho : o.op = .call { callee := .builtin .append, args := #[s, x], argTypes := #[50, 50] })
    (va : Value) (E : List RE) (q : List Int) (v : Int) (cv : Value) (B : Nat) (hs : a.eval s = va) (hE : EOwn w B va E) (bo : Nat) (hx : a.eval x = .slice (some ⟨bo, 0, none⟩) 1 1) (h0 : w.cell? ⟨bo, 0, none⟩ = some cv) (h1 : w.cell? ⟨bo, 1, none⟩ = some (.int .i64 v)) (hc1 : cv.oneCell' = true) (hO : IOwn w B cv q.length q) (hq : Sm q) (hl : E.length ≤ 100000) (hB : B ≤ w.heap.size)
    (h : ∀ v' w', (∃ g' c', v' = .slice (some ⟨g', 0, none⟩) (E.length + 1) c') → EOwn w' B v' (E ++ [(cv, q, v)]) → Below 0 w w' → (∀ x, x < w.heap.size → va.ownBlock ≠ some x → w'.heap[x]? = w.heap[x]?) → (∀ x, v'.ownBlock = some x → va.ownBlock = some x ∨ w.heap.size ≤ x) → K (a.put o.dst v') w') : o.wp Try.prog a w K Q := by
  obtain ⟨i0, hi, hz0, hz1, hz2⟩ := info_parts Try.infoEnt
  obtain ⟨v', w', hr, h2, h3, h4, h5⟩ := run_append_own_at (P := Try.prog) w B 50 o.type 59 i0 (.agg #[.slice none 0 0, .int .i64 0]) 2 32 Try.underlying50 hi hz0 hz1 hz2 rfl (by decide) va E.length _ hE.row ⟨bo, 0, none⟩ 1 1 [cv, .int .i64 v] rfl (fun j u hj => by
      match j, hj with
      | 0, hj =>
        simp at hj; subst hj
        have e2 : (Addr.mk bo 0 none).add 0 = ⟨bo, 0, none⟩ := by simp [Addr.add]
        rw [e2]; exact h0
      | 1, hj =>
        simp at hj; subst hj
        have e2 : (Addr.mk bo 0 none).add 1 = ⟨bo, 1, none⟩ := by simp [Addr.add]
        rw [e2]; exact h1) (fun u hu => by
      simp only [List.mem_cons, List.not_mem_nil, or_false] at hu
      rcases hu with rfl | rfl
      · exact hc1
      · rfl) (by unfold maxLen; omega) (by omega) hB
  unfold Oper.wp execOp
  simp only [ho, resolve, invoke, builtin, Sem.run_bind, Sem.run_pure, Result.andThen_ok, List.map_toArray, List.map_cons, List.map_nil, hs, hx, hr]
  have kp : ∀ x, x < w.heap.size → va.ownBlock ≠ some x → w'.heap[x]? = w.heap[x]? := fun x hx hne => h3.block x hx (fun e => hne e.symm)
  have hv : ∃ g' c', v' = .slice (some ⟨g', 0, none⟩) (E.length + 1) c' := by
    rcases h2.2 with ⟨_, h3⟩ | ⟨g, cap, cur, hv, _⟩
    · omega
    · exact ⟨_, _, hv⟩
  refine h v' w' hv ⟨?_, fun e he => ?_, fun e he => ?_⟩ ⟨h3.os, h3.tape, h3.output, h3.size, fun k hk => absurd hk (by omega)⟩ kp (fun x hx => ?_)
  · rw [flatE_snoc]
    have : (E ++ [(cv, q, v)]).length = E.length + 1 := by simp
    rw [this]; exact h2
  · rcases List.mem_append.1 he with a | a
    · exact (hE.own e a).keep (fun x hx => kp x (World.ownsRow.lt (hE.own e a) x hx).2 (own_apart (hE.own e a) hE.row (by decide) x hx))
    · rw [List.mem_singleton] at a; subst a
      exact hO.keep (fun x hx => kp x (World.ownsRow.lt hO x hx).2 (own_apart hO hE.row (by decide) x hx))
  · rcases List.mem_append.1 he with a | a
    · exact hE.sm e a
    · rw [List.mem_singleton] at a; subst a; exact hq
  · rcases h5 with e | e
    · rw [e] at hx; exact Or.inl hx
    · rw [e] at hx; injection hx with hx; exact Or.inr (by omega)
set_option maxRecDepth 100000 in
set_option maxHeartbeats 4000000 in
theorem vis_any (B ab : Nat) (va rv : Value) (E : List RE) (q : List Int) (v : Int) (W : World) (hB1 : Blk1 W ab 50 va) (hE : EOwn W B va E) (hab2 : ¬ ins va E ab) (hO : IOwn W 0 rv q.length q) (hq : Sm q) (hql : q.length ≤ 128) (hEl : E.length ≤ 100000) (hBW : B ≤ W.heap.size) :
   Calls Try.prog 30 #[rv, .int .i64 v, .pointer (some ⟨ab, 0, none⟩)] W fun e W' => e = .returned (.tuple #[]) ∧ ∃ va' cv, Blk1 W' ab 50 va' ∧ EOwn W' B va' (E ++ [(cv, q, v)]) ∧ (∀ x, ins va' (E ++ [(cv, q, v)]) x → ins va E x ∨ W.heap.size ≤ x) ∧ Below 0 W W' ∧ (∀ x, x < W.heap.size → x ≠ ab → ¬ ins va E x → W'.heap[x]? = W.heap[x]?) := by
  have hab := hB1.cell
  go_enter Try.func30, Try.ntmps30
  go_upto_region 0 with fail
  refine wp_region_late (S := fun w' => w'.cell? ⟨ab, 0, none⟩ = some va) 7 (by kernel_rfl) hab (fun hHeld => ?_)
  have hob : IOwn W.drew 0 rv q.length q := hO
  have hE0 : EOwn W.drew B va E := hE.keep (fun x _ => rfl)
  have hab0 : Blk1 W.drew ab 50 va := hB1
  have hBd : B ≤ W.drew.heap.size := hBW
  have hzW : Hid (W.drew.heap.size = W.heap.size) := rfl
  have hbW : Hid (Below 0 W W.drew) := (Below.refl 0 W).drew
  have hkW : Hid (∀ x : Nat, W.drew.heap[x]? = W.heap[x]?) := fun _ => rfl
  generalize hwd : W.drew = wd at *
  clear hwd
  refine wpLate_take (i := 0) (v := va) rfl (by kernel_rfl) (by kernel_rfl) (by kernel_rfl) (by kernel_rfl) (by kernel_rfl) (fun _ _ _ h => h) (Or.inl ⟨by rfl, ?_⟩) (by assumption) ?_
  · intro w' hSw
    have y0 := hSw
    go_simp
  simp only [List.getElem_toArray, List.getElem_cons_zero, Act.put, List.setIfInBounds_toArray, List.set_cons_zero, List.set_cons_succ]
  refine wpLate_pure (i := 1) (v := rv) rfl (by decide) (by kernel_rfl) (by kernel_rfl) (by kernel_rfl) (fun _ _ _ h => h) (Or.inl ⟨by rfl, ?_⟩) (fun _ => by assumption) ?_
  · intro w' _
    go_simp
  simp only [List.getElem_toArray, List.getElem_cons_succ, List.getElem_cons_zero, Act.put, List.setIfInBounds_toArray, List.set_cons_zero, List.set_cons_succ]
  refine wpLate_pure (i := 3) (v := (.int .i64 v)) rfl (by decide) (by kernel_rfl) (by kernel_rfl) (by kernel_rfl) (fun _ _ _ h => h) (Or.inl ⟨by rfl, ?_⟩) (fun _ => by assumption) ?_
  · intro w' _
    go_simp
  simp only [List.getElem_toArray, List.getElem_cons_succ, List.getElem_cons_zero, Act.put, List.setIfInBounds_toArray, List.set_cons_zero, List.set_cons_succ]
  have CL := clone_any rv q.length q wd hob hq (by omega)
  refine wpLate_ready (rs := [2]) (by kernel_rfl) (by simp) ?_
  refine wpLate_cons rfl (fun Kc hKc => ?_) wpLate_nil
  simp only [List.getElem_toArray, List.getElem_cons_succ, List.getElem_cons_zero]
  rw [if_pos (by rfl)]
  go_wp2_with fail
  refine CL.mono ?_
  clear CL
  rintro e w2 ⟨ca, cc, rfl, O2, B2⟩
  go_wp2_with fail
  have hb2 := hab0.below B2
  have hHeld2 := hb2.cell
  refine hKc.out _ _ (fun _ _ => hHeld2) ?_
  clear hKc Kc
  refine wpLate_pure (i := 4) (v := (.agg #[.slice ca q.length cc, .int .i64 v])) rfl (by decide) (by kernel_rfl) (by kernel_rfl) (by kernel_rfl) (fun _ _ _ h => h) (Or.inl ⟨by rfl, ?_⟩) (fun _ => by assumption) ?_
  · intro w' _
    go_simp
  simp only [List.getElem_toArray, List.getElem_cons_succ, List.getElem_cons_zero, Act.put, List.setIfInBounds_toArray, List.set_cons_zero, List.set_cons_succ]
  refine wpLate_ready (rs := [5]) (by kernel_rfl) (by simp) ?_
  refine wpLate_cons rfl (fun Kc hKc => ?_) wpLate_nil
  simp only [List.getElem_toArray, List.getElem_cons_succ, List.getElem_cons_zero]
  rw [if_pos (by rfl)]
  go_wp2_with fail
  have BA : Below w2.heap.size w2 (w2.alloc (.cells #[.slice ca q.length cc, .int .i64 v] 59)) := (Below.refl _ _).alloc (Nat.le_refl _) _
  have x0 : (w2.alloc (.cells #[.slice ca q.length cc, .int .i64 v] 59)).cell? ⟨w2.heap.size, 0, none⟩ = some (.slice ca q.length cc) := (by rw [World.cell?_alloc_at _ _ _ _ (by simp)]; rfl)
  have x1 : (w2.alloc (.cells #[.slice ca q.length cc, .int .i64 v] 59)).cell? ⟨w2.heap.size, 1, none⟩ = some (.int .i64 v) := (by rw [World.cell?_alloc_at _ _ _ _ (by simp)]; rfl)
  have hbA := hb2.below BA
  have EA := (hE0.below B2).below BA
  have OA := (show IOwn w2 B (.slice ca q.length cc) q.length q from ownsRow_mono O2 hBd).keep (fun x hx => BA.block x (World.ownsRow.lt O2 x hx).2)
  have zA := BA.size
  have bA0 := BA.mono (Nat.zero_le _)
  have z2 := B2.size
  have kA : ∀ x, x < wd.heap.size → (w2.alloc (.cells #[.slice ca q.length cc, .int .i64 v] 59)).heap[x]? = wd.heap[x]? := fun x hx => (BA.block x (by omega)).trans (B2.block x hx)
  generalize hwA : w2.alloc (.cells #[.slice ca q.length cc, .int .i64 v] 59) = wA at *
  clear hwA
  refine hKc.out _ _ (fun _ _ => hbA.cell) ?_
  clear hKc Kc
  refine wpLate_ready (rs := [6]) (by kernel_rfl) (by simp) ?_
  refine wpLate_cons rfl (fun Kc hKc => ?_) wpLate_nil
  simp only [List.getElem_toArray, List.getElem_cons_succ, List.getElem_cons_zero]
  rw [if_pos (by rfl)]
  refine wp_appE _ _ rfl va E q v (.slice ca q.length cc) B rfl EA w2.heap.size rfl x0 x1 rfl OA hq hEl (by omega) ?_
  rintro v5 w5 ⟨g5, c5x, rfl⟩ E5 y5 k5 b5
  have z5 := y5.size
  have hb5 : Blk1 w5 ab 50 va := (k5 ab hbA.lt (fun e => hab2 (Or.inl e))).trans hbA
  have f5 := hb5.frozen
  have c5 := hb5.cell
  refine hKc.out _ _ (fun _ _ => c5) ?_
  clear hKc Kc
  refine wpLate_ready (rs := [7]) (by kernel_rfl) (by simp) ?_
  refine wpLate_cons rfl (fun Kc hKc => ?_) wpLate_nil
  simp only [List.getElem_toArray, List.getElem_cons_succ, List.getElem_cons_zero]
  rw [if_pos (by rfl)]
  go_wp2_with fail
  have O5b := World.ownsRow.lt O2
  have l0 := hab0.lt
  have lA := hbA.lt
  have hin : ∀ x, ins (Value.slice (some ⟨g5, 0, none⟩) (E.length + 1) c5x) (E ++ [(Value.slice ca q.length cc, q, v)]) x → ins va E x ∨ wd.heap.size ≤ x := fun x hx => by
    rcases hx with a | ⟨e, he, a⟩
    · rcases b5 x a with b | b
      · exact Or.inl (Or.inl b)
      · exact Or.inr (by omega)
    · rcases List.mem_append.1 he with b | b
      · exact Or.inl (Or.inr ⟨e, b, a⟩)
      · rw [List.mem_singleton] at b; subst b
        exact Or.inr (O5b x a).1
  have hn5 : ∀ x, ins (Value.slice (some ⟨g5, 0, none⟩) (E.length + 1) c5x) (E ++ [(Value.slice ca q.length cc, q, v)]) x → x ≠ ab := fun x hx e => by
    rcases hin x hx with a | a
    · exact hab2 (e ▸ a)
    · omega
  have E6 : EOwn (w5.setCell ⟨ab, 0, none⟩ (Value.slice (some ⟨g5, 0, none⟩) (E.length + 1) c5x)) B (Value.slice (some ⟨g5, 0, none⟩) (E.length + 1) c5x) (E ++ [(Value.slice ca q.length cc, q, v)]) := E5.keep (fun x hx => Below.heap_setCell _ _ _ x (hn5 x hx))
  have hb6 := hb5.set (Value.slice (some ⟨g5, 0, none⟩) (E.length + 1) c5x)
  refine hKc.out _ _ (fun hne _ => absurd rfl hne) ?_
  clear hKc Kc
  try simp only [Act.put]
  refine wpLate_done (by kernel_rfl) ?_ _
  go_wp2_with fail
  go_end0
  refine ⟨rfl, (Value.slice (some ⟨g5, 0, none⟩) (E.length + 1) c5x), _, hb6, E6, fun x hx => by rcases hin x hx with a | a; exact Or.inl a; exact Or.inr (by have := hzW.out; omega), ?_, fun x hx h1 h2 => ?_⟩
  · exact (((hbW.out.trans (B2.mono (Nat.zero_le _))).trans bA0).trans y5).setCell (Nat.zero_le _) _
  · have := hzW.out
    rw [Below.heap_setCell _ _ _ x h1, k5 x (by omega) (fun e => h2 (Or.inl e)), kA x (by omega)]
    exact hkW.out x
end Go.Proofs.Ytomfkdaaimhmkaa
