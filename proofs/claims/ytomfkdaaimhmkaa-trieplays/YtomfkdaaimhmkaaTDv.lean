/- DropValue's visitor: the rows with a value are copied. -/
import Derived.Test.YtomfkdaaimhmkaaTWalkV
import Derived.Test.YtomfkdaaimhmkaaTOrder
import Derived.Test.YtomfkdaaimhmkaaLate
namespace Go.Proofs.Ytomfkdaaimhmkaa
open Go.ChangeShapes Go.WideShapes Go.ChangeAt Go.RowKit Go.Maps
/-- v is a row of rows of one's own (nil or not). -/
structure RG (w : World) (B : Nat) (v : Value) (R : List RR) : Prop where
  row : w.ownsRow B 23 1 v R.length (R.map (·.1))
  own : ∀ r ∈ R, IOwn w B r.1 r.2.length r.2
  sm : ∀ r ∈ R, Sm r.2
theorem RG.lt {w : World} {B : Nat} {v : Value} {R : List RR} (h : RG w B v R) {x : Nat} (hx : rin v R x) : B ≤ x ∧ x < w.heap.size := by
  rcases hx with a | ⟨e, he, a⟩
  · exact World.ownsRow.lt h.row x a
  · exact World.ownsRow.lt (h.own e he) x a
theorem RG.keep {w w' : World} {B : Nat} {v : Value} {R : List RR} (h : RG w B v R) (hb : ∀ x, rin v R x → w'.heap[x]? = w.heap[x]?) : RG w' B v R :=
  ⟨ownsRow_keep h.row (fun x hx => hb x (Or.inl hx)), fun e he => (h.own e he).keep (fun x hx => hb x (Or.inr ⟨e, he, hx⟩)), h.sm⟩
theorem RG.below {w w' : World} {B : Nat} {v : Value} {R : List RR} (h : RG w B v R) (hb : Below w.heap.size w w') : RG w' B v R := h.keep (fun x hx => hb.block x (h.lt hx).2)
theorem wp_appG {o : Oper} {a : Act} {K : Act → World → Prop} {Q : Exit → Act → World → Prop} {w : World} (s x : Operand)
    (ho : o.op = .call { callee := .builtin .append, args := #[s, x], argTypes := #[56, 56] })
    (va : Value) (R : List RR) (q : List Int) (cv : Value) (B : Nat) (hs : a.eval s = va) (hE : RG w B va R) (bo : Nat) (hx : a.eval x = .slice (some ⟨bo, 0, none⟩) 1 1) (h0 : w.cell? ⟨bo, 0, none⟩ = some cv) (hc1 : cv.oneCell' = true) (hO : IOwn w B cv q.length q) (hq : Sm q) (hl : R.length ≤ 100000) (hB : B ≤ w.heap.size)
    (h : ∀ v' w', (∃ g' c', v' = .slice (some ⟨g', 0, none⟩) (R.length + 1) c') → RG w' B v' (R ++ [(cv, q)]) → Below 0 w w' → (∀ x, x < w.heap.size → va.ownBlock ≠ some x → w'.heap[x]? = w.heap[x]?) → (∀ x, v'.ownBlock = some x → va.ownBlock = some x ∨ w.heap.size ≤ x) → K (a.put o.dst v') w') : o.wp Try.prog a w K Q := by
  obtain ⟨i0, hi, hz0, hz1, hz2⟩ := info_parts Try.infoSl
  obtain ⟨v', w', hr, h2, h3, h4, h5⟩ := run_append_own_at (P := Try.prog) w B 56 o.type 23 i0 (.slice none 0 0) 1 24 Try.underlying56 hi hz0 hz1 hz2 rfl (by decide) va R.length _ hE.row ⟨bo, 0, none⟩ 1 1 [cv] rfl (fun j u hj => by
      match j, hj with
      | 0, hj =>
        simp at hj; subst hj
        have e2 : (Addr.mk bo 0 none).add 0 = ⟨bo, 0, none⟩ := by simp [Addr.add]
        rw [e2]; exact h0) (fun u hu => by
      simp only [List.mem_cons, List.not_mem_nil, or_false] at hu
      rw [hu]; exact hc1) (by unfold maxLen; omega) (by omega) hB
  unfold Oper.wp execOp
  simp only [ho, resolve, invoke, builtin, Sem.run_bind, Sem.run_pure, Result.andThen_ok, List.map_toArray, List.map_cons, List.map_nil, hs, hx, hr]
  have kp : ∀ x, x < w.heap.size → va.ownBlock ≠ some x → w'.heap[x]? = w.heap[x]? := fun x hx hne => h3.block x hx (fun e => hne e.symm)
  have hv : ∃ g' c', v' = .slice (some ⟨g', 0, none⟩) (R.length + 1) c' := by
    rcases h2.2 with ⟨_, h3⟩ | ⟨g, cap, cur, hv, _⟩
    · omega
    · exact ⟨_, _, hv⟩
  refine h v' w' hv ⟨?_, fun e he => ?_, fun e he => ?_⟩ ⟨h3.os, h3.tape, h3.output, h3.size, fun k hk => absurd hk (by omega)⟩ kp (fun x hx => ?_)
  · have : (R ++ [(cv, q)]).length = R.length + 1 := by simp
    rw [this, List.map_append]; exact h2
  · rcases List.mem_append.1 he with a | a
    · exact (hE.own e a).keep (fun x hx => kp x (World.ownsRow.lt (hE.own e a) x hx).2 (own_apart (hE.own e a) hE.row (by decide) x hx))
    · rw [List.mem_singleton] at a; subst a
      exact hO.keep (fun x hx => kp x (World.ownsRow.lt hO x hx).2 (own_apart hO hE.row (by decide) x hx))
  · rcases List.mem_append.1 he with a | a
    · exact hE.sm e a
    · rw [List.mem_singleton] at a; subst a; exact hq
  · rcases h5 with e | e
    · rw [e] at hx; exact Or.inl hx
    · rw [e] at hx; injection hx with hx; exact Or.inr (by omega)
set_option maxRecDepth 100000 in
set_option maxHeartbeats 4000000 in
theorem visV_no (vb gb : Nat) (u v : Int) (rv : Value) (W : World) (hv : Blk1 W vb 3 (.int .i64 u)) (hne : ¬ v = u) :
   Calls Try.prog 28 #[rv, .int .i64 v, .pointer (some ⟨vb, 0, none⟩), .pointer (some ⟨gb, 0, none⟩)] W fun e W' => e = .returned (.tuple #[]) ∧ W' = W := by
  have c0 := hv.cell
  clear hv
  go_enter Try.func28, Try.ntmps28
  go_wp2_with fail
  go_end0
  exact ⟨rfl, rfl⟩
set_option maxRecDepth 100000 in
set_option maxHeartbeats 4000000 in
theorem visV_yes (B vb gb : Nat) (u : Int) (vg rv : Value) (R : List RR) (q : List Int) (W : World) (hv : Blk1 W vb 3 (.int .i64 u)) (hB1 : Blk1 W gb 56 vg) (hE : RG W B vg R) (hab2 : ¬ rin vg R gb) (hO : IOwn W 0 rv q.length q) (hq : Sm q) (hql : q.length ≤ 128) (hEl : R.length ≤ 100000) (hBW : B ≤ W.heap.size) :
   Calls Try.prog 28 #[rv, .int .i64 u, .pointer (some ⟨vb, 0, none⟩), .pointer (some ⟨gb, 0, none⟩)] W fun e W' => e = .returned (.tuple #[]) ∧ ∃ vg' cv, Blk1 W' gb 56 vg' ∧ RG W' B vg' (R ++ [(cv, q)]) ∧ (∀ x, rin vg' (R ++ [(cv, q)]) x → rin vg R x ∨ W.heap.size ≤ x) ∧ Below 0 W W' ∧ (∀ x, x < W.heap.size → x ≠ gb → ¬ rin vg R x → W'.heap[x]? = W.heap[x]?) := by
  have hab := hB1.cell
  have c0 := hv.cell
  go_enter Try.func28, Try.ntmps28
  go_upto_region 1 with fail
  refine wp_region_late (S := fun w' => w'.cell? ⟨gb, 0, none⟩ = some vg) 5 (by kernel_rfl) hab (fun hHeld => ?_)
  have hob : IOwn W.drew 0 rv q.length q := hO
  have hE0 : RG W.drew B vg R := hE.keep (fun x _ => rfl)
  have hab0 : Blk1 W.drew gb 56 vg := hB1
  have hBd : B ≤ W.drew.heap.size := hBW
  have hzW : Hid (W.drew.heap.size = W.heap.size) := rfl
  have hbW : Hid (Below 0 W W.drew) := (Below.refl 0 W).drew
  have hkW : Hid (∀ x : Nat, W.drew.heap[x]? = W.heap[x]?) := fun _ => rfl
  generalize hwd : W.drew = wd at *
  clear hwd
  refine wpLate_take (i := 0) (v := vg) rfl (by kernel_rfl) (by kernel_rfl) (by kernel_rfl) (by kernel_rfl) (by kernel_rfl) (fun _ _ _ h => h) (Or.inl ⟨by rfl, ?_⟩) (by assumption) ?_
  · intro w' hSw
    have y0 := hSw
    go_simp
  simp only [List.getElem_toArray, List.getElem_cons_zero, Act.put, List.setIfInBounds_toArray, List.set_cons_zero, List.set_cons_succ]
  refine wpLate_pure (i := 1) (v := rv) rfl (by decide) (by kernel_rfl) (by kernel_rfl) (by kernel_rfl) (fun _ _ _ h => h) (Or.inl ⟨by rfl, ?_⟩) (fun _ => by assumption) ?_
  · intro w' _
    go_simp
  simp only [List.getElem_toArray, List.getElem_cons_succ, List.getElem_cons_zero, Act.put, List.setIfInBounds_toArray, List.set_cons_zero, List.set_cons_succ]
  have CL := clone_any rv q.length q wd hob hq (by omega)
  refine wpLate_ready (rs := [2]) (by kernel_rfl) (by simp) ?_
  refine wpLate_cons rfl (fun Kc hKc => ?_) wpLate_nil
  simp only [List.getElem_toArray, List.getElem_cons_succ, List.getElem_cons_zero]
  rw [if_pos (by rfl)]
  go_wp2_with fail
  refine CL.mono ?_
  clear CL
  rintro e w2 ⟨ca, cc, rfl, O2, B2⟩
  go_wp2_with fail
  have hb2 := hab0.below B2
  have hHeld2 := hb2.cell
  refine hKc.out _ _ (fun _ _ => hHeld2) ?_
  clear hKc Kc
  refine wpLate_ready (rs := [3]) (by kernel_rfl) (by simp) ?_
  refine wpLate_cons rfl (fun Kc hKc => ?_) wpLate_nil
  simp only [List.getElem_toArray, List.getElem_cons_succ, List.getElem_cons_zero]
  rw [if_pos (by rfl)]
  go_wp2_with fail
  have BA : Below w2.heap.size w2 (w2.alloc (.cells #[.slice ca q.length cc] 23)) := (Below.refl _ _).alloc (Nat.le_refl _) _
  have x0 : (w2.alloc (.cells #[.slice ca q.length cc] 23)).cell? ⟨w2.heap.size, 0, none⟩ = some (.slice ca q.length cc) := (by rw [World.cell?_alloc_at _ _ _ _ (by simp)]; rfl)
  have hbA := hb2.below BA
  have EA := (hE0.below B2).below BA
  have OA := (show IOwn w2 B (.slice ca q.length cc) q.length q from ownsRow_mono O2 hBd).keep (fun x hx => BA.block x (World.ownsRow.lt O2 x hx).2)
  have zA := BA.size
  have bA0 := BA.mono (Nat.zero_le _)
  have z2 := B2.size
  have kA : ∀ x, x < wd.heap.size → (w2.alloc (.cells #[.slice ca q.length cc] 23)).heap[x]? = wd.heap[x]? := fun x hx => (BA.block x (by omega)).trans (B2.block x hx)
  generalize hwA : w2.alloc (.cells #[.slice ca q.length cc] 23) = wA at *
  clear hwA
  refine hKc.out _ _ (fun _ _ => hbA.cell) ?_
  clear hKc Kc
  refine wpLate_ready (rs := [4]) (by kernel_rfl) (by simp) ?_
  refine wpLate_cons rfl (fun Kc hKc => ?_) wpLate_nil
  simp only [List.getElem_toArray, List.getElem_cons_succ, List.getElem_cons_zero]
  rw [if_pos (by rfl)]
  refine wp_appG _ _ rfl vg R q (.slice ca q.length cc) B rfl EA w2.heap.size rfl x0 rfl OA hq hEl (by omega) ?_
  rintro v5 w5 ⟨g5, c5x, rfl⟩ E5 y5 k5 b5
  have z5 := y5.size
  have hb5 : Blk1 w5 gb 56 vg := (k5 gb hbA.lt (fun e => hab2 (Or.inl e))).trans hbA
  have f5 := hb5.frozen
  have c5 := hb5.cell
  refine hKc.out _ _ (fun _ _ => c5) ?_
  clear hKc Kc
  refine wpLate_ready (rs := [5]) (by kernel_rfl) (by simp) ?_
  refine wpLate_cons rfl (fun Kc hKc => ?_) wpLate_nil
  simp only [List.getElem_toArray, List.getElem_cons_succ, List.getElem_cons_zero]
  rw [if_pos (by rfl)]
  go_wp2_with fail
  have O5b := World.ownsRow.lt O2
  have l0 := hab0.lt
  have lA := hbA.lt
  have hin : ∀ x, rin (Value.slice (some ⟨g5, 0, none⟩) (R.length + 1) c5x) (R ++ [(Value.slice ca q.length cc, q)]) x → rin vg R x ∨ wd.heap.size ≤ x := fun x hx => by
      rcases hx with a | ⟨e, he, a⟩
      · rcases b5 x a with b | b
        · exact Or.inl (Or.inl b)
        · exact Or.inr (by omega)
      · rcases List.mem_append.1 he with b | b
        · exact Or.inl (Or.inr ⟨e, b, a⟩)
        · rw [List.mem_singleton] at b; subst b
          exact Or.inr (O5b x a).1
  have hn5 : ∀ x, rin (Value.slice (some ⟨g5, 0, none⟩) (R.length + 1) c5x) (R ++ [(Value.slice ca q.length cc, q)]) x → x ≠ gb := fun x hx e => by
      rcases hin x hx with a | a
      · exact hab2 (e ▸ a)
      · omega
  have E6 : RG (w5.setCell ⟨gb, 0, none⟩ (Value.slice (some ⟨g5, 0, none⟩) (R.length + 1) c5x)) B (Value.slice (some ⟨g5, 0, none⟩) (R.length + 1) c5x) (R ++ [(Value.slice ca q.length cc, q)]) := E5.keep (fun x hx => Below.heap_setCell _ _ _ x (hn5 x hx))
  have hb6 := hb5.set (Value.slice (some ⟨g5, 0, none⟩) (R.length + 1) c5x)
  refine hKc.out _ _ (fun hne _ => absurd rfl hne) ?_
  clear hKc Kc
  try simp only [Act.put]
  refine wpLate_done (by kernel_rfl) ?_ _
  go_wp2_with fail
  go_end0
  refine ⟨rfl, (Value.slice (some ⟨g5, 0, none⟩) (R.length + 1) c5x), _, hb6, E6, fun x hx => by rcases hin x hx with a | a; exact Or.inl a; exact Or.inr (by have := hzW.out; omega), ?_, fun x hx h1 h2 => ?_⟩
  · exact (((hbW.out.trans (B2.mono (Nat.zero_le _))).trans bA0).trans y5).setCell (Nat.zero_le _) _
  · have := hzW.out
    rw [Below.heap_setCell _ _ _ x h1, k5 x (by omega) (fun e => h2 (Or.inl e)), kA x (by omega)]
    exact hkW.out x
end Go.Proofs.Ytomfkdaaimhmkaa
