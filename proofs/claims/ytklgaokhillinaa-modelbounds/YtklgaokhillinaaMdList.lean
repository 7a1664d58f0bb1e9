/- All numbers of a model in one row: how many. Laid by tools/genmdlist.py. -/
import Derived.Test.YtklgaokhillinaaMdTold
import Derived.Test.YtklgaokhillinaaMdWants
namespace Go.Proofs.Ytklgaokhillinaa
open Go.ChangeShapes Go.WideShapes Go.ChangeAt Go.RowKit
/-- append(out, xs...) as one operation, out a row of the call's own, xs another that lies in a block: all other blocks stay. -/
theorem wp_append_fresh {w : World} {o : Oper} {a : Act} {K : Act → World → Prop} {Q : Exit → Act → World → Prop} (s x : Operand)
    (ho : o.op = .call { callee := .builtin .append, args := #[s, x], argTypes := #[24, 24] })
    (B g n cap : Nat) (A : List Int) (hs : a.eval s = .slice (some ⟨g, 0, none⟩) n cap) (hF : Fresh w B g n cap A)
    (gx m c : Nat) (X : List Int) (hx : a.eval x = .slice (some ⟨gx, 0, none⟩) m c) (hX : RowAt w (some ⟨gx, 0, none⟩) m X)
    (hlen : n + m ≤ 1048576) (hB : B ≤ w.heap.size)
    (h : ∀ g' cap' w', Fresh w' B g' (n + m) cap' (A ++ X) → Below B w w' → (∀ k, k < w.heap.size → k ≠ g → w'.heap[k]? = w.heap[k]?) → K (a.put o.dst (.slice (some ⟨g', 0, none⟩) (n + m) cap')) w') : Oper.wp Try.prog o a w K Q := by
  obtain ⟨i0, hi, hz0, hz1, hz2⟩ := info_parts Try.infoNum
  refine wp_append_own w s x 24 ho B 55 i0 (.int .i32 0) 1 4 Try.underlying24 hi hz0 hz1 hz2 rfl (by decide) _ n _ hs hF.owns ⟨gx, 0, none⟩ m c (X.map (Value.int .i32)) hx (by simp [hX.len]) ?_ (ints_oneCell _ _) (by unfold maxLen; omega) (by omega) hB ?_
  · intro j u hj
    have hjm : j < m := by
      have := (List.getElem?_eq_some_iff.1 hj).1
      simpa [hX.len] using this
    obtain ⟨b, o', e, hcell⟩ := hX.cells (by omega)
    simp only [Option.some.injEq] at e
    rw [e]
    have e2 : (Addr.mk b o' none).add j = ⟨b, o' + j, none⟩ := by simp [Addr.add]
    rw [e2, hcell j hjm]
    have hl := hX.len
    rw [List.getElem?_map, List.getElem?_eq_getElem (show j < X.length by omega)] at hj
    simp only [Option.map_some, Option.some.injEq] at hj
    rw [← hj]
    unfold el
    simp [List.getD_eq_getElem?_getD, List.getElem?_eq_getElem (show j < X.length by omega)]
  · intro v' w' hown hg hnil
    have hb : Below B w w' := (Below.refl _ _).grown hg hB (fun k hk => by simp [Value.ownBlock] at hk; subst hk; exact hF.base)
    have so : ∀ k, k < w.heap.size → k ≠ g → w'.heap[k]? = w.heap[k]? := fun k hk hn => hg.block k hk (by simp [Value.ownBlock]; omega)
    obtain ⟨h1, h2⟩ := hown
    rcases h2 with ⟨h3, _⟩ | ⟨g', c', cur, hv, hr⟩
    · have := (hnil.1 h3).1; cases this
    · subst hv
      rw [← List.map_append] at h1 hr
      obtain ⟨g2, e2, F⟩ := fresh_of_owns (w := w') (B := B) (n := n + m) (cap := c') (ao := some ⟨g', 0, none⟩) (A := A ++ X) ⟨h1, Or.inr ⟨g', c', cur, rfl, hr⟩⟩ (hF.small.append hX.small) (by simp)
      simp only [Option.some.injEq, Addr.mk.injEq, and_true] at e2
      subst e2
      exact h g' c' w' F hb so
theorem wpList_append_fresh {w : World} {ops : Array Oper} {rest : List Oper} {o : Oper} {a : Act} {Q : Exit → Act → World → Prop} (hgd : o.guard = none) (s x : Operand)
    (ho : o.op = .call { callee := .builtin .append, args := #[s, x], argTypes := #[24, 24] })
    (B g n cap : Nat) (A : List Int) (hs : a.eval s = .slice (some ⟨g, 0, none⟩) n cap) (hF : Fresh w B g n cap A)
    (gx m c : Nat) (X : List Int) (hx : a.eval x = .slice (some ⟨gx, 0, none⟩) m c) (hX : RowAt w (some ⟨gx, 0, none⟩) m X)
    (hlen : n + m ≤ 1048576) (hB : B ≤ w.heap.size)
    (h : ∀ g' cap' w', Fresh w' B g' (n + m) cap' (A ++ X) → Below B w w' → (∀ k, k < w.heap.size → k ≠ g → w'.heap[k]? = w.heap[k]?) → wpList Try.prog ops Q rest (a.put o.dst (.slice (some ⟨g', 0, none⟩) (n + m) cap')) w') : wpList Try.prog ops Q (o :: rest) a w :=
  wpList_plain hgd fun _ hK => wp_append_fresh s x ho B g n cap A hs hF gx m c X hx hX hlen hB (fun g' cap' w' h1 h2 h3 => hK _ _ (h g' cap' w' h1 h2 h3))
/-- A row of n numbers lies there. -/
def Rw (w : World) (g n : Nat) : Prop := ∃ A, RowAt w (some ⟨g, 0, none⟩) n A
theorem Rw.below {w w' : World} {g n : Nat} (h : Rw w g n) (hb : Below w.heap.size w w') : Rw w' g n := ⟨h.choose, h.choose_spec.below hb⟩
/-- A layer's rows lie there. -/
structure BRw (w : World) (D H : Nat) (x : Bk) : Prop where
  ex : ∃ f q k v o s u d, x = mkB D H f q k v o s u d ∧ Rw w f D ∧ Rw w q (D * D) ∧ Rw w k (D * D) ∧ Rw w v (D * D) ∧ Rw w o (D * D) ∧ Rw w s D ∧ Rw w u (H * D) ∧ Rw w d (D * H)
theorem BRw.below {w w' : World} {D H : Nat} {x : Bk} (h : BRw w D H x) (hb : Below w.heap.size w w') : BRw w' D H x := by
  obtain ⟨f, q, k, v, o, s, u, d, e, h1, h2, h3, h4, h5, h6, h7, h8⟩ := h.ex
  exact ⟨f, q, k, v, o, s, u, d, e, h1.below hb, h2.below hb, h3.below hb, h4.below hb, h5.below hb, h6.below hb, h7.below hb, h8.below hb⟩
/-- How many numbers the first j matrices hold. -/
def preN (D H : Nat) : Nat → Nat
  | 0 => 0
  | 1 => D * D
  | 2 => D * D + D * D
  | 3 => D * D + D * D + D * D
  | 4 => D * D + D * D + D * D + D * D
  | 5 => D * D + D * D + D * D + D * D + H * D
  | _ => D * D + D * D + D * D + D * D + H * D + D * H
set_option maxRecDepth 100000 in
set_option maxHeartbeats 3200000 in
theorem list_any (V D H L ge gl go : Nat) (S : Sl) (bl : List Bk) (w : World) (hv : V ≤ 64) (hd : D ≤ 32) (hh : H ≤ 64) (hL : L ≤ 4) (hb : BlocksAt w S bl) (hS : S.n = L) (r1 : Rw w ge (V * D)) (r2 : Rw w gl D) (r3 : Rw w go (V * D)) (hB : ∀ x, x ∈ bl → BRw w D H x) :
   Calls Try.prog 22 #[.agg (Wt.cells ⟨⟨V, D, rs ge (V * D)⟩, S, rs gl D, ⟨V, D, rs go (V * D)⟩⟩)] w fun e w' => ∃ g cap, e = .returned (.slice (some ⟨g, 0, none⟩) (V * D + D + L * lenB D H + V * D) cap) ∧ Below w.heap.size w w' := by
  obtain ⟨ba, bn, bz⟩ := S
  simp only at hS
  subst hS
  have hlen : Hid (bl.length = bn) := hb.len
  show Calls Try.prog 22 #[.agg #[.int .i64 V, .int .i64 D, .slice (some ⟨ge, 0, none⟩) (V * D) (V * D), .slice ba bn bz, .slice (some ⟨gl, 0, none⟩) D D, .int .i64 V, .int .i64 D, .slice (some ⟨go, 0, none⟩) (V * D) (V * D)]] w _
  obtain ⟨l1, l2, l3, l4⟩ := lenB_le (D := D) (H := H) (by omega) (by omega)
  have vd : V * D ≤ 64 * 32 := Nat.mul_le_mul (by omega) (by omega)
  have HB : Hid (∀ wv, Below w.heap.size w wv → BlocksAt wv ⟨ba, bn, bz⟩ bl) := fun wv h => hb.below h
  have HX : Hid (∀ wv, Below w.heap.size w wv → ∀ x, x ∈ bl → BRw wv D H x) := fun wv h x hx => (hB x hx).below h
  have HR : Hid (∀ wv, Below w.heap.size w wv → Rw wv ge (V * D) ∧ Rw wv gl D ∧ Rw wv go (V * D)) := fun wv h => ⟨r1.below h, r2.below h, r3.below h⟩
  clear hb r1 r2 r3 hB
  have X0 := blk_new w 33 #[.int .i64 V, .int .i64 D, .slice (some ⟨ge, 0, none⟩) (V * D) (V * D), .slice ba bn bz, .slice (some ⟨gl, 0, none⟩) D D, .int .i64 V, .int .i64 D, .slice (some ⟨go, 0, none⟩) (V * D) (V * D)]
  have B0 : Below w.heap.size w (w.alloc (.cells #[.int .i64 V, .int .i64 D, .slice (some ⟨ge, 0, none⟩) (V * D) (V * D), .slice ba bn bz, .slice (some ⟨gl, 0, none⟩) D D, .int .i64 V, .int .i64 D, .slice (some ⟨go, 0, none⟩) (V * D) (V * D)] 33)) := (Below.refl _ _).alloc (Nat.le_refl _) _
  have s0 : (w.alloc (.cells #[.int .i64 V, .int .i64 D, .slice (some ⟨ge, 0, none⟩) (V * D) (V * D), .slice ba bn bz, .slice (some ⟨gl, 0, none⟩) D D, .int .i64 V, .int .i64 D, .slice (some ⟨go, 0, none⟩) (V * D) (V * D)] 33)).heap.size = w.heap.size + 1 := by simp
  generalize hw0 : w.alloc (.cells #[.int .i64 V, .int .i64 D, .slice (some ⟨ge, 0, none⟩) (V * D) (V * D), .slice ba bn bz, .slice (some ⟨gl, 0, none⟩) D D, .int .i64 V, .int .i64 D, .slice (some ⟨go, 0, none⟩) (V * D) (V * D)] 33) = w0 at *
  go_enter Try.func22, Try.ntmps22
  go_wp2_with fail
  clear hw0
  replace X0 := X0.below ((Below.refl _ _).drew)
  replace B0 := B0.drew
  replace s0 : w.heap.size + 1 ≤ w0.drew.heap.size := Nat.le_of_eq s0.symm
  refine wp_region_held_drew (S := fun w' => Blk w' w.heap.size 33 #[.int .i64 V, .int .i64 D, .slice (some ⟨ge, 0, none⟩) (V * D) (V * D), .slice ba bn bz, .slice (some ⟨gl, 0, none⟩) D D, .int .i64 V, .int .i64 D, .slice (some ⟨go, 0, none⟩) (V * D) (V * D)]) (by kernel_rfl) (X0) (fun hHeld => ?_)
  generalize hA : w0.drew = wA at *
  clear hA
  refine wpAnyH_take (i := 1) (v := (.pointer (some ⟨w.heap.size, 0, none⟩))) rfl (by kernel_rfl) (by kernel_rfl) (by kernel_rfl) (fun _ _ _ h => h) (Or.inl ⟨by rfl, ?_⟩) (by assumption) ?_
  · intro w' hSw
    go_simp
  simp only [List.getElem_toArray, List.getElem_cons_succ, List.getElem_cons_zero, Act.put, List.setIfInBounds_toArray, List.set_cons_zero, List.set_cons_succ]
  refine wpAnyH_take (i := 2) (v := (.pointer (some ⟨w.heap.size, 2, none⟩))) rfl (by kernel_rfl) (by kernel_rfl) (by kernel_rfl) (fun _ _ _ h => h) (Or.inl ⟨by rfl, ?_⟩) (by assumption) ?_
  · intro w' hSw
    go_simp
  simp only [List.getElem_toArray, List.getElem_cons_succ, List.getElem_cons_zero, Act.put, List.setIfInBounds_toArray, List.set_cons_zero, List.set_cons_succ]
  refine wpAnyH_take (i := 3) (v := (.slice (some ⟨ge, 0, none⟩) (V * D) (V * D))) rfl (by kernel_rfl) (by kernel_rfl) (by kernel_rfl) (fun _ _ _ h => h) (Or.inl ⟨by rfl, ?_⟩) (by assumption) ?_
  · intro w' hSw
    have cc2 : w'.cell? ⟨w.heap.size, 2, none⟩ = some (.slice (some ⟨ge, 0, none⟩) (V * D) (V * D)) := hSw.cell 2 rfl
    go_simp
  simp only [List.getElem_toArray, List.getElem_cons_succ, List.getElem_cons_zero, Act.put, List.setIfInBounds_toArray, List.set_cons_zero, List.set_cons_succ]
  refine wpAnyH_take (i := 5) (v := (.pointer (some ⟨w.heap.size, 4, none⟩))) rfl (by kernel_rfl) (by kernel_rfl) (by kernel_rfl) (fun _ _ _ h => h) (Or.inl ⟨by rfl, ?_⟩) (by assumption) ?_
  · intro w' hSw
    go_simp
  simp only [List.getElem_toArray, List.getElem_cons_succ, List.getElem_cons_zero, Act.put, List.setIfInBounds_toArray, List.set_cons_zero, List.set_cons_succ]
  refine wpAnyH_take (i := 6) (v := (.slice (some ⟨gl, 0, none⟩) D D)) rfl (by kernel_rfl) (by kernel_rfl) (by kernel_rfl) (fun _ _ _ h => h) (Or.inl ⟨by rfl, ?_⟩) (by assumption) ?_
  · intro w' hSw
    have cc4 : w'.cell? ⟨w.heap.size, 4, none⟩ = some (.slice (some ⟨gl, 0, none⟩) D D) := hSw.cell 4 rfl
    go_simp
  simp only [List.getElem_toArray, List.getElem_cons_succ, List.getElem_cons_zero, Act.put, List.setIfInBounds_toArray, List.set_cons_zero, List.set_cons_succ]
  refine wpAnyH_ready (rs := [0]) (by kernel_rfl) (by simp) ?_
  refine AllReadyH.cons rfl (fun Kc hKc => ?_) AllReadyH.nil
  simp only [List.getElem_toArray, List.getElem_cons_zero]
  rw [if_pos (by rfl)]
  go_wp2_with fail
  have F0 := fresh_empty wA
  have EM : Below wA.heap.size wA (wA.alloc (.cells #[] 55)) := (Below.refl _ _).alloc (Nat.le_refl _) _
  generalize hn : wA.alloc (.cells #[] 55) = wB at *
  have sB := EM.size
  replace X0 := X0.below EM
  replace B0 := below_then B0 EM
  replace F0 := F0.mono (show w.heap.size + 1 ≤ wA.heap.size by omega)
  clear hn EM
  refine hKc.out _ _ X0 (fun hHeld => ?_)
  clear hKc Kc
  obtain ⟨⟨AE, RE⟩, -, -⟩ := HR.out wB B0
  refine wpAnyH_ready (rs := [4]) (by kernel_rfl) (by simp) ?_
  refine AllReadyH.cons rfl (fun Kc hKc => ?_) AllReadyH.nil
  simp only [List.getElem_toArray, List.getElem_cons_succ, List.getElem_cons_zero]
  rw [if_pos (by rfl)]
  refine wp_append_fresh _ _ rfl (w.heap.size + 1) wA.heap.size 0 0 [] rfl F0 ge (V * D) (V * D) AE rfl RE (by omega) (by omega) ?_
  intro g1 c1 wC F1 BC so
  have sC := BC.size
  replace X0 := X0.of_block (BC.block _ (by omega))
  replace B0 := B0.trans (BC.mono (by omega))
  clear so F0 RE BC
  refine hKc.out _ _ X0 (fun hHeld => ?_)
  clear hKc Kc
  obtain ⟨-, ⟨AL, RL⟩, -⟩ := HR.out wC B0
  refine wpAnyH_ready (rs := [7]) (by kernel_rfl) (by simp) ?_
  refine AllReadyH.cons rfl (fun Kc hKc => ?_) AllReadyH.nil
  simp only [List.getElem_toArray, List.getElem_cons_succ, List.getElem_cons_zero]
  rw [if_pos (by rfl)]
  refine wp_append_fresh _ _ rfl (w.heap.size + 1) g1 (0 + V * D) c1 _ rfl F1 gl D D AL rfl RL (by omega) (by omega) ?_
  intro g2 c2 wD F2 BD so
  have sD := BD.size
  replace X0 := X0.of_block (BD.block _ (by omega))
  replace B0 := B0.trans (BD.mono (by omega))
  clear so F1 RL BD
  refine hKc.out _ _ X0 (fun hHeld => ?_)
  clear hKc Kc
  refine wpAnyH_take (i := 8) (v := (.slice (some ⟨g2, 0, none⟩) (0 + V * D + D) c2)) rfl (by kernel_rfl) (by kernel_rfl) (by kernel_rfl) (fun _ _ _ h => h) (Or.inl ⟨by rfl, ?_⟩) (by assumption) ?_
  · intro w' hSw
    go_simp
  simp only [List.getElem_toArray, List.getElem_cons_succ, List.getElem_cons_zero, Act.put, List.setIfInBounds_toArray, List.set_cons_zero, List.set_cons_succ]
  refine wpAnyH_done (by kernel_rfl) ?_ _
  clear hHeld
  have a3 : wD.cell? ⟨w.heap.size, 3, none⟩ = some (.slice ba bn bz) := X0.cell 3 rfl
  go_wp2_with fail
  clear a3
  rw [Nat.zero_add] at *
  generalize hA2 : [] ++ AE ++ AL = A2 at *
  clear hA2
  have sz : w.heap.size + 1 ≤ wD.heap.size := by omega
  clear sB sC sD s0
  go_loopg [3, 19] bn (fun r out i wr => ∃ (t g cap : Nat) (A : List Int), t ≤ bn ∧ r = bn - t ∧ i = .int .i64 t ∧ out = .slice (some ⟨g, 0, none⟩) (V * D + D + t * lenB D H) cap ∧ Fresh wr (w.heap.size + 1) g (V * D + D + t * lenB D H) cap A ∧ Blk wr w.heap.size 33 #[.int .i64 V, .int .i64 D, .slice (some ⟨ge, 0, none⟩) (V * D) (V * D), .slice ba bn bz, .slice (some ⟨gl, 0, none⟩) D D, .int .i64 V, .int .i64 D, .slice (some ⟨go, 0, none⟩) (V * D) (V * D)] ∧ Below w.heap.size w wr ∧ w.heap.size + 1 ≤ wr.heap.size)
  case atStart => exact ⟨0, g2, c2, A2, by omega, by omega, rfl, by rw [Nat.zero_mul, Nat.add_zero], by rw [Nat.zero_mul, Nat.add_zero]; exact F2, X0, B0, sz⟩
  case round =>
    clear X0 B0 F2 sz
    obtain ⟨t, g, cap, A, ht, rfl, rfl, rfl, F1, X0, B0, sz⟩ := hrel
    have hb := HB.out _ B0
    have tl : t * lenB D H ≤ 4 * 8256 := Nat.mul_le_mul (by omega) l1
    by_cases hlt : t < bn
    · obtain ⟨x, hx⟩ : ∃ x, bl[t]? = some x := ⟨_, List.getElem?_eq_getElem (by rw [hlen.out]; exact hlt)⟩
      obtain ⟨gb, o, e0, hc⟩ := hb.cells (by show 0 < bn; omega)
      simp only at e0
      subst e0
      have r0 := hc t x hx
      obtain ⟨xf, xq, xk, xv, xo, xs, xu, xd, rfl, -⟩ := (HX.out _ B0 x (List.mem_of_getElem? hx)).ex
      have HZ : Hid (∀ wv, Below w.heap.size w wv → Rw wv xf D ∧ Rw wv xq (D * D) ∧ Rw wv xk (D * D) ∧ Rw wv xv (D * D) ∧ Rw wv xo (D * D) ∧ Rw wv xs D ∧ Rw wv xu (H * D) ∧ Rw wv xd (D * H)) := fun wv hv => by
        obtain ⟨f, q, k, v, o, s, u, d, e, h1, h2, h3, h4, h5, h6, h7, h8⟩ := (HX.out _ hv _ (List.mem_of_getElem? hx)).ex
        simp only [mkB, rs, Bk.mk.injEq, Mt.mk.injEq, Sl.mk.injEq, Option.some.injEq, Addr.mk.injEq, and_true, true_and] at e
        obtain ⟨rfl, rfl, rfl, rfl, rfl, rfl, rfl, rfl⟩ := e
        exact ⟨h1, h2, h3, h4, h5, h6, h7, h8⟩
      have RG : wr.rangeAt gb (o + t * 20) [.slice (some ⟨xf, 0, none⟩) D D, .int .i64 D, .int .i64 D, .slice (some ⟨xq, 0, none⟩) (D * D) (D * D), .int .i64 D, .int .i64 D, .slice (some ⟨xk, 0, none⟩) (D * D) (D * D), .int .i64 D, .int .i64 D, .slice (some ⟨xv, 0, none⟩) (D * D) (D * D), .int .i64 D, .int .i64 D, .slice (some ⟨xo, 0, none⟩) (D * D) (D * D), .slice (some ⟨xs, 0, none⟩) D D, .int .i64 H, .int .i64 D, .slice (some ⟨xu, 0, none⟩) (H * D) (H * D), .int .i64 D, .int .i64 H, .slice (some ⟨xd, 0, none⟩) (D * H) (D * H)] := r0
      clear r0 hc hb hx
      have XZ := blk_new wr 61 #[.slice none 0 0, .int .i64 0, .int .i64 0, .slice none 0 0, .int .i64 0, .int .i64 0, .slice none 0 0, .int .i64 0, .int .i64 0, .slice none 0 0, .int .i64 0, .int .i64 0, .slice none 0 0, .slice none 0 0, .int .i64 0, .int .i64 0, .slice none 0 0, .int .i64 0, .int .i64 0, .slice none 0 0]
      have BZ : Below wr.heap.size wr (wr.alloc (.cells #[.slice none 0 0, .int .i64 0, .int .i64 0, .slice none 0 0, .int .i64 0, .int .i64 0, .slice none 0 0, .int .i64 0, .int .i64 0, .slice none 0 0, .int .i64 0, .int .i64 0, .slice none 0 0, .slice none 0 0, .int .i64 0, .int .i64 0, .slice none 0 0, .int .i64 0, .int .i64 0, .slice none 0 0] 61)) := (Below.refl _ _).alloc (Nat.le_refl _) _
      generalize hwz : wr.alloc (.cells #[.slice none 0 0, .int .i64 0, .int .i64 0, .slice none 0 0, .int .i64 0, .int .i64 0, .slice none 0 0, .int .i64 0, .int .i64 0, .slice none 0 0, .int .i64 0, .int .i64 0, .slice none 0 0, .slice none 0 0, .int .i64 0, .int .i64 0, .slice none 0 0, .int .i64 0, .int .i64 0, .slice none 0 0] 61) = wz at *
      have one : Array.all (#[.slice (some ⟨xf, 0, none⟩) D D, .int .i64 D, .int .i64 D, .slice (some ⟨xq, 0, none⟩) (D * D) (D * D), .int .i64 D, .int .i64 D, .slice (some ⟨xk, 0, none⟩) (D * D) (D * D), .int .i64 D, .int .i64 D, .slice (some ⟨xv, 0, none⟩) (D * D) (D * D), .int .i64 D, .int .i64 D, .slice (some ⟨xo, 0, none⟩) (D * D) (D * D), .slice (some ⟨xs, 0, none⟩) D D, .int .i64 H, .int .i64 D, .slice (some ⟨xu, 0, none⟩) (H * D) (H * D), .int .i64 D, .int .i64 H, .slice (some ⟨xd, 0, none⟩) (D * H) (D * H)] : Array Value) (fun v => v.oneCell') = true := by simp [Value.oneCell']
      have XR := XZ.row #[.slice (some ⟨xf, 0, none⟩) D D, .int .i64 D, .int .i64 D, .slice (some ⟨xq, 0, none⟩) (D * D) (D * D), .int .i64 D, .int .i64 D, .slice (some ⟨xk, 0, none⟩) (D * D) (D * D), .int .i64 D, .int .i64 D, .slice (some ⟨xv, 0, none⟩) (D * D) (D * D), .int .i64 D, .int .i64 D, .slice (some ⟨xo, 0, none⟩) (D * D) (D * D), .slice (some ⟨xs, 0, none⟩) D D, .int .i64 H, .int .i64 D, .slice (some ⟨xu, 0, none⟩) (H * D) (H * D), .int .i64 D, .int .i64 H, .slice (some ⟨xd, 0, none⟩) (D * H) (D * H)]
      have BR := below_setRow BZ (Nat.le_refl _) #[.slice (some ⟨xf, 0, none⟩) D D, .int .i64 D, .int .i64 D, .slice (some ⟨xq, 0, none⟩) (D * D) (D * D), .int .i64 D, .int .i64 D, .slice (some ⟨xk, 0, none⟩) (D * D) (D * D), .int .i64 D, .int .i64 D, .slice (some ⟨xv, 0, none⟩) (D * D) (D * D), .int .i64 D, .int .i64 D, .slice (some ⟨xo, 0, none⟩) (D * D) (D * D), .slice (some ⟨xs, 0, none⟩) D D, .int .i64 H, .int .i64 D, .slice (some ⟨xu, 0, none⟩) (H * D) (H * D), .int .i64 D, .int .i64 H, .slice (some ⟨xd, 0, none⟩) (D * H) (D * H)]
      generalize hwy : wz.setRow wr.heap.size #[.slice (some ⟨xf, 0, none⟩) D D, .int .i64 D, .int .i64 D, .slice (some ⟨xq, 0, none⟩) (D * D) (D * D), .int .i64 D, .int .i64 D, .slice (some ⟨xk, 0, none⟩) (D * D) (D * D), .int .i64 D, .int .i64 D, .slice (some ⟨xv, 0, none⟩) (D * D) (D * D), .int .i64 D, .int .i64 D, .slice (some ⟨xo, 0, none⟩) (D * D) (D * D), .slice (some ⟨xs, 0, none⟩) D D, .int .i64 H, .int .i64 D, .slice (some ⟨xu, 0, none⟩) (H * D) (H * D), .int .i64 D, .int .i64 H, .slice (some ⟨xd, 0, none⟩) (D * H) (D * H)] = wy at *
      go_wp2_with (first | (refine wpList_load_mid rfl 61 _ rfl gb (o + t * 20) rfl [.slice (some ⟨xf, 0, none⟩) D D, .int .i64 D, .int .i64 D, .slice (some ⟨xq, 0, none⟩) (D * D) (D * D), .int .i64 D, .int .i64 D, .slice (some ⟨xk, 0, none⟩) (D * D) (D * D), .int .i64 D, .int .i64 D, .slice (some ⟨xv, 0, none⟩) (D * D) (D * D), .int .i64 D, .int .i64 D, .slice (some ⟨xo, 0, none⟩) (D * D) (D * D), .slice (some ⟨xs, 0, none⟩) D D, .int .i64 H, .int .i64 D, .slice (some ⟨xu, 0, none⟩) (H * D) (H * D), .int .i64 D, .int .i64 H, .slice (some ⟨xd, 0, none⟩) (D * H) (D * H)] _ RG Try.underlying61 rfl Try.infoRB1 ?_) | (refine wpList_store_row rfl 61 _ _ rfl wr.heap.size #[.slice (some ⟨xf, 0, none⟩) D D, .int .i64 D, .int .i64 D, .slice (some ⟨xq, 0, none⟩) (D * D) (D * D), .int .i64 D, .int .i64 D, .slice (some ⟨xk, 0, none⟩) (D * D) (D * D), .int .i64 D, .int .i64 D, .slice (some ⟨xv, 0, none⟩) (D * D) (D * D), .int .i64 D, .int .i64 D, .slice (some ⟨xo, 0, none⟩) (D * D) (D * D), .slice (some ⟨xs, 0, none⟩) D D, .int .i64 H, .int .i64 D, .slice (some ⟨xu, 0, none⟩) (H * D) (H * D), .int .i64 D, .int .i64 H, .slice (some ⟨xd, 0, none⟩) (D * H) (D * H)] rfl rfl 61 _ XZ Try.infoRB1 rfl one ?_; rw [hwy]))
      clear XZ BZ hwz hwy RG one
      replace BR := BR.drew
      replace XR : Blk wy.drew wr.heap.size _ _ := XR
      replace X0 := X0.below BR
      replace B0 := below_then B0 BR
      replace F1 := F1.below BR
      replace sz := Nat.le_trans sz BR.size
      clear BR
      refine wp_region_held_drew (S := fun w' => Blk w' wr.heap.size 61 #[.slice (some ⟨xf, 0, none⟩) D D, .int .i64 D, .int .i64 D, .slice (some ⟨xq, 0, none⟩) (D * D) (D * D), .int .i64 D, .int .i64 D, .slice (some ⟨xk, 0, none⟩) (D * D) (D * D), .int .i64 D, .int .i64 D, .slice (some ⟨xv, 0, none⟩) (D * D) (D * D), .int .i64 D, .int .i64 D, .slice (some ⟨xo, 0, none⟩) (D * D) (D * D), .slice (some ⟨xs, 0, none⟩) D D, .int .i64 H, .int .i64 D, .slice (some ⟨xu, 0, none⟩) (H * D) (H * D), .int .i64 D, .int .i64 H, .slice (some ⟨xd, 0, none⟩) (D * H) (D * H)]) (by kernel_rfl) (XR) (fun hHeld => ?_)
      generalize hA : wy.drew = wA at *
      clear hA
      refine wpAnyH_take (i := 0) (v := (.slice (some ⟨g, 0, none⟩) (V * D + D + t * lenB D H) cap)) rfl (by kernel_rfl) (by kernel_rfl) (by kernel_rfl) (fun _ _ _ h => h) (Or.inl ⟨by rfl, ?_⟩) (by assumption) ?_
      · intro w' hSw
        go_simp
      simp only [List.getElem_toArray, List.getElem_cons_zero, Act.put, List.setIfInBounds_toArray, List.set_cons_zero, List.set_cons_succ]
      refine wpAnyH_take (i := 1) (v := (.pointer (some ⟨wr.heap.size, 0, none⟩))) rfl (by kernel_rfl) (by kernel_rfl) (by kernel_rfl) (fun _ _ _ h => h) (Or.inl ⟨by rfl, ?_⟩) (by assumption) ?_
      · intro w' hSw
        go_simp
      simp only [List.getElem_toArray, List.getElem_cons_succ, List.getElem_cons_zero, Act.put, List.setIfInBounds_toArray, List.set_cons_zero, List.set_cons_succ]
      refine wpAnyH_take (i := 2) (v := (.slice (some ⟨xf, 0, none⟩) D D)) rfl (by kernel_rfl) (by kernel_rfl) (by kernel_rfl) (fun _ _ _ h => h) (Or.inl ⟨by rfl, ?_⟩) (by assumption) ?_
      · intro w' hSw
        have cc0 : w'.cell? ⟨wr.heap.size, 0, none⟩ = some (.slice (some ⟨xf, 0, none⟩) D D) := hSw.cell 0 rfl
        go_simp
      simp only [List.getElem_toArray, List.getElem_cons_succ, List.getElem_cons_zero, Act.put, List.setIfInBounds_toArray, List.set_cons_zero, List.set_cons_succ]
      refine wpAnyH_take (i := 4) (v := (.pointer (some ⟨wr.heap.size, 13, none⟩))) rfl (by kernel_rfl) (by kernel_rfl) (by kernel_rfl) (fun _ _ _ h => h) (Or.inl ⟨by rfl, ?_⟩) (by assumption) ?_
      · intro w' hSw
        go_simp
      simp only [List.getElem_toArray, List.getElem_cons_succ, List.getElem_cons_zero, Act.put, List.setIfInBounds_toArray, List.set_cons_zero, List.set_cons_succ]
      refine wpAnyH_take (i := 5) (v := (.slice (some ⟨xs, 0, none⟩) D D)) rfl (by kernel_rfl) (by kernel_rfl) (by kernel_rfl) (fun _ _ _ h => h) (Or.inl ⟨by rfl, ?_⟩) (by assumption) ?_
      · intro w' hSw
        have cc13 : w'.cell? ⟨wr.heap.size, 13, none⟩ = some (.slice (some ⟨xs, 0, none⟩) D D) := hSw.cell 13 rfl
        go_simp
      simp only [List.getElem_toArray, List.getElem_cons_succ, List.getElem_cons_zero, Act.put, List.setIfInBounds_toArray, List.set_cons_zero, List.set_cons_succ]
      obtain ⟨⟨Af, Rf⟩, -⟩ := HZ.out wA B0
      refine wpAnyH_ready (rs := [3]) (by kernel_rfl) (by simp) ?_
      refine AllReadyH.cons rfl (fun Kc hKc => ?_) AllReadyH.nil
      simp only [List.getElem_toArray, List.getElem_cons_succ, List.getElem_cons_zero]
      rw [if_pos (by rfl)]
      refine wp_append_fresh _ _ rfl (w.heap.size + 1) g (V * D + D + t * lenB D H) cap _ rfl F1 xf D D Af rfl Rf (by omega) (by omega) ?_
      intro g3 c3 wB F3 BC so
      replace XR := XR.of_block (so _ XR.lt (F1.ne XR (by decide)).symm)
      replace X0 := X0.of_block (BC.block _ (by omega))
      replace B0 := B0.trans (BC.mono (by omega))
      replace sz := Nat.le_trans sz BC.size
      clear so F1 Rf BC
      refine hKc.out _ _ XR (fun hHeld => ?_)
      clear hKc Kc
      obtain ⟨-, -, -, -, -, ⟨As, Rs⟩, -⟩ := HZ.out wB B0
      refine wpAnyH_ready (rs := [6]) (by kernel_rfl) (by simp) ?_
      refine AllReadyH.cons rfl (fun Kc hKc => ?_) AllReadyH.nil
      simp only [List.getElem_toArray, List.getElem_cons_succ, List.getElem_cons_zero]
      rw [if_pos (by rfl)]
      refine wp_append_fresh _ _ rfl (w.heap.size + 1) g3 ((V * D + D + t * lenB D H) + D) c3 _ rfl F3 xs D D As rfl Rs (by omega) (by omega) ?_
      intro g4 c4 wC F4 BC so
      replace XR := XR.of_block (so _ XR.lt (F3.ne XR (by decide)).symm)
      replace X0 := X0.of_block (BC.block _ (by omega))
      replace B0 := B0.trans (BC.mono (by omega))
      replace sz := Nat.le_trans sz BC.size
      clear so F3 Rs BC
      refine hKc.out _ _ XR (fun hHeld => ?_)
      clear hKc Kc
      refine wpAnyH_take (i := 7) (v := (.slice (some ⟨g4, 0, none⟩) ((V * D + D + t * lenB D H) + D + D) c4)) rfl (by kernel_rfl) (by kernel_rfl) (by kernel_rfl) (fun _ _ _ h => h) (Or.inl ⟨by rfl, ?_⟩) (by assumption) ?_
      · intro w' hSw
        go_simp
      simp only [List.getElem_toArray, List.getElem_cons_succ, List.getElem_cons_zero, Act.put, List.setIfInBounds_toArray, List.set_cons_zero, List.set_cons_succ]
      refine wpAnyH_done (by kernel_rfl) ?_ _
      clear hHeld
      have b1 : wC.cell? ⟨wr.heap.size, 1, none⟩ = some (.int .i64 D) := XR.cell 1 rfl
      have b2 : wC.cell? ⟨wr.heap.size, 2, none⟩ = some (.int .i64 D) := XR.cell 2 rfl
      have b3 : wC.cell? ⟨wr.heap.size, 3, none⟩ = some (.slice (some ⟨xq, 0, none⟩) (D * D) (D * D)) := XR.cell 3 rfl
      have b4 : wC.cell? ⟨wr.heap.size, 4, none⟩ = some (.int .i64 D) := XR.cell 4 rfl
      have b5 : wC.cell? ⟨wr.heap.size, 5, none⟩ = some (.int .i64 D) := XR.cell 5 rfl
      have b6 : wC.cell? ⟨wr.heap.size, 6, none⟩ = some (.slice (some ⟨xk, 0, none⟩) (D * D) (D * D)) := XR.cell 6 rfl
      have b7 : wC.cell? ⟨wr.heap.size, 7, none⟩ = some (.int .i64 D) := XR.cell 7 rfl
      have b8 : wC.cell? ⟨wr.heap.size, 8, none⟩ = some (.int .i64 D) := XR.cell 8 rfl
      have b9 : wC.cell? ⟨wr.heap.size, 9, none⟩ = some (.slice (some ⟨xv, 0, none⟩) (D * D) (D * D)) := XR.cell 9 rfl
      have b10 : wC.cell? ⟨wr.heap.size, 10, none⟩ = some (.int .i64 D) := XR.cell 10 rfl
      have b11 : wC.cell? ⟨wr.heap.size, 11, none⟩ = some (.int .i64 D) := XR.cell 11 rfl
      have b12 : wC.cell? ⟨wr.heap.size, 12, none⟩ = some (.slice (some ⟨xo, 0, none⟩) (D * D) (D * D)) := XR.cell 12 rfl
      have b14 : wC.cell? ⟨wr.heap.size, 14, none⟩ = some (.int .i64 H) := XR.cell 14 rfl
      have b15 : wC.cell? ⟨wr.heap.size, 15, none⟩ = some (.int .i64 D) := XR.cell 15 rfl
      have b16 : wC.cell? ⟨wr.heap.size, 16, none⟩ = some (.slice (some ⟨xu, 0, none⟩) (H * D) (H * D)) := XR.cell 16 rfl
      have b17 : wC.cell? ⟨wr.heap.size, 17, none⟩ = some (.int .i64 D) := XR.cell 17 rfl
      have b18 : wC.cell? ⟨wr.heap.size, 18, none⟩ = some (.int .i64 H) := XR.cell 18 rfl
      have b19 : wC.cell? ⟨wr.heap.size, 19, none⟩ = some (.slice (some ⟨xd, 0, none⟩) (D * H) (D * H)) := XR.cell 19 rfl
      have XM := blk_new wC 26 #[.int .i64 D, .int .i64 D, .slice (some ⟨xq, 0, none⟩) (D * D) (D * D), .int .i64 D, .int .i64 D, .slice (some ⟨xk, 0, none⟩) (D * D) (D * D), .int .i64 D, .int .i64 D, .slice (some ⟨xv, 0, none⟩) (D * D) (D * D), .int .i64 D, .int .i64 D, .slice (some ⟨xo, 0, none⟩) (D * D) (D * D), .int .i64 H, .int .i64 D, .slice (some ⟨xu, 0, none⟩) (H * D) (H * D), .int .i64 D, .int .i64 H, .slice (some ⟨xd, 0, none⟩) (D * H) (D * H)]
      have BM : Below wC.heap.size wC (wC.alloc (.cells #[.int .i64 D, .int .i64 D, .slice (some ⟨xq, 0, none⟩) (D * D) (D * D), .int .i64 D, .int .i64 D, .slice (some ⟨xk, 0, none⟩) (D * D) (D * D), .int .i64 D, .int .i64 D, .slice (some ⟨xv, 0, none⟩) (D * D) (D * D), .int .i64 D, .int .i64 D, .slice (some ⟨xo, 0, none⟩) (D * D) (D * D), .int .i64 H, .int .i64 D, .slice (some ⟨xu, 0, none⟩) (H * D) (H * D), .int .i64 D, .int .i64 H, .slice (some ⟨xd, 0, none⟩) (D * H) (D * H)] 26)) := (Below.refl _ _).alloc (Nat.le_refl _) _
      generalize hwm : wC.alloc (.cells #[.int .i64 D, .int .i64 D, .slice (some ⟨xq, 0, none⟩) (D * D) (D * D), .int .i64 D, .int .i64 D, .slice (some ⟨xk, 0, none⟩) (D * D) (D * D), .int .i64 D, .int .i64 D, .slice (some ⟨xv, 0, none⟩) (D * D) (D * D), .int .i64 D, .int .i64 D, .slice (some ⟨xo, 0, none⟩) (D * D) (D * D), .int .i64 H, .int .i64 D, .slice (some ⟨xu, 0, none⟩) (H * D) (H * D), .int .i64 D, .int .i64 H, .slice (some ⟨xd, 0, none⟩) (D * H) (D * H)] 26) = wm at *
      replace X0 := X0.below BM
      replace B0 := below_then B0 BM
      replace F4 := F4.below BM
      replace sz := Nat.le_trans sz BM.size
      go_wp2_with fail
      clear b1 b2 b3 b4 b5 b6 b7 b8 b9 b10 b11 b12 b14 b15 b16 b17 b18 b19 hwm BM XR
      generalize wC.heap.size = gm at *
      have e0 : (V * D + D + t * lenB D H) + D + D = (V * D + D + t * lenB D H) + D + D + preN D H 0 := rfl
      rw [e0] at F4 ⊢
      clear e0
      obtain ⟨n1, hn1⟩ : ∃ n1, n1 = (V * D + D + t * lenB D H) + D + D := ⟨_, rfl⟩
      have nb : n1 ≤ 36000 := by omega
      have HN : Hid (n1 = _) := hn1
      rw [← hn1] at F4 ⊢
      clear hn1
      go_loopg [3, 44] 6 (fun r out i wq => ∃ (j g cap : Nat) (A : List Int), j ≤ 6 ∧ r = 6 - j ∧ i = .int .i64 j ∧ out = .slice (some ⟨g, 0, none⟩) (n1 + preN D H j) cap ∧ Fresh wq (w.heap.size + 1) g (n1 + preN D H j) cap A ∧ Blk wq gm 26 #[.int .i64 D, .int .i64 D, .slice (some ⟨xq, 0, none⟩) (D * D) (D * D), .int .i64 D, .int .i64 D, .slice (some ⟨xk, 0, none⟩) (D * D) (D * D), .int .i64 D, .int .i64 D, .slice (some ⟨xv, 0, none⟩) (D * D) (D * D), .int .i64 D, .int .i64 D, .slice (some ⟨xo, 0, none⟩) (D * D) (D * D), .int .i64 H, .int .i64 D, .slice (some ⟨xu, 0, none⟩) (H * D) (H * D), .int .i64 D, .int .i64 H, .slice (some ⟨xd, 0, none⟩) (D * H) (D * H)] ∧ Blk wq w.heap.size 33 #[.int .i64 V, .int .i64 D, .slice (some ⟨ge, 0, none⟩) (V * D) (V * D), .slice (some ⟨gb, o, none⟩) bn bz, .slice (some ⟨gl, 0, none⟩) D D, .int .i64 V, .int .i64 D, .slice (some ⟨go, 0, none⟩) (V * D) (V * D)] ∧ Below w.heap.size w wq ∧ w.heap.size + 1 ≤ wq.heap.size)
      case atStart => exact ⟨0, g4, c4, _, by omega, by omega, rfl, rfl, F4, XM, X0, B0, sz⟩
      case round =>
        clear F4 XM X0 B0 sz
        obtain ⟨j, g5, c5, A5, hj, rfl, rfl, rfl, F5, XM, X0, B0, sz⟩ := hrel
        by_cases hj6 : j < 6
        · have hjc : j = 0 ∨ j = 1 ∨ j = 2 ∨ j = 3 ∨ j = 4 ∨ j = 5 := by omega
          clear hj6 hj
          rcases hjc with rfl | rfl | rfl | rfl | rfl | rfl
          · have RG : wr.rangeAt gm 0 [.int .i64 D, .int .i64 D, .slice (some ⟨xq, 0, none⟩) (D * D) (D * D)] := fun i u hi => XM.cell (0 + i) (by match i, hi with | 0, h => exact h | 1, h => exact h | 2, h => exact h)
            have YZ := blk_new wr 26 #[.int .i64 0, .int .i64 0, .slice none 0 0]
            have BY : Below wr.heap.size wr (wr.alloc (.cells #[.int .i64 0, .int .i64 0, .slice none 0 0] 26)) := (Below.refl _ _).alloc (Nat.le_refl _) _
            generalize hwz : wr.alloc (.cells #[.int .i64 0, .int .i64 0, .slice none 0 0] 26) = wz at *
            have one : Array.all (#[.int .i64 D, .int .i64 D, .slice (some ⟨xq, 0, none⟩) (D * D) (D * D)] : Array Value) (fun v => v.oneCell') = true := by simp [Value.oneCell']
            have YR := YZ.row #[.int .i64 D, .int .i64 D, .slice (some ⟨xq, 0, none⟩) (D * D) (D * D)]
            have BR := below_setRow BY (Nat.le_refl _) #[.int .i64 D, .int .i64 D, .slice (some ⟨xq, 0, none⟩) (D * D) (D * D)]
            generalize hwy : wz.setRow wr.heap.size #[.int .i64 D, .int .i64 D, .slice (some ⟨xq, 0, none⟩) (D * D) (D * D)] = wy at *
            have y2 : wy.cell? ⟨wr.heap.size, 2, none⟩ = some (.slice (some ⟨xq, 0, none⟩) (D * D) (D * D)) := YR.cell 2 rfl
            replace XM := XM.below BR
            replace X0 := X0.below BR
            replace B0 := below_then B0 BR
            replace F5 := F5.below BR
            replace sz := Nat.le_trans sz BR.size
            obtain ⟨-, ⟨AX, RX⟩, -⟩ := HZ.out wy B0
            have pj : n1 + preN D H 0 + (D * D) = n1 + preN D H 1 := by simp only [preN]; omega
            have pk : n1 + preN D H 0 + (D * D) ≤ 1048576 := by simp only [preN]; omega
            clear HN
            go_wp2_with (first | (refine wpList_load_mid rfl 26 _ rfl gm 0 rfl [.int .i64 D, .int .i64 D, .slice (some ⟨xq, 0, none⟩) (D * D) (D * D)] _ RG Try.underlying26 rfl (by kernel_rfl) ?_) | (refine wpList_store_row rfl 26 _ _ rfl wr.heap.size #[.int .i64 D, .int .i64 D, .slice (some ⟨xq, 0, none⟩) (D * D) (D * D)] rfl rfl 26 _ YZ (by kernel_rfl) rfl one ?_; rw [hwy]) | (at_builtin; refine wpList_append_fresh rfl _ _ rfl (w.heap.size + 1) g5 (n1 + preN D H 0) c5 _ rfl F5 xq (D * D) (D * D) AX rfl RX pk (by omega) ?_; intro g6 c6 w6 F6 B6 so; rw [pj] at F6 ⊢))
            go_roundg (6 - (0 + 1))
            case measure => omega
            case rel => exact ⟨0 + 1, g6, c6, _, by omega, rfl, by go_num, rfl, F6, XM.of_block (so _ XM.lt (F5.ne XM (by decide)).symm), X0.of_block (B6.block _ (by omega)), B0.trans (B6.mono (by omega)), Nat.le_trans sz B6.size⟩
          · have RG : wr.rangeAt gm 3 [.int .i64 D, .int .i64 D, .slice (some ⟨xk, 0, none⟩) (D * D) (D * D)] := fun i u hi => XM.cell (3 + i) (by match i, hi with | 0, h => exact h | 1, h => exact h | 2, h => exact h)
            have YZ := blk_new wr 26 #[.int .i64 0, .int .i64 0, .slice none 0 0]
            have BY : Below wr.heap.size wr (wr.alloc (.cells #[.int .i64 0, .int .i64 0, .slice none 0 0] 26)) := (Below.refl _ _).alloc (Nat.le_refl _) _
            generalize hwz : wr.alloc (.cells #[.int .i64 0, .int .i64 0, .slice none 0 0] 26) = wz at *
            have one : Array.all (#[.int .i64 D, .int .i64 D, .slice (some ⟨xk, 0, none⟩) (D * D) (D * D)] : Array Value) (fun v => v.oneCell') = true := by simp [Value.oneCell']
            have YR := YZ.row #[.int .i64 D, .int .i64 D, .slice (some ⟨xk, 0, none⟩) (D * D) (D * D)]
            have BR := below_setRow BY (Nat.le_refl _) #[.int .i64 D, .int .i64 D, .slice (some ⟨xk, 0, none⟩) (D * D) (D * D)]
            generalize hwy : wz.setRow wr.heap.size #[.int .i64 D, .int .i64 D, .slice (some ⟨xk, 0, none⟩) (D * D) (D * D)] = wy at *
            have y2 : wy.cell? ⟨wr.heap.size, 2, none⟩ = some (.slice (some ⟨xk, 0, none⟩) (D * D) (D * D)) := YR.cell 2 rfl
            replace XM := XM.below BR
            replace X0 := X0.below BR
            replace B0 := below_then B0 BR
            replace F5 := F5.below BR
            replace sz := Nat.le_trans sz BR.size
            obtain ⟨-, -, ⟨AX, RX⟩, -⟩ := HZ.out wy B0
            have pj : n1 + preN D H 1 + (D * D) = n1 + preN D H 2 := by simp only [preN]; omega
            have pk : n1 + preN D H 1 + (D * D) ≤ 1048576 := by simp only [preN]; omega
            clear HN
            go_wp2_with (first | (refine wpList_load_mid rfl 26 _ rfl gm 3 rfl [.int .i64 D, .int .i64 D, .slice (some ⟨xk, 0, none⟩) (D * D) (D * D)] _ RG Try.underlying26 rfl (by kernel_rfl) ?_) | (refine wpList_store_row rfl 26 _ _ rfl wr.heap.size #[.int .i64 D, .int .i64 D, .slice (some ⟨xk, 0, none⟩) (D * D) (D * D)] rfl rfl 26 _ YZ (by kernel_rfl) rfl one ?_; rw [hwy]) | (at_builtin; refine wpList_append_fresh rfl _ _ rfl (w.heap.size + 1) g5 (n1 + preN D H 1) c5 _ rfl F5 xk (D * D) (D * D) AX rfl RX pk (by omega) ?_; intro g6 c6 w6 F6 B6 so; rw [pj] at F6 ⊢))
            go_roundg (6 - (1 + 1))
            case measure => omega
            case rel => exact ⟨1 + 1, g6, c6, _, by omega, rfl, by go_num, rfl, F6, XM.of_block (so _ XM.lt (F5.ne XM (by decide)).symm), X0.of_block (B6.block _ (by omega)), B0.trans (B6.mono (by omega)), Nat.le_trans sz B6.size⟩
          · have RG : wr.rangeAt gm 6 [.int .i64 D, .int .i64 D, .slice (some ⟨xv, 0, none⟩) (D * D) (D * D)] := fun i u hi => XM.cell (6 + i) (by match i, hi with | 0, h => exact h | 1, h => exact h | 2, h => exact h)
            have YZ := blk_new wr 26 #[.int .i64 0, .int .i64 0, .slice none 0 0]
            have BY : Below wr.heap.size wr (wr.alloc (.cells #[.int .i64 0, .int .i64 0, .slice none 0 0] 26)) := (Below.refl _ _).alloc (Nat.le_refl _) _
            generalize hwz : wr.alloc (.cells #[.int .i64 0, .int .i64 0, .slice none 0 0] 26) = wz at *
            have one : Array.all (#[.int .i64 D, .int .i64 D, .slice (some ⟨xv, 0, none⟩) (D * D) (D * D)] : Array Value) (fun v => v.oneCell') = true := by simp [Value.oneCell']
            have YR := YZ.row #[.int .i64 D, .int .i64 D, .slice (some ⟨xv, 0, none⟩) (D * D) (D * D)]
            have BR := below_setRow BY (Nat.le_refl _) #[.int .i64 D, .int .i64 D, .slice (some ⟨xv, 0, none⟩) (D * D) (D * D)]
            generalize hwy : wz.setRow wr.heap.size #[.int .i64 D, .int .i64 D, .slice (some ⟨xv, 0, none⟩) (D * D) (D * D)] = wy at *
            have y2 : wy.cell? ⟨wr.heap.size, 2, none⟩ = some (.slice (some ⟨xv, 0, none⟩) (D * D) (D * D)) := YR.cell 2 rfl
            replace XM := XM.below BR
            replace X0 := X0.below BR
            replace B0 := below_then B0 BR
            replace F5 := F5.below BR
            replace sz := Nat.le_trans sz BR.size
            obtain ⟨-, -, -, ⟨AX, RX⟩, -⟩ := HZ.out wy B0
            have pj : n1 + preN D H 2 + (D * D) = n1 + preN D H 3 := by simp only [preN]; omega
            have pk : n1 + preN D H 2 + (D * D) ≤ 1048576 := by simp only [preN]; omega
            clear HN
            go_wp2_with (first | (refine wpList_load_mid rfl 26 _ rfl gm 6 rfl [.int .i64 D, .int .i64 D, .slice (some ⟨xv, 0, none⟩) (D * D) (D * D)] _ RG Try.underlying26 rfl (by kernel_rfl) ?_) | (refine wpList_store_row rfl 26 _ _ rfl wr.heap.size #[.int .i64 D, .int .i64 D, .slice (some ⟨xv, 0, none⟩) (D * D) (D * D)] rfl rfl 26 _ YZ (by kernel_rfl) rfl one ?_; rw [hwy]) | (at_builtin; refine wpList_append_fresh rfl _ _ rfl (w.heap.size + 1) g5 (n1 + preN D H 2) c5 _ rfl F5 xv (D * D) (D * D) AX rfl RX pk (by omega) ?_; intro g6 c6 w6 F6 B6 so; rw [pj] at F6 ⊢))
            go_roundg (6 - (2 + 1))
            case measure => omega
            case rel => exact ⟨2 + 1, g6, c6, _, by omega, rfl, by go_num, rfl, F6, XM.of_block (so _ XM.lt (F5.ne XM (by decide)).symm), X0.of_block (B6.block _ (by omega)), B0.trans (B6.mono (by omega)), Nat.le_trans sz B6.size⟩
          · have RG : wr.rangeAt gm 9 [.int .i64 D, .int .i64 D, .slice (some ⟨xo, 0, none⟩) (D * D) (D * D)] := fun i u hi => XM.cell (9 + i) (by match i, hi with | 0, h => exact h | 1, h => exact h | 2, h => exact h)
            have YZ := blk_new wr 26 #[.int .i64 0, .int .i64 0, .slice none 0 0]
            have BY : Below wr.heap.size wr (wr.alloc (.cells #[.int .i64 0, .int .i64 0, .slice none 0 0] 26)) := (Below.refl _ _).alloc (Nat.le_refl _) _
            generalize hwz : wr.alloc (.cells #[.int .i64 0, .int .i64 0, .slice none 0 0] 26) = wz at *
            have one : Array.all (#[.int .i64 D, .int .i64 D, .slice (some ⟨xo, 0, none⟩) (D * D) (D * D)] : Array Value) (fun v => v.oneCell') = true := by simp [Value.oneCell']
            have YR := YZ.row #[.int .i64 D, .int .i64 D, .slice (some ⟨xo, 0, none⟩) (D * D) (D * D)]
            have BR := below_setRow BY (Nat.le_refl _) #[.int .i64 D, .int .i64 D, .slice (some ⟨xo, 0, none⟩) (D * D) (D * D)]
            generalize hwy : wz.setRow wr.heap.size #[.int .i64 D, .int .i64 D, .slice (some ⟨xo, 0, none⟩) (D * D) (D * D)] = wy at *
            have y2 : wy.cell? ⟨wr.heap.size, 2, none⟩ = some (.slice (some ⟨xo, 0, none⟩) (D * D) (D * D)) := YR.cell 2 rfl
            replace XM := XM.below BR
            replace X0 := X0.below BR
            replace B0 := below_then B0 BR
            replace F5 := F5.below BR
            replace sz := Nat.le_trans sz BR.size
            obtain ⟨-, -, -, -, ⟨AX, RX⟩, -⟩ := HZ.out wy B0
            have pj : n1 + preN D H 3 + (D * D) = n1 + preN D H 4 := by simp only [preN]; omega
            have pk : n1 + preN D H 3 + (D * D) ≤ 1048576 := by simp only [preN]; omega
            clear HN
            go_wp2_with (first | (refine wpList_load_mid rfl 26 _ rfl gm 9 rfl [.int .i64 D, .int .i64 D, .slice (some ⟨xo, 0, none⟩) (D * D) (D * D)] _ RG Try.underlying26 rfl (by kernel_rfl) ?_) | (refine wpList_store_row rfl 26 _ _ rfl wr.heap.size #[.int .i64 D, .int .i64 D, .slice (some ⟨xo, 0, none⟩) (D * D) (D * D)] rfl rfl 26 _ YZ (by kernel_rfl) rfl one ?_; rw [hwy]) | (at_builtin; refine wpList_append_fresh rfl _ _ rfl (w.heap.size + 1) g5 (n1 + preN D H 3) c5 _ rfl F5 xo (D * D) (D * D) AX rfl RX pk (by omega) ?_; intro g6 c6 w6 F6 B6 so; rw [pj] at F6 ⊢))
            go_roundg (6 - (3 + 1))
            case measure => omega
            case rel => exact ⟨3 + 1, g6, c6, _, by omega, rfl, by go_num, rfl, F6, XM.of_block (so _ XM.lt (F5.ne XM (by decide)).symm), X0.of_block (B6.block _ (by omega)), B0.trans (B6.mono (by omega)), Nat.le_trans sz B6.size⟩
          · have RG : wr.rangeAt gm 12 [.int .i64 H, .int .i64 D, .slice (some ⟨xu, 0, none⟩) (H * D) (H * D)] := fun i u hi => XM.cell (12 + i) (by match i, hi with | 0, h => exact h | 1, h => exact h | 2, h => exact h)
            have YZ := blk_new wr 26 #[.int .i64 0, .int .i64 0, .slice none 0 0]
            have BY : Below wr.heap.size wr (wr.alloc (.cells #[.int .i64 0, .int .i64 0, .slice none 0 0] 26)) := (Below.refl _ _).alloc (Nat.le_refl _) _
            generalize hwz : wr.alloc (.cells #[.int .i64 0, .int .i64 0, .slice none 0 0] 26) = wz at *
            have one : Array.all (#[.int .i64 H, .int .i64 D, .slice (some ⟨xu, 0, none⟩) (H * D) (H * D)] : Array Value) (fun v => v.oneCell') = true := by simp [Value.oneCell']
            have YR := YZ.row #[.int .i64 H, .int .i64 D, .slice (some ⟨xu, 0, none⟩) (H * D) (H * D)]
            have BR := below_setRow BY (Nat.le_refl _) #[.int .i64 H, .int .i64 D, .slice (some ⟨xu, 0, none⟩) (H * D) (H * D)]
            generalize hwy : wz.setRow wr.heap.size #[.int .i64 H, .int .i64 D, .slice (some ⟨xu, 0, none⟩) (H * D) (H * D)] = wy at *
            have y2 : wy.cell? ⟨wr.heap.size, 2, none⟩ = some (.slice (some ⟨xu, 0, none⟩) (H * D) (H * D)) := YR.cell 2 rfl
            replace XM := XM.below BR
            replace X0 := X0.below BR
            replace B0 := below_then B0 BR
            replace F5 := F5.below BR
            replace sz := Nat.le_trans sz BR.size
            obtain ⟨-, -, -, -, -, -, ⟨AX, RX⟩, -⟩ := HZ.out wy B0
            have pj : n1 + preN D H 4 + (H * D) = n1 + preN D H 5 := by simp only [preN]; omega
            have pk : n1 + preN D H 4 + (H * D) ≤ 1048576 := by simp only [preN]; omega
            clear HN
            go_wp2_with (first | (refine wpList_load_mid rfl 26 _ rfl gm 12 rfl [.int .i64 H, .int .i64 D, .slice (some ⟨xu, 0, none⟩) (H * D) (H * D)] _ RG Try.underlying26 rfl (by kernel_rfl) ?_) | (refine wpList_store_row rfl 26 _ _ rfl wr.heap.size #[.int .i64 H, .int .i64 D, .slice (some ⟨xu, 0, none⟩) (H * D) (H * D)] rfl rfl 26 _ YZ (by kernel_rfl) rfl one ?_; rw [hwy]) | (at_builtin; refine wpList_append_fresh rfl _ _ rfl (w.heap.size + 1) g5 (n1 + preN D H 4) c5 _ rfl F5 xu (H * D) (H * D) AX rfl RX pk (by omega) ?_; intro g6 c6 w6 F6 B6 so; rw [pj] at F6 ⊢))
            go_roundg (6 - (4 + 1))
            case measure => omega
            case rel => exact ⟨4 + 1, g6, c6, _, by omega, rfl, by go_num, rfl, F6, XM.of_block (so _ XM.lt (F5.ne XM (by decide)).symm), X0.of_block (B6.block _ (by omega)), B0.trans (B6.mono (by omega)), Nat.le_trans sz B6.size⟩
          · have RG : wr.rangeAt gm 15 [.int .i64 D, .int .i64 H, .slice (some ⟨xd, 0, none⟩) (D * H) (D * H)] := fun i u hi => XM.cell (15 + i) (by match i, hi with | 0, h => exact h | 1, h => exact h | 2, h => exact h)
            have YZ := blk_new wr 26 #[.int .i64 0, .int .i64 0, .slice none 0 0]
            have BY : Below wr.heap.size wr (wr.alloc (.cells #[.int .i64 0, .int .i64 0, .slice none 0 0] 26)) := (Below.refl _ _).alloc (Nat.le_refl _) _
            generalize hwz : wr.alloc (.cells #[.int .i64 0, .int .i64 0, .slice none 0 0] 26) = wz at *
            have one : Array.all (#[.int .i64 D, .int .i64 H, .slice (some ⟨xd, 0, none⟩) (D * H) (D * H)] : Array Value) (fun v => v.oneCell') = true := by simp [Value.oneCell']
            have YR := YZ.row #[.int .i64 D, .int .i64 H, .slice (some ⟨xd, 0, none⟩) (D * H) (D * H)]
            have BR := below_setRow BY (Nat.le_refl _) #[.int .i64 D, .int .i64 H, .slice (some ⟨xd, 0, none⟩) (D * H) (D * H)]
            generalize hwy : wz.setRow wr.heap.size #[.int .i64 D, .int .i64 H, .slice (some ⟨xd, 0, none⟩) (D * H) (D * H)] = wy at *
            have y2 : wy.cell? ⟨wr.heap.size, 2, none⟩ = some (.slice (some ⟨xd, 0, none⟩) (D * H) (D * H)) := YR.cell 2 rfl
            replace XM := XM.below BR
            replace X0 := X0.below BR
            replace B0 := below_then B0 BR
            replace F5 := F5.below BR
            replace sz := Nat.le_trans sz BR.size
            obtain ⟨-, -, -, -, -, -, -, ⟨AX, RX⟩⟩ := HZ.out wy B0
            have pj : n1 + preN D H 5 + (D * H) = n1 + preN D H 6 := by simp only [preN]; omega
            have pk : n1 + preN D H 5 + (D * H) ≤ 1048576 := by simp only [preN]; omega
            clear HN
            go_wp2_with (first | (refine wpList_load_mid rfl 26 _ rfl gm 15 rfl [.int .i64 D, .int .i64 H, .slice (some ⟨xd, 0, none⟩) (D * H) (D * H)] _ RG Try.underlying26 rfl (by kernel_rfl) ?_) | (refine wpList_store_row rfl 26 _ _ rfl wr.heap.size #[.int .i64 D, .int .i64 H, .slice (some ⟨xd, 0, none⟩) (D * H) (D * H)] rfl rfl 26 _ YZ (by kernel_rfl) rfl one ?_; rw [hwy]) | (at_builtin; refine wpList_append_fresh rfl _ _ rfl (w.heap.size + 1) g5 (n1 + preN D H 5) c5 _ rfl F5 xd (D * H) (D * H) AX rfl RX pk (by omega) ?_; intro g6 c6 w6 F6 B6 so; rw [pj] at F6 ⊢))
            go_roundg (6 - (5 + 1))
            case measure => omega
            case rel => exact ⟨5 + 1, g6, c6, _, by omega, rfl, by go_num, rfl, F6, XM.of_block (so _ XM.lt (F5.ne XM (by decide)).symm), X0.of_block (B6.block _ (by omega)), B0.trans (B6.mono (by omega)), Nat.le_trans sz B6.size⟩
        · obtain rfl : j = 6 := by omega
          go_wp2_with fail
          go_roundg (bn - (t + 1))
          case measure => omega
          case rel =>
            have e1 : (t + 1) * lenB D H = t * lenB D H + lenB D H := Nat.succ_mul _ _
            have e2 : lenB D H = D + D * D + D * D + D * D + D * D + D + H * D + D * H := rfl
            have e3 := HN.out
            have e4 : n1 + preN D H 6 = V * D + D + (t + 1) * lenB D H := by simp only [preN]; omega
            rw [e4] at F5
            exact ⟨t + 1, g5, c5, A5, by omega, rfl, by go_num, by rw [e4], F5, X0, B0, sz⟩
    · obtain rfl : t = bn := by omega
      have a7 : wr.cell? ⟨w.heap.size, 7, none⟩ = some (.slice (some ⟨go, 0, none⟩) (V * D) (V * D)) := X0.cell 7 rfl
      obtain ⟨-, -, ⟨AO, RO⟩⟩ := HR.out wr B0
      go_wp2_with (at_builtin; refine wpList_append_fresh rfl _ _ rfl (w.heap.size + 1) g (V * D + D + t * lenB D H) cap _ rfl F1 go (V * D) (V * D) AO rfl RO (by omega) (by omega) ?_; intro g6 c6 w6 F6 B6 so)
      go_ret
      exact ⟨g6, c6, rfl, B0.trans (B6.mono (by omega))⟩
end Go.Proofs.Ytklgaokhillinaa
