/- A model's numbers as the document's, all of them: the same rows, the layers in a row of their own. -/
import Derived.Test.YtklgaokhillinaaMdFits
namespace Go.Proofs.Ytklgaokhillinaa
open Go.ChangeShapes Go.WideShapes Go.ChangeAt Go.RowKit
theorem Try.infoRB : (Try.prog.info? 61).map (fun i => (i.zero, i.size, i.bytes)) = some (some (.agg #[.slice none 0 0, .int .i64 0, .int .i64 0, .slice none 0 0, .int .i64 0, .int .i64 0, .slice none 0 0, .int .i64 0, .int .i64 0, .slice none 0 0, .int .i64 0, .int .i64 0, .slice none 0 0, .slice none 0 0, .int .i64 0, .int .i64 0, .slice none 0 0, .int .i64 0, .int .i64 0, .slice none 0 0]), 20, 288) := by kernel_rfl
theorem Try.infoRB1 : (Try.prog.info? 61).map (·.size) = some 20 := by kernel_rfl
theorem Try.infoRW : (Try.prog.info? 33).map (·.size) = some 8 := by kernel_rfl
/-- Layers, cell behind cell. -/
def flat (bs : List Bk) : List Value := bs.flatMap fun b => b.cells.toList
theorem flat_len : ∀ bs : List Bk, (flat bs).length = bs.length * 20
  | [] => rfl
  | b :: bs => by
    have := flat_len bs
    unfold flat at *
    rw [List.flatMap_cons, List.length_append, this, List.length_cons]
    show 20 + bs.length * 20 = _
    omega
theorem flat_cons (b : Bk) (bs : List Bk) : flat (b :: bs) = b.cells.toList ++ flat bs := by unfold flat; rw [List.flatMap_cons]
theorem bk_len (b : Bk) : b.cells.toList.length = 20 := rfl
theorem flat_at : ∀ (bs : List Bk) (t : Nat) (x : Bk), bs[t]? = some x → ∀ (j : Nat) (v : Value), x.cells.toList[j]? = some v → (flat bs)[t * 20 + j]? = some v
  | [], t, x, h, _, _, _ => by simp at h
  | b :: bs, t, x, h, j, v, hv => by
    have hl := bk_len b
    have hx := bk_len x
    have hj : j < 20 := by have := (List.getElem?_eq_some_iff.1 hv).1; omega
    cases t with
    | zero =>
      simp at h
      subst h
      rw [flat_cons, Nat.zero_mul, Nat.zero_add, List.getElem?_append_left (by omega)]
      exact hv
    | succ t =>
      have ih := flat_at bs t x (by simpa using h) j v hv
      rw [flat_cons, List.getElem?_append_right (by omega), hl, show (t + 1) * 20 + j - 20 = t * 20 + j by omega]
      exact ih
/-- A row of layers of the call's own. -/
structure OwnB (w : World) (B : Nat) (s : Sl) (bs : List Bk) : Prop where
  own : w.ownsRow B 61 20 s.v s.n (flat bs)
  ok : ∀ x ∈ bs, x.Ok
  few : s.n ≤ 1000000
theorem OwnB.len {w : World} {B : Nat} {s : Sl} {bs : List Bk} (h : OwnB w B s bs) : bs.length = s.n := by
  have := h.own.1
  rw [flat_len] at this
  omega
theorem OwnB.blocks {w : World} {B : Nat} {s : Sl} {bs : List Bk} (h : OwnB w B s bs) : BlocksAt w s bs := by
  refine ⟨h.len, by have := h.few; omega, h.ok, fun hn => ?_⟩
  rcases h.own.2 with ⟨h0, h1⟩ | ⟨g, cap, cur, hv, _⟩
  · omega
  · unfold Sl.v at hv
    simp only [Value.slice.injEq, true_and] at hv
    refine ⟨g, 0, hv.1, fun t x hx j v hv2 => ?_⟩
    have hc := h.own.cells (g := g) (by unfold Sl.v; rw [hv.1]; rfl) (t * 20 + j) v (flat_at bs t x hx j v hv2)
    rw [Addr.add_mid] at hc
    rw [Nat.zero_add] at hc ⊢
    exact hc
theorem OwnB.below {w w' : World} {B : Nat} {s : Sl} {bs : List Bk} (h : OwnB w B s bs) (hb : Below w.heap.size w w') : OwnB w' B s bs := by
  obtain ⟨h1, h2⟩ := h.own
  refine ⟨⟨h1, ?_⟩, h.ok, h.few⟩
  rcases h2 with h2 | ⟨g, cap, cur, hv, hg, hh, r⟩
  · exact Or.inl h2
  · exact Or.inr ⟨g, cap, cur, hv, hg, by rw [hb.block g (Array.getElem?_eq_some_iff.1 hh).1]; exact hh, r⟩
theorem ownB_nil (w : World) (B : Nat) : OwnB w B ⟨none, 0, 0⟩ [] := ⟨World.ownsRow_nil _ _ _ _, (fun x hx => by cases hx), (by show 0 ≤ 1000000; omega)⟩
/-- append(out, block). -/
theorem wpList_append_block {w : World} {ops : Array Oper} {rest : List Oper} {o : Oper} {a : Act} {Q : Exit → Act → World → Prop} (hgd : o.guard = none) (s x : Operand)
    (ho : o.op = .call { callee := .builtin .append, args := #[s, x], argTypes := #[31, 31] })
    (B : Nat) (S : Sl) (bs : List Bk) (hs : a.eval s = S.v) (hF : OwnB w B S bs) (bo : Nat) (y : Bk) (hx : a.eval x = .slice (some ⟨bo, 0, none⟩) 1 1) (hX : Blk w bo 61 y.cells) (hy : y.Ok)
    (hlen : S.n + 1 ≤ 1000000) (hB : B ≤ w.heap.size)
    (h : ∀ S' w', S'.n = S.n + 1 → OwnB w' B S' (bs ++ [y]) → Below B w w' → wpList Try.prog ops Q rest (a.put o.dst S'.v) w') : wpList Try.prog ops Q (o :: rest) a w := by
  obtain ⟨i0, hi, hz0, hz1, hz2⟩ := info_parts Try.infoRB
  refine wpList_append_own w hgd s x 31 ho B 61 i0 (.agg #[.slice none 0 0, .int .i64 0, .int .i64 0, .slice none 0 0, .int .i64 0, .int .i64 0, .slice none 0 0, .int .i64 0, .int .i64 0, .slice none 0 0, .int .i64 0, .int .i64 0, .slice none 0 0, .slice none 0 0, .int .i64 0, .int .i64 0, .slice none 0 0, .int .i64 0, .int .i64 0, .slice none 0 0]) 20 288 Try.underlying31 hi hz0 hz1 hz2 rfl (by decide) _ S.n _ hs hF.own ⟨bo, 0, none⟩ 1 1 y.cells.toList hx rfl ?_ ?_ (by unfold maxLen; omega) (by omega) hB ?_
  · intro j u hj
    rw [Addr.add_mid, Nat.zero_add]
    exact hX.cell j (by simpa using hj)
  · intro u hu
    exact (Array.all_eq_true_iff_forall_mem.1 (bk_one y)) u (by simpa using hu)
  · intro v' w' hown hg hnil
    have hb : Below B w w' := (Below.refl _ _).grown hg hB (fun k hk => (hF.own.lt k hk).1)
    have e : flat bs ++ y.cells.toList = flat (bs ++ [y]) := by unfold flat; rw [List.flatMap_append]; simp
    rw [e] at hown
    obtain ⟨h1, h2⟩ := hown
    rcases h2 with ⟨h3, h4⟩ | ⟨g', c', cur, hv, hr⟩
    · omega
    · subst hv
      exact h ⟨some ⟨g', 0, none⟩, S.n + 1, c'⟩ w' rfl ⟨⟨h1, Or.inr ⟨g', c', cur, rfl, hr⟩⟩, fun z hz => (List.mem_append.1 hz).elim (hF.ok z) (fun h => by simp at h; subst h; exact hy), hlen⟩ hb
set_option maxRecDepth 100000 in
set_option maxHeartbeats 3200000 in
theorem full_any (W : Wt) (bs : List Bk) (w : World) (hb : BlocksAt w W.b bs) (hn : W.b.n ≤ 1000) :
   Calls Try.prog 18 #[.agg W.cells] w fun e w' => ∃ S : Sl, e = .returned (.agg (Wt.cells ⟨W.e, S, W.l, W.o⟩)) ∧ OwnB w' w.heap.size S bs ∧ Below w.heap.size w w' := by
  obtain ⟨⟨er, ec, ⟨ea, en, ez⟩⟩, ⟨ba, bn, bz⟩, ⟨la, ln, lz⟩, ⟨gr, gc, ⟨ga, gn, gz⟩⟩⟩ := W
  have hlen := hb.len
  simp only at hn hlen
  show Calls Try.prog 18 #[.agg #[.int .i64 er, .int .i64 ec, .slice ea en ez, .slice ba bn bz, .slice la ln lz, .int .i64 gr, .int .i64 gc, .slice ga gn gz]] w _
  have X0 := blk_new w 29 #[.int .i64 er, .int .i64 ec, .slice ea en ez, .slice ba bn bz, .slice la ln lz, .int .i64 gr, .int .i64 gc, .slice ga gn gz]
  have B0 : Below w.heap.size w (w.alloc (.cells #[.int .i64 er, .int .i64 ec, .slice ea en ez, .slice ba bn bz, .slice la ln lz, .int .i64 gr, .int .i64 gc, .slice ga gn gz] 29)) := (Below.refl _ _).alloc (Nat.le_refl _) _
  have s0 : (w.alloc (.cells #[.int .i64 er, .int .i64 ec, .slice ea en ez, .slice ba bn bz, .slice la ln lz, .int .i64 gr, .int .i64 gc, .slice ga gn gz] 29)).heap.size = w.heap.size + 1 := by simp
  generalize hw0 : w.alloc (.cells #[.int .i64 er, .int .i64 ec, .slice ea en ez, .slice ba bn bz, .slice la ln lz, .int .i64 gr, .int .i64 gc, .slice ga gn gz] 29) = w0 at *
  have X1 := blk_new w0 33 #[.int .i64 0, .int .i64 0, .slice none 0 0, .slice none 0 0, .slice none 0 0, .int .i64 0, .int .i64 0, .slice none 0 0]
  have B1 : Below w0.heap.size w0 (w0.alloc (.cells #[.int .i64 0, .int .i64 0, .slice none 0 0, .slice none 0 0, .slice none 0 0, .int .i64 0, .int .i64 0, .slice none 0 0] 33)) := (Below.refl _ _).alloc (Nat.le_refl _) _
  have s1 : (w0.alloc (.cells #[.int .i64 0, .int .i64 0, .slice none 0 0, .slice none 0 0, .slice none 0 0, .int .i64 0, .int .i64 0, .slice none 0 0] 33)).heap.size = w0.heap.size + 1 := by simp
  rw [s0] at X1 s1
  generalize hw1 : w0.alloc (.cells #[.int .i64 0, .int .i64 0, .slice none 0 0, .slice none 0 0, .slice none 0 0, .int .i64 0, .int .i64 0, .slice none 0 0] 33) = w1 at *
  replace X0 := X0.below B1
  have X2 := blk_new w1 33 #[.int .i64 er, .int .i64 ec, .slice ea en ez, .slice none 0 0, .slice la ln lz, .int .i64 gr, .int .i64 gc, .slice ga gn gz]
  have B2 : Below w1.heap.size w1 (w1.alloc (.cells #[.int .i64 er, .int .i64 ec, .slice ea en ez, .slice none 0 0, .slice la ln lz, .int .i64 gr, .int .i64 gc, .slice ga gn gz] 33)) := (Below.refl _ _).alloc (Nat.le_refl _) _
  have s2 : (w1.alloc (.cells #[.int .i64 er, .int .i64 ec, .slice ea en ez, .slice none 0 0, .slice la ln lz, .int .i64 gr, .int .i64 gc, .slice ga gn gz] 33)).heap.size = w1.heap.size + 1 := by simp
  rw [s1] at X2 s2
  have a0 : w1.cell? ⟨w.heap.size, 0, none⟩ = some (.int .i64 er) := X0.cell 0 rfl
  have a1 : w1.cell? ⟨w.heap.size, 1, none⟩ = some (.int .i64 ec) := X0.cell 1 rfl
  have a2 : w1.cell? ⟨w.heap.size, 2, none⟩ = some (.slice ea en ez) := X0.cell 2 rfl
  have a3 : w1.cell? ⟨w.heap.size, 3, none⟩ = some (.slice ba bn bz) := X0.cell 3 rfl
  have a4 : w1.cell? ⟨w.heap.size, 4, none⟩ = some (.slice la ln lz) := X0.cell 4 rfl
  have a5 : w1.cell? ⟨w.heap.size, 5, none⟩ = some (.int .i64 gr) := X0.cell 5 rfl
  have a6 : w1.cell? ⟨w.heap.size, 6, none⟩ = some (.int .i64 gc) := X0.cell 6 rfl
  have a7 : w1.cell? ⟨w.heap.size, 7, none⟩ = some (.slice ga gn gz) := X0.cell 7 rfl
  generalize hw2 : w1.alloc (.cells #[.int .i64 er, .int .i64 ec, .slice ea en ez, .slice none 0 0, .slice la ln lz, .int .i64 gr, .int .i64 gc, .slice ga gn gz] 33) = w2 at *
  replace X0 := X0.below B2
  replace X1 := X1.below B2
  replace B2 := below_then (below_then B0 B1) B2
  have HB : Hid (∀ wv, Below w.heap.size w wv → BlocksAt wv ⟨ba, bn, bz⟩ bs) := fun wv h => hb.below h
  clear hb
  have b3 : w2.cell? ⟨w.heap.size, 3, none⟩ = some (.slice ba bn bz) := X0.cell 3 rfl
  go_enter Try.func18, Try.ntmps18
  go_wp2_with fail
  clear a0 a1 a2 a3 a4 a5 a6 a7 b3 hw0 hw1 hw2 s0 s1 B0 B1
  go_loopg [16] bn (fun r i wr => ∃ (t : Nat) (S : Sl), t ≤ bn ∧ r = bn - t ∧ i = .int .i64 t ∧ S.n = t ∧ OwnB wr (w.heap.size + 3) S (bs.take t) ∧ Blk wr (w.heap.size + 1 + 1) 33 (Wt.cells ⟨⟨er, ec, ⟨ea, en, ez⟩⟩, S, ⟨la, ln, lz⟩, ⟨gr, gc, ⟨ga, gn, gz⟩⟩⟩) ∧ Blk wr (w.heap.size + 1) 33 #[.int .i64 0, .int .i64 0, .slice none 0 0, .slice none 0 0, .slice none 0 0, .int .i64 0, .int .i64 0, .slice none 0 0] ∧ Below w.heap.size w wr ∧ w.heap.size + 3 ≤ wr.heap.size)
  case atStart => exact ⟨0, ⟨none, 0, 0⟩, by omega, by omega, rfl, rfl, by rw [List.take_zero]; exact ownB_nil _ _, X2, X1, B2, by omega⟩
  case round =>
    clear X0 X1 X2 B2 s2
    obtain ⟨t, S, ht, rfl, rfl, hS, O1, X2, X1, B3, s3⟩ := hrel
    have hb := HB.out _ B3
    by_cases hlt : t < bn
    · obtain ⟨x, hx⟩ : ∃ x, bs[t]? = some x := ⟨_, List.getElem?_eq_getElem (by omega)⟩
      have hxo := hb.ok x (List.mem_of_getElem? hx)
      obtain ⟨g, o, e0, hc⟩ := hb.cells (by show 0 < bn; omega)
      simp only at e0
      subst e0
      have r0 := hc t x hx
      have HT : Hid (bs.take (t + 1) = bs.take t ++ [x]) := by show _ = _; rw [List.take_add_one, hx]; rfl
      obtain ⟨cs, hcs⟩ : ∃ cs, x.cells = cs := ⟨_, rfl⟩
      have one := bk_one x
      have siz := bk_size x
      rw [hcs] at one siz r0
      have HL : Hid (cs.toList.toArray = cs) := by show _ = _; simp
      have XZ := blk_new wr 57 #[.slice none 0 0, .int .i64 0, .int .i64 0, .slice none 0 0, .int .i64 0, .int .i64 0, .slice none 0 0, .int .i64 0, .int .i64 0, .slice none 0 0, .int .i64 0, .int .i64 0, .slice none 0 0, .slice none 0 0, .int .i64 0, .int .i64 0, .slice none 0 0, .int .i64 0, .int .i64 0, .slice none 0 0]
      have BZ : Below wr.heap.size wr (wr.alloc (.cells #[.slice none 0 0, .int .i64 0, .int .i64 0, .slice none 0 0, .int .i64 0, .int .i64 0, .slice none 0 0, .int .i64 0, .int .i64 0, .slice none 0 0, .int .i64 0, .int .i64 0, .slice none 0 0, .slice none 0 0, .int .i64 0, .int .i64 0, .slice none 0 0, .int .i64 0, .int .i64 0, .slice none 0 0] 57)) := (Below.refl _ _).alloc (Nat.le_refl _) _
      generalize hwz : wr.alloc (.cells #[.slice none 0 0, .int .i64 0, .int .i64 0, .slice none 0 0, .int .i64 0, .int .i64 0, .slice none 0 0, .int .i64 0, .int .i64 0, .slice none 0 0, .int .i64 0, .int .i64 0, .slice none 0 0, .slice none 0 0, .int .i64 0, .int .i64 0, .slice none 0 0, .int .i64 0, .int .i64 0, .slice none 0 0] 57) = wz at *
      have XR := XZ.row cs
      have BR := below_setRow BZ (Nat.le_refl _) cs
      generalize hwy : wz.setRow wr.heap.size cs = wy at *
      rw [← hcs] at XR
      have X2y := X2.below BR
      have X1y := X1.below BR
      have O1y := O1.below BR
      have sy : wr.heap.size < wy.heap.size := XR.lt
      have BY := below_then B3 BR
      have c3 : wy.cell? ⟨w.heap.size + 1 + 1, 3, none⟩ = some S.v := X2y.cell 3 rfl
      have XN := blk_new wy 61 x.cells
      have BN : Below wy.heap.size wy (wy.alloc (.cells x.cells 61)) := (Below.refl _ _).alloc (Nat.le_refl _) _
      obtain ⟨⟨fa, fn, fz⟩, ⟨qr, qc, ⟨qa, qn, qz⟩⟩, ⟨kr, kc, ⟨ka, kn, kz⟩⟩, ⟨vr, vc, ⟨va, vn, vz⟩⟩, ⟨or, oc, ⟨oa, on, oz⟩⟩, ⟨sa, sn, sz⟩, ⟨ur, uc, ⟨ua, un, uz⟩⟩, ⟨dr, dc, ⟨da, dn, dz⟩⟩⟩ := x
      have b0 : wy.cell? ⟨wr.heap.size, 0, none⟩ = some (.slice fa fn fz) := XR.cell 0 rfl
      have b1 : wy.cell? ⟨wr.heap.size, 1, none⟩ = some (.int .i64 qr) := XR.cell 1 rfl
      have b2 : wy.cell? ⟨wr.heap.size, 2, none⟩ = some (.int .i64 qc) := XR.cell 2 rfl
      have b3 : wy.cell? ⟨wr.heap.size, 3, none⟩ = some (.slice qa qn qz) := XR.cell 3 rfl
      have b4 : wy.cell? ⟨wr.heap.size, 4, none⟩ = some (.int .i64 kr) := XR.cell 4 rfl
      have b5 : wy.cell? ⟨wr.heap.size, 5, none⟩ = some (.int .i64 kc) := XR.cell 5 rfl
      have b6 : wy.cell? ⟨wr.heap.size, 6, none⟩ = some (.slice ka kn kz) := XR.cell 6 rfl
      have b7 : wy.cell? ⟨wr.heap.size, 7, none⟩ = some (.int .i64 vr) := XR.cell 7 rfl
      have b8 : wy.cell? ⟨wr.heap.size, 8, none⟩ = some (.int .i64 vc) := XR.cell 8 rfl
      have b9 : wy.cell? ⟨wr.heap.size, 9, none⟩ = some (.slice va vn vz) := XR.cell 9 rfl
      have b10 : wy.cell? ⟨wr.heap.size, 10, none⟩ = some (.int .i64 or) := XR.cell 10 rfl
      have b11 : wy.cell? ⟨wr.heap.size, 11, none⟩ = some (.int .i64 oc) := XR.cell 11 rfl
      have b12 : wy.cell? ⟨wr.heap.size, 12, none⟩ = some (.slice oa on oz) := XR.cell 12 rfl
      have b13 : wy.cell? ⟨wr.heap.size, 13, none⟩ = some (.slice sa sn sz) := XR.cell 13 rfl
      have b14 : wy.cell? ⟨wr.heap.size, 14, none⟩ = some (.int .i64 ur) := XR.cell 14 rfl
      have b15 : wy.cell? ⟨wr.heap.size, 15, none⟩ = some (.int .i64 uc) := XR.cell 15 rfl
      have b16 : wy.cell? ⟨wr.heap.size, 16, none⟩ = some (.slice ua un uz) := XR.cell 16 rfl
      have b17 : wy.cell? ⟨wr.heap.size, 17, none⟩ = some (.int .i64 dr) := XR.cell 17 rfl
      have b18 : wy.cell? ⟨wr.heap.size, 18, none⟩ = some (.int .i64 dc) := XR.cell 18 rfl
      have b19 : wy.cell? ⟨wr.heap.size, 19, none⟩ = some (.slice da dn dz) := XR.cell 19 rfl
      replace XN : Blk (wy.alloc (.cells #[.slice fa fn fz, .int .i64 qr, .int .i64 qc, .slice qa qn qz, .int .i64 kr, .int .i64 kc, .slice ka kn kz, .int .i64 vr, .int .i64 vc, .slice va vn vz, .int .i64 or, .int .i64 oc, .slice oa on oz, .slice sa sn sz, .int .i64 ur, .int .i64 uc, .slice ua un uz, .int .i64 dr, .int .i64 dc, .slice da dn dz] 61)) wy.heap.size 61 (Bk.cells ⟨⟨fa, fn, fz⟩, ⟨qr, qc, ⟨qa, qn, qz⟩⟩, ⟨kr, kc, ⟨ka, kn, kz⟩⟩, ⟨vr, vc, ⟨va, vn, vz⟩⟩, ⟨or, oc, ⟨oa, on, oz⟩⟩, ⟨sa, sn, sz⟩, ⟨ur, uc, ⟨ua, un, uz⟩⟩, ⟨dr, dc, ⟨da, dn, dz⟩⟩⟩) := XN
      replace BN : Below wy.heap.size wy (wy.alloc (.cells #[.slice fa fn fz, .int .i64 qr, .int .i64 qc, .slice qa qn qz, .int .i64 kr, .int .i64 kc, .slice ka kn kz, .int .i64 vr, .int .i64 vc, .slice va vn vz, .int .i64 or, .int .i64 oc, .slice oa on oz, .slice sa sn sz, .int .i64 ur, .int .i64 uc, .slice ua un uz, .int .i64 dr, .int .i64 dc, .slice da dn dz] 61)) := BN
      generalize hwn : wy.alloc (.cells #[.slice fa fn fz, .int .i64 qr, .int .i64 qc, .slice qa qn qz, .int .i64 kr, .int .i64 kc, .slice ka kn kz, .int .i64 vr, .int .i64 vc, .slice va vn vz, .int .i64 or, .int .i64 oc, .slice oa on oz, .slice sa sn sz, .int .i64 ur, .int .i64 uc, .slice ua un uz, .int .i64 dr, .int .i64 dc, .slice da dn dz] 61) = wn at *
      have sn2 := BN.size
      clear hc hb XR
      go_wp2_with (first
        | (refine wpList_load_mid rfl 57 _ rfl g (o + t * 20) rfl cs.toList _ r0 Try.underlying57 rfl (by rw [Array.length_toList, siz]; exact Try.infoB) ?_; rw [HL.out])
        | (refine wpList_store_row rfl 57 _ _ rfl wr.heap.size cs rfl rfl 57 _ XZ (by rw [siz]; exact Try.infoB) siz.symm one ?_; rw [hwy])
        | (at_builtin; refine wpList_append_block rfl (.tmp 21) (.tmp 39) rfl (w.heap.size + 3) S _ rfl (O1y.below BN) wy.heap.size _ rfl XN hxo (by omega) (by omega) ?_; intro S' wp hS' O9 B9; obtain ⟨pa, pn, pc⟩ := S'; simp only at hS'; obtain rfl : pn = t + 1 := (by omega); clear hS'; unfold Sl.v; have X2p := (X2y.below BN).of_block (B9.block (w.heap.size + 1 + 1) (by omega)); have fp := X2p.frozen 3; have cp : wp.cell? ⟨w.heap.size + 1 + 1, 3, none⟩ = some S.v := X2p.cell 3 rfl; have s9 := B9.size))
      go_roundg (bn - (t + 1))
      case measure => omega
      case rel =>
        refine ⟨t + 1, ⟨pa, t + 1, pc⟩, by omega, rfl, by go_num, rfl, ?_, X2p.set 3 _, ((X1y.below BN).of_block (B9.block _ (by omega))).other (by show w.heap.size + 1 ≠ w.heap.size + 1 + 1; omega) _, ((below_then BY BN).trans (B9.mono (by omega))).setCell (p := ⟨w.heap.size + 1 + 1, 3, none⟩) (by show w.heap.size ≤ w.heap.size + 1 + 1; omega) _, by simp [World.setCell]; omega⟩
        rw [HT.out]
        obtain ⟨p1, p2⟩ := O9.own
        refine ⟨⟨p1, p2.imp id ?_⟩, O9.ok, O9.few⟩
        rintro ⟨g', cap', cur', hv, hg', hh, r⟩
        exact ⟨g', cap', cur', hv, hg', by rw [Below.heap_setCell _ _ _ _ (by show g' ≠ w.heap.size + 1 + 1; omega)]; exact hh, r⟩
    · obtain rfl : bn = t := by omega
      rw [List.take_of_length_le (by omega)] at O1
      obtain ⟨pa, pn, pc⟩ := S
      simp only at hS
      subst hS
      have hall : Array.all (Wt.cells ⟨⟨er, ec, ⟨ea, en, ez⟩⟩, ⟨pa, pn, pc⟩, ⟨la, ln, lz⟩, ⟨gr, gc, ⟨ga, gn, gz⟩⟩⟩) (fun v => v.oneCell') = true := by simp [Wt.cells, Sl.v, Value.oneCell']
      go_wp2_with (first | (refine wpList_load_row rfl 33 _ rfl (w.heap.size + 1 + 1) rfl 33 _ (0, 0) _ X2 Try.underlying33 rfl Try.infoRW ?_) | (refine wpList_store_row rfl 33 _ _ rfl (w.heap.size + 1) _ rfl rfl 33 _ X1 Try.infoRW rfl hall ?_))
      refine bodyPost_ret (results_cell_row rfl _ _ (w.heap.size + 1) 33 _ _ _ rfl (X1.row _) Try.underlying33 rfl Try.infoRW) rfl ?_
      refine ⟨⟨pa, _, pc⟩, rfl, ?_, below_setRow B3 (by omega) _⟩
      obtain ⟨p1, p2⟩ := O1.own
      refine ⟨⟨p1, p2.imp id ?_⟩, O1.ok, O1.few⟩
      rintro ⟨g', cap', cur', hv, hg', hh, r⟩
      exact ⟨g', cap', cur', hv, by omega, by rw [setRow_other _ _ _ _ (by omega)]; exact hh, r⟩
end Go.Proofs.Ytklgaokhillinaa
