/- Contracts of the program's functions, part 9 of 13: what each call returns and leaves of memory. -/
import Derived.Test.YtcanjlofnpnhkaaGreatDoorPk8
import Derived.Test.YtcanjlofnpnhkaaGreatDoorPk5
import Derived.Test.YtcanjlofnpnhkaaGreatDoorPk7
/- Package block: a made list of rows that grow. -/
namespace Go.Proofs.YtcanjlofnpnhkaaGreatDoor
open Go.ChangeShapes Go.WideShapes Go.ChangeAt Go.RowKit
/-- At block g m lists of rows that grow; growth and stores turn blocks of S alone, the rows hang on blocks of p. -/
structure GL (w : World) (s : Nat) (S p : Nat → Prop) (g m : Nat) (F : Nat → List (List Int)) : Prop where
  sg : S g
  sS : ∀ b, S b → s ≤ b ∧ b < w.heap.size
  sp : ∀ b, p b → s ≤ b ∧ b < w.heap.size ∧ ¬ S b
  bl : ∃ cs : Array Value, w.heap[g]? = some (.cells cs 105 (0, 0)) ∧ cs.size = m
  sl : ∀ t, t < m → ∃ u vs, w.cell? ⟨g, t, none⟩ = some u ∧ w.ownsRow s 35 1 u (F t).length vs ∧ (∀ b, u.ownBlock = some b → S b) ∧ HRows p w vs (F t)
  ne : ∀ t t' u u' b, t < m → t' < m → t ≠ t' → w.cell? ⟨g, t, none⟩ = some u → w.cell? ⟨g, t', none⟩ = some u' → u.ownBlock = some b → u'.ownBlock ≠ some b
theorem ownB {w : World} {B n : Nat} {e : TypeId} {v : Value} {vs : List Value} (h : w.ownsRow B e 1 v n vs) {b : Nat} (hb : v.ownBlock = some b) : B ≤ b ∧ ∃ cs, w.heap[b]? = some (.cells cs e (0, 0)) := by
  rcases h.2 with ⟨h1, _⟩ | ⟨g, cap, cur, h1, h2, h3, _⟩
  · rw [h1] at hb; cases hb
  · rw [h1] at hb
    simp only [Value.ownBlock, Option.some.injEq] at hb
    subst hb
    exact ⟨h2, cur, h3⟩
theorem GL.lt {w : World} {s : Nat} {S p : Nat → Prop} {g m : Nat} {F : Nat → List (List Int)} (h : GL w s S p g m F) : g < w.heap.size := (h.sS g h.sg).2
theorem GL.other {w w' : World} {s : Nat} {S p : Nat → Prop} {g m : Nat} {F : Nat → List (List Int)} (h : GL w s S p g m F) (hs : w.heap.size ≤ w'.heap.size) (hb : ∀ b, S b ∨ p b → w'.heap[b]? = w.heap[b]?) : GL w' s S p g m F := by
  have hg := hb g (Or.inl h.sg)
  have hc : ∀ t, w'.cell? ⟨g, t, none⟩ = w.cell? ⟨g, t, none⟩ := fun t => World.cell?_of_block (w := w) (a := ⟨g, t, none⟩) hg
  refine ⟨h.sg, fun b hB => ⟨(h.sS b hB).1, Nat.lt_of_lt_of_le (h.sS b hB).2 hs⟩, fun b hB => ⟨(h.sp b hB).1, Nat.lt_of_lt_of_le (h.sp b hB).2.1 hs, (h.sp b hB).2.2⟩, ?_, fun t ht => ?_, fun t t' u u' b l1 l2 hn e e' => h.ne t t' u u' b l1 l2 hn (by rw [← hc]; exact e) (by rw [← hc]; exact e')⟩
  · obtain ⟨cs, c1, c2⟩ := h.bl
    exact ⟨cs, hg.trans c1, c2⟩
  · obtain ⟨u, vs, k1, k2, k3, k4⟩ := h.sl t ht
    exact ⟨u, vs, by rw [hc]; exact k1, owns_mono k2 (Nat.le_refl _) (fun b e => hb b (Or.inl (k3 b e))), k3, k4.turn ⟨hs, fun b _ hp => ⟨hp, hb b (Or.inr hp)⟩⟩⟩
theorem GL.below {w w' : World} {s : Nat} {S p : Nat → Prop} {g m : Nat} {F : Nat → List (List Int)} (h : GL w s S p g m F) (hb : Below w.heap.size w w') : GL w' s S p g m F :=
  h.other hb.size fun b hB => hb.block b (by rcases hB with k | k; exact (h.sS b k).2; exact (h.sp b k).2.1)
theorem GL.congr {w : World} {s : Nat} {S p : Nat → Prop} {g m : Nat} {F F' : Nat → List (List Int)} (h : GL w s S p g m F) (hF : ∀ t, t < m → F' t = F t) : GL w s S p g m F' :=
  ⟨h.sg, h.sS, h.sp, h.bl, fun t ht => by rw [hF t ht]; exact h.sl t ht, h.ne⟩
/-- One of the lists grew by rows. -/
theorem GL.step {w w2 : World} {s : Nat} {S p : Nat → Prop} {g m i : Nat} {F F' : Nat → List (List Int)} (h : GL w s S p g m F) (hi : i < m) {u u' : Value} {vs ns : List Value} {R : List (List Int)} (hs : s ≤ w.heap.size)
    (e : w.cell? ⟨g, i, none⟩ = some u) (O : w.ownsRow s 35 1 u (F i).length vs) (hv : HRows p w vs (F i))
    (O2 : w2.ownsRow s 35 1 u' ((F i).length + R.length) (vs ++ ns)) (H2 : HRows (offV w.heap.size u') w2 ns R) (hG : w.grownBy w2 u.ownBlock) (hN : ∀ b, u'.ownBlock = some b → u.ownBlock = some b ∨ w.heap.size ≤ b)
    (h1 : F' i = F i ++ R) (h2 : ∀ t, t < m → t ≠ i → F' t = F t) :
    GL (w2.setCell ⟨g, i, none⟩ u') s (fun b => S b ∨ u'.ownBlock = some b) (fun b => p b ∨ (w.heap.size ≤ b ∧ b < w2.heap.size ∧ u'.ownBlock ≠ some b)) g m F' ∧ ∀ b, b < w.heap.size → ¬ S b → (w2.setCell ⟨g, i, none⟩ u').heap[b]? = w.heap[b]? := by
  have hlt := h.lt
  have huS : ∀ b, u.ownBlock = some b → S b := fun b hb => by
    obtain ⟨u2, _, k1, _, k3, _⟩ := h.sl i hi
    rw [e] at k1
    simp only [Option.some.injEq] at k1
    subst k1
    exact k3 b hb
  have tyne : ∀ {wx : World} {b : Nat} {cs cs2 : Array Value}, wx.heap[b]? = some (.cells cs 105 (0, 0)) → wx.heap[b]? = some (.cells cs2 35 (0, 0)) → False := fun c1 c2 => by
    rw [c1] at c2
    injection c2 with c2
    injection c2 with _ c3 _
    exact absurd c3 (by decide)
  obtain ⟨cs, c1, c2⟩ := h.bl
  have bne : ∀ b, u.ownBlock = some b → g ≠ b := fun b hb hc => by
    obtain ⟨_, cs2, q⟩ := ownB O hb
    subst hc
    exact tyne c1 q
  have keepB : w2.heap[g]? = w.heap[g]? := hG.block _ hlt (fun hc => bne _ hc.symm rfl)
  have bne' : ∀ b, u'.ownBlock = some b → g ≠ b := fun b hb hc => by
    obtain ⟨_, cs2, q⟩ := ownB O2 hb
    subst hc
    exact tyne (keepB.trans c1) q
  have hsz : (w2.setCell ⟨g, i, none⟩ u').heap.size = w2.heap.size := by simp [World.setCell]
  have hst : ∀ b, b ≠ g → (w2.setCell ⟨g, i, none⟩ u').heap[b]? = w2.heap[b]? := fun b hb => Below.heap_setCell _ _ _ b hb
  have cellO : ∀ t' v, t' ≠ i → ((w2.setCell ⟨g, i, none⟩ u').cell? ⟨g, t', none⟩ = some v ↔ w.cell? ⟨g, t', none⟩ = some v) := fun t' v hn => by
    rw [World.cell?_setCell_other _ _ _ _ (fun hc => by
      simp only [Addr.mk.injEq, and_true, true_and] at hc
      exact hn hc.symm), World.cell?_of_block (w := w) (a := ⟨g, t', none⟩) keepB]
  have e2 : w2.cell? ⟨g, i, none⟩ = some u := by rw [World.cell?_of_block (w := w) (a := ⟨g, i, none⟩) keepB]; exact e
  have cellS : (w2.setCell ⟨g, i, none⟩ u').cell? ⟨g, i, none⟩ = some u' := World.cell?_setCell_same _ _ _ e2
  have frame : ∀ b, b < w.heap.size → ¬ S b → (w2.setCell ⟨g, i, none⟩ u').heap[b]? = w.heap[b]? := fun b hb hn => by
    rw [hst b (fun hc => hn (by rw [hc]; exact h.sg))]
    exact hG.block b hb (fun hc => hn (huS b hc.symm))
  have turnP : ∀ {vs : List Value} {R : List (List Int)}, HRows p w vs R → HRows (fun b => p b ∨ (w.heap.size ≤ b ∧ b < w2.heap.size ∧ u'.ownBlock ≠ some b)) (w2.setCell ⟨g, i, none⟩ u') vs R := fun H => H.turn ⟨by rw [hsz]; exact hG.size, fun b hb hp => ⟨Or.inl hp, frame b hb (h.sp b hp).2.2⟩⟩
  have turn2 : HRows (fun b => p b ∨ (w.heap.size ≤ b ∧ b < w2.heap.size ∧ u'.ownBlock ≠ some b)) (w2.setCell ⟨g, i, none⟩ u') ns R := H2.turn ⟨by rw [hsz]; omega, fun b hb hp => ⟨Or.inr ⟨hp.1, hb, hp.2⟩, hst b (fun hc => by have := hp.1; omega)⟩⟩
  have O3 : (w2.setCell ⟨g, i, none⟩ u').ownsRow s 35 1 u' ((F i).length + R.length) (vs ++ ns) := owns_mono O2 (Nat.le_refl _) fun b hb => hst b (fun hc => bne' b hb hc.symm)
  refine ⟨⟨Or.inl h.sg, fun b hb => ?_, fun b hb => ?_, ?_, fun t ht => ?_, fun t1 t2 v v' b l1 l2 hn k1 k2 hv1 hv2 => ?_⟩, frame⟩
  · rw [hsz]
    rcases hb with hb | hb
    · exact ⟨(h.sS b hb).1, Nat.lt_of_lt_of_le (h.sS b hb).2 hG.size⟩
    · exact O2.lt b hb
  · rw [hsz]
    rcases hb with hb | ⟨q1, q2, q3⟩
    · obtain ⟨k1, k2, k3⟩ := h.sp b hb
      refine ⟨k1, Nat.lt_of_lt_of_le k2 hG.size, fun hc => ?_⟩
      rcases hc with hc | hc
      · exact k3 hc
      · rcases hN b hc with x | x
        · exact k3 (huS b x)
        · omega
    · refine ⟨by omega, q2, fun hc => ?_⟩
      rcases hc with hc | hc
      · have := (h.sS b hc).2; omega
      · exact q3 hc
  · exact ⟨cs.setIfInBounds i u', by simp [World.setCell, Array.getElem?_modify, keepB, c1], by simpa using c2⟩
  · by_cases hti : t = i
    · subst hti
      rw [h1]
      refine ⟨u', vs ++ ns, cellS, by rw [List.length_append]; exact O3, fun b hb => Or.inr hb, ?_⟩
      have T1 := turnP hv
      refine ⟨by rw [List.length_append, List.length_append, T1.len, turn2.len], fun j hj => ?_⟩
      rcases Nat.lt_or_ge j (F t).length with hj2 | hj2
      · obtain ⟨ro, k, c, q1, q2⟩ := T1.rows j hj2
        exact ⟨ro, k, c, by rw [List.getElem?_append_left (by rw [T1.len]; exact hj2)]; exact q1, by
          have er : rowOf (F t ++ R) j = rowOf (F t) j := by unfold rowOf; rw [List.getD_eq_getElem?_getD, List.getD_eq_getElem?_getD, List.getElem?_append_left hj2]
          rw [er]; exact q2⟩
      · rw [List.length_append] at hj
        obtain ⟨ro, k, c, q1, q2⟩ := turn2.rows (j - (F t).length) (by omega)
        exact ⟨ro, k, c, by rw [List.getElem?_append_right (by rw [T1.len]; exact hj2), T1.len]; exact q1, by
          have er : rowOf (F t ++ R) j = rowOf R (j - (F t).length) := by unfold rowOf; rw [List.getD_eq_getElem?_getD, List.getD_eq_getElem?_getD, List.getElem?_append_right hj2]
          rw [er]; exact q2⟩
    · rw [h2 t ht hti]
      obtain ⟨v, ws, k1, k2, k3, k4⟩ := h.sl t ht
      refine ⟨v, ws, (cellO t v hti).2 k1, owns_mono k2 (Nat.le_refl _) fun b hb => ?_, fun b hb => Or.inl (k3 b hb), turnP k4⟩
      rw [hst b (fun hc => by
        obtain ⟨_, cs2, q⟩ := ownB k2 hb
        subst hc
        exact tyne c1 q)]
      exact hG.block b (k2.lt b hb).2 (fun hc => h.ne i t u v b hi ht (Ne.symm hti) e k1 hc.symm hb)
  · have oldlt : ∀ t' x b, t' < m → w.cell? ⟨g, t', none⟩ = some x → x.ownBlock = some b → b < w.heap.size := fun t' x b ht' hx hb => by
      obtain ⟨y, ws, k1, k2, _, _⟩ := h.sl t' ht'
      rw [hx] at k1
      simp only [Option.some.injEq] at k1
      subst k1
      exact (k2.lt b hb).2
    by_cases a1 : t1 = i
    · subst a1
      rw [cellS] at k1
      simp only [Option.some.injEq] at k1
      subst k1
      have c2' := (cellO t2 v' (Ne.symm hn)).1 k2
      rcases hN b hv1 with k | k
      · exact h.ne t1 t2 u v' b l1 l2 hn e c2' k hv2
      · have := oldlt t2 v' b l2 c2' hv2; omega
    · have c1' := (cellO t1 v a1).1 k1
      by_cases a2 : t2 = i
      · subst a2
        rw [cellS] at k2
        simp only [Option.some.injEq] at k2
        subst k2
        rcases hN b hv2 with k | k
        · exact h.ne t1 t2 v u b l1 l2 hn c1' e hv1 k
        · have := oldlt t1 v b l1 c1' hv1; omega
      · exact h.ne t1 t2 v v' b l1 l2 hn c1' ((cellO t2 v' a2).1 k2) hv1 hv2
/-- It reads as a cube, and hangs on newer blocks. -/
theorem GL.new {w : World} {s : Nat} {S p : Nat → Prop} {g m : Nat} {F : Nat → List (List Int)} (h : GL w s S p g m F) {C : List (List (List Int))} (hC : C.length = m) (hm : m ≤ 9223372036854775807) (hF : ∀ t, t < m → C.getD t [] = F t) : Hangs (fun b => s ≤ b) w (fun w => CubeAt w (some ⟨g, 0, none⟩) m C) := fun w2 h2 => by
  refine ⟨hC, hm, fun _ => ⟨g, 0, rfl, fun t R hR => ?_⟩⟩
  have ht : t < m := by have := (List.getElem?_eq_some_iff.1 hR).1; omega
  have hRe : F t = R := by rw [← hF t ht, List.getD_eq_getElem?_getD, hR]; rfl
  obtain ⟨u, vs, k1, k2, k3, k4⟩ := h.sl t ht
  rw [hRe] at k2 k4
  obtain ⟨a, c, e⟩ := owns_slice k2
  subst e
  obtain ⟨f1, f2, f3⟩ := owns_form k2
  have hg := h.sS g h.sg
  have k1' : w2.cell? ⟨g, t, none⟩ = some (.slice a R.length c) := by rw [World.cell?_of_block (w := w) (a := ⟨g, t, none⟩) (h2 g hg.1 hg.2)]; exact k1
  have O2 : w2.ownsRow s 35 1 (.slice a R.length c) R.length vs := owns_mono k2 (Nat.le_refl _) (fun b hb => h2 b (k2.lt b hb).1 (k2.lt b hb).2)
  refine ⟨a, R.length, c, by rw [Nat.zero_add]; exact k1', f1, f2, f3, rfl, by omega, fun h0 => ?_⟩
  rcases O2.2 with ⟨q1, q2⟩ | ⟨g2, cap, cur, q1, _⟩
  · omega
  · simp only [Value.slice.injEq] at q1
    obtain ⟨rfl, -, rfl⟩ := q1
    refine ⟨g2, 0, rfl, fun j hj => ?_⟩
    obtain ⟨ro, n, c2, e5, A⟩ := k4.rows j hj
    have hc := O2.cells (g := g2) rfl j _ e5
    have e3 : (Addr.mk g2 0 none).add j = ⟨g2, j, none⟩ := by simp [Addr.add]; intro h; exact h.symm
    rw [e3] at hc
    exact ⟨ro, n, c2, by rw [Nat.zero_add]; exact hc, A w2 (fun b hp hb => h2 b (h.sp b hp).1 hb)⟩
theorem GL.cube {w : World} {s : Nat} {S p : Nat → Prop} {g m : Nat} {F : Nat → List (List Int)} (h : GL w s S p g m F) {C : List (List (List Int))} (hC : C.length = m) (hm : m ≤ 9223372036854775807) (hF : ∀ t, t < m → C.getD t [] = F t) : CubeAt w (some ⟨g, 0, none⟩) m C := (h.new hC hm hF).now
/-- As it is made. -/
theorem gl_made (w : World) (m : Nat) (s : Nat) (hs : s ≤ w.heap.size) : GL (w.alloc (.cells (madeCells #[.slice none 0 0] m) 105)) s (fun b => b = w.heap.size) (fun _ => False) w.heap.size m (fun _ => []) := by
  have h1 := heap_alloc_new w (.cells (madeCells #[.slice none 0 0] m) 105)
  have hsz : (w.alloc (.cells (madeCells #[.slice none 0 0] m) 105)).heap.size = w.heap.size + 1 := by simp
  have hc : ∀ t, t < m → (w.alloc (.cells (madeCells #[.slice none 0 0] m) 105)).cell? ⟨w.heap.size, t, none⟩ = some (.slice none 0 0) := fun t ht => by
    unfold World.cell?
    simp only [h1]
    simp [madeCells, ht, Nat.mod_one]
  refine ⟨rfl, fun b hb => by subst hb; exact ⟨hs, by omega⟩, fun b hb => hb.elim, ⟨_, h1, by simp [madeCells]⟩, fun t ht => ⟨_, [], hc t ht, World.ownsRow_nil _ _ _ _, (fun b hb => by simp [Value.ownBlock] at hb), HRows.nil _ _⟩, fun t t' u u' b l1 l2 hn e e' hu => ?_⟩
  rw [hc t l1] at e
  simp only [Option.some.injEq] at e
  subst e
  cases hu
end Go.Proofs.YtcanjlofnpnhkaaGreatDoor

/- Package block: behind. -/
namespace Go.Proofs.YtcanjlofnpnhkaaGreatDoor
open Go.ChangeShapes Go.WideShapes Go.ChangeAt Go.RowKit
theorem GL.stays {w w2 : World} {s : Nat} {S p : Nat → Prop} {g m i n B : Nat} {F : Nat → List (List Int)} (h : GL w s S p g m F) (_ : i < m) {u v : Value} {vs : List Value} (O : w.ownsRow B 35 1 u n vs) (hG : w.grownBy w2 u.ownBlock) (e : w.cell? ⟨g, i, none⟩ = some v) : w2.cell? ⟨g, i, none⟩ = some v ∧ w2.frozen? ⟨g, i, none⟩ = false := by
  obtain ⟨cs, c1, _⟩ := h.bl
  have keepB : w2.heap[g]? = w.heap[g]? := hG.block _ h.lt (fun hc => by
    obtain ⟨_, cs2, q⟩ := ownB O hc.symm
    rw [c1] at q
    injection q with q
    injection q with _ c3 _
    exact absurd c3 (by decide))
  refine ⟨by rw [World.cell?_of_block (w := w) (a := ⟨g, i, none⟩) keepB]; exact e, ?_⟩
  rw [← keepB] at c1
  simp [World.frozen?, c1]
set_option maxRecDepth 100000 in
set_option maxHeartbeats 3200000 in
theorem behind_nil (w0 : World) (na : Option Addr) (nc : Nat) (ao : Option Addr) (m ca : Nat) (D : List (List (List Int))) (w : World) (hC : CubeAt w0 ao m D) (hB : Below w0.heap.size w0 w) (hm : m ≤ 4096) (hrl : ∀ R ∈ D, ∀ t, t < R.length → (rowOf R t).length ≤ 1048576) (hFl : ∀ t, t < m → (D.getD t []).length ≤ 4096) :
   Calls Tryz.prog 39 #[.slice na 0 nc, .slice ao m ca] w fun e w' => ∃ g, e = .returned (.slice (some ⟨g, 0, none⟩) m m) ∧ ∃ S p, GL w' w0.heap.size S p g m (fun t => D.getD t []) ∧ (∀ b, S b → w.heap.size ≤ b) ∧ (∀ b, p b → w.heap.size ≤ b) ∧ Below w.heap.size w w' := by
  have hmk := run_make_row' (P := Tryz.prog) 26 105 (.slice none 0 0) 24 Tryz.underlying26 Tryz.infoList rfl .i64 .i64 m (by omega) (by omega)
  have HC : Hid (CubeAt w0 ao m D) := hC
  have HB : Hid (Below w0.heap.size w0 w) := hB
  have HLN : Hid (D.length = m) := hC.len
  have HRL : Hid (∀ R ∈ D, ∀ t, t < R.length → (rowOf R t).length ≤ 1048576) := hrl
  have HFL : Hid (∀ t, t < m → ([] : List (List Int)).length + (D.getD t []).length ≤ 4096) := fun t ht => by rw [List.length_nil, Nat.zero_add]; exact hFl t ht
  have hsw := hB.size
  have GM := gl_made w m w0.heap.size hsw
  have BA : Below w.heap.size w (w.alloc (.cells (madeCells #[.slice none 0 0] m) 105)) := (Below.refl _ _).alloc (Nat.le_refl _) _
  have HSW : Hid (w0.heap.size ≤ w.heap.size) := hsw
  clear hC hB hrl hFl hsw
  go_enter Tryz.func39, Tryz.ntmps39
  go_wp2_with fail
  clear hmk
  obtain ⟨g, hg⟩ : ∃ g, g = w.heap.size := ⟨_, rfl⟩
  rw [← hg] at GM
  have hg' : Hid (w.heap.size = g) := hg.symm
  rw [show (some (⟨w.heap.size, 0, none⟩ : Addr)) = some ⟨g, 0, none⟩ by rw [hg]]
  clear hg
  have G0 : GL (w.alloc (.cells (madeCells #[.slice none 0 0] m) 105)) w0.heap.size (fun b => b = g) (fun _ => False) g m (fun t => (fun _ => ([] : List (List Int))) t) := GM
  clear GM
  generalize w.alloc (.cells (madeCells #[.slice none 0 0] m) 105) = w1 at *
  obtain ⟨F, hF⟩ : ∃ F : Nat → List (List Int), F = fun _ => [] := ⟨_, rfl⟩
  rw [← hF] at G0
  have HFF : Hid (F = fun _ => []) := hF
  have HFL2 : Hid (∀ t, t < m → (F t).length + (D.getD t []).length ≤ 4096) := fun t ht => by rw [hF]; exact HFL.out t ht
  clear hF
  obtain ⟨S, hS⟩ : ∃ S : Nat → Prop, S = fun _ => False := ⟨_, rfl⟩
  obtain ⟨p, hp⟩ : ∃ p : Nat → Prop, p = fun _ => False := ⟨_, rfl⟩
  have HSS : Hid (∀ b, ¬ S b) := fun b => by rw [hS]; exact id
  have HPP : Hid (∀ b, ¬ p b) := fun b => by rw [hp]; exact id
  clear hS hp HFL
  rename Hid (∀ t, t < m → (F t).length + (D.getD t []).length ≤ 4096) => HFL
  go_loopg [15] m (fun r s15 wr => ∃ (i : Nat) (S' p' : Nat → Prop), i ≤ m ∧ r = m - i ∧ s15 = .int .i64 (i : Int) ∧ GL wr w0.heap.size S' p' g m (fun t => if t < i then F t ++ D.getD t [] else F t) ∧ (∀ b, S' b → S b ∨ w.heap.size ≤ b) ∧ (∀ b, p' b → p b ∨ w.heap.size ≤ b) ∧ (∀ b, b < w.heap.size → ¬ S b → wr.heap[b]? = w.heap[b]?) ∧ Below w0.heap.size w wr)
  case atStart => exact ⟨0, _, _, by omega, by omega, rfl, G0, fun b hb => Or.inr (by have := hg'.out; omega), fun b hb => hb.elim, fun b hb _ => BA.block b hb, BA.mono HSW.out⟩
  case round =>
    clear G0 BA
    obtain ⟨i, S', p', hi, rfl, rfl, G, HS, HP, HF, BB⟩ := hrel
    by_cases hlt : i < m
    · have hDi : D[i]? = some (D[i]'(by rw [HLN.out]; exact hlt)) := List.getElem?_eq_getElem _
      have HDD : Hid (D.getD i [] = D[i]'(by rw [HLN.out]; exact hlt)) := by show _ = _; rw [List.getD_eq_getElem?_getD, hDi]; rfl
      have hmem : D[i]'(by rw [HLN.out]; exact hlt) ∈ D := List.getElem_mem _
      have hrl := HRL.out _ hmem
      have hFl := HFL.out i hlt
      rw [HDD.out] at hFl
      generalize D[i]'(by rw [HLN.out]; exact hlt) = R at hDi HDD hmem hrl hFl
      obtain ⟨b, o, rfl, hc⟩ := HC.out.cells (by omega)
      obtain ⟨ro, n, c, q1, q2, q3, q4, GR⟩ := hc i R hDi
      have B0 : Below w0.heap.size w0 wr := HB.out.trans BB
      have q1' : wr.cell? ⟨b, o + i, none⟩ = some (.slice ro n c) := cell_keep q1 B0
      have HGR : Hid (∀ wv, Below w0.heap.size w0 wv → GridAt wv ro n R) := fun wv hb => GR.below hb
      have hn := GR.len
      have hsz := B0.size
      clear hc q1 q2 q3 q4 GR hmem hDi
      obtain ⟨u, vs, k1, k2, k3, k4⟩ := G.sl i hlt
      rw [if_neg (by omega)] at k2 k4
      obtain ⟨ua, uc, e9⟩ := owns_slice k2
      subst e9
      have CA := addRows_any w0.heap.size _ (F i).length vs ro n c R wr k2 (fun wv hg => HGR.out wv (B0.grown hg hsz (fun x hx => (ownB k2 hx).1))) (fun t ht => hrl t (by rw [hn]; exact ht)) (by rw [← hn]; exact hFl) hsz
      go_upto_region 6 with fail
      clear q1'
      go_wp2_with fail
      refine CA.mono ?_
      rintro e w2 ⟨a2, c2, rfl, ⟨ns, O2, H2⟩, G2, N2⟩
      clear CA
      obtain ⟨k1', fz⟩ := G.stays hlt k2 G2 k1
      have k0 := k1
      clear k1

      obtain ⟨GS, FS⟩ := GL.step (F' := fun t => if t < i + 1 then F t ++ D.getD t [] else F t) G hlt hsz k0 (by simp only [if_neg (Nat.lt_irrefl i)]; exact k2) (by simp only [if_neg (Nat.lt_irrefl i)]; exact k4) (by simp only [if_neg (Nat.lt_irrefl i)]; rw [hn]; exact O2) H2 G2 N2 (by simp only [if_neg (Nat.lt_irrefl i), if_pos (Nat.lt_succ_self i)]; rw [HDD.out]) (fun t _ ht => by by_cases h : t < i <;> simp [h] <;> omega)
      have B2 : Below w0.heap.size w w2 := BB.grown G2 hsz (fun x hx => (ownB k2 hx).1)
      have hg0 := (G.sS g G.sg).1
      have hszw := BB.size

      go_wp2_with fail
      go_roundg (m - (i + 1))
      case measure => omega
      case rel =>
        refine ⟨i + 1, _, _, by omega, rfl, by go_num, GS, fun x hx => ?_, fun x hx => ?_, fun x h1 h2 => ?_, Below.setCell B2 (by exact hg0) _⟩
        · rcases hx with hx | hx
          · exact HS x hx
          · rcases N2 x hx with y | y
            · exact HS x (k3 x y)
            · exact Or.inr (by omega)
        · rcases hx with hx | hx
          · exact HP x hx
          · exact Or.inr (by omega)
        · have hx : x < wr.heap.size := by omega
          rw [FS x hx (fun hc => by
            rcases HS x hc with y | y
            · exact h2 y
            · omega)]
          exact HF x h1 h2
    · obtain rfl : m = i := by omega
      go_wp2_with fail
      go_ret
      refine ⟨g, rfl, S', p', G.congr (fun t ht => by rw [if_pos ht, HFF.out]; rfl), fun b hb => (HS b hb).resolve_left (HSS.out b), fun b hb => (HP b hb).resolve_left (HPP.out b), ⟨BB.os, BB.tape, BB.output, by have := G.lt; have := hg'.out; omega, fun b hb => HF b hb (HSS.out b)⟩⟩
set_option maxRecDepth 100000 in
set_option maxHeartbeats 3200000 in
theorem behind_more (w0 : World) (g m : Nat) (S p : Nat → Prop) (F : Nat → List (List Int)) (ao : Option Addr) (ca : Nat) (D : List (List (List Int))) (w : World) (G0 : GL w w0.heap.size S p g m F) (hC : CubeAt w0 ao m D) (hB : Below w0.heap.size w0 w) (hm : m ≤ 4096) (hm0 : 0 < m) (hrl : ∀ R ∈ D, ∀ t, t < R.length → (rowOf R t).length ≤ 1048576) (hFl : ∀ t, t < m → (F t).length + (D.getD t []).length ≤ 4096) :
   Calls Tryz.prog 39 #[.slice (some ⟨g, 0, none⟩) m m, .slice ao m ca] w fun e w' => e = .returned (.slice (some ⟨g, 0, none⟩) m m) ∧ ∃ S' p', GL w' w0.heap.size S' p' g m (fun t => F t ++ D.getD t []) ∧ (∀ b, S' b → S b ∨ w.heap.size ≤ b) ∧ (∀ b, p' b → p b ∨ w.heap.size ≤ b) ∧ (∀ b, b < w.heap.size → ¬ S b → w'.heap[b]? = w.heap[b]?) ∧ Below w0.heap.size w w' := by
  have HC : Hid (CubeAt w0 ao m D) := hC
  have HB : Hid (Below w0.heap.size w0 w) := hB
  have HLN : Hid (D.length = m) := hC.len
  have HRL : Hid (∀ R ∈ D, ∀ t, t < R.length → (rowOf R t).length ≤ 1048576) := hrl
  have HFL : Hid (∀ t, t < m → (F t).length + (D.getD t []).length ≤ 4096) := hFl
  have h00 : ((m : Int) == 0) = false := by simp; omega
  clear hC hB hrl hFl
  go_enter Tryz.func39, Tryz.ntmps39
  go_wp2_with fail
  go_loopg [15] m (fun r s15 wr => ∃ (i : Nat) (S' p' : Nat → Prop), i ≤ m ∧ r = m - i ∧ s15 = .int .i64 (i : Int) ∧ GL wr w0.heap.size S' p' g m (fun t => if t < i then F t ++ D.getD t [] else F t) ∧ (∀ b, S' b → S b ∨ w.heap.size ≤ b) ∧ (∀ b, p' b → p b ∨ w.heap.size ≤ b) ∧ (∀ b, b < w.heap.size → ¬ S b → wr.heap[b]? = w.heap[b]?) ∧ Below w0.heap.size w wr)
  case atStart => exact ⟨0, S, p, by omega, by omega, rfl, G0, fun b hb => Or.inl hb, fun b hb => Or.inl hb, fun b hb _ => rfl, Below.refl _ _⟩
  case round =>
    clear G0
    obtain ⟨i, S', p', hi, rfl, rfl, G, HS, HP, HF, BB⟩ := hrel
    by_cases hlt : i < m
    · have hDi : D[i]? = some (D[i]'(by rw [HLN.out]; exact hlt)) := List.getElem?_eq_getElem _
      have HDD : Hid (D.getD i [] = D[i]'(by rw [HLN.out]; exact hlt)) := by show _ = _; rw [List.getD_eq_getElem?_getD, hDi]; rfl
      have hmem : D[i]'(by rw [HLN.out]; exact hlt) ∈ D := List.getElem_mem _
      have hrl := HRL.out _ hmem
      have hFl := HFL.out i hlt
      rw [HDD.out] at hFl
      generalize D[i]'(by rw [HLN.out]; exact hlt) = R at hDi HDD hmem hrl hFl
      obtain ⟨b, o, rfl, hc⟩ := HC.out.cells (by omega)
      obtain ⟨ro, n, c, q1, q2, q3, q4, GR⟩ := hc i R hDi
      have B0 : Below w0.heap.size w0 wr := HB.out.trans BB
      have q1' : wr.cell? ⟨b, o + i, none⟩ = some (.slice ro n c) := cell_keep q1 B0
      have HGR : Hid (∀ wv, Below w0.heap.size w0 wv → GridAt wv ro n R) := fun wv hb => GR.below hb
      have hn := GR.len
      have hsz := B0.size
      clear hc q1 q2 q3 q4 GR hmem hDi
      obtain ⟨u, vs, k1, k2, k3, k4⟩ := G.sl i hlt
      rw [if_neg (by omega)] at k2 k4
      obtain ⟨ua, uc, e9⟩ := owns_slice k2
      subst e9
      have CA := addRows_any w0.heap.size _ (F i).length vs ro n c R wr k2 (fun wv hg => HGR.out wv (B0.grown hg hsz (fun x hx => (ownB k2 hx).1))) (fun t ht => hrl t (by rw [hn]; exact ht)) (by rw [← hn]; exact hFl) hsz
      go_upto_region 6 with fail
      clear q1'
      go_wp2_with fail
      refine CA.mono ?_
      rintro e w2 ⟨a2, c2, rfl, ⟨ns, O2, H2⟩, G2, N2⟩
      clear CA
      obtain ⟨k1', fz⟩ := G.stays hlt k2 G2 k1
      have k0 := k1
      clear k1

      obtain ⟨GS, FS⟩ := GL.step (F' := fun t => if t < i + 1 then F t ++ D.getD t [] else F t) G hlt hsz k0 (by simp only [if_neg (Nat.lt_irrefl i)]; exact k2) (by simp only [if_neg (Nat.lt_irrefl i)]; exact k4) (by simp only [if_neg (Nat.lt_irrefl i)]; rw [hn]; exact O2) H2 G2 N2 (by simp only [if_neg (Nat.lt_irrefl i), if_pos (Nat.lt_succ_self i)]; rw [HDD.out]) (fun t _ ht => by by_cases h : t < i <;> simp [h] <;> omega)
      have B2 : Below w0.heap.size w w2 := BB.grown G2 hsz (fun x hx => (ownB k2 hx).1)
      have hg0 := (G.sS g G.sg).1
      have hszw := BB.size

      go_wp2_with fail
      go_roundg (m - (i + 1))
      case measure => omega
      case rel =>
        refine ⟨i + 1, _, _, by omega, rfl, by go_num, GS, fun x hx => ?_, fun x hx => ?_, fun x h1 h2 => ?_, Below.setCell B2 (by exact hg0) _⟩
        · rcases hx with hx | hx
          · exact HS x hx
          · rcases N2 x hx with y | y
            · exact HS x (k3 x y)
            · exact Or.inr (by omega)
        · rcases hx with hx | hx
          · exact HP x hx
          · exact Or.inr (by omega)
        · have hx : x < wr.heap.size := by omega
          rw [FS x hx (fun hc => by
            rcases HS x hc with y | y
            · exact h2 y
            · omega)]
          exact HF x h1 h2
    · obtain rfl : m = i := by omega
      go_wp2_with fail
      go_ret
      exact ⟨rfl, S', p', G.congr (fun t ht => by rw [if_pos ht]), HS, HP, HF, BB⟩
end Go.Proofs.YtcanjlofnpnhkaaGreatDoor

/- Package block: slices.Equal of numbers; behind, of whatever is there. -/
namespace Go.Proofs.YtcanjlofnpnhkaaGreatDoor
open Go.ChangeShapes Go.WideShapes Go.ChangeAt Go.RowKit
set_option maxRecDepth 100000 in
set_option maxHeartbeats 1600000 in
theorem iequal_any (ao bo : Option Addr) (n m ca cb : Nat) (A B : List Int) (w : World) (hA : IRowAt w ao n A) (hB : IRowAt w bo m B) :
   Calls Tryz.prog 37 #[.slice ao n ca, .slice bo m cb] w fun e w' => e = .returned (.bool (decide (A = B))) ∧ ∃ m, w' = w.drewN m := by
  have ha := hA.len
  have hb := hB.len
  have hma := hA.max
  have hmb := hB.max
  obtain ⟨q, hq⟩ : ∃ q, decide (A = B) = q := ⟨_, rfl⟩
  have HQ : Hid (decide (A = B) = q) := hq
  have HRA : Hid (∀ wv, Below w.heap.size w wv → IRowAt wv ao n A) := fun wv h => hA.below h
  have HRB : Hid (∀ wv, Below w.heap.size w wv → IRowAt wv bo m B) := fun wv h => hB.below h
  rw [hq]
  clear hq hA hB
  go_enter Tryz.func37, Tryz.ntmps37
  by_cases hnm : n = m
  · subst hnm
    go_wp2_with fail
    go_loopg [13] n (fun r i wr => ∃ k : Nat, k ≤ n ∧ r = n - k ∧ i = .int .i64 (k : Int) ∧ (∀ t, t < k → el A t = el B t) ∧ Hid (∃ m, wr = w.drewN m))
    case atStart => exact ⟨0, by omega, by omega, rfl, fun t h => by omega, ⟨0, rfl⟩⟩
    case round =>
      obtain ⟨k, hk, rfl, rfl, HE, HD⟩ := hrel
      have BB : Below w.heap.size w wr := by
        obtain ⟨m9, e9⟩ := HD.out
        rw [e9]
        exact below_drewN (Below.refl _ _) _
      by_cases hlt : k < n
      · obtain ⟨b1, o1, rfl, c1⟩ := (HRA.out wr BB).cells (by omega)
        obtain ⟨b2, o2, rfl, c2⟩ := (HRB.out wr BB).cells (by omega)
        have q1 := c1 k hlt
        have q2 := c2 k hlt
        have HK : Hid (el A k = el B k → ∀ t, t < k + 1 → el A t = el B t) := fun h t ht => by
          rcases Nat.lt_or_ge t k with h2 | h2
          · exact HE t h2
          · obtain rfl : t = k := by omega
            exact h
        have HN : Hid (el A k ≠ el B k → q = false) := fun h => by
          rw [← HQ.out]
          exact decide_eq_false (fun e => h (by rw [e]))
        clear c1 c2
        generalize el A k = x at *
        generalize el B k = y at *
        have HD2 : Hid (∀ q, ∃ m, wr.drewN q = w.drewN m) := fun q => by
          obtain ⟨m9, e9⟩ := HD.out
          exact ⟨m9 + q, by rw [e9]; rw [World.drewN_drewN]⟩
        by_cases hxy : x = y
        · subst hxy
          go_upto_region 6 with fail
          go_quiet (fail)
          go_wp2_with fail
          go_roundg (n - (k + 1))
          case measure => omega
          case rel => exact ⟨k + 1, by omega, rfl, by go_num, HK.out trivial, HD2.out _⟩
        · have hxy2 : (x == y) = false := by simpa using hxy
          have HN2 : Hid (q = false) := HN.out hxy
          clear HN HK
          go_upto_region 6 with fail
          go_quiet (fail)
          go_wp2_with fail
          go_ret
          exact ⟨by rw [HN2.out]; rfl, HD2.out _⟩
      · obtain rfl : n = k := by omega
        go_wp2_with fail
        go_ret
        exact ⟨by rw [← HQ.out, decide_eq_true (ext_el (by omega) (by rw [ha]; exact HE))]; rfl, HD.out⟩
  · have hz : ((n : Int) == (m : Int)) = false := by simp; omega
    go_wp2_with fail
    go_ret
    exact ⟨by rw [← HQ.out, decide_eq_false (fun e => hnm (by rw [← ha, ← hb, e]))]; rfl, 0, rfl⟩
/-- Lists that grow, or none yet. -/
def GLV (w : World) (s : Nat) (S p : Nat → Prop) (L : Nat) (a : Option Addr) (n c : Nat) (F : Nat → List (List Int)) : Prop :=
  (a = none ∧ n = 0 ∧ c = 0 ∧ (∀ t, F t = []) ∧ (∀ b, ¬ S b) ∧ ∀ b, ¬ p b) ∨ ∃ g, a = some ⟨g, 0, none⟩ ∧ n = L ∧ c = L ∧ GL w s S p g L F
theorem behind_v (w0 : World) (L : Nat) (S p : Nat → Prop) (F : Nat → List (List Int)) (a : Option Addr) (n c : Nat) (ao : Option Addr) (ca : Nat) (D : List (List (List Int))) (w : World) (G0 : GLV w w0.heap.size S p L a n c F) (hC : CubeAt w0 ao L D) (hB : Below w0.heap.size w0 w) (hm : L ≤ 4096) (hrl : ∀ R ∈ D, ∀ t, t < R.length → (rowOf R t).length ≤ 1048576) (hFl : ∀ t, t < L → (F t).length + (D.getD t []).length ≤ 4096) :
   Calls Tryz.prog 39 #[.slice a n c, .slice ao L ca] w fun e w' => ∃ g, e = .returned (.slice (some ⟨g, 0, none⟩) L L) ∧ ∃ S' p', GL w' w0.heap.size S' p' g L (fun t => F t ++ D.getD t []) ∧ (∀ b, S' b → S b ∨ w.heap.size ≤ b) ∧ (∀ b, p' b → p b ∨ w.heap.size ≤ b) ∧ (∀ b, b < w.heap.size → ¬ S b → w'.heap[b]? = w.heap[b]?) ∧ Below w0.heap.size w w' := by
  have hsw := hB.size
  rcases G0 with ⟨e1, e2, e3, h1, h2, h3⟩ | ⟨g, e1, e2, e3, G⟩
  · subst e1 e2 e3
    refine (behind_nil w0 none 0 ao L ca D w hC hB hm hrl (fun t ht => by have := hFl t ht; omega)).mono ?_
    rintro e w' ⟨g, rfl, S', p', G, q1, q2, BB⟩
    exact ⟨g, rfl, S', p', G.congr (fun t ht => by rw [h1 t]; rfl), fun b hb => Or.inr (q1 b hb), fun b hb => Or.inr (q2 b hb), fun b hb _ => BB.block b hb, BB.mono hsw⟩
  · rw [e1, e2, e3]
    clear e1 e2 e3
    rcases Nat.eq_zero_or_pos L with h0 | h0
    · rw [h0] at hC ⊢
      refine (behind_nil w0 _ 0 ao 0 ca D w hC hB (by omega) hrl (fun t ht => by omega)).mono ?_
      rintro e w' ⟨g2, rfl, S', p', G, q1, q2, BB⟩
      exact ⟨g2, rfl, S', p', G.congr (fun t ht => by omega), fun b hb => Or.inr (q1 b hb), fun b hb => Or.inr (q2 b hb), fun b hb _ => BB.block b hb, BB.mono hsw⟩
    · refine (behind_more w0 g L S p F ao ca D w G hC hB hm h0 hrl hFl).mono ?_
      rintro e w' ⟨rfl, S', p', G, q1, q2, q3, BB⟩
      exact ⟨g, rfl, S', p', G, q1, q2, q3, BB⟩
end Go.Proofs.YtcanjlofnpnhkaaGreatDoor

/- Package block: part and Split. -/
namespace Go.Proofs.YtcanjlofnpnhkaaGreatDoor
open Go.ChangeShapes Go.WideShapes Go.ChangeAt Go.RowKit
set_option maxRecDepth 100000 in
set_option maxHeartbeats 3200000 in
theorem pagePart_any (v : VwV) (X : Vw) (fr to' : Nat) (w : World) (hv : VwAt w v X) (h1 : fr < to') (h2 : to' ≤ X.T.length) (hT : X.T.length ≤ 4096) (hkl : X.K.length ≤ 4096) (hvl : X.V.length ≤ 4096) (hlk : ∀ R ∈ X.K, to' ≤ R.length ∧ ∀ t, t < R.length → (rowOf R t).length ≤ 1048576) (hlv : ∀ R ∈ X.V, to' ≤ R.length ∧ ∀ t, t < R.length → (rowOf R t).length ≤ 1048576) :
   Calls Tryz.prog 29 #[.agg v.cells, .int .i64 (fr : Int), .int .i64 (to' : Int)] w fun e w' => ∃ p : PgV, e = .returned (.agg p.cells) ∧ New w.heap.size w' (fun w => PgAt w p (pgOf X fr to')) ∧ Below w.heap.size w w' := by
  obtain ⟨⟨ta, tn, tz⟩, ⟨ka, kn, kz⟩, ⟨va, vn, vz⟩⟩ := v
  have hvt := hv.t
  have hvk := hv.k
  have hvv := hv.v
  simp only at hvt hvk hvv
  have et := hvt.row.len
  have ek := hvk.len
  have ev := hvv.len
  have hfit := hvt.fit
  have hsm : ∀ k, -9223372036854775808 ≤ el (X.T.take to') k ∧ el (X.T.take to') k ≤ 9223372036854775807 := fun k => by
    rcases Nat.lt_or_ge k to' with h | h
    · rw [el_take h]; exact hvt.row.small k
    · rw [el_over (by rw [List.length_take]; omega)]; omega
  have HT : Hid (∀ wv, Below w.heap.size w wv → IArg wv ta to' tz (X.T.take to')) := fun wv hb => (hvt.below hb).take (by omega)
  have HK : Hid (∀ wv, Below w.heap.size w wv → CubeAt wv ka kn X.K) := fun wv hb => hvk.below hb
  have HV : Hid (∀ wv, Below w.heap.size w wv → CubeAt wv va vn X.V) := fun wv hb => hvv.below hb
  rw [ek] at hkl
  rw [ev] at hvl
  rw [et] at h2 hT
  clear hv hvt hvk hvv et ek ev
  show Calls Tryz.prog 29 #[.agg #[.slice ta tn tz, .slice ka kn kz, .slice va vn vz], .int .i64 (fr : Int), .int .i64 (to' : Int)] w _
  have X0 := blk_new w 48 #[.slice ta tn tz, .slice ka kn kz, .slice va vn vz]
  have B0 : Below w.heap.size w (w.alloc (.cells #[.slice ta tn tz, .slice ka kn kz, .slice va vn vz] 48)) := (Below.refl _ _).alloc (Nat.le_refl _) _
  have s0 : (w.alloc (.cells #[.slice ta tn tz, .slice ka kn kz, .slice va vn vz] 48)).heap.size = w.heap.size + 1 := by simp
  generalize hw0 : w.alloc (.cells #[.slice ta tn tz, .slice ka kn kz, .slice va vn vz] 48) = w0 at *
  have X1 := blk_new w0 30 #[.slice none 0 0, .int .i64 0, .slice none 0 0, .slice none 0 0]
  have B1 : Below w0.heap.size w0 (w0.alloc (.cells #[.slice none 0 0, .int .i64 0, .slice none 0 0, .slice none 0 0] 30)) := (Below.refl _ _).alloc (Nat.le_refl _) _
  have s1 : (w0.alloc (.cells #[.slice none 0 0, .int .i64 0, .slice none 0 0, .slice none 0 0] 30)).heap.size = w0.heap.size + 1 := by simp
  rw [s0] at X1 s1
  generalize hw1 : w0.alloc (.cells #[.slice none 0 0, .int .i64 0, .slice none 0 0, .slice none 0 0] 30) = w1 at *
  replace X0 := X0.below B1
  replace B1 := below_then B0 B1
  go_enter Tryz.func29, Tryz.ntmps29
  go_upto_region 1 with fail
  clear hw0 hw1 s0 B0
  have S0 := X0.below ((Below.refl _ _).drew)
  have Y0 := X1.below ((Below.refl _ _).drew)
  have BD : Below w.heap.size w w1.drew := B1.drew
  refine wp_region_held_drew (S := fun w' => Blk w' w.heap.size 48 #[.slice ta tn tz, .slice ka kn kz, .slice va vn vz]) (by kernel_rfl) (S0) (fun hHeld => ?_)
  generalize hA : w1.drew = wA at *
  clear hA X0 X1
  refine wpAnyH_take (i := 0) (v := (.pointer (some ⟨w.heap.size, 0, none⟩))) rfl (by kernel_rfl) (by kernel_rfl) (by kernel_rfl) (fun _ _ _ h => h) (Or.inl ⟨by rfl, ?_⟩) (by assumption) ?_
  · intro w' hSw
    go_simp
  simp only [List.getElem_toArray, List.getElem_cons_zero, Act.put, List.setIfInBounds_toArray, List.set_cons_zero, List.set_cons_succ]
  refine wpAnyH_take (i := 1) (v := (.slice ta tn tz)) rfl (by kernel_rfl) (by kernel_rfl) (by kernel_rfl) (fun _ _ _ h => h) (Or.inl ⟨by rfl, ?_⟩) (by assumption) ?_
  · intro w' hSw
    have c0 : w'.cell? ⟨w.heap.size, 0, none⟩ = some (.slice ta tn tz) := hSw.cell 0 rfl
    go_simp
  simp only [List.getElem_toArray, List.getElem_cons_succ, List.getElem_cons_zero, Act.put, List.setIfInBounds_toArray, List.set_cons_zero, List.set_cons_succ]
  refine wpAnyH_take (i := 2) (v := (.int .i64 (to' : Int))) rfl (by kernel_rfl) (by kernel_rfl) (by kernel_rfl) (fun _ _ _ h => h) (Or.inl ⟨by rfl, ?_⟩) (by assumption) ?_
  · intro w' hSw
    go_simp
  simp only [List.getElem_toArray, List.getElem_cons_succ, List.getElem_cons_zero, Act.put, List.setIfInBounds_toArray, List.set_cons_zero, List.set_cons_succ]
  refine wpAnyH_take (i := 3) (v := (.slice ta to' tz)) rfl (by kernel_rfl) (by kernel_rfl) (by kernel_rfl) (fun _ _ _ h => h) (Or.inl ⟨by rfl, ?_⟩) (by assumption) ?_
  · intro w' hSw
    (go_simp; intro hbad; exfalso; omega)
  simp only [List.getElem_toArray, List.getElem_cons_succ, List.getElem_cons_zero, Act.put, List.setIfInBounds_toArray, List.set_cons_zero, List.set_cons_succ]
  refine wpAnyH_take (i := 5) (v := (.int .i64 (fr : Int))) rfl (by kernel_rfl) (by kernel_rfl) (by kernel_rfl) (fun _ _ _ h => h) (Or.inl ⟨by rfl, ?_⟩) (by assumption) ?_
  · intro w' hSw
    go_simp
  simp only [List.getElem_toArray, List.getElem_cons_succ, List.getElem_cons_zero, Act.put, List.setIfInBounds_toArray, List.set_cons_zero, List.set_cons_succ]
  refine wpAnyH_take (i := 6) (v := (.pointer (some ⟨w.heap.size, 1, none⟩))) rfl (by kernel_rfl) (by kernel_rfl) (by kernel_rfl) (fun _ _ _ h => h) (Or.inl ⟨by rfl, ?_⟩) (by assumption) ?_
  · intro w' hSw
    go_simp
  simp only [List.getElem_toArray, List.getElem_cons_succ, List.getElem_cons_zero, Act.put, List.setIfInBounds_toArray, List.set_cons_zero, List.set_cons_succ]
  refine wpAnyH_take (i := 7) (v := (.pointer (some ⟨w.heap.size, 1, none⟩))) rfl (by kernel_rfl) (by kernel_rfl) (by kernel_rfl) (fun _ _ _ h => h) (Or.inl ⟨by rfl, ?_⟩) (by assumption) ?_
  · intro w' hSw
    go_simp
  simp only [List.getElem_toArray, List.getElem_cons_succ, List.getElem_cons_zero, Act.put, List.setIfInBounds_toArray, List.set_cons_zero, List.set_cons_succ]
  refine wpAnyH_take (i := 8) (v := (.slice ka kn kz)) rfl (by kernel_rfl) (by kernel_rfl) (by kernel_rfl) (fun _ _ _ h => h) (Or.inl ⟨by rfl, ?_⟩) (by assumption) ?_
  · intro w' hSw
    have c1 : w'.cell? ⟨w.heap.size, 1, none⟩ = some (.slice ka kn kz) := hSw.cell 1 rfl
    go_simp
  simp only [List.getElem_toArray, List.getElem_cons_succ, List.getElem_cons_zero, Act.put, List.setIfInBounds_toArray, List.set_cons_zero, List.set_cons_succ]
  refine wpAnyH_take (i := 9) (v := (.int .i64 (fr : Int))) rfl (by kernel_rfl) (by kernel_rfl) (by kernel_rfl) (fun _ _ _ h => h) (Or.inl ⟨by rfl, ?_⟩) (by assumption) ?_
  · intro w' hSw
    go_simp
  simp only [List.getElem_toArray, List.getElem_cons_succ, List.getElem_cons_zero, Act.put, List.setIfInBounds_toArray, List.set_cons_zero, List.set_cons_succ]
  refine wpAnyH_take (i := 10) (v := (.int .i64 (to' : Int))) rfl (by kernel_rfl) (by kernel_rfl) (by kernel_rfl) (fun _ _ _ h => h) (Or.inl ⟨by rfl, ?_⟩) (by assumption) ?_
  · intro w' hSw
    go_simp
  simp only [List.getElem_toArray, List.getElem_cons_succ, List.getElem_cons_zero, Act.put, List.setIfInBounds_toArray, List.set_cons_zero, List.set_cons_succ]
  refine wpAnyH_take (i := 12) (v := (.pointer (some ⟨w.heap.size, 1, none⟩))) rfl (by kernel_rfl) (by kernel_rfl) (by kernel_rfl) (fun _ _ _ h => h) (Or.inl ⟨by rfl, ?_⟩) (by assumption) ?_
  · intro w' hSw
    go_simp
  simp only [List.getElem_toArray, List.getElem_cons_succ, List.getElem_cons_zero, Act.put, List.setIfInBounds_toArray, List.set_cons_zero, List.set_cons_succ]
  refine wpAnyH_take (i := 13) (v := (.pointer (some ⟨w.heap.size, 2, none⟩))) rfl (by kernel_rfl) (by kernel_rfl) (by kernel_rfl) (fun _ _ _ h => h) (Or.inl ⟨by rfl, ?_⟩) (by assumption) ?_
  · intro w' hSw
    go_simp
  simp only [List.getElem_toArray, List.getElem_cons_succ, List.getElem_cons_zero, Act.put, List.setIfInBounds_toArray, List.set_cons_zero, List.set_cons_succ]
  refine wpAnyH_take (i := 14) (v := (.slice va vn vz)) rfl (by kernel_rfl) (by kernel_rfl) (by kernel_rfl) (fun _ _ _ h => h) (Or.inl ⟨by rfl, ?_⟩) (by assumption) ?_
  · intro w' hSw
    have c2 : w'.cell? ⟨w.heap.size, 2, none⟩ = some (.slice va vn vz) := hSw.cell 2 rfl
    go_simp
  simp only [List.getElem_toArray, List.getElem_cons_succ, List.getElem_cons_zero, Act.put, List.setIfInBounds_toArray, List.set_cons_zero, List.set_cons_succ]
  refine wpAnyH_take (i := 15) (v := (.int .i64 (fr : Int))) rfl (by kernel_rfl) (by kernel_rfl) (by kernel_rfl) (fun _ _ _ h => h) (Or.inl ⟨by rfl, ?_⟩) (by assumption) ?_
  · intro w' hSw
    go_simp
  simp only [List.getElem_toArray, List.getElem_cons_succ, List.getElem_cons_zero, Act.put, List.setIfInBounds_toArray, List.set_cons_zero, List.set_cons_succ]
  refine wpAnyH_take (i := 16) (v := (.int .i64 (to' : Int))) rfl (by kernel_rfl) (by kernel_rfl) (by kernel_rfl) (fun _ _ _ h => h) (Or.inl ⟨by rfl, ?_⟩) (by assumption) ?_
  · intro w' hSw
    go_simp
  simp only [List.getElem_toArray, List.getElem_cons_succ, List.getElem_cons_zero, Act.put, List.setIfInBounds_toArray, List.set_cons_zero, List.set_cons_succ]
  refine wpAnyH_ready (rs := [4]) (by kernel_rfl) (by simp) ?_
  refine AllReadyH.cons rfl (fun Kc hKc => ?_) AllReadyH.nil
  simp only [List.getElem_toArray, List.getElem_cons_succ, List.getElem_cons_zero]
  rw [if_pos (by rfl)]
  go_wp2_with fail
  refine (iclone_any ta to' tz _ wA (HT.out wA BD) (by omega)).mono ?_
  rintro e w2 ⟨tv, rfl, O2, B2⟩
  have S2 := S0.below B2
  have Y2 := Y0.below B2
  have D2 := below_then BD B2
  go_wp2_with fail
  refine hKc.out _ _ (S2) (fun hHeld => ?_)
  clear hKc Kc
  refine wpAnyH_ready (rs := [11]) (by kernel_rfl) (by simp) ?_
  refine AllReadyH.cons rfl (fun Kc hKc => ?_) AllReadyH.nil
  simp only [List.getElem_toArray, List.getElem_cons_succ, List.getElem_cons_zero]
  rw [if_pos (by rfl)]
  go_wp2_with fail
  refine (rowsOf_any ka kn kz _ fr to' w2 (HK.out w2 D2) hkl h1 (by omega) hlk).mono ?_
  rintro e w3 ⟨gk, rfl, N3, B3⟩
  have S3 := S2.below B3
  have Y3 := Y2.below B3
  have D3 := below_then D2 B3
  go_wp2_with fail
  refine hKc.out _ _ (S3) (fun hHeld => ?_)
  clear hKc Kc
  refine wpAnyH_ready (rs := [17]) (by kernel_rfl) (by simp) ?_
  refine AllReadyH.cons rfl (fun Kc hKc => ?_) AllReadyH.nil
  simp only [List.getElem_toArray, List.getElem_cons_succ, List.getElem_cons_zero]
  rw [if_pos (by rfl)]
  go_wp2_with fail
  refine (rowsOf_any va vn vz _ fr to' w3 (HV.out w3 D3) hvl h1 (by omega) hlv).mono ?_
  rintro e w4 ⟨gv, rfl, N4, B4⟩
  have S4 := S3.below B4
  have Y4 := Y3.below B4
  have D4 := below_then D3 B4
  go_wp2_with fail
  refine hKc.out _ _ (S4) (fun hHeld => ?_)
  clear hKc Kc
  obtain ⟨ta2, tz2, rfl, _⟩ := IOwn.arg O2 hsm
  have NT : Hangs (fun b => wA.heap.size ≤ b) w2 (fun w => IArg w ta2 to' tz2 (X.T.take to')) := fun wv hv => by
    have O5 : IOwn wv wA.heap.size (.slice ta2 to' tz2) to' (X.T.take to') := owns_mono O2 (Nat.le_refl _) (fun b hb => hv b (O2.lt b hb).1 (O2.lt b hb).2)
    obtain ⟨x5, y5, e5, A5⟩ := IOwn.arg O5 hsm
    simp only [Value.slice.injEq, true_and] at e5
    obtain ⟨rfl, rfl⟩ := e5
    exact A5
  refine wpAnyH_take (i := 18) (v := (.agg #[.slice (some ⟨gk, 0, none⟩) kn kn, .slice (some ⟨gv, 0, none⟩) vn vn])) rfl (by kernel_rfl) (by kernel_rfl) (by kernel_rfl) (fun _ _ _ h => h) (Or.inl ⟨by rfl, ?_⟩) (by assumption) ?_
  · intro w' hSw
    go_simp
  simp only [List.getElem_toArray, List.getElem_cons_succ, List.getElem_cons_zero, Act.put, List.setIfInBounds_toArray, List.set_cons_zero, List.set_cons_succ]
  refine wpAnyH_take (i := 19) (v := (.agg #[.slice ta2 to' tz2, .int .i64 (fr : Int), .slice (some ⟨gk, 0, none⟩) kn kn, .slice (some ⟨gv, 0, none⟩) vn vn])) rfl (by kernel_rfl) (by kernel_rfl) (by kernel_rfl) (fun _ _ _ h => h) (Or.inl ⟨by rfl, ?_⟩) (by assumption) ?_
  · intro w' hSw
    go_simp
  simp only [List.getElem_toArray, List.getElem_cons_succ, List.getElem_cons_zero, Act.put, List.setIfInBounds_toArray, List.set_cons_zero, List.set_cons_succ]
  refine wpAnyH_ready (rs := [20]) (by kernel_rfl) (by simp) ?_
  refine AllReadyH.cons rfl (fun Kc hKc => ?_) AllReadyH.nil
  simp only [List.getElem_toArray, List.getElem_cons_succ, List.getElem_cons_zero]
  rw [if_pos (by rfl)]
  refine wp_store_row 30 _ _ rfl (w.heap.size + 1) #[.slice ta2 to' tz2, .int .i64 (fr : Int), .slice (some ⟨gk, 0, none⟩) kn kn, .slice (some ⟨gv, 0, none⟩) vn vn] rfl rfl 30 _ Y4 Tryz.infoPg rfl (by simp [Value.oneCell']) ?_
  refine hKc.out _ _ (Blk.of_block S4 (setRow_other _ _ _ _ (by omega))) (fun hHeld => ?_)
  clear hKc Kc
  refine wpAnyH_done (by kernel_rfl) ?_ _
  go_wp2_with fail
  refine bodyPost_ret (results_cB rfl _ _ (w.heap.size + 1) _ rfl (load_pg (Y4.row _) rfl)) rfl ?_
  have sA := BD.size
  have hs1 : w.heap.size + 2 ≤ wA.heap.size := by have := Y0.lt; omega
  refine ⟨⟨⟨ta2, to', tz2⟩, fr, ⟨some ⟨gk, 0, none⟩, kn, kn⟩, ⟨some ⟨gv, 0, none⟩, vn, vn⟩⟩, rfl, ?_, below_setRow D4 (by omega) _⟩
  have HTT : New w.heap.size (w4.setRow (w.heap.size + 1) _) (fun w => IArg w ta2 to' tz2 (X.T.take to')) := Hangs.mono (Hangs.row ((NT.below B3).below B4) (g := w.heap.size + 1) (by show ¬ (_ ≤ _); omega) #[.slice ta2 to' tz2, .int .i64 (fr : Int), .slice (some ⟨gk, 0, none⟩) kn kn, .slice (some ⟨gv, 0, none⟩) vn vn]) fun b _ h => by show w.heap.size ≤ b; have : wA.heap.size ≤ b := h; omega
  have HKK := Hangs.mono (Hangs.row (N3.below B4) (g := w.heap.size + 1) (by show ¬ (_ ≤ _); have := B2.size; omega) #[.slice ta2 to' tz2, .int .i64 (fr : Int), .slice (some ⟨gk, 0, none⟩) kn kn, .slice (some ⟨gv, 0, none⟩) vn vn]) (q := fun b => w.heap.size ≤ b) fun b _ h => by have : w2.heap.size ≤ b := h; have := D2.size; omega
  have HVV := Hangs.mono (Hangs.row N4 (g := w.heap.size + 1) (by show ¬ (_ ≤ _); have := D3.size; have := B2.size; have := B3.size; omega) #[.slice ta2 to' tz2, .int .i64 (fr : Int), .slice (some ⟨gk, 0, none⟩) kn kn, .slice (some ⟨gv, 0, none⟩) vn vn]) (q := fun b => w.heap.size ≤ b) fun b _ h => by have : w3.heap.size ≤ b := h; have := D3.size; omega
  exact fun w9 h9 => ⟨HTT w9 h9, rfl, HKK w9 h9, HVV w9 h9⟩
/-- The pages of a view. -/
def pagesOf (X : Vw) (page : Nat) : Nat → List Pg
  | 0 => []
  | k + 1 => pagesOf X page k ++ [pgOf X (k * page) (min ((k + 1) * page) X.T.length)]
theorem pagesOf_len (X : Vw) (page : Nat) : ∀ k, (pagesOf X page k).length = k
  | 0 => rfl
  | k + 1 => by show (pagesOf X page k ++ [_]).length = _; rw [List.length_append, pagesOf_len X page k]; rfl
theorem pagesOf_at (X : Vw) (page : Nat) : ∀ k t, t < k → (pagesOf X page k)[t]? = some (pgOf X (t * page) (min ((t + 1) * page) X.T.length))
  | 0, t, h => by omega
  | k + 1, t, h => by
    show (pagesOf X page k ++ [_])[t]? = _
    rcases Nat.lt_or_ge t k with h1 | h1
    · rw [List.getElem?_append_left (by rw [pagesOf_len]; exact h1)]
      exact pagesOf_at X page k t h1
    · obtain rfl : t = k := by omega
      rw [List.getElem?_append_right (by rw [pagesOf_len]; exact Nat.le_refl _), pagesOf_len, Nat.sub_self]
      rfl
/-- How many pages there are. -/
def pageN (n page : Nat) : Nat := (n + page - 1) / page
theorem pageN_lt {n page k : Nat} (hp : 1 ≤ page) : k * page < n ↔ k < pageN n page := by
  unfold pageN
  rw [Nat.lt_div_iff_mul_lt hp]
  omega
set_option maxRecDepth 100000 in
set_option maxHeartbeats 3200000 in
theorem split_any (Vo : Int) (D : Nat) (Hd H : Int) (L : Nat) (v : VwV) (X : Vw) (page : Nat) (w : World) (hv : VwAt w v X) (hf : VwFit Vo D L X) (hD : D ≤ 4096) (hL : L ≤ 4096) (hp1 : 1 ≤ page) (hp2 : page ≤ 16) :
   Calls Tryz.prog 10 #[.agg (cfgC Vo D Hd H L), .agg v.cells, .int .i64 (page : Int)] w fun e w' => ∃ a c, e = .returned (.tuple #[.slice a (pageN X.T.length page) c, .int .i64 0]) ∧ New w.heap.size w' (fun w => PgsAt w ⟨a, pageN X.T.length page, c⟩ (pagesOf X page (pageN X.T.length page))) ∧ Below w.heap.size w w' := by
  have hm := hf.most
  have hkl : X.K.length ≤ 4096 := by rw [hf.k]; split <;> omega
  have hvl : X.V.length ≤ 4096 := by rw [hf.v]; split <;> omega
  have hks := hf.ks
  have hvs := hf.vs
  have CF := fun (wv : World) (hb : Below w.heap.size w wv) => sfits_ok Vo D Hd H L v X wv (hv.below hb) hf hD
  have CP := fun (wv : World) (fr to' : Nat) (hb : Below w.heap.size w wv) (h1 : fr < to') (h2 : to' ≤ X.T.length) => pagePart_any v X fr to' wv (hv.below hb) h1 h2 (by omega) hkl hvl (fun R hR => ⟨by rw [(hks R hR).1]; exact h2, fun t ht => by rw [(hks R hR).2 t (by rw [← (hks R hR).1]; exact ht)]; omega⟩) (fun R hR => ⟨by rw [(hvs R hR).1]; exact h2, fun t ht => by rw [(hvs R hR).2 t (by rw [← (hvs R hR).1]; exact ht)]; omega⟩)
  obtain ⟨⟨ta, tn, tz⟩, ⟨ka, kn, kz⟩, ⟨va, vn, vz⟩⟩ := v
  have et := hv.t.row.len
  simp only at et
  clear hv hf hks hvs
  unfold VwV.cells Sl.v at CF CP ⊢
  unfold cfgC at CF ⊢
  simp only at CF CP ⊢
  obtain ⟨NP, hNP⟩ : ∃ NP, pageN X.T.length page = NP := ⟨_, rfl⟩
  have HLT : Hid (∀ k, k * page < tn ↔ k < NP) := fun k => by rw [← et, ← hNP]; exact pageN_lt hp1
  have HET : Hid (X.T.length = tn) := et
  have hNP2 : NP ≤ 128 := by have := HLT.out 128; omega
  rw [hNP]
  rw [et] at hm
  clear hNP et
  have X0 := blk_new w 23 #[.int .i64 Vo, .int .i64 (D : Int), .int .i64 Hd, .int .i64 H, .int .i64 (L : Int)]
  have B0 : Below w.heap.size w (w.alloc (.cells #[.int .i64 Vo, .int .i64 (D : Int), .int .i64 Hd, .int .i64 H, .int .i64 (L : Int)] 23)) := (Below.refl _ _).alloc (Nat.le_refl _) _
  have s0 : (w.alloc (.cells #[.int .i64 Vo, .int .i64 (D : Int), .int .i64 Hd, .int .i64 H, .int .i64 (L : Int)] 23)).heap.size = w.heap.size + 1 := by simp
  generalize hw0 : w.alloc (.cells #[.int .i64 Vo, .int .i64 (D : Int), .int .i64 Hd, .int .i64 H, .int .i64 (L : Int)] 23) = w0 at *
  have X1 := blk_new w0 48 #[.slice ta tn tz, .slice ka kn kz, .slice va vn vz]
  have B1 : Below w0.heap.size w0 (w0.alloc (.cells #[.slice ta tn tz, .slice ka kn kz, .slice va vn vz] 48)) := (Below.refl _ _).alloc (Nat.le_refl _) _
  have s1 : (w0.alloc (.cells #[.slice ta tn tz, .slice ka kn kz, .slice va vn vz] 48)).heap.size = w0.heap.size + 1 := by simp
  rw [s0] at X1 s1
  generalize hw1 : w0.alloc (.cells #[.slice ta tn tz, .slice ka kn kz, .slice va vn vz] 48) = w1 at *
  replace X0 := X0.below B1
  replace B1 := below_then B0 B1
  have hsz : w.heap.size + 2 ≤ w1.heap.size := by omega
  have a0 : w1.cell? ⟨w.heap.size, 0, none⟩ = some (.int .i64 Vo) := X0.cell 0 rfl
  have a1 : w1.cell? ⟨w.heap.size, 1, none⟩ = some (.int .i64 (D : Int)) := X0.cell 1 rfl
  have a2 : w1.cell? ⟨w.heap.size, 2, none⟩ = some (.int .i64 Hd) := X0.cell 2 rfl
  have a3 : w1.cell? ⟨w.heap.size, 3, none⟩ = some (.int .i64 H) := X0.cell 3 rfl
  have a4 : w1.cell? ⟨w.heap.size, 4, none⟩ = some (.int .i64 (L : Int)) := X0.cell 4 rfl
  have b0 : w1.cell? ⟨w.heap.size + 1, 0, none⟩ = some (.slice ta tn tz) := X1.cell 0 rfl
  have b1 : w1.cell? ⟨w.heap.size + 1, 1, none⟩ = some (.slice ka kn kz) := X1.cell 1 rfl
  have b2 : w1.cell? ⟨w.heap.size + 1, 2, none⟩ = some (.slice va vn vz) := X1.cell 2 rfl
  go_enter Tryz.func10, Tryz.ntmps10
  go_wp2_with fail
  refine (CF _ B1).mono ?_
  rintro e w2 ⟨rfl, B2⟩
  have D2 := below_then B1 B2
  replace X1 := X1.below B2
  have hsz2 := B2.size
  clear hw0 hw1 a0 a1 a2 a3 a4 b0 b1 b2 CF s0 s1 B0 B1 B2 X0
  go_upto_region 7 with fail
  go_loopg [8, 9] (NP + 1) (fun r s8 s9 wr => ∃ (k : Nat) (u : Value), k ≤ NP ∧ r = NP - k + 1 ∧ s9 = .int .i64 ((k * page : Nat) : Int) ∧ s8 = u ∧ OwnPg wr w2.heap.size w2.heap.size u (pagesOf X page k) ∧ Blk wr (w.heap.size + 1) 48 #[.slice ta tn tz, .slice ka kn kz, .slice va vn vz] ∧ Below w2.heap.size w2 wr)
  case atStart => exact ⟨0, _, by omega, by omega, by simp, rfl, ownPg_nil _ _ _, X1, Below.refl _ _⟩
  case round =>
    clear X1
    obtain ⟨k, u, hk, rfl, rfl, hu, OP, X1, BB⟩ := hrel
    have hu2 := hu.symm
    subst hu2
    clear hu
    have b0 : wr.cell? ⟨w.heap.size + 1, 0, none⟩ = some (.slice ta tn tz) := X1.cell 0 rfl
    have b1 : wr.cell? ⟨w.heap.size + 1, 1, none⟩ = some (.slice ka kn kz) := X1.cell 1 rfl
    have b2 : wr.cell? ⟨w.heap.size + 1, 2, none⟩ = some (.slice va vn vz) := X1.cell 2 rfl
    by_cases hlt : k * page < tn
    · have hkN := (HLT.out k).1 hlt
      have hkp : (k + 1) * page = k * page + page := Nat.succ_mul k page
      obtain ⟨t2, ht2⟩ : ∃ t2, min ((k + 1) * page) tn = t2 := ⟨_, rfl⟩
      have HPG : Hid (pagesOf X page (k + 1) = pagesOf X page k ++ [pgOf X (k * page) t2]) := by
        show pagesOf X page k ++ [pgOf X (k * page) (min ((k + 1) * page) X.T.length)] = _
        rw [HET.out, ht2]
      obtain ⟨fr, hfr⟩ : ∃ fr, k * page = fr := ⟨_, rfl⟩
      have HFR : Hid ((k + 1) * page = fr + page) := by show _ = _; omega
      rw [hfr] at hlt
      have ht3 : t2 = min (fr + page) tn := by rw [← ht2]; omega
      have HKP : Hid (pagesOf X page k ++ [pgOf X (k * page) t2] = pagesOf X page k ++ [pgOf X fr t2]) := by
        show _ = _
        rw [hfr]
      simp only [hfr]
      have DW := below_then D2 BB
      have CC := CP wr fr t2 DW (by omega) (by rw [HET.out]; omega)
      have hsr := BB.size
      have w9 : IntKind.i64.wrap ((fr : Int) + (page : Int)) = (fr : Int) + (page : Int) := wrap_in (by omega)
      clear hkp ht2 hfr
      have hkk : (pagesOf X page k).length = k := pagesOf_len X page k
      by_cases hmn : (((fr + page : Nat)) : Int) ≤ (tn : Int)
      · obtain rfl : t2 = fr + page := by omega
        clear ht3
        go_wp2_with fail
        refine CC.mono ?_
        rintro e w3 ⟨⟨⟨p1, p2, p3⟩, pf, ⟨p4, p5, p6⟩, ⟨p7, p8, p9⟩⟩, rfl, NP3, B3⟩
        rw [show PgV.cells ⟨⟨p1, p2, p3⟩, pf, ⟨p4, p5, p6⟩, ⟨p7, p8, p9⟩⟩ = #[.slice p1 p2 p3, .int .i64 pf, .slice p4 p5 p6, .slice p7 p8 p9] from rfl]
        have O3 := OP.below B3
        have BA : Below w3.heap.size w3 (w3.alloc (.cells #[.slice p1 p2 p3, .int .i64 pf, .slice p4 p5 p6, .slice p7 p8 p9] 30)) := (Below.refl _ _).alloc (Nat.le_refl _) _
        have CN := blk_new w3 30 #[.slice p1 p2 p3, .int .i64 pf, .slice p4 p5 p6, .slice p7 p8 p9]
        generalize hw4 : w3.alloc (.cells #[.slice p1 p2 p3, .int .i64 pf, .slice p4 p5 p6, .slice p7 p8 p9] 30) = w4 at *
        have O4 := O3.below BA
        have H4 : Hangs (offV w2.heap.size u) w4 (fun w => PgAt w ⟨⟨p1, p2, p3⟩, pf, ⟨p4, p5, p6⟩, ⟨p7, p8, p9⟩⟩ (pgOf X fr (fr + page))) := Hangs.mono (NP3.below BA) fun b _ h => by
          have h' : wr.heap.size ≤ b := h
          refine ⟨by omega, fun e => ?_⟩
          have := (OP.lt e).2
          omega
        have hs3 := B3.size
        have hs4 := BA.size
        clear CC b0 b1 b2 OP O3 NP3
        go_wp2_with (at_builtin; refine wpList_append_pg rfl _ _ rfl w2.heap.size w2.heap.size u (pagesOf X page k) k hkk rfl (by exact O4) w3.heap.size ⟨⟨p1, p2, p3⟩, pf, ⟨p4, p5, p6⟩, ⟨p7, p8, p9⟩⟩ (pgOf X fr (fr + page)) rfl (by exact CN) (by exact H4) (by omega) (by omega) ?_; intro ea ec w5 O5 G5 N5)
        go_roundg (NP - (k + 1) + 1)
        case measure => omega
        case rel =>
          have B5 : Below w2.heap.size w2 w5 := ((BB.trans (B3.mono hsr)).trans (BA.mono (by omega))).grown G5 (by omega) (fun g e => (O4.lt e).1)
          refine ⟨k + 1, _, by omega, by omega, ?_, rfl, ?_, ?_, B5⟩
          · rw [HFR.out]; first | rfl | (simp; done) | (congr 1; omega)
          · rw [HPG.out, HKP.out]; exact O5
          · refine ((X1.below B3).below BA).of_block (G5.block _ (Nat.lt_of_lt_of_le X1.lt (by omega)) (fun e => ?_))
            have := (O4.lt e.symm).1
            omega
      · obtain rfl : tn = t2 := by omega
        clear ht3
        go_wp2_with fail
        refine CC.mono ?_
        rintro e w3 ⟨⟨⟨p1, p2, p3⟩, pf, ⟨p4, p5, p6⟩, ⟨p7, p8, p9⟩⟩, rfl, NP3, B3⟩
        rw [show PgV.cells ⟨⟨p1, p2, p3⟩, pf, ⟨p4, p5, p6⟩, ⟨p7, p8, p9⟩⟩ = #[.slice p1 p2 p3, .int .i64 pf, .slice p4 p5 p6, .slice p7 p8 p9] from rfl]
        have O3 := OP.below B3
        have BA : Below w3.heap.size w3 (w3.alloc (.cells #[.slice p1 p2 p3, .int .i64 pf, .slice p4 p5 p6, .slice p7 p8 p9] 30)) := (Below.refl _ _).alloc (Nat.le_refl _) _
        have CN := blk_new w3 30 #[.slice p1 p2 p3, .int .i64 pf, .slice p4 p5 p6, .slice p7 p8 p9]
        generalize hw4 : w3.alloc (.cells #[.slice p1 p2 p3, .int .i64 pf, .slice p4 p5 p6, .slice p7 p8 p9] 30) = w4 at *
        have O4 := O3.below BA
        have H4 : Hangs (offV w2.heap.size u) w4 (fun w => PgAt w ⟨⟨p1, p2, p3⟩, pf, ⟨p4, p5, p6⟩, ⟨p7, p8, p9⟩⟩ (pgOf X fr tn)) := Hangs.mono (NP3.below BA) fun b _ h => by
          have h' : wr.heap.size ≤ b := h
          refine ⟨by omega, fun e => ?_⟩
          have := (OP.lt e).2
          omega
        have hs3 := B3.size
        have hs4 := BA.size
        clear CC b0 b1 b2 OP O3 NP3
        go_wp2_with (at_builtin; refine wpList_append_pg rfl _ _ rfl w2.heap.size w2.heap.size u (pagesOf X page k) k hkk rfl (by exact O4) w3.heap.size ⟨⟨p1, p2, p3⟩, pf, ⟨p4, p5, p6⟩, ⟨p7, p8, p9⟩⟩ (pgOf X fr tn) rfl (by exact CN) (by exact H4) (by omega) (by omega) ?_; intro ea ec w5 O5 G5 N5)
        go_roundg (NP - (k + 1) + 1)
        case measure => omega
        case rel =>
          have B5 : Below w2.heap.size w2 w5 := ((BB.trans (B3.mono hsr)).trans (BA.mono (by omega))).grown G5 (by omega) (fun g e => (O4.lt e).1)
          refine ⟨k + 1, _, by omega, by omega, ?_, rfl, ?_, ?_, B5⟩
          · rw [HFR.out]; first | rfl | (simp; done) | (congr 1; omega)
          · rw [HPG.out, HKP.out]; exact O5
          · refine ((X1.below B3).below BA).of_block (G5.block _ (Nat.lt_of_lt_of_le X1.lt (by omega)) (fun e => ?_))
            have := (O4.lt e.symm).1
            omega
    · have hkN : k = NP := by
        rcases Nat.lt_or_ge k NP with h | h
        · exact absurd ((HLT.out k).2 h) hlt
        · omega
      have hlt' : (tn : Int) ≤ ((k * page : Nat) : Int) := by omega
      generalize k * page = fr at *
      obtain ⟨a, c, e9⟩ := OP.form
      rw [pagesOf_len] at e9
      subst e9
      go_wp2_with fail
      go_ret2
      subst hkN
      exact ⟨a, c, rfl, New.mono (OP.new (by omega) (Nat.le_refl _)) D2.size, below_then D2 BB⟩
end Go.Proofs.YtcanjlofnpnhkaaGreatDoor

/- A made model as numbers that fit, and what becomes of them where one row is of another length. -/
namespace Go.Proofs.YtcanjlofnpnhkaaGreatDoor
open Go.ChangeShapes Go.WideShapes Go.ChangeAt Go.RowKit
def rs (g n : Nat) : Sl := ⟨some ⟨g, 0, none⟩, n, n⟩
def mkB (D H f q k v o s u d : Nat) : Bk := ⟨rs f D, ⟨D, D, rs q (D * D)⟩, ⟨D, D, rs k (D * D)⟩, ⟨D, D, rs v (D * D)⟩, ⟨D, D, rs o (D * D)⟩, rs s D, ⟨H, D, rs u (H * D)⟩, ⟨D, H, rs d (D * H)⟩⟩
theorem mkB_cells (D H f q k v o s u d : Nat) : (mkB D H f q k v o s u d).cells = madeB D H f q k v o s u d := rfl
def mkW (V D L ge gB gl go : Nat) : Wt := ⟨⟨V, D, rs ge (V * D)⟩, rs gB L, rs gl D, ⟨V, D, rs go (V * D)⟩⟩
theorem mkW_cells (V D L ge gB gl go : Nat) : (mkW V D L ge gB gl go).cells = wCells V D (rv ge (V * D)) (rv gB L) (rv gl D) (rv go (V * D)) V D := rfl
theorem i64_nat {n : Nat} (h : n ≤ 4096) : I64 (n : Int) := by unfold I64; omega
theorem mkB_ok {D H f q k v o s u d : Nat} (h1 : D ≤ 4096) (h2 : H ≤ 4096) : (mkB D H f q k v o s u d).Ok :=
  ⟨by show D ≤ _; omega, ⟨i64_nat h1, i64_nat h1⟩, ⟨i64_nat h1, i64_nat h1⟩, ⟨i64_nat h1, i64_nat h1⟩, ⟨i64_nat h1, i64_nat h1⟩, by show D ≤ _; omega, ⟨i64_nat h2, i64_nat h1⟩, ⟨i64_nat h1, i64_nat h2⟩⟩
theorem mkW_ok {V D L ge gB gl go : Nat} (h1 : V ≤ 4096) (h2 : D ≤ 4096) : (mkW V D L ge gB gl go).Ok := ⟨⟨i64_nat h1, i64_nat h2⟩, by show D ≤ _; omega, ⟨i64_nat h1, i64_nat h2⟩⟩
theorem sides_yes {r c : Nat} (g : Nat) (h1 : 1 ≤ r) (h2 : r ≤ 128) (h3 : 1 ≤ c) (h4 : c ≤ 128) : sidesB ⟨r, c, rs g (r * c)⟩ r c = true := by
  unfold sidesB
  rw [decide_eq_true ⟨chk_ok h1 h2 h3 h4 rfl, rfl, rfl⟩]
theorem sides_no {r c : Nat} (s : Sl) (R K : Int) (h : s.n ≠ r * c) : sidesB ⟨r, c, s⟩ R K = false := by
  unfold sidesB
  refine decide_eq_false fun hh => ?_
  obtain ⟨r', c', e1, e2, _, _, _, _, e3⟩ := chk_zero hh.1
  simp only at e1 e2 e3
  obtain rfl : r = r' := by omega
  obtain rfl : c = c' := by omega
  exact h e3
theorem mkB_fits {D H f q k v o s u d : Nat} (h1 : 1 ≤ D) (h2 : D ≤ 128) (h3 : 1 ≤ H) (h4 : H ≤ 128) : bkB D H (mkB D H f q k v o s u d) = true := by
  unfold bkB mkB
  simp only [rs]
  have e1 := fun g => sides_yes (r := D) (c := D) g h1 h2 h1 h2
  have e2 := sides_yes (r := H) (c := D) u h3 h4 h1 h2
  have e3 := sides_yes (r := D) (c := H) d h1 h2 h3 h4
  unfold rs at e1 e2 e3
  rw [e1, e1, e1, e1, e2, e3]
  simp
/-- A made model's layers. -/
structure MadeL (w : World) (B seed i0 gB D H L : Nat) (bs : List Bk) : Prop where
  len : bs.length = L
  at_ : ∀ (t : Nat) (x : Bk), bs[t]? = some x → w.rangeAt gB (t * 20) x.cells.toList ∧ ∃ f q k v o s u d, x = mkB D H f q k v o s u d ∧ MadeB w B seed (i0 + t * lenB D H) D H f q k v o s u d
theorem madeL_of {w : World} {B seed i0 gB D H : Nat} : ∀ (L : Nat), (∀ j, j < L → ∃ f q k v o s u d, w.rangeAt gB (j * 20) (madeB D H f q k v o s u d).toList ∧ MadeB w B seed (i0 + j * lenB D H) D H f q k v o s u d) → ∃ bs, MadeL w B seed i0 gB D H L bs
  | 0, _ => ⟨[], rfl, fun t x h => by simp at h⟩
  | L + 1, h => by
    obtain ⟨bs, hl, ha⟩ := madeL_of L (fun j hj => h j (by omega))
    obtain ⟨f, q, k, v, o, s, u, d, hr, hm⟩ := h L (by omega)
    refine ⟨bs ++ [mkB D H f q k v o s u d], by simp [hl], fun t x hx => ?_⟩
    rcases Nat.lt_or_ge t L with h1 | h1
    · rw [List.getElem?_append_left (by omega)] at hx
      exact ha t x hx
    · rw [List.getElem?_append_right (by omega)] at hx
      have ht : t - bs.length = 0 := by
        rcases Nat.eq_zero_or_pos (t - bs.length) with h2 | h2
        · exact h2
        · rw [List.getElem?_eq_none (by simp; omega)] at hx; cases hx
      rw [ht] at hx
      simp at hx
      subst hx
      obtain rfl : t = L := by omega
      exact ⟨hr, f, q, k, v, o, s, u, d, rfl, hm⟩
theorem MadeL.blocks {w : World} {B seed i0 gB D H L : Nat} {bs : List Bk} (h : MadeL w B seed i0 gB D H L bs) (hL : L ≤ 4) (h1 : D ≤ 4096) (h2 : H ≤ 4096) : BlocksAt w (rs gB L) bs :=
  ⟨h.len, by show L ≤ _; omega, fun x hx => by
    obtain ⟨t, ht⟩ := List.mem_iff_getElem?.1 hx
    obtain ⟨_, f, q, k, v, o, s, u, d, rfl, _⟩ := h.at_ t x ht
    exact mkB_ok h1 h2, fun _ => ⟨gB, 0, rfl, fun t x hx => by rw [Nat.zero_add]; exact (h.at_ t x hx).1⟩⟩
theorem MadeL.below {w w' : World} {B seed i0 gB D H L : Nat} {bs : List Bk} (h : MadeL w B seed i0 gB D H L bs) (hg : gB < w.heap.size) (hb : Below w.heap.size w w') : MadeL w' B seed i0 gB D H L bs :=
  ⟨h.len, fun t x hx => by
    obtain ⟨r, f, q, k, v, o, s, u, d, e, m⟩ := h.at_ t x hx
    exact ⟨rangeAt_block r (hb.block gB hg), f, q, k, v, o, s, u, d, e, m.of (Nat.le_refl _) (fun F => hb.block _ F.lt)⟩⟩
/-- A made model fits. -/
theorem made_fits {w : World} {C : Cfg} {B seed i0 V D H L ge gB gl go : Nat} {bs : List Bk} (h : MadeL w B seed i0 gB D H L bs) (e1 : C.V = V) (e2 : C.D = D) (e4 : C.H = H) (e5 : C.L = L) (hs : shapeN C.V C.D C.Hd C.H C.L = 0) :
    checkN C.V C.D C.Hd C.H C.L (mkW V D L ge gB gl go) bs = 0 := by
  have hk := shape_ok hs
  unfold checkN
  rw [if_neg (by rw [hs]; simp), e1, e2, e4, e5]
  have : fitsB V D H L (mkW V D L ge gB gl go) bs = true := by
    unfold fitsB mkW
    simp only [rs]
    have s1 := sides_yes (r := V) (c := D) ge (by omega) (by omega) (by omega) (by omega)
    have s2 := sides_yes (r := V) (c := D) go (by omega) (by omega) (by omega) (by omega)
    unfold rs at s1 s2
    rw [s1, s2]
    simp only [decide_true, Bool.true_and, List.all_eq_true]
    intro x hx
    obtain ⟨t, ht⟩ := List.mem_iff_getElem?.1 hx
    obtain ⟨_, f, q, k, v, o, s, u, d, rfl, _⟩ := h.at_ t x ht
    exact mkB_fits (by omega) (by omega) (by omega) (by omega)
  rw [if_pos this]
theorem check_four {V D Hd H L : Int} {W : Wt} {bs : List Bk} (hs : shapeN V D Hd H L = 0) (hf : fitsB V D H L W bs = false) : checkN V D Hd H L W bs = 4 := by
  unfold checkN
  rw [if_neg (by rw [hs]; simp), if_neg (by rw [hf]; simp)]
/-- A cell of a range is written over. -/
theorem rangeAt_set {w : World} {g o : Nat} {cs : List Value} (h : w.rangeAt g o cs) {i : Nat} (hi : i < cs.length) (v : Value) : (w.setCell ⟨g, o + i, none⟩ v).rangeAt g o (cs.set i v) := fun j u hj => by
  rw [List.getElem?_set] at hj
  by_cases e : i = j
  · subst e
    rw [if_pos rfl, if_pos hi] at hj
    have := h i _ (List.getElem?_eq_getElem hi)
    rw [World.cell?_setCell_same _ _ _ this, ← hj]
  · rw [if_neg e] at hj
    rw [World.cell?_setCell_other _ _ _ _ (by simp <;> omega)]
    exact h j u hj
theorem rangeAt_apart {w : World} {g o : Nat} {cs : List Value} (h : w.rangeAt g o cs) {i : Nat} (hi : i < o ∨ o + cs.length ≤ i) (v : Value) : (w.setCell ⟨g, i, none⟩ v).rangeAt g o cs := fun j u hj => by
  have hjl : j < cs.length := (List.getElem?_eq_some_iff.1 hj).1
  rw [World.cell?_setCell_other _ _ _ _ (by simp <;> omega)]
  exact h j u hj
/-- The layers where one cell of the last is written over. -/
theorem MadeL.last {w : World} {B seed i0 gB D H L : Nat} {bs : List Bk} (h : MadeL w B seed i0 gB D H L bs) (h0 : 1 ≤ L) (hL : L ≤ 4) (h1 : D ≤ 4096) (h2 : H ≤ 4096) {x x' : Bk} (hx : bs[L - 1]? = some x) {i : Nat} (hi : i < 20) (s : Sl) (hc : x'.cells.toList = x.cells.toList.set i s.v) (ho : x'.Ok) (hb : bkB D H x' = false) :
    ∃ bs', BlocksAt (w.setCell ⟨gB, (L - 1) * 20 + i, none⟩ s.v) (rs gB L) bs' ∧ bs'.all (bkB D H) = false := by
  have hlen := h.len
  refine ⟨bs.set (L - 1) x', ⟨by simp [hlen, rs], by show L ≤ _; omega, fun y hy => ?_, fun _ => ⟨gB, 0, rfl, fun t y hy => ?_⟩⟩, ?_⟩
  · rcases List.mem_or_eq_of_mem_set hy with hy | rfl
    · obtain ⟨t, ht⟩ := List.mem_iff_getElem?.1 hy
      obtain ⟨_, f, q, k, v, o, s, u, d, rfl, _⟩ := h.at_ t y ht
      exact mkB_ok h1 h2
    · exact ho
  · rw [Nat.zero_add]
    rw [List.getElem?_set] at hy
    by_cases e : L - 1 = t
    · subst e
      rw [if_pos rfl, if_pos (by omega)] at hy
      obtain rfl := Option.some.inj hy
      rw [hc]
      exact rangeAt_set (h.at_ (L - 1) x hx).1 hi _
    · rw [if_neg e] at hy
      have ht : t < bs.length := (List.getElem?_eq_some_iff.1 hy).1
      exact rangeAt_apart (h.at_ t y hy).1 (Or.inr (by show t * 20 + 20 ≤ _; omega)) _
  · rw [← Bool.not_eq_true]
    intro ha
    have := List.all_eq_true.1 ha x' (List.mem_iff_getElem?.2 ⟨L - 1, by rw [List.getElem?_set, if_pos rfl, if_pos (by omega)]⟩)
    rw [hb] at this
    cases this
/-- A row of a made model that may be written over: what Check answers then. -/
structure Wanted (w : World) (g9 : Nat) (C : Cfg) (base ga oa gd n : Nat) : Prop where
  cell : w.cell? ⟨ga, oa, none⟩ = some (.slice (some ⟨gd, 0, none⟩) n n)
  froz : w.frozen? ⟨ga, oa, none⟩ = false
  row : ∃ B A, Fresh w B gd n n A
  pos : 1 ≤ n ∧ n ≤ 4096
  low : base ≤ ga
  eff : ∀ w', Below w.heap.size w w' → ∀ s : Sl, s.n ≠ n → s.n ≤ 9223372036854775807 → ∃ W' bs', Blk (w'.setCell ⟨ga, oa, none⟩ s.v) g9 40 W'.cells ∧ W'.Ok ∧ BlocksAt (w'.setCell ⟨ga, oa, none⟩ s.v) W'.b bs' ∧ checkN C.V C.D C.Hd C.H C.L W' bs' = 4
theorem Wanted.below {w w' : World} {g9 : Nat} {C : Cfg} {base ga oa gd n : Nat} (h : Wanted w g9 C base ga oa gd n) (hb : Below w.heap.size w w') : Wanted w' g9 C base ga oa gd n := by
  have hlt : ga < w.heap.size := by simpa using World.block_lt_of_cell? w _ h.cell
  obtain ⟨B, A, F⟩ := h.row
  exact ⟨(hb.cell (p := ⟨ga, oa, none⟩) hlt).trans h.cell, (World.frozen?_of_block (w := w) (hb.block ga hlt)).trans h.froz, ⟨B, A, F.below hb⟩, h.pos, h.low, fun w2 h2 => h.eff w2 (below_then hb h2)⟩
/-- Where the rows of a model lie. -/
def ptrN (g9 gB L : Nat) : Nat → Nat × Nat
  | 0 => (g9, 2)
  | 1 => (g9, 4)
  | 2 => (g9, 7)
  | 3 => (gB, (L - 1) * 20 + 0)
  | 4 => (gB, (L - 1) * 20 + 3)
  | 5 => (gB, (L - 1) * 20 + 6)
  | 6 => (gB, (L - 1) * 20 + 9)
  | 7 => (gB, (L - 1) * 20 + 12)
  | 8 => (gB, (L - 1) * 20 + 13)
  | 9 => (gB, (L - 1) * 20 + 16)
  | _ => (gB, (L - 1) * 20 + 19)
theorem blocks_other {w : World} {b : Sl} {bs : List Bk} {gB : Nat} (h : BlocksAt w b bs) (hb : ∀ g o, b.ao = some ⟨g, o, none⟩ → g = gB) {a : Addr} (ha : gB ≠ a.block) (v : Value) : BlocksAt (w.setCell a v) b bs := by
  refine ⟨h.len, h.max, h.ok, fun hn => ?_⟩
  obtain ⟨g, o, e, hc⟩ := h.cells hn
  refine ⟨g, o, e, fun t x hx => rangeAt_block (hc t x hx) (Below.heap_setCell _ _ _ _ (by rw [hb g o e]; exact ha))⟩
section
variable {w : World} {C : Cfg} {B seed i0 V D H L ge gB gl go g9 base : Nat} {bs : List Bk}
theorem wanted_top (h : MadeL w B seed i0 gB D H L bs) (X : Blk w g9 40 (mkW V D L ge gB gl go).cells) (hne : gB ≠ g9) (hgB : gB < w.heap.size) (hlow : base ≤ g9)
    (e1 : C.V = V) (e2 : C.D = D) (e4 : C.H = H) (e5 : C.L = L) (hs : shapeN C.V C.D C.Hd C.H C.L = 0) (i gd n : Nat)
    (hc : (mkW V D L ge gB gl go).cells[i]? = some (.slice (some ⟨gd, 0, none⟩) n n)) (hF : ∃ B A, Fresh w B gd n n A) (hn : 1 ≤ n ∧ n ≤ 4096)
    (he : ∀ s : Sl, s.n ≠ n → s.n ≤ 9223372036854775807 → ∃ W' : Wt, W'.cells = (mkW V D L ge gB gl go).cells.setIfInBounds i s.v ∧ W'.Ok ∧ W'.b = rs gB L ∧ fitsB V D H L W' bs = false) :
    Wanted w g9 C base g9 i gd n := by
  have hk := shape_ok hs
  refine ⟨X.cell i hc, X.frozen i, hF, hn, hlow, fun w' hb s h1 h2 => ?_⟩
  obtain ⟨W', c1, c2, c3, c4⟩ := he s h1 h2
  refine ⟨W', bs, ?_, c2, ?_, ?_⟩
  · rw [c1]; exact (X.below hb).set i _
  · rw [c3]
    exact blocks_other ((h.below hgB hb).blocks (by omega) (by omega) (by omega)) (fun g o e => by cases e; rfl) (by exact hne) _
  · rw [e1, e2, e4, e5] at hs ⊢
    exact check_four hs c4
theorem wanted_deep (h : MadeL w B seed i0 gB D H L bs) (X : Blk w g9 40 (mkW V D L ge gB gl go).cells) (hne : gB ≠ g9) (hgB : gB < w.heap.size) (hfr : ∀ o, w.frozen? ⟨gB, o, none⟩ = false) (hlow : base ≤ gB)
    (e1 : C.V = V) (e2 : C.D = D) (e4 : C.H = H) (e5 : C.L = L) (hs : shapeN C.V C.D C.Hd C.H C.L = 0) (x : Bk) (hx : bs[L - 1]? = some x) (i gd n : Nat) (hi : i < 20)
    (hc : x.cells.toList[i]? = some (.slice (some ⟨gd, 0, none⟩) n n)) (hF : ∃ B A, Fresh w B gd n n A) (hn : 1 ≤ n ∧ n ≤ 4096)
    (he : ∀ s : Sl, s.n ≠ n → s.n ≤ 9223372036854775807 → ∃ x' : Bk, x'.cells.toList = x.cells.toList.set i s.v ∧ x'.Ok ∧ bkB D H x' = false) :
    Wanted w g9 C base gB ((L - 1) * 20 + i) gd n := by
  have hk := shape_ok hs
  refine ⟨(h.at_ (L - 1) x hx).1 i _ hc, hfr _, hF, hn, hlow, fun w' hb s h1 h2 => ?_⟩
  obtain ⟨x', c1, c2, c3⟩ := he s h1 h2
  obtain ⟨bs', b1, b2⟩ := (h.below hgB hb).last (by omega) (by omega) (by omega) (by omega) hx hi s c1 c2 c3
  refine ⟨mkW V D L ge gB gl go, bs', (X.below hb).other (by show g9 ≠ gB; omega) _, mkW_ok (by omega) (by omega), b1, ?_⟩
  rw [e1, e2, e4, e5] at hs ⊢
  refine check_four hs ?_
  unfold fitsB
  rw [b2]
  simp
theorem wanted_all (M : MadeW w B seed V D H L ge gB gl go) (h : MadeL w B seed i0 gB D H L bs) (X : Blk w g9 40 (mkW V D L ge gB gl go).cells) (hl1 : base ≤ g9) (hl2 : base ≤ B)
    (e1 : C.V = V) (e2 : C.D = D) (e4 : C.H = H) (e5 : C.L = L) (hs : shapeN C.V C.D C.Hd C.H C.L = 0) (i : Nat) (hi : i < 11) :
    ∃ gd n, Wanted w g9 C base (ptrN g9 gB L i).1 (ptrN g9 gB L i).2 gd n := by
  have hk := shape_ok hs
  obtain ⟨cs, hB, _⟩ := M.bl
  have hgB : gB < w.heap.size := (Array.getElem?_eq_some_iff.1 hB).1
  have hne : gB ≠ g9 := by
    rintro rfl
    unfold Blk at X
    rw [hB] at X
    simp at X
  have hfr : ∀ o, w.frozen? ⟨gB, o, none⟩ = false := fun o => Blk.frozen (T := 80) (cs := cs) hB o
  have hlow : base ≤ gB := Nat.le_trans hl2 M.base
  have p1 : 1 ≤ V * D ∧ V * D ≤ 4096 := ⟨Nat.mul_pos (by omega) (by omega), Nat.le_trans (Nat.mul_le_mul (show V ≤ 64 by omega) (show D ≤ 32 by omega)) (by omega)⟩
  have p2 : 1 ≤ D * D ∧ D * D ≤ 4096 := ⟨Nat.mul_pos (by omega) (by omega), Nat.le_trans (Nat.mul_le_mul (show D ≤ 32 by omega) (show D ≤ 32 by omega)) (by omega)⟩
  have p3 : 1 ≤ H * D ∧ H * D ≤ 4096 := ⟨Nat.mul_pos (by omega) (by omega), Nat.le_trans (Nat.mul_le_mul (show H ≤ 64 by omega) (show D ≤ 32 by omega)) (by omega)⟩
  have p4 : 1 ≤ D * H ∧ D * H ≤ 4096 := ⟨Nat.mul_pos (by omega) (by omega), Nat.le_trans (Nat.mul_le_mul (show D ≤ 32 by omega) (show H ≤ 64 by omega)) (by omega)⟩
  have p5 : 1 ≤ D ∧ D ≤ 4096 := by omega
  have iV : I64 (V : Int) := i64_nat (by omega)
  have iD : I64 (D : Int) := i64_nat (by omega)
  have iH : I64 (H : Int) := i64_nat (by omega)
  have hD : D ≤ 9223372036854775807 := by omega
  obtain ⟨x, hx⟩ : ∃ x, bs[L - 1]? = some x := ⟨_, List.getElem?_eq_getElem (by rw [h.len]; omega)⟩
  obtain ⟨_, f, q, k, v, o, s, u, d, rfl, MB⟩ := h.at_ (L - 1) x hx
  have top := wanted_top (base := base) h X hne hgB hl1 e1 e2 e4 e5 hs
  have deep := wanted_deep (base := base) h X hne hgB hfr hlow e1 e2 e4 e5 hs _ hx
  have hor : i = 0 ∨ i = 1 ∨ i = 2 ∨ i = 3 ∨ i = 4 ∨ i = 5 ∨ i = 6 ∨ i = 7 ∨ i = 8 ∨ i = 9 ∨ i = 10 := by omega
  rcases hor with rfl | rfl | rfl | rfl | rfl | rfl | rfl | rfl | rfl | rfl | rfl
  · refine ⟨ge, V * D, top 2 ge (V * D) rfl ⟨_, _, M.e⟩ p1 (fun t h1 h2 => ⟨⟨⟨V, D, t⟩, rs gB L, rs gl D, ⟨V, D, rs go (V * D)⟩⟩, rfl, ⟨⟨iV, iD⟩, hD, ⟨iV, iD⟩⟩, rfl, ?_⟩)⟩
    unfold fitsB; simp only; rw [sides_no t _ _ h1]; simp
  · refine ⟨gl, D, top 4 gl D rfl ⟨_, _, M.l⟩ p5 (fun t h1 h2 => ⟨⟨⟨V, D, rs ge (V * D)⟩, rs gB L, t, ⟨V, D, rs go (V * D)⟩⟩, rfl, ⟨⟨iV, iD⟩, h2, ⟨iV, iD⟩⟩, rfl, ?_⟩)⟩
    unfold fitsB; simp only; rw [decide_eq_false (show ¬ ((t.n : Int) = D) by omega)]; simp
  · refine ⟨go, V * D, top 7 go (V * D) rfl ⟨_, _, M.o⟩ p1 (fun t h1 h2 => ⟨⟨⟨V, D, rs ge (V * D)⟩, rs gB L, rs gl D, ⟨V, D, t⟩⟩, rfl, ⟨⟨iV, iD⟩, hD, ⟨iV, iD⟩⟩, rfl, ?_⟩)⟩
    unfold fitsB; simp only; rw [sides_no t _ _ h1]; simp
  · refine ⟨f, D, deep 0 f (D) (by omega) rfl ⟨_, _, MB.f⟩ p5 (fun t h1 h2 => ⟨⟨t, ⟨D, D, rs q (D * D)⟩, ⟨D, D, rs k (D * D)⟩, ⟨D, D, rs v (D * D)⟩, ⟨D, D, rs o (D * D)⟩, rs s D, ⟨H, D, rs u (H * D)⟩, ⟨D, H, rs d (D * H)⟩⟩, rfl, ⟨h2, ⟨iD, iD⟩, ⟨iD, iD⟩, ⟨iD, iD⟩, ⟨iD, iD⟩, hD, ⟨iH, iD⟩, ⟨iD, iH⟩⟩, ?_⟩)⟩
    unfold bkB; simp only; rw [decide_eq_false (show ¬ ((t.n : Int) = D) by omega)]; simp
  · refine ⟨q, D * D, deep 3 q (D * D) (by omega) rfl ⟨_, _, MB.q⟩ p2 (fun t h1 h2 => ⟨⟨rs f D, ⟨D, D, t⟩, ⟨D, D, rs k (D * D)⟩, ⟨D, D, rs v (D * D)⟩, ⟨D, D, rs o (D * D)⟩, rs s D, ⟨H, D, rs u (H * D)⟩, ⟨D, H, rs d (D * H)⟩⟩, rfl, ⟨hD, ⟨iD, iD⟩, ⟨iD, iD⟩, ⟨iD, iD⟩, ⟨iD, iD⟩, hD, ⟨iH, iD⟩, ⟨iD, iH⟩⟩, ?_⟩)⟩
    unfold bkB; simp only; rw [sides_no t _ _ h1]; simp
  · refine ⟨k, D * D, deep 6 k (D * D) (by omega) rfl ⟨_, _, MB.k⟩ p2 (fun t h1 h2 => ⟨⟨rs f D, ⟨D, D, rs q (D * D)⟩, ⟨D, D, t⟩, ⟨D, D, rs v (D * D)⟩, ⟨D, D, rs o (D * D)⟩, rs s D, ⟨H, D, rs u (H * D)⟩, ⟨D, H, rs d (D * H)⟩⟩, rfl, ⟨hD, ⟨iD, iD⟩, ⟨iD, iD⟩, ⟨iD, iD⟩, ⟨iD, iD⟩, hD, ⟨iH, iD⟩, ⟨iD, iH⟩⟩, ?_⟩)⟩
    unfold bkB; simp only; rw [sides_no t _ _ h1]; simp
  · refine ⟨v, D * D, deep 9 v (D * D) (by omega) rfl ⟨_, _, MB.v⟩ p2 (fun t h1 h2 => ⟨⟨rs f D, ⟨D, D, rs q (D * D)⟩, ⟨D, D, rs k (D * D)⟩, ⟨D, D, t⟩, ⟨D, D, rs o (D * D)⟩, rs s D, ⟨H, D, rs u (H * D)⟩, ⟨D, H, rs d (D * H)⟩⟩, rfl, ⟨hD, ⟨iD, iD⟩, ⟨iD, iD⟩, ⟨iD, iD⟩, ⟨iD, iD⟩, hD, ⟨iH, iD⟩, ⟨iD, iH⟩⟩, ?_⟩)⟩
    unfold bkB; simp only; rw [sides_no t _ _ h1]; simp
  · refine ⟨o, D * D, deep 12 o (D * D) (by omega) rfl ⟨_, _, MB.o⟩ p2 (fun t h1 h2 => ⟨⟨rs f D, ⟨D, D, rs q (D * D)⟩, ⟨D, D, rs k (D * D)⟩, ⟨D, D, rs v (D * D)⟩, ⟨D, D, t⟩, rs s D, ⟨H, D, rs u (H * D)⟩, ⟨D, H, rs d (D * H)⟩⟩, rfl, ⟨hD, ⟨iD, iD⟩, ⟨iD, iD⟩, ⟨iD, iD⟩, ⟨iD, iD⟩, hD, ⟨iH, iD⟩, ⟨iD, iH⟩⟩, ?_⟩)⟩
    unfold bkB; simp only; rw [sides_no t _ _ h1]; simp
  · refine ⟨s, D, deep 13 s (D) (by omega) rfl ⟨_, _, MB.s⟩ p5 (fun t h1 h2 => ⟨⟨rs f D, ⟨D, D, rs q (D * D)⟩, ⟨D, D, rs k (D * D)⟩, ⟨D, D, rs v (D * D)⟩, ⟨D, D, rs o (D * D)⟩, t, ⟨H, D, rs u (H * D)⟩, ⟨D, H, rs d (D * H)⟩⟩, rfl, ⟨hD, ⟨iD, iD⟩, ⟨iD, iD⟩, ⟨iD, iD⟩, ⟨iD, iD⟩, h2, ⟨iH, iD⟩, ⟨iD, iH⟩⟩, ?_⟩)⟩
    unfold bkB; simp only; rw [decide_eq_false (show ¬ ((t.n : Int) = D) by omega)]; simp
  · refine ⟨u, H * D, deep 16 u (H * D) (by omega) rfl ⟨_, _, MB.u⟩ p3 (fun t h1 h2 => ⟨⟨rs f D, ⟨D, D, rs q (D * D)⟩, ⟨D, D, rs k (D * D)⟩, ⟨D, D, rs v (D * D)⟩, ⟨D, D, rs o (D * D)⟩, rs s D, ⟨H, D, t⟩, ⟨D, H, rs d (D * H)⟩⟩, rfl, ⟨hD, ⟨iD, iD⟩, ⟨iD, iD⟩, ⟨iD, iD⟩, ⟨iD, iD⟩, hD, ⟨iH, iD⟩, ⟨iD, iH⟩⟩, ?_⟩)⟩
    unfold bkB; simp only; rw [sides_no t _ _ h1]; simp
  · refine ⟨d, D * H, deep 19 d (D * H) (by omega) rfl ⟨_, _, MB.d⟩ p4 (fun t h1 h2 => ⟨⟨rs f D, ⟨D, D, rs q (D * D)⟩, ⟨D, D, rs k (D * D)⟩, ⟨D, D, rs v (D * D)⟩, ⟨D, D, rs o (D * D)⟩, rs s D, ⟨H, D, rs u (H * D)⟩, ⟨D, H, t⟩⟩, rfl, ⟨hD, ⟨iD, iD⟩, ⟨iD, iD⟩, ⟨iD, iD⟩, ⟨iD, iD⟩, hD, ⟨iH, iD⟩, ⟨iD, iH⟩⟩, ?_⟩)⟩
    unfold bkB; simp only; rw [sides_no t _ _ h1]; simp
end
end Go.Proofs.YtcanjlofnpnhkaaGreatDoor

/- Package step: Feed: a token more. -/
namespace Go.Proofs.YtcanjlofnpnhkaaGreatDoor
open Go.ChangeShapes Go.WideShapes Go.ChangeAt Go.RowKit
/-- A model's numbers that fit their configuration. -/
structure Good (w : World) (V D Hd H L : Nat) (W : Wt) (bs : List Bk) (M : Mdl) : Prop where
  wt : WtAt w V D H W bs M
  ok : W.Ok
  len : bs.length = L
  shape : shapeN V D Hd H L = 0
  chk : checkN V D Hd H L W bs = 0
theorem Good.below {w w' : World} {V D Hd H L : Nat} {W : Wt} {bs : List Bk} {M : Mdl} (h : Good w V D Hd H L W bs M) (hb : Below w.heap.size w w') : Good w' V D Hd H L W bs M := ⟨h.wt.below hb, h.ok, h.len, h.shape, h.chk⟩
theorem shape_mod {V D Hd H L : Nat} (h : shapeN V D Hd H L = 0) : D % Hd = 0 := by
  have hk := shape_ok h
  unfold shapeN at h
  rw [if_neg (by omega), if_neg (by omega)] at h
  have h9 : (D : Int).tmod (Hd : Int) = 0 := by simpa using h
  have h8 := Int.ofNat_tmod D Hd
  omega
theorem check_good {w : World} {V D Hd H L : Nat} {W : Wt} {bs : List Bk} {M : Mdl} (h : Good w V D Hd H L W bs M) :
   Calls Tryz.prog 46 #[.agg (cfgC V D Hd H L), .agg W.cells] w fun e w' => e = .returned (.int .i64 0) ∧ Below w.heap.size w w' := by
  have hk := shape_ok h.shape
  have := mcheck_any ⟨V, D, Hd, H, L⟩ ⟨i64_nat (by omega), i64_nat (by omega), i64_nat (by omega), i64_nat (by omega), i64_nat (by omega)⟩ W bs w h.ok h.wt.b
  rw [h.chk] at this
  exact this
theorem fit_feed {M : Mdl} {V D H Hd L : Nat} {X : Vw} {tok : Nat} (hf : VwFit V D L X) (ht : tok < V) (hl : X.T.length ≤ 127) : VwFit V D L (feedV M D H Hd L X tok) := by
  have kl : ∀ l, l < L → (X.K.getD l []).length = X.T.length ∧ ∀ t, t < X.T.length → (rowOf (X.K.getD l []) t).length = D := fun l h => fit_list hf.k hf.ks h
  have vl : ∀ l, l < L → (X.V.getD l []).length = X.T.length ∧ ∀ t, t < X.T.length → (rowOf (X.V.getD l []) t).length = D := fun l h => fit_list hf.v hf.vs h
  have tl : (feedV M D H Hd L X tok).T.length = X.T.length + 1 := by unfold feedV; simp
  refine ⟨by rw [tl]; omega, ?_, ?_, ?_, ?_, ?_⟩
  · unfold feedV
    simp only [List.all_append, hf.toks, Bool.true_and, List.all_cons, List.all_nil, Bool.and_true]
    unfold tokB
    exact decide_eq_true (by omega)
  · rw [tl, if_neg (by omega)]; unfold feedV newK; simp
  · rw [tl, if_neg (by omega)]; unfold feedV newV; simp
  · intro R hR
    rw [tl]
    unfold feedV newK at hR
    simp only [List.mem_map, List.mem_range] at hR
    obtain ⟨l, h1, rfl⟩ := hR
    obtain ⟨q1, q2⟩ := kl l h1
    exact ⟨by rw [List.length_append, q1]; rfl, rowOf_snoc_len q1 q2 (apl_len _ _ _ _)⟩
  · intro R hR
    rw [tl]
    unfold feedV newV at hR
    simp only [List.mem_map, List.mem_range] at hR
    obtain ⟨l, h1, rfl⟩ := hR
    obtain ⟨q1, q2⟩ := vl l h1
    exact ⟨by rw [List.length_append, q1]; rfl, rowOf_snoc_len q1 q2 (apl_len _ _ _ _)⟩
theorem results_blk3 {fn : Func} {p u v : Tmp} {ty : TypeId} (h : fn.results = #[.cell p ty, .tmp u, .tmp v]) (tmps : Array Value) (w : World) (g : Nat) (cs : Array Value)
    (hp : tmps.getD p undef = .pointer (some ⟨g, 0, none⟩)) (hl : (loadVar ty ⟨g, 0, none⟩).run Tryz.prog w = .ok (.agg cs) w) :
    (results fn tmps).run Tryz.prog w = .ok (.tuple #[.agg cs, tmps.getD u undef, tmps.getD v undef]) w := by
  have hp' : tmps[p]?.getD undef = .pointer (some ⟨g, 0, none⟩) := by simpa using hp
  simp [results, h, hp', asAddr, hl]
theorem load_v {w : World} {g : Nat} {cs : Array Value} (h : Blk w g 48 cs) (hs : cs.size = 3) : (loadVar 48 ⟨g, 0, none⟩).run Tryz.prog w = .ok (.agg cs) w :=
  run_loadVar_row w g _ _ cs _ _ h Tryz.underlying48 rfl (by rw [hs]; exact Tryz.infoV)
/-- The cells of no view. -/
def noV : Array Value := #[.slice none 0 0, .slice none 0 0, .slice none 0 0]
set_option maxRecDepth 100000 in
set_option maxHeartbeats 800000 in
theorem feed_big (V D Hd H L : Nat) (W : Wt) (bs : List Bk) (M : Mdl) (v : VwV) (X : Vw) (tok : Int) (w : World) (hb : X.T.length = 128) (hG : Good w V D Hd H L W bs M) (hv : VwAt w v X) (hf : VwFit V D L X) :
   Calls Tryz.prog 27 #[.agg (cfgC V D Hd H L), .agg W.cells, .agg v.cells, .int .i64 tok] w fun e w' => e = .returned (.tuple #[.agg noV, .slice none 0 0, .int .i64 2]) ∧ Below w.heap.size w w' := by
  obtain ⟨q1, q2, q3, q4, q5, q6, q7, q8, q9, q10⟩ := shape_ok hG.shape
  have hlen := hv.t.row.len
  have most := hf.most
  have CK := fun (wv : World) (hb : Below w.heap.size w wv) => check_good (hG.below hb)
  have CF := fun (wv : World) (hb : Below w.heap.size w wv) => sfits_ok V D Hd H L v X wv (hv.below hb) hf (by omega)
  obtain ⟨⟨ta, n, tz⟩, ⟨ka, kn, kz⟩, ⟨va, vn, vz⟩⟩ := v
  simp only at hlen
  unfold VwV.cells Sl.v cfgC at CF
  unfold cfgC at CK
  simp only at CF
  show Calls Tryz.prog 27 #[.agg #[.int .i64 (V : Int), .int .i64 (D : Int), .int .i64 (Hd : Int), .int .i64 (H : Int), .int .i64 (L : Int)], .agg W.cells, .agg #[.slice ta n tz, .slice ka kn kz, .slice va vn vz], .int .i64 tok] w _
  have siz : W.cells.size = 8 := rfl
  generalize hws : W.cells = ws at *
  have X0 := blk_new w 23 #[.int .i64 (V : Int), .int .i64 (D : Int), .int .i64 (Hd : Int), .int .i64 (H : Int), .int .i64 (L : Int)]
  have B0 : Below w.heap.size w (w.alloc (.cells #[.int .i64 (V : Int), .int .i64 (D : Int), .int .i64 (Hd : Int), .int .i64 (H : Int), .int .i64 (L : Int)] 23)) := (Below.refl _ _).alloc (Nat.le_refl _) _
  have s0 : (w.alloc (.cells #[.int .i64 (V : Int), .int .i64 (D : Int), .int .i64 (Hd : Int), .int .i64 (H : Int), .int .i64 (L : Int)] 23)).heap.size = w.heap.size + 1 := by simp
  generalize hw0 : w.alloc (.cells #[.int .i64 (V : Int), .int .i64 (D : Int), .int .i64 (Hd : Int), .int .i64 (H : Int), .int .i64 (L : Int)] 23) = w0 at *
  have X1 := blk_new w0 40 ws
  have B1 : Below w0.heap.size w0 (w0.alloc (.cells ws 40)) := (Below.refl _ _).alloc (Nat.le_refl _) _
  have s1 : (w0.alloc (.cells ws 40)).heap.size = w0.heap.size + 1 := by simp
  rw [s0] at X1 s1
  generalize hw1 : w0.alloc (.cells ws 40) = w1 at *
  have X2 := blk_new w1 48 #[.slice ta n tz, .slice ka kn kz, .slice va vn vz]
  have B2 : Below w1.heap.size w1 (w1.alloc (.cells #[.slice ta n tz, .slice ka kn kz, .slice va vn vz] 48)) := (Below.refl _ _).alloc (Nat.le_refl _) _
  have s2 : (w1.alloc (.cells #[.slice ta n tz, .slice ka kn kz, .slice va vn vz] 48)).heap.size = w1.heap.size + 1 := by simp
  rw [s1] at X2 s2
  generalize hw2 : w1.alloc (.cells #[.slice ta n tz, .slice ka kn kz, .slice va vn vz] 48) = w2 at *
  have X3 := blk_new w2 48 #[.slice none 0 0, .slice none 0 0, .slice none 0 0]
  have B3 : Below w2.heap.size w2 (w2.alloc (.cells #[.slice none 0 0, .slice none 0 0, .slice none 0 0] 48)) := (Below.refl _ _).alloc (Nat.le_refl _) _
  have s3 : (w2.alloc (.cells #[.slice none 0 0, .slice none 0 0, .slice none 0 0] 48)).heap.size = w2.heap.size + 1 := by simp
  rw [s2] at X3 s3
  generalize hw3 : w2.alloc (.cells #[.slice none 0 0, .slice none 0 0, .slice none 0 0] 48) = w3 at *
  replace X0 := ((X0.below B1).below B2).below B3
  replace X1 := (X1.below B2).below B3
  replace X2 := X2.below B3
  replace B3 := below_then (below_then (below_then B0 B1) B2) B3
  have hn : (128 : Int) ≤ (n : Int) := by omega
  have a0 : w3.cell? ⟨w.heap.size, 0, none⟩ = some (.int .i64 (V : Int)) := X0.cell 0 rfl
  have a1 : w3.cell? ⟨w.heap.size, 1, none⟩ = some (.int .i64 (D : Int)) := X0.cell 1 rfl
  have a2 : w3.cell? ⟨w.heap.size, 2, none⟩ = some (.int .i64 (Hd : Int)) := X0.cell 2 rfl
  have a3 : w3.cell? ⟨w.heap.size, 3, none⟩ = some (.int .i64 (H : Int)) := X0.cell 3 rfl
  have a4 : w3.cell? ⟨w.heap.size, 4, none⟩ = some (.int .i64 (L : Int)) := X0.cell 4 rfl
  go_enter Tryz.func27, Tryz.ntmps27
  go_wp2_with (refine wpList_load_row rfl 40 _ rfl (w.heap.size + 1) rfl 40 ws (0, 0) _ X1 Tryz.underlying40 rfl (by rw [siz]; exact Tryz.infoW) ?_)
  refine (CK _ B3).mono ?_
  rintro e w4 ⟨rfl, B4⟩
  replace X0 := X0.below B4
  replace X1 := X1.below B4
  replace X2 := X2.below B4
  replace X3 := X3.below B4
  have D4 := below_then B3 B4
  clear a0 a1 a2 a3 a4 B3 B4 CK hw0 hw1 hw2 hw3 B0 B1 B2 s0 s1 s2 s3
  have a0 : w4.cell? ⟨w.heap.size, 0, none⟩ = some (.int .i64 (V : Int)) := X0.cell 0 rfl
  have a1 : w4.cell? ⟨w.heap.size, 1, none⟩ = some (.int .i64 (D : Int)) := X0.cell 1 rfl
  have a2 : w4.cell? ⟨w.heap.size, 2, none⟩ = some (.int .i64 (Hd : Int)) := X0.cell 2 rfl
  have a3 : w4.cell? ⟨w.heap.size, 3, none⟩ = some (.int .i64 (H : Int)) := X0.cell 3 rfl
  have a4 : w4.cell? ⟨w.heap.size, 4, none⟩ = some (.int .i64 (L : Int)) := X0.cell 4 rfl
  have b0 : w4.cell? ⟨w.heap.size + 1 + 1, 0, none⟩ = some (.slice ta n tz) := X2.cell 0 rfl
  have b1 : w4.cell? ⟨w.heap.size + 1 + 1, 1, none⟩ = some (.slice ka kn kz) := X2.cell 1 rfl
  have b2 : w4.cell? ⟨w.heap.size + 1 + 1, 2, none⟩ = some (.slice va vn vz) := X2.cell 2 rfl
  go_wp2_with fail
  refine (CF _ D4).mono ?_
  rintro e w5 ⟨rfl, B5⟩
  replace X0 := X0.below B5
  replace X1 := X1.below B5
  replace X2 := X2.below B5
  replace X3 := X3.below B5
  have D5 := below_then D4 B5
  clear a0 a1 a2 a3 a4 b0 b1 b2 D4 B5 CF
  have a0 : w5.cell? ⟨w.heap.size, 0, none⟩ = some (.int .i64 (V : Int)) := X0.cell 0 rfl
  have a1 : w5.cell? ⟨w.heap.size, 1, none⟩ = some (.int .i64 (D : Int)) := X0.cell 1 rfl
  have a2 : w5.cell? ⟨w.heap.size, 2, none⟩ = some (.int .i64 (Hd : Int)) := X0.cell 2 rfl
  have a3 : w5.cell? ⟨w.heap.size, 3, none⟩ = some (.int .i64 (H : Int)) := X0.cell 3 rfl
  have a4 : w5.cell? ⟨w.heap.size, 4, none⟩ = some (.int .i64 (L : Int)) := X0.cell 4 rfl
  have b0 : w5.cell? ⟨w.heap.size + 1 + 1, 0, none⟩ = some (.slice ta n tz) := X2.cell 0 rfl
  have b1 : w5.cell? ⟨w.heap.size + 1 + 1, 1, none⟩ = some (.slice ka kn kz) := X2.cell 1 rfl
  have b2 : w5.cell? ⟨w.heap.size + 1 + 1, 2, none⟩ = some (.slice va vn vz) := X2.cell 2 rfl
  have hall : Array.all (#[.slice none 0 0, .slice none 0 0, .slice none 0 0] : Array Value) (fun v => v.oneCell') = true := by simp [Value.oneCell']
  go_wp2_with (refine wpList_store_row rfl 48 _ _ rfl (w.heap.size + 1 + 1 + 1) #[.slice none 0 0, .slice none 0 0, .slice none 0 0] rfl rfl 48 _ X3 Tryz.infoV rfl hall ?_)
  refine bodyPost_ret (results_blk3 rfl _ _ (w.heap.size + 1 + 1 + 1) _ rfl (load_v (X3.row _) rfl)) rfl ?_
  exact ⟨rfl, below_setRow D5 (by omega) _⟩
set_option maxRecDepth 100000 in
set_option maxHeartbeats 800000 in
theorem feed_tok (V D Hd H L : Nat) (W : Wt) (bs : List Bk) (M : Mdl) (v : VwV) (X : Vw) (tok : Int) (w : World) (hl : X.T.length ≤ 127) (hb : tokB V tok = false) (hG : Good w V D Hd H L W bs M) (hv : VwAt w v X) (hf : VwFit V D L X) :
   Calls Tryz.prog 27 #[.agg (cfgC V D Hd H L), .agg W.cells, .agg v.cells, .int .i64 tok] w fun e w' => e = .returned (.tuple #[.agg noV, .slice none 0 0, .int .i64 7]) ∧ Below w.heap.size w w' := by
  obtain ⟨q1, q2, q3, q4, q5, q6, q7, q8, q9, q10⟩ := shape_ok hG.shape
  have hlen := hv.t.row.len
  have most := hf.most
  have CK := fun (wv : World) (hb : Below w.heap.size w wv) => check_good (hG.below hb)
  have CF := fun (wv : World) (hb : Below w.heap.size w wv) => sfits_ok V D Hd H L v X wv (hv.below hb) hf (by omega)
  have CI := fun (wv : World) => isToken_any V D Hd H L tok wv
  obtain ⟨⟨ta, n, tz⟩, ⟨ka, kn, kz⟩, ⟨va, vn, vz⟩⟩ := v
  simp only at hlen
  unfold VwV.cells Sl.v cfgC at CF
  unfold cfgC at CK CI
  simp only at CF
  show Calls Tryz.prog 27 #[.agg #[.int .i64 (V : Int), .int .i64 (D : Int), .int .i64 (Hd : Int), .int .i64 (H : Int), .int .i64 (L : Int)], .agg W.cells, .agg #[.slice ta n tz, .slice ka kn kz, .slice va vn vz], .int .i64 tok] w _
  have siz : W.cells.size = 8 := rfl
  generalize hws : W.cells = ws at *
  have X0 := blk_new w 23 #[.int .i64 (V : Int), .int .i64 (D : Int), .int .i64 (Hd : Int), .int .i64 (H : Int), .int .i64 (L : Int)]
  have B0 : Below w.heap.size w (w.alloc (.cells #[.int .i64 (V : Int), .int .i64 (D : Int), .int .i64 (Hd : Int), .int .i64 (H : Int), .int .i64 (L : Int)] 23)) := (Below.refl _ _).alloc (Nat.le_refl _) _
  have s0 : (w.alloc (.cells #[.int .i64 (V : Int), .int .i64 (D : Int), .int .i64 (Hd : Int), .int .i64 (H : Int), .int .i64 (L : Int)] 23)).heap.size = w.heap.size + 1 := by simp
  generalize hw0 : w.alloc (.cells #[.int .i64 (V : Int), .int .i64 (D : Int), .int .i64 (Hd : Int), .int .i64 (H : Int), .int .i64 (L : Int)] 23) = w0 at *
  have X1 := blk_new w0 40 ws
  have B1 : Below w0.heap.size w0 (w0.alloc (.cells ws 40)) := (Below.refl _ _).alloc (Nat.le_refl _) _
  have s1 : (w0.alloc (.cells ws 40)).heap.size = w0.heap.size + 1 := by simp
  rw [s0] at X1 s1
  generalize hw1 : w0.alloc (.cells ws 40) = w1 at *
  have X2 := blk_new w1 48 #[.slice ta n tz, .slice ka kn kz, .slice va vn vz]
  have B2 : Below w1.heap.size w1 (w1.alloc (.cells #[.slice ta n tz, .slice ka kn kz, .slice va vn vz] 48)) := (Below.refl _ _).alloc (Nat.le_refl _) _
  have s2 : (w1.alloc (.cells #[.slice ta n tz, .slice ka kn kz, .slice va vn vz] 48)).heap.size = w1.heap.size + 1 := by simp
  rw [s1] at X2 s2
  generalize hw2 : w1.alloc (.cells #[.slice ta n tz, .slice ka kn kz, .slice va vn vz] 48) = w2 at *
  have X3 := blk_new w2 48 #[.slice none 0 0, .slice none 0 0, .slice none 0 0]
  have B3 : Below w2.heap.size w2 (w2.alloc (.cells #[.slice none 0 0, .slice none 0 0, .slice none 0 0] 48)) := (Below.refl _ _).alloc (Nat.le_refl _) _
  have s3 : (w2.alloc (.cells #[.slice none 0 0, .slice none 0 0, .slice none 0 0] 48)).heap.size = w2.heap.size + 1 := by simp
  rw [s2] at X3 s3
  generalize hw3 : w2.alloc (.cells #[.slice none 0 0, .slice none 0 0, .slice none 0 0] 48) = w3 at *
  replace X0 := ((X0.below B1).below B2).below B3
  replace X1 := (X1.below B2).below B3
  replace X2 := X2.below B3
  replace B3 := below_then (below_then (below_then B0 B1) B2) B3
  have hn : ¬ (128 ≤ (n : Int)) := by omega
  have a0 : w3.cell? ⟨w.heap.size, 0, none⟩ = some (.int .i64 (V : Int)) := X0.cell 0 rfl
  have a1 : w3.cell? ⟨w.heap.size, 1, none⟩ = some (.int .i64 (D : Int)) := X0.cell 1 rfl
  have a2 : w3.cell? ⟨w.heap.size, 2, none⟩ = some (.int .i64 (Hd : Int)) := X0.cell 2 rfl
  have a3 : w3.cell? ⟨w.heap.size, 3, none⟩ = some (.int .i64 (H : Int)) := X0.cell 3 rfl
  have a4 : w3.cell? ⟨w.heap.size, 4, none⟩ = some (.int .i64 (L : Int)) := X0.cell 4 rfl
  go_enter Tryz.func27, Tryz.ntmps27
  go_wp2_with (refine wpList_load_row rfl 40 _ rfl (w.heap.size + 1) rfl 40 ws (0, 0) _ X1 Tryz.underlying40 rfl (by rw [siz]; exact Tryz.infoW) ?_)
  refine (CK _ B3).mono ?_
  rintro e w4 ⟨rfl, B4⟩
  replace X0 := X0.below B4
  replace X1 := X1.below B4
  replace X2 := X2.below B4
  replace X3 := X3.below B4
  have D4 := below_then B3 B4
  clear a0 a1 a2 a3 a4 B3 B4 CK hw0 hw1 hw2 hw3 B0 B1 B2 s0 s1 s2 s3
  have a0 : w4.cell? ⟨w.heap.size, 0, none⟩ = some (.int .i64 (V : Int)) := X0.cell 0 rfl
  have a1 : w4.cell? ⟨w.heap.size, 1, none⟩ = some (.int .i64 (D : Int)) := X0.cell 1 rfl
  have a2 : w4.cell? ⟨w.heap.size, 2, none⟩ = some (.int .i64 (Hd : Int)) := X0.cell 2 rfl
  have a3 : w4.cell? ⟨w.heap.size, 3, none⟩ = some (.int .i64 (H : Int)) := X0.cell 3 rfl
  have a4 : w4.cell? ⟨w.heap.size, 4, none⟩ = some (.int .i64 (L : Int)) := X0.cell 4 rfl
  have b0 : w4.cell? ⟨w.heap.size + 1 + 1, 0, none⟩ = some (.slice ta n tz) := X2.cell 0 rfl
  have b1 : w4.cell? ⟨w.heap.size + 1 + 1, 1, none⟩ = some (.slice ka kn kz) := X2.cell 1 rfl
  have b2 : w4.cell? ⟨w.heap.size + 1 + 1, 2, none⟩ = some (.slice va vn vz) := X2.cell 2 rfl
  go_wp2_with fail
  refine (CF _ D4).mono ?_
  rintro e w5 ⟨rfl, B5⟩
  replace X0 := X0.below B5
  replace X1 := X1.below B5
  replace X2 := X2.below B5
  replace X3 := X3.below B5
  have D5 := below_then D4 B5
  clear a0 a1 a2 a3 a4 b0 b1 b2 D4 B5 CF
  have a0 : w5.cell? ⟨w.heap.size, 0, none⟩ = some (.int .i64 (V : Int)) := X0.cell 0 rfl
  have a1 : w5.cell? ⟨w.heap.size, 1, none⟩ = some (.int .i64 (D : Int)) := X0.cell 1 rfl
  have a2 : w5.cell? ⟨w.heap.size, 2, none⟩ = some (.int .i64 (Hd : Int)) := X0.cell 2 rfl
  have a3 : w5.cell? ⟨w.heap.size, 3, none⟩ = some (.int .i64 (H : Int)) := X0.cell 3 rfl
  have a4 : w5.cell? ⟨w.heap.size, 4, none⟩ = some (.int .i64 (L : Int)) := X0.cell 4 rfl
  have b0 : w5.cell? ⟨w.heap.size + 1 + 1, 0, none⟩ = some (.slice ta n tz) := X2.cell 0 rfl
  have b1 : w5.cell? ⟨w.heap.size + 1 + 1, 1, none⟩ = some (.slice ka kn kz) := X2.cell 1 rfl
  have b2 : w5.cell? ⟨w.heap.size + 1 + 1, 2, none⟩ = some (.slice va vn vz) := X2.cell 2 rfl
  go_wp2_with fail
  refine (CI _).mono ?_
  rintro e w6 ⟨rfl, B6⟩
  rw [hb]
  replace X3 := X3.below B6
  have D6 := below_then D5 B6
  clear a0 a1 a2 a3 a4 b0 b1 b2 D5 CI
  have hall : Array.all (#[.slice none 0 0, .slice none 0 0, .slice none 0 0] : Array Value) (fun v => v.oneCell') = true := by simp [Value.oneCell']
  go_wp2_with (refine wpList_store_row rfl 48 _ _ rfl (w.heap.size + 1 + 1 + 1) #[.slice none 0 0, .slice none 0 0, .slice none 0 0] rfl rfl 48 _ X3 Tryz.infoV rfl hall ?_)
  refine bodyPost_ret (results_blk3 rfl _ _ (w.heap.size + 1 + 1 + 1) _ rfl (load_v (X3.row _) rfl)) rfl ?_
  exact ⟨rfl, below_setRow D6 (by omega) _⟩
set_option maxRecDepth 100000 in
set_option maxHeartbeats 800000 in
theorem feed_ok (V D Hd H L : Nat) (W : Wt) (bs : List Bk) (M : Mdl) (v : VwV) (X : Vw) (tok : Nat) (w : World) (hT : Tab w) (hl : X.T.length ≤ 127) (ht : tok < V) (hG : Good w V D Hd H L W bs M) (hv : VwAt w v X) (hf : VwFit V D L X) :
   Calls Tryz.prog 27 #[.agg (cfgC V D Hd H L), .agg W.cells, .agg v.cells, .int .i64 tok] w fun e w' => ∃ vv g, e = .returned (.tuple #[.agg (VwV.cells vv), .slice (some ⟨g, 0, none⟩) V V, .int .i64 0]) ∧ New w.heap.size w' (fun w => VwAt w vv (feedV M D H Hd L X tok)) ∧ Fresh w' w.heap.size g V V (likR M V D (feedX M D H Hd L X tok)) ∧ Below w.heap.size w w' := by
  obtain ⟨q1, q2, q3, q4, q5, q6, q7, q8, q9, q10⟩ := shape_ok hG.shape
  have hlen := hv.t.row.len
  have most := hf.most
  have CK := fun (wv : World) (hb : Below w.heap.size w wv) => check_good (hG.below hb)
  have CF := fun (wv : World) (hb : Below w.heap.size w wv) => sfits_ok V D Hd H L v X wv (hv.below hb) hf (by omega)
  have CI := fun (wv : World) => isToken_any V D Hd H L tok wv
  have htb : tokB V tok = true := by unfold tokB; exact decide_eq_true (by omega)
  have CG := fun (wv : World) (hb : Below w.heap.size w wv) => goOn_any V D Hd H L W bs M v X tok wv (hT.next hb) (hG.wt.below hb) (hv.below hb) hf hl ht (by omega) hG.len (by omega) (by omega) (by omega) (by omega) (by omega) (shape_mod hG.shape) (by omega)
  have CL := fun (wv : World) (hb : Below w.heap.size w wv) (xo : Option Addr) (cx : Nat) (Xr : List Int) (hX : RowAt wv xo D Xr) => likes_any V D H W bs M xo cx Xr wv (hG.wt.below hb) hX (by omega) (by omega)
  have hn0 : v.t.n ≤ 127 := by omega
  obtain ⟨⟨ta, n, tz⟩, ⟨ka, kn, kz⟩, ⟨va, vn, vz⟩⟩ := v
  simp only at hlen
  unfold VwV.cells Sl.v cfgC at CF
  unfold cfgC at CK CI CG
  unfold VwV.cells Sl.v at CG
  simp only at CG hn0
  simp only at CF
  show Calls Tryz.prog 27 #[.agg #[.int .i64 (V : Int), .int .i64 (D : Int), .int .i64 (Hd : Int), .int .i64 (H : Int), .int .i64 (L : Int)], .agg W.cells, .agg #[.slice ta n tz, .slice ka kn kz, .slice va vn vz], .int .i64 tok] w _
  have siz : W.cells.size = 8 := rfl
  generalize hws : W.cells = ws at *
  have X0 := blk_new w 23 #[.int .i64 (V : Int), .int .i64 (D : Int), .int .i64 (Hd : Int), .int .i64 (H : Int), .int .i64 (L : Int)]
  have B0 : Below w.heap.size w (w.alloc (.cells #[.int .i64 (V : Int), .int .i64 (D : Int), .int .i64 (Hd : Int), .int .i64 (H : Int), .int .i64 (L : Int)] 23)) := (Below.refl _ _).alloc (Nat.le_refl _) _
  have s0 : (w.alloc (.cells #[.int .i64 (V : Int), .int .i64 (D : Int), .int .i64 (Hd : Int), .int .i64 (H : Int), .int .i64 (L : Int)] 23)).heap.size = w.heap.size + 1 := by simp
  generalize hw0 : w.alloc (.cells #[.int .i64 (V : Int), .int .i64 (D : Int), .int .i64 (Hd : Int), .int .i64 (H : Int), .int .i64 (L : Int)] 23) = w0 at *
  have X1 := blk_new w0 40 ws
  have B1 : Below w0.heap.size w0 (w0.alloc (.cells ws 40)) := (Below.refl _ _).alloc (Nat.le_refl _) _
  have s1 : (w0.alloc (.cells ws 40)).heap.size = w0.heap.size + 1 := by simp
  rw [s0] at X1 s1
  generalize hw1 : w0.alloc (.cells ws 40) = w1 at *
  have X2 := blk_new w1 48 #[.slice ta n tz, .slice ka kn kz, .slice va vn vz]
  have B2 : Below w1.heap.size w1 (w1.alloc (.cells #[.slice ta n tz, .slice ka kn kz, .slice va vn vz] 48)) := (Below.refl _ _).alloc (Nat.le_refl _) _
  have s2 : (w1.alloc (.cells #[.slice ta n tz, .slice ka kn kz, .slice va vn vz] 48)).heap.size = w1.heap.size + 1 := by simp
  rw [s1] at X2 s2
  generalize hw2 : w1.alloc (.cells #[.slice ta n tz, .slice ka kn kz, .slice va vn vz] 48) = w2 at *
  have X3 := blk_new w2 48 #[.slice none 0 0, .slice none 0 0, .slice none 0 0]
  have B3 : Below w2.heap.size w2 (w2.alloc (.cells #[.slice none 0 0, .slice none 0 0, .slice none 0 0] 48)) := (Below.refl _ _).alloc (Nat.le_refl _) _
  have s3 : (w2.alloc (.cells #[.slice none 0 0, .slice none 0 0, .slice none 0 0] 48)).heap.size = w2.heap.size + 1 := by simp
  rw [s2] at X3 s3
  generalize hw3 : w2.alloc (.cells #[.slice none 0 0, .slice none 0 0, .slice none 0 0] 48) = w3 at *
  replace X0 := ((X0.below B1).below B2).below B3
  replace X1 := (X1.below B2).below B3
  replace X2 := X2.below B3
  replace B3 := below_then (below_then (below_then B0 B1) B2) B3
  have hn : ¬ (128 ≤ (n : Int)) := by omega
  have a0 : w3.cell? ⟨w.heap.size, 0, none⟩ = some (.int .i64 (V : Int)) := X0.cell 0 rfl
  have a1 : w3.cell? ⟨w.heap.size, 1, none⟩ = some (.int .i64 (D : Int)) := X0.cell 1 rfl
  have a2 : w3.cell? ⟨w.heap.size, 2, none⟩ = some (.int .i64 (Hd : Int)) := X0.cell 2 rfl
  have a3 : w3.cell? ⟨w.heap.size, 3, none⟩ = some (.int .i64 (H : Int)) := X0.cell 3 rfl
  have a4 : w3.cell? ⟨w.heap.size, 4, none⟩ = some (.int .i64 (L : Int)) := X0.cell 4 rfl
  go_enter Tryz.func27, Tryz.ntmps27
  go_wp2_with (refine wpList_load_row rfl 40 _ rfl (w.heap.size + 1) rfl 40 ws (0, 0) _ X1 Tryz.underlying40 rfl (by rw [siz]; exact Tryz.infoW) ?_)
  refine (CK _ B3).mono ?_
  rintro e w4 ⟨rfl, B4⟩
  replace X0 := X0.below B4
  replace X1 := X1.below B4
  replace X2 := X2.below B4
  replace X3 := X3.below B4
  have D4 := below_then B3 B4
  clear a0 a1 a2 a3 a4 B3 B4 CK hw0 hw1 hw2 hw3 B0 B1 B2 s0 s1 s2 s3
  have a0 : w4.cell? ⟨w.heap.size, 0, none⟩ = some (.int .i64 (V : Int)) := X0.cell 0 rfl
  have a1 : w4.cell? ⟨w.heap.size, 1, none⟩ = some (.int .i64 (D : Int)) := X0.cell 1 rfl
  have a2 : w4.cell? ⟨w.heap.size, 2, none⟩ = some (.int .i64 (Hd : Int)) := X0.cell 2 rfl
  have a3 : w4.cell? ⟨w.heap.size, 3, none⟩ = some (.int .i64 (H : Int)) := X0.cell 3 rfl
  have a4 : w4.cell? ⟨w.heap.size, 4, none⟩ = some (.int .i64 (L : Int)) := X0.cell 4 rfl
  have b0 : w4.cell? ⟨w.heap.size + 1 + 1, 0, none⟩ = some (.slice ta n tz) := X2.cell 0 rfl
  have b1 : w4.cell? ⟨w.heap.size + 1 + 1, 1, none⟩ = some (.slice ka kn kz) := X2.cell 1 rfl
  have b2 : w4.cell? ⟨w.heap.size + 1 + 1, 2, none⟩ = some (.slice va vn vz) := X2.cell 2 rfl
  go_wp2_with fail
  refine (CF _ D4).mono ?_
  rintro e w5 ⟨rfl, B5⟩
  replace X0 := X0.below B5
  replace X1 := X1.below B5
  replace X2 := X2.below B5
  replace X3 := X3.below B5
  have D5 := below_then D4 B5
  clear a0 a1 a2 a3 a4 b0 b1 b2 D4 B5 CF
  have a0 : w5.cell? ⟨w.heap.size, 0, none⟩ = some (.int .i64 (V : Int)) := X0.cell 0 rfl
  have a1 : w5.cell? ⟨w.heap.size, 1, none⟩ = some (.int .i64 (D : Int)) := X0.cell 1 rfl
  have a2 : w5.cell? ⟨w.heap.size, 2, none⟩ = some (.int .i64 (Hd : Int)) := X0.cell 2 rfl
  have a3 : w5.cell? ⟨w.heap.size, 3, none⟩ = some (.int .i64 (H : Int)) := X0.cell 3 rfl
  have a4 : w5.cell? ⟨w.heap.size, 4, none⟩ = some (.int .i64 (L : Int)) := X0.cell 4 rfl
  have b0 : w5.cell? ⟨w.heap.size + 1 + 1, 0, none⟩ = some (.slice ta n tz) := X2.cell 0 rfl
  have b1 : w5.cell? ⟨w.heap.size + 1 + 1, 1, none⟩ = some (.slice ka kn kz) := X2.cell 1 rfl
  have b2 : w5.cell? ⟨w.heap.size + 1 + 1, 2, none⟩ = some (.slice va vn vz) := X2.cell 2 rfl
  go_wp2_with fail
  refine (CI _).mono ?_
  rintro e w6 ⟨rfl, B6⟩
  rw [htb]
  replace X0 := X0.below B6
  replace X1 := X1.below B6
  replace X2 := X2.below B6
  replace X3 := X3.below B6
  have D6 := below_then D5 B6
  clear a0 a1 a2 a3 a4 b0 b1 b2 D5 CI B6
  have a0 : w6.cell? ⟨w.heap.size, 0, none⟩ = some (.int .i64 (V : Int)) := X0.cell 0 rfl
  have a1 : w6.cell? ⟨w.heap.size, 1, none⟩ = some (.int .i64 (D : Int)) := X0.cell 1 rfl
  have a2 : w6.cell? ⟨w.heap.size, 2, none⟩ = some (.int .i64 (Hd : Int)) := X0.cell 2 rfl
  have a3 : w6.cell? ⟨w.heap.size, 3, none⟩ = some (.int .i64 (H : Int)) := X0.cell 3 rfl
  have a4 : w6.cell? ⟨w.heap.size, 4, none⟩ = some (.int .i64 (L : Int)) := X0.cell 4 rfl
  have b0 : w6.cell? ⟨w.heap.size + 1 + 1, 0, none⟩ = some (.slice ta n tz) := X2.cell 0 rfl
  have b1 : w6.cell? ⟨w.heap.size + 1 + 1, 1, none⟩ = some (.slice ka kn kz) := X2.cell 1 rfl
  have b2 : w6.cell? ⟨w.heap.size + 1 + 1, 2, none⟩ = some (.slice va vn vz) := X2.cell 2 rfl
  go_wp2_with (refine wpList_load_row rfl 40 _ rfl (w.heap.size + 1) rfl 40 ws (0, 0) _ X1 Tryz.underlying40 rfl (by rw [siz]; exact Tryz.infoW) ?_)
  refine (CG _ D6).mono ?_
  rintro e w7 ⟨vv, gx, cx, rfl, N7, F7, B7⟩
  obtain ⟨⟨ta2, n2, tz2⟩, ⟨ka2, kn2, kz2⟩, ⟨va2, vn2, vz2⟩⟩ := vv
  have z6 := X3.lt
  replace X1 := X1.below B7
  replace X3 := X3.below B7
  have s6 := D6.size
  have D7 := below_then D6 B7
  clear a0 a1 a2 a3 a4 b0 b1 b2 CG X0 X2
  have N7' := N7
  replace F7 := F7.mono s6
  have XA := blk_new w7 48 #[.slice none 0 0, .slice none 0 0, .slice none 0 0]
  have BA : Below w7.heap.size w7 (w7.alloc (.cells #[.slice none 0 0, .slice none 0 0, .slice none 0 0] 48)) := (Below.refl _ _).alloc (Nat.le_refl _) _
  generalize hwa : w7.alloc (.cells #[.slice none 0 0, .slice none 0 0, .slice none 0 0] 48) = wa at *
  have XB := XA.row #[.slice ta2 n2 tz2, .slice ka2 kn2 kz2, .slice va2 vn2 vz2]
  have BB := below_setRow BA (Nat.le_refl _) #[.slice ta2 n2 tz2, .slice ka2 kn2 kz2, .slice va2 vn2 vz2]
  generalize hwb : wa.setRow w7.heap.size #[.slice ta2 n2 tz2, .slice ka2 kn2 kz2, .slice va2 vn2 vz2] = wb at *
  have hall : Array.all (#[.slice ta2 n2 tz2, .slice ka2 kn2 kz2, .slice va2 vn2 vz2] : Array Value) (fun v => v.oneCell') = true := by simp [Value.oneCell']
  have z3 := X3.lt
  replace X1 := (X1.below BB).below ((Below.refl _ _).drew)
  replace X3 := (X3.below BB).below ((Below.refl _ _).drew)
  replace N7' := (N7'.below BB).below ((Below.refl _ _).drew)
  replace F7 := (F7.below BB).drew
  have DB := (below_then D7 BB).drew
  go_wp2_with (refine wpList_store_row rfl 48 _ _ rfl w7.heap.size #[.slice ta2 n2 tz2, .slice ka2 kn2 kz2, .slice va2 vn2 vz2] rfl rfl 48 _ XA Tryz.infoV rfl hall ?_; rw [hwb])
  replace XB := XB.below ((Below.refl _ _).drew)
  clear hwa hwb XA BA
  refine wp_region_held_drew (S := fun w' => Blk w' w7.heap.size 48 #[.slice ta2 n2 tz2, .slice ka2 kn2 kz2, .slice va2 vn2 vz2] ∧ Blk w' (w.heap.size + 1) 40 ws) (by kernel_rfl) (⟨XB, X1⟩) (fun hHeld => ?_)
  refine wpAnyH_take (i := 0) (v := (.agg #[.slice ta2 n2 tz2, .slice ka2 kn2 kz2, .slice va2 vn2 vz2])) rfl (by kernel_rfl) (by kernel_rfl) (by kernel_rfl) (fun _ _ _ h => h) (Or.inl ⟨by rfl, ?_⟩) (by assumption) ?_
  · intro w' hSw
    exact yield_row 48 _ rfl w7.heap.size rfl _ (load_v hSw.1 rfl)
  simp only [List.getElem_toArray, List.getElem_cons_zero, Act.put, List.setIfInBounds_toArray, List.set_cons_zero, List.set_cons_succ]
  refine wpAnyH_take (i := 1) (v := (.agg ws)) rfl (by kernel_rfl) (by kernel_rfl) (by kernel_rfl) (fun _ _ _ h => h) (Or.inl ⟨by rfl, ?_⟩) (by assumption) ?_
  · intro w' hSw
    exact yield_row 40 _ rfl (w.heap.size + 1) rfl ws (load_w hSw.2 siz)
  simp only [List.getElem_toArray, List.getElem_cons_succ, List.getElem_cons_zero, Act.put, List.setIfInBounds_toArray, List.set_cons_zero, List.set_cons_succ]
  refine wpAnyH_take (i := 2) (v := (.slice (some ⟨gx, 0, none⟩) D cx)) rfl (by kernel_rfl) (by kernel_rfl) (by kernel_rfl) (fun _ _ _ h => h) (Or.inl ⟨by rfl, ?_⟩) (by assumption) ?_
  · intro w' hSw
    go_simp
  simp only [List.getElem_toArray, List.getElem_cons_succ, List.getElem_cons_zero, Act.put, List.setIfInBounds_toArray, List.set_cons_zero, List.set_cons_succ]
  refine wpAnyH_ready (rs := [3]) (by kernel_rfl) (by simp) ?_
  refine AllReadyH.cons rfl (fun Kc hKc => ?_) AllReadyH.nil
  simp only [List.getElem_toArray, List.getElem_cons_succ, List.getElem_cons_zero]
  rw [if_pos (by rfl)]
  go_wp2_with fail
  refine (CL _ DB _ _ _ F7.rowAt).mono ?_
  rintro e wd ⟨gl, rfl, FL, BL⟩
  replace XB := XB.below BL
  replace X1 := X1.below BL
  replace X3 := X3.below BL
  replace N7' := N7'.below BL
  have sB := DB.size
  replace FL := FL.mono sB
  have DL := below_then DB BL
  go_wp2_with fail
  refine hKc.out _ _ (⟨XB, X1⟩) (fun hHeld => ?_)
  clear hKc Kc
  refine wpAnyH_ready (rs := [4]) (by kernel_rfl) (by simp) ?_
  refine AllReadyH.cons rfl (fun Kc hKc => ?_) AllReadyH.nil
  simp only [List.getElem_toArray, List.getElem_cons_succ, List.getElem_cons_zero]
  rw [if_pos (by rfl)]
  refine wp_store_row 48 _ _ rfl (w.heap.size + 1 + 1 + 1) #[.slice ta2 n2 tz2, .slice ka2 kn2 kz2, .slice va2 vn2 vz2] rfl rfl 48 _ X3 Tryz.infoV rfl hall ?_
  have so : ∀ b, b ≠ w.heap.size + 1 + 1 + 1 → (wd.setRow (w.heap.size + 1 + 1 + 1) #[.slice ta2 n2 tz2, .slice ka2 kn2 kz2, .slice va2 vn2 vz2]).heap[b]? = wd.heap[b]? := fun b hb => setRow_other _ _ _ _ hb
  refine hKc.out _ _ (⟨Blk.of_block XB (so _ (by omega)), Blk.of_block X1 (so _ (by omega))⟩) (fun hHeld => ?_)
  clear hKc Kc
  refine wpAnyH_take (i := 5) (v := (.slice (some ⟨gl, 0, none⟩) V V)) rfl (by kernel_rfl) (by kernel_rfl) (by kernel_rfl) (fun _ _ _ h => h) (Or.inl ⟨by rfl, ?_⟩) (by assumption) ?_
  · intro w' hSw
    go_simp
  simp only [List.getElem_toArray, List.getElem_cons_succ, List.getElem_cons_zero, Act.put, List.setIfInBounds_toArray, List.set_cons_zero, List.set_cons_succ]
  refine wpAnyH_take (i := 6) (v := (.int .i64 0)) rfl (by kernel_rfl) (by kernel_rfl) (by kernel_rfl) (fun _ _ _ h => h) (Or.inl ⟨by rfl, ?_⟩) (by assumption) ?_
  · intro w' hSw
    go_simp
  simp only [List.getElem_toArray, List.getElem_cons_succ, List.getElem_cons_zero, Act.put, List.setIfInBounds_toArray, List.set_cons_zero, List.set_cons_succ]
  refine wpAnyH_done (by kernel_rfl) ?_ _
  go_wp2
  refine bodyPost_ret (results_blk3 rfl _ _ (w.heap.size + 1 + 1 + 1) _ rfl (load_v (X3.row _) rfl)) rfl ?_
  refine ⟨⟨⟨ta2, n2, tz2⟩, ⟨ka2, kn2, kz2⟩, ⟨va2, vn2, vz2⟩⟩, gl, rfl, ?_, ?_, below_setRow DL (by omega) _⟩
  · exact (N7'.row z6 _).mono s6
  · exact FL.of_block (so gl (FL.ne X3 (by decide)))
end Go.Proofs.YtcanjlofnpnhkaaGreatDoor
