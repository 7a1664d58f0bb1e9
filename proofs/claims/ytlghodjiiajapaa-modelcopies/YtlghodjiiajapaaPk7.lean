/- Contracts of the program's functions, part 7 of 9: what each call returns and leaves of memory. -/
import Derived.Test.YtlghodjiiajapaaPk5
import Derived.Test.YtlghodjiiajapaaPk6
import Derived.Test.YtlghodjiiajapaaPk3
import Derived.Deep.MidRow
/- model.Copy: the same numbers in memory of their own. Laid by tools/gencopy6.py. -/
namespace Go.Proofs.Ytlghodjiiajapaa
open Go.ChangeShapes Go.WideShapes Go.ChangeAt Go.RowKit Go.Deep
structure LySm (y : Lay) : Prop where
  f : y.F.length ≤ 5000
  q : y.Q.length ≤ 5000
  k : y.K.length ≤ 5000
  v : y.V.length ≤ 5000
  o : y.O.length ≤ 5000
  s : y.S.length ≤ 5000
  u : y.U.length ≤ 5000
  d : y.N.length ≤ 5000
/-- Numbers whose rows lie in memory from B on, and are few. -/
structure WOwn (w : World) (B : Nat) (W : Wt) (bs : List Bk) (M : Mdl) : Prop where
  ok : W.Ok
  e : FR w B W.e.d W.e.d.n M.E
  l : FR w B W.l W.l.n M.G
  o : FR w B W.o.d W.o.d.n M.O
  b : BlocksAt w W.b bs
  ls : ∀ (t : Nat) (x : Bk), bs[t]? = some x → ∃ y, M.Ls[t]? = some y ∧ LySm y ∧ BT w B x x y
  se : M.E.length ≤ 5000
  sl : M.G.length ≤ 5000
  so : M.O.length ≤ 5000
theorem WOwn.below {w w' : World} {B : Nat} {W : Wt} {bs : List Bk} {M : Mdl} (h : WOwn w B W bs M) (hb : Below w.heap.size w w') : WOwn w' B W bs M :=
  ⟨h.ok, h.e.below hb, h.l.below hb, h.o.below hb, h.b.below hb, fun t x hx => let ⟨y, h1, h2, h3⟩ := h.ls t x hx; ⟨y, h1, h2, h3.below hb⟩, h.se, h.sl, h.so⟩
/-- Layers that were copied, one by one. -/
structure CBs (w : World) (B k : Nat) (bs xs : List Bk) (Ls : List Lay) : Prop where
  len : xs.length = k
  at_ : ∀ (t : Nat) (x' : Bk), xs[t]? = some x' → ∃ x y, bs[t]? = some x ∧ Ls[t]? = some y ∧ LySm y ∧ x'.Ok ∧ BT w B x x' y
theorem CBs.map {w w' : World} {B k : Nat} {bs xs : List Bk} {Ls : List Lay} (h : CBs w B k bs xs Ls) (f : ∀ {x x' : Bk} {y : Lay}, BT w B x x' y → BT w' B x x' y) : CBs w' B k bs xs Ls := ⟨h.len, fun t x' hx => let ⟨x, y, h1, h2, h3, h4, h5⟩ := h.at_ t x' hx; ⟨x, y, h1, h2, h3, h4, f h5⟩⟩
theorem cbs_nil (w : World) (B : Nat) (bs : List Bk) (Ls : List Lay) : CBs w B 0 bs [] Ls := ⟨rfl, fun t x' hx => by simp at hx⟩
theorem CBs.snoc {w : World} {B k : Nat} {bs xs : List Bk} {Ls : List Lay} (h : CBs w B k bs xs Ls) {x x' : Bk} {y : Lay} (h1 : bs[k]? = some x) (h2 : Ls[k]? = some y) (h4 : LySm y) (h5 : x'.Ok) (h3 : BT w B x x' y) : CBs w B (k + 1) bs (xs ++ [x']) Ls := by
  have hl := h.len
  refine ⟨by simp [hl], fun t z hz => ?_⟩
  rcases Nat.lt_or_ge t k with ht | ht
  · rw [List.getElem?_append_left (by omega)] at hz
    exact h.at_ t z hz
  · rw [List.getElem?_append_right (by omega), hl] at hz
    have ht2 : t < k + 1 := by
      rcases Nat.lt_or_ge (t - k) 1 with q | q
      · omega
      · rw [List.getElem?_eq_none (by simpa using q)] at hz; cases hz
    obtain rfl : t = k := by omega
    simp at hz
    subst hz
    exact ⟨x, y, h1, h2, h4, h5, h3⟩
structure WCop (w : World) (B : Nat) (W W' : Wt) (bs xs : List Bk) (M : Mdl) : Prop where
  e : FR w B W'.e.d W'.e.d.n M.E
  es : W'.e.r = W.e.r ∧ W'.e.c = W.e.c
  l : FR w B W'.l W'.l.n M.G
  o : FR w B W'.o.d W'.o.d.n M.O
  os : W'.o.r = W.o.r ∧ W'.o.c = W.o.c
  bn : W'.b.n = W.b.n
  b : BlocksAt w W'.b xs
  ls : CBs w B W.b.n bs xs M.Ls
theorem clone_fr (B0 : Nat) (s : Sl) (A : List Int) (w : World) (h : FR w B0 s s.n A) (hn : A.length ≤ 5000) :
   Calls Try.prog 25 #[.slice s.ao s.n s.c] w fun e w' => ∃ s' : Sl, e = .returned (.slice s'.ao s'.n s'.c) ∧ FR w' w.heap.size s' s'.n A ∧ Below w.heap.size w w' := by
  have R := h.row
  have hl := fr_len h
  obtain ⟨g, e1, e2, F⟩ := h
  rw [e1] at R ⊢
  refine (clone_any g 0 s.n s.c A w R (by omega)).mono ?_
  rintro e w' ⟨g', cap, rfl, F, B⟩
  exact ⟨⟨some ⟨g', 0, none⟩, s.n, cap⟩, rfl, ⟨g', rfl, rfl, F⟩, B⟩
set_option maxRecDepth 100000 in
set_option maxHeartbeats 6400000 in
theorem copyMatrix_any (r c : Int) (B0 : Nat) (s : Sl) (A : List Int) (w : World) (h : FR w B0 s s.n A) (hn : A.length ≤ 5000) :
   Calls Try.prog 24 #[.agg #[.int .i64 r, .int .i64 c, .slice s.ao s.n s.c]] w fun e w' => ∃ s' : Sl, e = .returned (.agg #[.int .i64 r, .int .i64 c, .slice s'.ao s'.n s'.c]) ∧ FR w' w.heap.size s' s'.n A ∧ Below w.heap.size w w' := by
  obtain ⟨sa, sn, sz⟩ := s
  have HF : Hid (∀ wv, Below w.heap.size w wv → FR wv B0 ⟨sa, sn, sz⟩ sn A) := fun wv hb => h.below hb
  clear h
  simp only
  have X0 := blk_new w 26 #[.int .i64 r, .int .i64 c, .slice sa sn sz]
  have B0 : Below w.heap.size w (w.alloc (.cells #[.int .i64 r, .int .i64 c, .slice sa sn sz] 26)) := (Below.refl _ _).alloc (Nat.le_refl _) _
  have s0 : (w.alloc (.cells #[.int .i64 r, .int .i64 c, .slice sa sn sz] 26)).heap.size = w.heap.size + 1 := by simp
  generalize hw0 : w.alloc (.cells #[.int .i64 r, .int .i64 c, .slice sa sn sz] 26) = w0 at *
  have X1 := blk_new w0 26 #[.int .i64 0, .int .i64 0, .slice none 0 0]
  have B1 : Below w0.heap.size w0 (w0.alloc (.cells #[.int .i64 0, .int .i64 0, .slice none 0 0] 26)) := (Below.refl _ _).alloc (Nat.le_refl _) _
  rw [s0] at X1
  generalize hw1 : w0.alloc (.cells #[.int .i64 0, .int .i64 0, .slice none 0 0] 26) = w1 at *
  replace X0 := X0.below B1
  have DB := below_then B0 B1
  go_enter Try.func24, Try.ntmps24
  go_wp2_with fail
  clear hw0 hw1 B0 s0 B1
  replace X0 := X0.below ((Below.refl _ _).drew)
  replace X1 := X1.below ((Below.refl _ _).drew)
  replace DB := DB.drew
  refine wp_region_held_drew (S := fun w' => Blk w' w.heap.size 26 #[.int .i64 r, .int .i64 c, .slice sa sn sz]) (by kernel_rfl) (X0) (fun hHeld => ?_)
  generalize hA : w1.drew = wA at *
  clear hA
  refine wpAnyH_take (i := 0) (v := (.pointer (some ⟨w.heap.size, 0, none⟩))) rfl (by kernel_rfl) (by kernel_rfl) (by kernel_rfl) (fun _ _ _ h => h) (Or.inl ⟨by rfl, ?_⟩) (by assumption) ?_
  · intro w' hSw
    go_simp
  simp only [List.getElem_toArray, List.getElem_cons_zero, Act.put, List.setIfInBounds_toArray, List.set_cons_zero, List.set_cons_succ]
  refine wpAnyH_take (i := 1) (v := (.int .i64 r)) rfl (by kernel_rfl) (by kernel_rfl) (by kernel_rfl) (fun _ _ _ h => h) (Or.inl ⟨by rfl, ?_⟩) (by assumption) ?_
  · intro w' hSw
    have cc0 : w'.cell? ⟨w.heap.size, 0, none⟩ = some (.int .i64 r) := hSw.cell 0 rfl
    go_simp
  simp only [List.getElem_toArray, List.getElem_cons_succ, List.getElem_cons_zero, Act.put, List.setIfInBounds_toArray, List.set_cons_zero, List.set_cons_succ]
  refine wpAnyH_take (i := 2) (v := (.pointer (some ⟨w.heap.size, 1, none⟩))) rfl (by kernel_rfl) (by kernel_rfl) (by kernel_rfl) (fun _ _ _ h => h) (Or.inl ⟨by rfl, ?_⟩) (by assumption) ?_
  · intro w' hSw
    go_simp
  simp only [List.getElem_toArray, List.getElem_cons_succ, List.getElem_cons_zero, Act.put, List.setIfInBounds_toArray, List.set_cons_zero, List.set_cons_succ]
  refine wpAnyH_take (i := 3) (v := (.int .i64 c)) rfl (by kernel_rfl) (by kernel_rfl) (by kernel_rfl) (fun _ _ _ h => h) (Or.inl ⟨by rfl, ?_⟩) (by assumption) ?_
  · intro w' hSw
    have cc1 : w'.cell? ⟨w.heap.size, 1, none⟩ = some (.int .i64 c) := hSw.cell 1 rfl
    go_simp
  simp only [List.getElem_toArray, List.getElem_cons_succ, List.getElem_cons_zero, Act.put, List.setIfInBounds_toArray, List.set_cons_zero, List.set_cons_succ]
  refine wpAnyH_take (i := 4) (v := (.pointer (some ⟨w.heap.size, 2, none⟩))) rfl (by kernel_rfl) (by kernel_rfl) (by kernel_rfl) (fun _ _ _ h => h) (Or.inl ⟨by rfl, ?_⟩) (by assumption) ?_
  · intro w' hSw
    go_simp
  simp only [List.getElem_toArray, List.getElem_cons_succ, List.getElem_cons_zero, Act.put, List.setIfInBounds_toArray, List.set_cons_zero, List.set_cons_succ]
  refine wpAnyH_take (i := 5) (v := (.slice sa sn sz)) rfl (by kernel_rfl) (by kernel_rfl) (by kernel_rfl) (fun _ _ _ h => h) (Or.inl ⟨by rfl, ?_⟩) (by assumption) ?_
  · intro w' hSw
    have cc2 : w'.cell? ⟨w.heap.size, 2, none⟩ = some (.slice sa sn sz) := hSw.cell 2 rfl
    go_simp
  simp only [List.getElem_toArray, List.getElem_cons_succ, List.getElem_cons_zero, Act.put, List.setIfInBounds_toArray, List.set_cons_zero, List.set_cons_succ]
  refine wpAnyH_ready (rs := [6]) (by kernel_rfl) (by simp) ?_
  refine AllReadyH.cons rfl (fun Kc hKc => ?_) AllReadyH.nil
  simp only [List.getElem_toArray, List.getElem_cons_succ, List.getElem_cons_zero]
  rw [if_pos (by rfl)]
  go_wp2_with fail
  refine (clone_fr B0 ⟨sa, sn, sz⟩ A _ (HF.out _ DB) hn).mono ?_
  rintro e wZ ⟨⟨ya, yn, yz⟩, rfl, E, EM⟩
  replace E := E.mono DB.size
  replace X0 := X0.below EM
  replace X1 := X1.below EM
  replace DB := below_then DB EM
  clear EM
  go_wp2_with fail
  refine hKc.out _ _ (X0) (fun hHeld => ?_)
  clear hKc Kc
  refine wpAnyH_take (i := 7) (v := (.agg #[.int .i64 r, .int .i64 c, .slice ya yn yz])) rfl (by kernel_rfl) (by kernel_rfl) (by kernel_rfl) (fun _ _ _ h => h) (Or.inl ⟨by rfl, ?_⟩) (by assumption) ?_
  · intro w' hSw
    go_simp
  simp only [List.getElem_toArray, List.getElem_cons_succ, List.getElem_cons_zero, Act.put, List.setIfInBounds_toArray, List.set_cons_zero, List.set_cons_succ]
  refine wpAnyH_ready (rs := [8]) (by kernel_rfl) (by simp) ?_
  refine AllReadyH.cons rfl (fun Kc hKc => ?_) AllReadyH.nil
  simp only [List.getElem_toArray, List.getElem_cons_succ, List.getElem_cons_zero]
  rw [if_pos (by rfl)]
  have one : Array.all (#[.int .i64 r, .int .i64 c, .slice ya yn yz] : Array Value) (fun v => v.oneCell') = true := by simp [Value.oneCell']
  have so : ∀ b, b ≠ w.heap.size + 1 → (wZ.setRow (w.heap.size + 1) #[.int .i64 r, .int .i64 c, .slice ya yn yz]).heap[b]? = wZ.heap[b]? := fun b hb => setRow_other _ _ _ _ hb
  refine wp_store_row 26 _ _ rfl (w.heap.size + 1) #[.int .i64 r, .int .i64 c, .slice ya yn yz] rfl rfl 26 _ X1 (by kernel_rfl) rfl one ?_
  replace E := E.keep X1 (by decide) so
  replace X0 := Blk.of_block X0 (so _ (by omega))
  replace DB := below_setRow DB (show w.heap.size ≤ w.heap.size + 1 by omega) #[.int .i64 r, .int .i64 c, .slice ya yn yz]
  have XR := X1.row #[.int .i64 r, .int .i64 c, .slice ya yn yz]
  generalize wZ.setRow (w.heap.size + 1) #[.int .i64 r, .int .i64 c, .slice ya yn yz] = wY at *
  refine hKc.out _ _ X0 (fun hHeld => ?_)
  clear hKc Kc so one X1
  refine wpAnyH_done (by kernel_rfl) ?_ _
  clear hHeld
  go_wp2_with fail
  refine bodyPost_ret (results_cell_row rfl _ _ (w.heap.size + 1) 26 _ _ _ rfl XR Try.underlying26 rfl (by kernel_rfl)) rfl ?_
  exact ⟨⟨ya, yn, yz⟩, rfl, E, DB⟩
set_option maxRecDepth 100000 in
set_option maxHeartbeats 6400000 in
theorem copyBlock_any (x : Bk) (y : Lay) (B0 : Nat) (w : World) (h : BT w B0 x x y) (hy : LySm y) :
   Calls Try.prog 23 #[.agg x.cells] w fun e w' => ∃ x' : Bk, e = .returned (.agg x'.cells) ∧ BT w' w.heap.size x x' y ∧ Below w.heap.size w w' := by
  obtain ⟨⟨vfa, vfn, vfz⟩, ⟨vqr, vqc, ⟨vqa, vqn, vqz⟩⟩, ⟨vkr, vkc, ⟨vka, vkn, vkz⟩⟩, ⟨vvr, vvc, ⟨vva, vvn, vvz⟩⟩, ⟨vor, voc, ⟨voa, von, voz⟩⟩, ⟨vsa, vsn, vsz⟩, ⟨vur, vuc, ⟨vua, vun, vuz⟩⟩, ⟨vdr, vdc, ⟨vda, vdn, vdz⟩⟩⟩ := x
  have HF : Hid (∀ wv, Below w.heap.size w wv → BT wv B0 ⟨⟨vfa, vfn, vfz⟩, ⟨vqr, vqc, ⟨vqa, vqn, vqz⟩⟩, ⟨vkr, vkc, ⟨vka, vkn, vkz⟩⟩, ⟨vvr, vvc, ⟨vva, vvn, vvz⟩⟩, ⟨vor, voc, ⟨voa, von, voz⟩⟩, ⟨vsa, vsn, vsz⟩, ⟨vur, vuc, ⟨vua, vun, vuz⟩⟩, ⟨vdr, vdc, ⟨vda, vdn, vdz⟩⟩⟩ ⟨⟨vfa, vfn, vfz⟩, ⟨vqr, vqc, ⟨vqa, vqn, vqz⟩⟩, ⟨vkr, vkc, ⟨vka, vkn, vkz⟩⟩, ⟨vvr, vvc, ⟨vva, vvn, vvz⟩⟩, ⟨vor, voc, ⟨voa, von, voz⟩⟩, ⟨vsa, vsn, vsz⟩, ⟨vur, vuc, ⟨vua, vun, vuz⟩⟩, ⟨vdr, vdc, ⟨vda, vdn, vdz⟩⟩⟩ y) := fun wv hb => h.below hb
  clear h
  show Calls Try.prog 23 #[.agg #[.slice vfa vfn vfz, .int .i64 vqr, .int .i64 vqc, .slice vqa vqn vqz, .int .i64 vkr, .int .i64 vkc, .slice vka vkn vkz, .int .i64 vvr, .int .i64 vvc, .slice vva vvn vvz, .int .i64 vor, .int .i64 voc, .slice voa von voz, .slice vsa vsn vsz, .int .i64 vur, .int .i64 vuc, .slice vua vun vuz, .int .i64 vdr, .int .i64 vdc, .slice vda vdn vdz]] w _
  have X0 := blk_new w 53 #[.slice vfa vfn vfz, .int .i64 vqr, .int .i64 vqc, .slice vqa vqn vqz, .int .i64 vkr, .int .i64 vkc, .slice vka vkn vkz, .int .i64 vvr, .int .i64 vvc, .slice vva vvn vvz, .int .i64 vor, .int .i64 voc, .slice voa von voz, .slice vsa vsn vsz, .int .i64 vur, .int .i64 vuc, .slice vua vun vuz, .int .i64 vdr, .int .i64 vdc, .slice vda vdn vdz]
  have B0 : Below w.heap.size w (w.alloc (.cells #[.slice vfa vfn vfz, .int .i64 vqr, .int .i64 vqc, .slice vqa vqn vqz, .int .i64 vkr, .int .i64 vkc, .slice vka vkn vkz, .int .i64 vvr, .int .i64 vvc, .slice vva vvn vvz, .int .i64 vor, .int .i64 voc, .slice voa von voz, .slice vsa vsn vsz, .int .i64 vur, .int .i64 vuc, .slice vua vun vuz, .int .i64 vdr, .int .i64 vdc, .slice vda vdn vdz] 53)) := (Below.refl _ _).alloc (Nat.le_refl _) _
  have s0 : (w.alloc (.cells #[.slice vfa vfn vfz, .int .i64 vqr, .int .i64 vqc, .slice vqa vqn vqz, .int .i64 vkr, .int .i64 vkc, .slice vka vkn vkz, .int .i64 vvr, .int .i64 vvc, .slice vva vvn vvz, .int .i64 vor, .int .i64 voc, .slice voa von voz, .slice vsa vsn vsz, .int .i64 vur, .int .i64 vuc, .slice vua vun vuz, .int .i64 vdr, .int .i64 vdc, .slice vda vdn vdz] 53)).heap.size = w.heap.size + 1 := by simp
  generalize hw0 : w.alloc (.cells #[.slice vfa vfn vfz, .int .i64 vqr, .int .i64 vqc, .slice vqa vqn vqz, .int .i64 vkr, .int .i64 vkc, .slice vka vkn vkz, .int .i64 vvr, .int .i64 vvc, .slice vva vvn vvz, .int .i64 vor, .int .i64 voc, .slice voa von voz, .slice vsa vsn vsz, .int .i64 vur, .int .i64 vuc, .slice vua vun vuz, .int .i64 vdr, .int .i64 vdc, .slice vda vdn vdz] 53) = w0 at *
  have X1 := blk_new w0 53 #[.slice none 0 0, .int .i64 0, .int .i64 0, .slice none 0 0, .int .i64 0, .int .i64 0, .slice none 0 0, .int .i64 0, .int .i64 0, .slice none 0 0, .int .i64 0, .int .i64 0, .slice none 0 0, .slice none 0 0, .int .i64 0, .int .i64 0, .slice none 0 0, .int .i64 0, .int .i64 0, .slice none 0 0]
  have B1 : Below w0.heap.size w0 (w0.alloc (.cells #[.slice none 0 0, .int .i64 0, .int .i64 0, .slice none 0 0, .int .i64 0, .int .i64 0, .slice none 0 0, .int .i64 0, .int .i64 0, .slice none 0 0, .int .i64 0, .int .i64 0, .slice none 0 0, .slice none 0 0, .int .i64 0, .int .i64 0, .slice none 0 0, .int .i64 0, .int .i64 0, .slice none 0 0] 53)) := (Below.refl _ _).alloc (Nat.le_refl _) _
  rw [s0] at X1
  generalize hw1 : w0.alloc (.cells #[.slice none 0 0, .int .i64 0, .int .i64 0, .slice none 0 0, .int .i64 0, .int .i64 0, .slice none 0 0, .int .i64 0, .int .i64 0, .slice none 0 0, .int .i64 0, .int .i64 0, .slice none 0 0, .slice none 0 0, .int .i64 0, .int .i64 0, .slice none 0 0, .int .i64 0, .int .i64 0, .slice none 0 0] 53) = w1 at *
  replace X0 := X0.below B1
  have DB := below_then B0 B1
  go_enter Try.func23, Try.ntmps23
  go_wp2_with fail
  clear hw0 hw1 B0 s0 B1
  replace X0 := X0.below ((Below.refl _ _).drew)
  replace X1 := X1.below ((Below.refl _ _).drew)
  replace DB := DB.drew
  refine wp_region_held_drew (S := fun w' => Blk w' w.heap.size 53 #[.slice vfa vfn vfz, .int .i64 vqr, .int .i64 vqc, .slice vqa vqn vqz, .int .i64 vkr, .int .i64 vkc, .slice vka vkn vkz, .int .i64 vvr, .int .i64 vvc, .slice vva vvn vvz, .int .i64 vor, .int .i64 voc, .slice voa von voz, .slice vsa vsn vsz, .int .i64 vur, .int .i64 vuc, .slice vua vun vuz, .int .i64 vdr, .int .i64 vdc, .slice vda vdn vdz]) (by kernel_rfl) (X0) (fun hHeld => ?_)
  generalize hA : w1.drew = wA at *
  clear hA
  refine wpAnyH_take (i := 0) (v := (.pointer (some ⟨w.heap.size, 0, none⟩))) rfl (by kernel_rfl) (by kernel_rfl) (by kernel_rfl) (fun _ _ _ h => h) (Or.inl ⟨by rfl, ?_⟩) (by assumption) ?_
  · intro w' hSw
    go_simp
  simp only [List.getElem_toArray, List.getElem_cons_zero, Act.put, List.setIfInBounds_toArray, List.set_cons_zero, List.set_cons_succ]
  refine wpAnyH_take (i := 1) (v := (.slice vfa vfn vfz)) rfl (by kernel_rfl) (by kernel_rfl) (by kernel_rfl) (fun _ _ _ h => h) (Or.inl ⟨by rfl, ?_⟩) (by assumption) ?_
  · intro w' hSw
    have cc0 : w'.cell? ⟨w.heap.size, 0, none⟩ = some (.slice vfa vfn vfz) := hSw.cell 0 rfl
    go_simp
  simp only [List.getElem_toArray, List.getElem_cons_succ, List.getElem_cons_zero, Act.put, List.setIfInBounds_toArray, List.set_cons_zero, List.set_cons_succ]
  refine wpAnyH_take (i := 3) (v := (.pointer (some ⟨w.heap.size, 1, none⟩))) rfl (by kernel_rfl) (by kernel_rfl) (by kernel_rfl) (fun _ _ _ h => h) (Or.inl ⟨by rfl, ?_⟩) (by assumption) ?_
  · intro w' hSw
    go_simp
  simp only [List.getElem_toArray, List.getElem_cons_succ, List.getElem_cons_zero, Act.put, List.setIfInBounds_toArray, List.set_cons_zero, List.set_cons_succ]
  refine wpAnyH_take (i := 4) (v := (.agg #[.int .i64 vqr, .int .i64 vqc, .slice vqa vqn vqz])) rfl (by kernel_rfl) (by kernel_rfl) (by kernel_rfl) (fun _ _ _ h => h) (Or.inl ⟨by rfl, ?_⟩) (by assumption) ?_
  · intro w' hSw
    have cc1 : w'.cell? ⟨w.heap.size, 1, none⟩ = some (.int .i64 vqr) := hSw.cell 1 rfl
    have cc2 : w'.cell? ⟨w.heap.size, 2, none⟩ = some (.int .i64 vqc) := hSw.cell 2 rfl
    have cc3 : w'.cell? ⟨w.heap.size, 3, none⟩ = some (.slice vqa vqn vqz) := hSw.cell 3 rfl
    go_simp
  simp only [List.getElem_toArray, List.getElem_cons_succ, List.getElem_cons_zero, Act.put, List.setIfInBounds_toArray, List.set_cons_zero, List.set_cons_succ]
  refine wpAnyH_take (i := 6) (v := (.pointer (some ⟨w.heap.size, 4, none⟩))) rfl (by kernel_rfl) (by kernel_rfl) (by kernel_rfl) (fun _ _ _ h => h) (Or.inl ⟨by rfl, ?_⟩) (by assumption) ?_
  · intro w' hSw
    go_simp
  simp only [List.getElem_toArray, List.getElem_cons_succ, List.getElem_cons_zero, Act.put, List.setIfInBounds_toArray, List.set_cons_zero, List.set_cons_succ]
  refine wpAnyH_take (i := 7) (v := (.agg #[.int .i64 vkr, .int .i64 vkc, .slice vka vkn vkz])) rfl (by kernel_rfl) (by kernel_rfl) (by kernel_rfl) (fun _ _ _ h => h) (Or.inl ⟨by rfl, ?_⟩) (by assumption) ?_
  · intro w' hSw
    have cc4 : w'.cell? ⟨w.heap.size, 4, none⟩ = some (.int .i64 vkr) := hSw.cell 4 rfl
    have cc5 : w'.cell? ⟨w.heap.size, 5, none⟩ = some (.int .i64 vkc) := hSw.cell 5 rfl
    have cc6 : w'.cell? ⟨w.heap.size, 6, none⟩ = some (.slice vka vkn vkz) := hSw.cell 6 rfl
    go_simp
  simp only [List.getElem_toArray, List.getElem_cons_succ, List.getElem_cons_zero, Act.put, List.setIfInBounds_toArray, List.set_cons_zero, List.set_cons_succ]
  refine wpAnyH_take (i := 9) (v := (.pointer (some ⟨w.heap.size, 7, none⟩))) rfl (by kernel_rfl) (by kernel_rfl) (by kernel_rfl) (fun _ _ _ h => h) (Or.inl ⟨by rfl, ?_⟩) (by assumption) ?_
  · intro w' hSw
    go_simp
  simp only [List.getElem_toArray, List.getElem_cons_succ, List.getElem_cons_zero, Act.put, List.setIfInBounds_toArray, List.set_cons_zero, List.set_cons_succ]
  refine wpAnyH_take (i := 10) (v := (.agg #[.int .i64 vvr, .int .i64 vvc, .slice vva vvn vvz])) rfl (by kernel_rfl) (by kernel_rfl) (by kernel_rfl) (fun _ _ _ h => h) (Or.inl ⟨by rfl, ?_⟩) (by assumption) ?_
  · intro w' hSw
    have cc7 : w'.cell? ⟨w.heap.size, 7, none⟩ = some (.int .i64 vvr) := hSw.cell 7 rfl
    have cc8 : w'.cell? ⟨w.heap.size, 8, none⟩ = some (.int .i64 vvc) := hSw.cell 8 rfl
    have cc9 : w'.cell? ⟨w.heap.size, 9, none⟩ = some (.slice vva vvn vvz) := hSw.cell 9 rfl
    go_simp
  simp only [List.getElem_toArray, List.getElem_cons_succ, List.getElem_cons_zero, Act.put, List.setIfInBounds_toArray, List.set_cons_zero, List.set_cons_succ]
  refine wpAnyH_take (i := 12) (v := (.pointer (some ⟨w.heap.size, 10, none⟩))) rfl (by kernel_rfl) (by kernel_rfl) (by kernel_rfl) (fun _ _ _ h => h) (Or.inl ⟨by rfl, ?_⟩) (by assumption) ?_
  · intro w' hSw
    go_simp
  simp only [List.getElem_toArray, List.getElem_cons_succ, List.getElem_cons_zero, Act.put, List.setIfInBounds_toArray, List.set_cons_zero, List.set_cons_succ]
  refine wpAnyH_take (i := 13) (v := (.agg #[.int .i64 vor, .int .i64 voc, .slice voa von voz])) rfl (by kernel_rfl) (by kernel_rfl) (by kernel_rfl) (fun _ _ _ h => h) (Or.inl ⟨by rfl, ?_⟩) (by assumption) ?_
  · intro w' hSw
    have cc10 : w'.cell? ⟨w.heap.size, 10, none⟩ = some (.int .i64 vor) := hSw.cell 10 rfl
    have cc11 : w'.cell? ⟨w.heap.size, 11, none⟩ = some (.int .i64 voc) := hSw.cell 11 rfl
    have cc12 : w'.cell? ⟨w.heap.size, 12, none⟩ = some (.slice voa von voz) := hSw.cell 12 rfl
    go_simp
  simp only [List.getElem_toArray, List.getElem_cons_succ, List.getElem_cons_zero, Act.put, List.setIfInBounds_toArray, List.set_cons_zero, List.set_cons_succ]
  refine wpAnyH_take (i := 15) (v := (.pointer (some ⟨w.heap.size, 13, none⟩))) rfl (by kernel_rfl) (by kernel_rfl) (by kernel_rfl) (fun _ _ _ h => h) (Or.inl ⟨by rfl, ?_⟩) (by assumption) ?_
  · intro w' hSw
    go_simp
  simp only [List.getElem_toArray, List.getElem_cons_succ, List.getElem_cons_zero, Act.put, List.setIfInBounds_toArray, List.set_cons_zero, List.set_cons_succ]
  refine wpAnyH_take (i := 16) (v := (.slice vsa vsn vsz)) rfl (by kernel_rfl) (by kernel_rfl) (by kernel_rfl) (fun _ _ _ h => h) (Or.inl ⟨by rfl, ?_⟩) (by assumption) ?_
  · intro w' hSw
    have cc13 : w'.cell? ⟨w.heap.size, 13, none⟩ = some (.slice vsa vsn vsz) := hSw.cell 13 rfl
    go_simp
  simp only [List.getElem_toArray, List.getElem_cons_succ, List.getElem_cons_zero, Act.put, List.setIfInBounds_toArray, List.set_cons_zero, List.set_cons_succ]
  refine wpAnyH_take (i := 18) (v := (.pointer (some ⟨w.heap.size, 14, none⟩))) rfl (by kernel_rfl) (by kernel_rfl) (by kernel_rfl) (fun _ _ _ h => h) (Or.inl ⟨by rfl, ?_⟩) (by assumption) ?_
  · intro w' hSw
    go_simp
  simp only [List.getElem_toArray, List.getElem_cons_succ, List.getElem_cons_zero, Act.put, List.setIfInBounds_toArray, List.set_cons_zero, List.set_cons_succ]
  refine wpAnyH_take (i := 19) (v := (.agg #[.int .i64 vur, .int .i64 vuc, .slice vua vun vuz])) rfl (by kernel_rfl) (by kernel_rfl) (by kernel_rfl) (fun _ _ _ h => h) (Or.inl ⟨by rfl, ?_⟩) (by assumption) ?_
  · intro w' hSw
    have cc14 : w'.cell? ⟨w.heap.size, 14, none⟩ = some (.int .i64 vur) := hSw.cell 14 rfl
    have cc15 : w'.cell? ⟨w.heap.size, 15, none⟩ = some (.int .i64 vuc) := hSw.cell 15 rfl
    have cc16 : w'.cell? ⟨w.heap.size, 16, none⟩ = some (.slice vua vun vuz) := hSw.cell 16 rfl
    go_simp
  simp only [List.getElem_toArray, List.getElem_cons_succ, List.getElem_cons_zero, Act.put, List.setIfInBounds_toArray, List.set_cons_zero, List.set_cons_succ]
  refine wpAnyH_take (i := 21) (v := (.pointer (some ⟨w.heap.size, 17, none⟩))) rfl (by kernel_rfl) (by kernel_rfl) (by kernel_rfl) (fun _ _ _ h => h) (Or.inl ⟨by rfl, ?_⟩) (by assumption) ?_
  · intro w' hSw
    go_simp
  simp only [List.getElem_toArray, List.getElem_cons_succ, List.getElem_cons_zero, Act.put, List.setIfInBounds_toArray, List.set_cons_zero, List.set_cons_succ]
  refine wpAnyH_take (i := 22) (v := (.agg #[.int .i64 vdr, .int .i64 vdc, .slice vda vdn vdz])) rfl (by kernel_rfl) (by kernel_rfl) (by kernel_rfl) (fun _ _ _ h => h) (Or.inl ⟨by rfl, ?_⟩) (by assumption) ?_
  · intro w' hSw
    have cc17 : w'.cell? ⟨w.heap.size, 17, none⟩ = some (.int .i64 vdr) := hSw.cell 17 rfl
    have cc18 : w'.cell? ⟨w.heap.size, 18, none⟩ = some (.int .i64 vdc) := hSw.cell 18 rfl
    have cc19 : w'.cell? ⟨w.heap.size, 19, none⟩ = some (.slice vda vdn vdz) := hSw.cell 19 rfl
    go_simp
  simp only [List.getElem_toArray, List.getElem_cons_succ, List.getElem_cons_zero, Act.put, List.setIfInBounds_toArray, List.set_cons_zero, List.set_cons_succ]
  refine wpAnyH_ready (rs := [2]) (by kernel_rfl) (by simp) ?_
  refine AllReadyH.cons rfl (fun Kc hKc => ?_) AllReadyH.nil
  simp only [List.getElem_toArray, List.getElem_cons_succ, List.getElem_cons_zero]
  rw [if_pos (by rfl)]
  go_wp2_with fail
  refine (clone_fr B0 ⟨vfa, vfn, vfz⟩ y.F _ (HF.out _ DB).f hy.f).mono ?_
  rintro e wc0 ⟨⟨yfa, yfn, yfz⟩, rfl, Ef, EM⟩
  replace Ef := Ef.mono DB.size
  replace X0 := X0.below EM
  replace X1 := X1.below EM
  replace DB := below_then DB EM
  clear EM
  go_wp2_with fail
  refine hKc.out _ _ (X0) (fun hHeld => ?_)
  clear hKc Kc
  refine wpAnyH_ready (rs := [5]) (by kernel_rfl) (by simp) ?_
  refine AllReadyH.cons rfl (fun Kc hKc => ?_) AllReadyH.nil
  simp only [List.getElem_toArray, List.getElem_cons_succ, List.getElem_cons_zero]
  rw [if_pos (by rfl)]
  go_wp2_with fail
  refine (copyMatrix_any vqr vqc B0 ⟨vqa, vqn, vqz⟩ y.Q _ (HF.out _ DB).q hy.q).mono ?_
  rintro e wc1 ⟨⟨yqa, yqn, yqz⟩, rfl, Eq, EM⟩
  replace Eq := Eq.mono DB.size
  replace Ef := Ef.below EM
  replace X0 := X0.below EM
  replace X1 := X1.below EM
  replace DB := below_then DB EM
  clear EM
  go_wp2_with fail
  refine hKc.out _ _ (X0) (fun hHeld => ?_)
  clear hKc Kc
  refine wpAnyH_ready (rs := [8]) (by kernel_rfl) (by simp) ?_
  refine AllReadyH.cons rfl (fun Kc hKc => ?_) AllReadyH.nil
  simp only [List.getElem_toArray, List.getElem_cons_succ, List.getElem_cons_zero]
  rw [if_pos (by rfl)]
  go_wp2_with fail
  refine (copyMatrix_any vkr vkc B0 ⟨vka, vkn, vkz⟩ y.K _ (HF.out _ DB).k hy.k).mono ?_
  rintro e wc2 ⟨⟨yka, ykn, ykz⟩, rfl, Ek, EM⟩
  replace Ek := Ek.mono DB.size
  replace Ef := Ef.below EM
  replace Eq := Eq.below EM
  replace X0 := X0.below EM
  replace X1 := X1.below EM
  replace DB := below_then DB EM
  clear EM
  go_wp2_with fail
  refine hKc.out _ _ (X0) (fun hHeld => ?_)
  clear hKc Kc
  refine wpAnyH_ready (rs := [11]) (by kernel_rfl) (by simp) ?_
  refine AllReadyH.cons rfl (fun Kc hKc => ?_) AllReadyH.nil
  simp only [List.getElem_toArray, List.getElem_cons_succ, List.getElem_cons_zero]
  rw [if_pos (by rfl)]
  go_wp2_with fail
  refine (copyMatrix_any vvr vvc B0 ⟨vva, vvn, vvz⟩ y.V _ (HF.out _ DB).v hy.v).mono ?_
  rintro e wc3 ⟨⟨yva, yvn, yvz⟩, rfl, Ev, EM⟩
  replace Ev := Ev.mono DB.size
  replace Ef := Ef.below EM
  replace Eq := Eq.below EM
  replace Ek := Ek.below EM
  replace X0 := X0.below EM
  replace X1 := X1.below EM
  replace DB := below_then DB EM
  clear EM
  go_wp2_with fail
  refine hKc.out _ _ (X0) (fun hHeld => ?_)
  clear hKc Kc
  refine wpAnyH_ready (rs := [14]) (by kernel_rfl) (by simp) ?_
  refine AllReadyH.cons rfl (fun Kc hKc => ?_) AllReadyH.nil
  simp only [List.getElem_toArray, List.getElem_cons_succ, List.getElem_cons_zero]
  rw [if_pos (by rfl)]
  go_wp2_with fail
  refine (copyMatrix_any vor voc B0 ⟨voa, von, voz⟩ y.O _ (HF.out _ DB).o hy.o).mono ?_
  rintro e wc4 ⟨⟨yoa, yon, yoz⟩, rfl, Eo, EM⟩
  replace Eo := Eo.mono DB.size
  replace Ef := Ef.below EM
  replace Eq := Eq.below EM
  replace Ek := Ek.below EM
  replace Ev := Ev.below EM
  replace X0 := X0.below EM
  replace X1 := X1.below EM
  replace DB := below_then DB EM
  clear EM
  go_wp2_with fail
  refine hKc.out _ _ (X0) (fun hHeld => ?_)
  clear hKc Kc
  refine wpAnyH_ready (rs := [17]) (by kernel_rfl) (by simp) ?_
  refine AllReadyH.cons rfl (fun Kc hKc => ?_) AllReadyH.nil
  simp only [List.getElem_toArray, List.getElem_cons_succ, List.getElem_cons_zero]
  rw [if_pos (by rfl)]
  go_wp2_with fail
  refine (clone_fr B0 ⟨vsa, vsn, vsz⟩ y.S _ (HF.out _ DB).s hy.s).mono ?_
  rintro e wc5 ⟨⟨ysa, ysn, ysz⟩, rfl, Es, EM⟩
  replace Es := Es.mono DB.size
  replace Ef := Ef.below EM
  replace Eq := Eq.below EM
  replace Ek := Ek.below EM
  replace Ev := Ev.below EM
  replace Eo := Eo.below EM
  replace X0 := X0.below EM
  replace X1 := X1.below EM
  replace DB := below_then DB EM
  clear EM
  go_wp2_with fail
  refine hKc.out _ _ (X0) (fun hHeld => ?_)
  clear hKc Kc
  refine wpAnyH_ready (rs := [20]) (by kernel_rfl) (by simp) ?_
  refine AllReadyH.cons rfl (fun Kc hKc => ?_) AllReadyH.nil
  simp only [List.getElem_toArray, List.getElem_cons_succ, List.getElem_cons_zero]
  rw [if_pos (by rfl)]
  go_wp2_with fail
  refine (copyMatrix_any vur vuc B0 ⟨vua, vun, vuz⟩ y.U _ (HF.out _ DB).u hy.u).mono ?_
  rintro e wc6 ⟨⟨yua, yun, yuz⟩, rfl, Eu, EM⟩
  replace Eu := Eu.mono DB.size
  replace Ef := Ef.below EM
  replace Eq := Eq.below EM
  replace Ek := Ek.below EM
  replace Ev := Ev.below EM
  replace Eo := Eo.below EM
  replace Es := Es.below EM
  replace X0 := X0.below EM
  replace X1 := X1.below EM
  replace DB := below_then DB EM
  clear EM
  go_wp2_with fail
  refine hKc.out _ _ (X0) (fun hHeld => ?_)
  clear hKc Kc
  refine wpAnyH_ready (rs := [23]) (by kernel_rfl) (by simp) ?_
  refine AllReadyH.cons rfl (fun Kc hKc => ?_) AllReadyH.nil
  simp only [List.getElem_toArray, List.getElem_cons_succ, List.getElem_cons_zero]
  rw [if_pos (by rfl)]
  go_wp2_with fail
  refine (copyMatrix_any vdr vdc B0 ⟨vda, vdn, vdz⟩ y.N _ (HF.out _ DB).d hy.d).mono ?_
  rintro e wZ ⟨⟨yda, ydn, ydz⟩, rfl, Ed, EM⟩
  replace Ed := Ed.mono DB.size
  replace Ef := Ef.below EM
  replace Eq := Eq.below EM
  replace Ek := Ek.below EM
  replace Ev := Ev.below EM
  replace Eo := Eo.below EM
  replace Es := Es.below EM
  replace Eu := Eu.below EM
  replace X0 := X0.below EM
  replace X1 := X1.below EM
  replace DB := below_then DB EM
  clear EM
  go_wp2_with fail
  refine hKc.out _ _ (X0) (fun hHeld => ?_)
  clear hKc Kc
  refine wpAnyH_take (i := 24) (v := (.agg #[.slice yfa yfn yfz, .int .i64 vqr, .int .i64 vqc, .slice yqa yqn yqz, .int .i64 vkr, .int .i64 vkc, .slice yka ykn ykz, .int .i64 vvr, .int .i64 vvc, .slice yva yvn yvz, .int .i64 vor, .int .i64 voc, .slice yoa yon yoz, .slice ysa ysn ysz, .int .i64 vur, .int .i64 vuc, .slice yua yun yuz, .int .i64 vdr, .int .i64 vdc, .slice yda ydn ydz])) rfl (by kernel_rfl) (by kernel_rfl) (by kernel_rfl) (fun _ _ _ h => h) (Or.inl ⟨by rfl, ?_⟩) (by assumption) ?_
  · intro w' hSw
    go_simp
  simp only [List.getElem_toArray, List.getElem_cons_succ, List.getElem_cons_zero, Act.put, List.setIfInBounds_toArray, List.set_cons_zero, List.set_cons_succ]
  refine wpAnyH_ready (rs := [25]) (by kernel_rfl) (by simp) ?_
  refine AllReadyH.cons rfl (fun Kc hKc => ?_) AllReadyH.nil
  simp only [List.getElem_toArray, List.getElem_cons_succ, List.getElem_cons_zero]
  rw [if_pos (by rfl)]
  have one : Array.all (#[.slice yfa yfn yfz, .int .i64 vqr, .int .i64 vqc, .slice yqa yqn yqz, .int .i64 vkr, .int .i64 vkc, .slice yka ykn ykz, .int .i64 vvr, .int .i64 vvc, .slice yva yvn yvz, .int .i64 vor, .int .i64 voc, .slice yoa yon yoz, .slice ysa ysn ysz, .int .i64 vur, .int .i64 vuc, .slice yua yun yuz, .int .i64 vdr, .int .i64 vdc, .slice yda ydn ydz] : Array Value) (fun v => v.oneCell') = true := by simp [Value.oneCell']
  have so : ∀ b, b ≠ w.heap.size + 1 → (wZ.setRow (w.heap.size + 1) #[.slice yfa yfn yfz, .int .i64 vqr, .int .i64 vqc, .slice yqa yqn yqz, .int .i64 vkr, .int .i64 vkc, .slice yka ykn ykz, .int .i64 vvr, .int .i64 vvc, .slice yva yvn yvz, .int .i64 vor, .int .i64 voc, .slice yoa yon yoz, .slice ysa ysn ysz, .int .i64 vur, .int .i64 vuc, .slice yua yun yuz, .int .i64 vdr, .int .i64 vdc, .slice yda ydn ydz]).heap[b]? = wZ.heap[b]? := fun b hb => setRow_other _ _ _ _ hb
  refine wp_store_row 53 _ _ rfl (w.heap.size + 1) #[.slice yfa yfn yfz, .int .i64 vqr, .int .i64 vqc, .slice yqa yqn yqz, .int .i64 vkr, .int .i64 vkc, .slice yka ykn ykz, .int .i64 vvr, .int .i64 vvc, .slice yva yvn yvz, .int .i64 vor, .int .i64 voc, .slice yoa yon yoz, .slice ysa ysn ysz, .int .i64 vur, .int .i64 vuc, .slice yua yun yuz, .int .i64 vdr, .int .i64 vdc, .slice yda ydn ydz] rfl rfl 53 _ X1 Try.infoB rfl one ?_
  replace Ef := Ef.keep X1 (by decide) so
  replace Eq := Eq.keep X1 (by decide) so
  replace Ek := Ek.keep X1 (by decide) so
  replace Ev := Ev.keep X1 (by decide) so
  replace Eo := Eo.keep X1 (by decide) so
  replace Es := Es.keep X1 (by decide) so
  replace Eu := Eu.keep X1 (by decide) so
  replace Ed := Ed.keep X1 (by decide) so
  replace X0 := Blk.of_block X0 (so _ (by omega))
  replace DB := below_setRow DB (show w.heap.size ≤ w.heap.size + 1 by omega) #[.slice yfa yfn yfz, .int .i64 vqr, .int .i64 vqc, .slice yqa yqn yqz, .int .i64 vkr, .int .i64 vkc, .slice yka ykn ykz, .int .i64 vvr, .int .i64 vvc, .slice yva yvn yvz, .int .i64 vor, .int .i64 voc, .slice yoa yon yoz, .slice ysa ysn ysz, .int .i64 vur, .int .i64 vuc, .slice yua yun yuz, .int .i64 vdr, .int .i64 vdc, .slice yda ydn ydz]
  have XR := X1.row #[.slice yfa yfn yfz, .int .i64 vqr, .int .i64 vqc, .slice yqa yqn yqz, .int .i64 vkr, .int .i64 vkc, .slice yka ykn ykz, .int .i64 vvr, .int .i64 vvc, .slice yva yvn yvz, .int .i64 vor, .int .i64 voc, .slice yoa yon yoz, .slice ysa ysn ysz, .int .i64 vur, .int .i64 vuc, .slice yua yun yuz, .int .i64 vdr, .int .i64 vdc, .slice yda ydn ydz]
  generalize wZ.setRow (w.heap.size + 1) #[.slice yfa yfn yfz, .int .i64 vqr, .int .i64 vqc, .slice yqa yqn yqz, .int .i64 vkr, .int .i64 vkc, .slice yka ykn ykz, .int .i64 vvr, .int .i64 vvc, .slice yva yvn yvz, .int .i64 vor, .int .i64 voc, .slice yoa yon yoz, .slice ysa ysn ysz, .int .i64 vur, .int .i64 vuc, .slice yua yun yuz, .int .i64 vdr, .int .i64 vdc, .slice yda ydn ydz] = wY at *
  refine hKc.out _ _ X0 (fun hHeld => ?_)
  clear hKc Kc so one X1
  refine wpAnyH_done (by kernel_rfl) ?_ _
  clear hHeld
  go_wp2_with fail
  refine bodyPost_ret (results_cell_row rfl _ _ (w.heap.size + 1) 53 _ _ _ rfl XR Try.underlying53 rfl Try.infoB) rfl ?_
  exact ⟨⟨⟨yfa, yfn, yfz⟩, ⟨vqr, vqc, ⟨yqa, yqn, yqz⟩⟩, ⟨vkr, vkc, ⟨yka, ykn, ykz⟩⟩, ⟨vvr, vvc, ⟨yva, yvn, yvz⟩⟩, ⟨vor, voc, ⟨yoa, yon, yoz⟩⟩, ⟨ysa, ysn, ysz⟩, ⟨vur, vuc, ⟨yua, yun, yuz⟩⟩, ⟨vdr, vdc, ⟨yda, ydn, ydz⟩⟩⟩, rfl, ⟨Ef, Eq, Ek, Ev, Eo, Es, Eu, Ed, ⟨rfl, rfl⟩, ⟨rfl, rfl⟩, ⟨rfl, rfl⟩, ⟨rfl, rfl⟩, ⟨rfl, rfl⟩, ⟨rfl, rfl⟩⟩, DB⟩
theorem make_blocksN (L : Nat) (hL : L ≤ 1000) (w : World) : (Instr.makeSlice 27 (.int .i64 (L : Int)) (.int .i64 (L : Int))).run Try.prog w = .ok (.slice (some ⟨w.heap.size, 0, none⟩) L L) (w.alloc (.cells (madeCells #[.slice none 0 0, .int .i64 0, .int .i64 0, .slice none 0 0, .int .i64 0, .int .i64 0, .slice none 0 0, .int .i64 0, .int .i64 0, .slice none 0 0, .int .i64 0, .int .i64 0, .slice none 0 0, .slice none 0 0, .int .i64 0, .int .i64 0, .slice none 0 0, .int .i64 0, .int .i64 0, .slice none 0 0] (L * 20)) 53)) := by
  obtain ⟨i0, hi, hz0, hz1, hz2⟩ := info_parts Try.infoBlk
  have := run_make (P := Try.prog) w 27 53 i0 _ Try.underlying27 hi hz0 .i64 .i64 L L (by omega) (by omega) (by rw [hz2]; omega) (by omega)
  rw [hz1] at this
  simpa [Value.cells] using this
theorem wf_lt {w : World} {b : Nat} {o : Obj} (h : w.heap[b]? = some o) : b < w.heap.size := (Array.getElem?_eq_some_iff.1 h).1
set_option maxRecDepth 100000 in
set_option maxHeartbeats 6400000 in
theorem modelCopy_any (W : Wt) (bs : List Bk) (M : Mdl) (B0 : Nat) (w : World) (h : WOwn w B0 W bs M) (hfew : bs.length ≤ 1000) :
   Calls Try.prog 14 #[.agg W.cells] w fun e w' => ∃ W' : Wt, e = .returned (.agg W'.cells) ∧ (∃ xs, WCop w' w.heap.size W W' bs xs M) ∧ Below w.heap.size w w' := by
  have hbl := h.b.len
  obtain ⟨⟨er, ec, ⟨ea, en, ez⟩⟩, ⟨ba, bn, bz⟩, ⟨la, ln, lz⟩, ⟨gr, gc, ⟨ga, gn, gz⟩⟩⟩ := W
  have HW : Hid (∀ wv, Below w.heap.size w wv → WOwn wv B0 ⟨⟨er, ec, ⟨ea, en, ez⟩⟩, ⟨ba, bn, bz⟩, ⟨la, ln, lz⟩, ⟨gr, gc, ⟨ga, gn, gz⟩⟩⟩ bs M) := fun wv hb => h.below hb
  simp only at hbl
  have HBL : Hid (bs.length = bn) := hbl
  have hbn : bn ≤ 1000 := by omega
  clear h hbl hfew
  show Calls Try.prog 14 #[.agg #[.int .i64 er, .int .i64 ec, .slice ea en ez, .slice ba bn bz, .slice la ln lz, .int .i64 gr, .int .i64 gc, .slice ga gn gz]] w _
  have X0 := blk_new w 29 #[.int .i64 er, .int .i64 ec, .slice ea en ez, .slice ba bn bz, .slice la ln lz, .int .i64 gr, .int .i64 gc, .slice ga gn gz]
  have B0 : Below w.heap.size w (w.alloc (.cells #[.int .i64 er, .int .i64 ec, .slice ea en ez, .slice ba bn bz, .slice la ln lz, .int .i64 gr, .int .i64 gc, .slice ga gn gz] 29)) := (Below.refl _ _).alloc (Nat.le_refl _) _
  have s0 : (w.alloc (.cells #[.int .i64 er, .int .i64 ec, .slice ea en ez, .slice ba bn bz, .slice la ln lz, .int .i64 gr, .int .i64 gc, .slice ga gn gz] 29)).heap.size = w.heap.size + 1 := by simp
  generalize hw0 : w.alloc (.cells #[.int .i64 er, .int .i64 ec, .slice ea en ez, .slice ba bn bz, .slice la ln lz, .int .i64 gr, .int .i64 gc, .slice ga gn gz] 29) = w0 at *
  have X1 := blk_new w0 29 #[.int .i64 0, .int .i64 0, .slice none 0 0, .slice none 0 0, .slice none 0 0, .int .i64 0, .int .i64 0, .slice none 0 0]
  have B1 : Below w0.heap.size w0 (w0.alloc (.cells #[.int .i64 0, .int .i64 0, .slice none 0 0, .slice none 0 0, .slice none 0 0, .int .i64 0, .int .i64 0, .slice none 0 0] 29)) := (Below.refl _ _).alloc (Nat.le_refl _) _
  rw [s0] at X1
  generalize hw1 : w0.alloc (.cells #[.int .i64 0, .int .i64 0, .slice none 0 0, .slice none 0 0, .slice none 0 0, .int .i64 0, .int .i64 0, .slice none 0 0] 29) = w1 at *
  replace X0 := X0.below B1
  have DB := below_then B0 B1
  have XN := blk_new w1 53 (madeCells #[.slice none 0 0, .int .i64 0, .int .i64 0, .slice none 0 0, .int .i64 0, .int .i64 0, .slice none 0 0, .int .i64 0, .int .i64 0, .slice none 0 0, .int .i64 0, .int .i64 0, .slice none 0 0, .slice none 0 0, .int .i64 0, .int .i64 0, .slice none 0 0, .int .i64 0, .int .i64 0, .slice none 0 0] (bn * 20))
  have BN : Below w1.heap.size w1 (w1.alloc (.cells (madeCells #[.slice none 0 0, .int .i64 0, .int .i64 0, .slice none 0 0, .int .i64 0, .int .i64 0, .slice none 0 0, .int .i64 0, .int .i64 0, .slice none 0 0, .int .i64 0, .int .i64 0, .slice none 0 0, .slice none 0 0, .int .i64 0, .int .i64 0, .slice none 0 0, .int .i64 0, .int .i64 0, .slice none 0 0] (bn * 20)) 53)) := (Below.refl _ _).alloc (Nat.le_refl _) _
  have hmk := make_blocksN bn hbn w1
  generalize hw2 : w1.alloc (.cells (madeCells #[.slice none 0 0, .int .i64 0, .int .i64 0, .slice none 0 0, .int .i64 0, .int .i64 0, .slice none 0 0, .int .i64 0, .int .i64 0, .slice none 0 0, .int .i64 0, .int .i64 0, .slice none 0 0, .slice none 0 0, .int .i64 0, .int .i64 0, .slice none 0 0, .int .i64 0, .int .i64 0, .slice none 0 0] (bn * 20)) 53) = w2 at *
  have a3 : w1.cell? ⟨w.heap.size, 3, none⟩ = some (.slice ba bn bz) := X0.cell 3 rfl
  have zG : w.heap.size + 1 < w1.heap.size := X1.lt
  replace X0 := X0.below BN
  replace X1 := X1.below BN
  replace DB := below_then DB BN
  have d3 : w2.cell? ⟨w.heap.size, 3, none⟩ = some (.slice ba bn bz) := X0.cell 3 rfl
  generalize w1.heap.size = gB at *
  go_enter Try.func14, Try.ntmps14
  go_wp2_with fail
  clear hw0 hw1 hw2 B0 s0 B1 BN hmk a3 d3
  have XS : (madeCells #[.slice none 0 0, .int .i64 0, .int .i64 0, .slice none 0 0, .int .i64 0, .int .i64 0, .slice none 0 0, .int .i64 0, .int .i64 0, .slice none 0 0, .int .i64 0, .int .i64 0, .slice none 0 0, .slice none 0 0, .int .i64 0, .int .i64 0, .slice none 0 0, .int .i64 0, .int .i64 0, .slice none 0 0] (bn * 20)).size = bn * 20 := by simp [madeCells]
  go_loopg [13] bn (fun r i wr => ∃ (k : Nat) (xs : List Bk), k ≤ bn ∧ r = bn - k ∧ i = .int .i64 (k : Int) ∧ Blk wr w.heap.size 29 #[.int .i64 er, .int .i64 ec, .slice ea en ez, .slice ba bn bz, .slice la ln lz, .int .i64 gr, .int .i64 gc, .slice ga gn gz] ∧ Blk wr (w.heap.size + 1) 29 #[.int .i64 0, .int .i64 0, .slice none 0 0, .slice none 0 0, .slice none 0 0, .int .i64 0, .int .i64 0, .slice none 0 0] ∧ (∃ cs, Blk wr gB 53 cs ∧ cs.size = bn * 20) ∧ (∀ t x', xs[t]? = some x' → wr.rangeAt gB (t * 20) x'.cells.toList) ∧ CBs wr w.heap.size k bs xs M.Ls ∧ Below w.heap.size w wr)
  case atStart => exact ⟨0, [], by omega, by omega, rfl, X0, X1, ⟨_, XN, XS⟩, fun t x' hx => by simp at hx, cbs_nil _ _ _ _, DB⟩
  case round =>
    clear X0 X1 XN XS DB
    obtain ⟨k, xs, hk, rfl, rfl, X0, X1, ⟨cs, XN, hcs⟩, RG, XT, DR⟩ := hrel
    by_cases hlt : k < bn
    · obtain ⟨xx, hxx⟩ : ∃ x, bs[k]? = some x := ⟨_, List.getElem?_eq_getElem (show k < bs.length by have := HBL.out; omega)⟩
      have hxl := XT.len
      obtain ⟨yy, hyy, hsm, hL0⟩ := (HW.out wr DR).ls k xx hxx
      obtain ⟨gb, ob, eba, hcb⟩ := (HW.out wr DR).b.cells (by show 0 < bn; omega)
      have eba' : ba = some ⟨gb, ob, none⟩ := eba
      subst eba'
      have r0 := hcb k xx hxx
      have hok := (HW.out wr DR).b.ok xx (List.mem_of_getElem? hxx)
      have HYY : Hid (M.Ls[k]? = some yy) := hyy
      have HCB : Hid (∀ wv, Below wr.heap.size wr wv → Calls Try.prog 23 #[.agg xx.cells] wv fun e w' => ∃ x' : Bk, e = .returned (.agg x'.cells) ∧ BT w' wv.heap.size xx x' yy ∧ Below wv.heap.size wv w') := fun wv hb => copyBlock_any xx yy B0 wv (hL0.below hb) hsm
      obtain ⟨⟨vfa, vfn, vfz⟩, ⟨vqr, vqc, ⟨vqa, vqn, vqz⟩⟩, ⟨vkr, vkc, ⟨vka, vkn, vkz⟩⟩, ⟨vvr, vvc, ⟨vva, vvn, vvz⟩⟩, ⟨vor, voc, ⟨voa, von, voz⟩⟩, ⟨vsa, vsn, vsz⟩, ⟨vur, vuc, ⟨vua, vun, vuz⟩⟩, ⟨vdr, vdc, ⟨vda, vdn, vdz⟩⟩⟩ := xx
      have HBX : Hid (bs[k]? = some ⟨⟨vfa, vfn, vfz⟩, ⟨vqr, vqc, ⟨vqa, vqn, vqz⟩⟩, ⟨vkr, vkc, ⟨vka, vkn, vkz⟩⟩, ⟨vvr, vvc, ⟨vva, vvn, vvz⟩⟩, ⟨vor, voc, ⟨voa, von, voz⟩⟩, ⟨vsa, vsn, vsz⟩, ⟨vur, vuc, ⟨vua, vun, vuz⟩⟩, ⟨vdr, vdc, ⟨vda, vdn, vdz⟩⟩⟩) := hxx
      rw [show Bk.cells ⟨⟨vfa, vfn, vfz⟩, ⟨vqr, vqc, ⟨vqa, vqn, vqz⟩⟩, ⟨vkr, vkc, ⟨vka, vkn, vkz⟩⟩, ⟨vvr, vvc, ⟨vva, vvn, vvz⟩⟩, ⟨vor, voc, ⟨voa, von, voz⟩⟩, ⟨vsa, vsn, vsz⟩, ⟨vur, vuc, ⟨vua, vun, vuz⟩⟩, ⟨vdr, vdc, ⟨vda, vdn, vdz⟩⟩⟩ = #[.slice vfa vfn vfz, .int .i64 vqr, .int .i64 vqc, .slice vqa vqn vqz, .int .i64 vkr, .int .i64 vkc, .slice vka vkn vkz, .int .i64 vvr, .int .i64 vvc, .slice vva vvn vvz, .int .i64 vor, .int .i64 voc, .slice voa von voz, .slice vsa vsn vsz, .int .i64 vur, .int .i64 vuc, .slice vua vun vuz, .int .i64 vdr, .int .i64 vdc, .slice vda vdn vdz] from rfl] at r0
      rw [show Bk.cells ⟨⟨vfa, vfn, vfz⟩, ⟨vqr, vqc, ⟨vqa, vqn, vqz⟩⟩, ⟨vkr, vkc, ⟨vka, vkn, vkz⟩⟩, ⟨vvr, vvc, ⟨vva, vvn, vvz⟩⟩, ⟨vor, voc, ⟨voa, von, voz⟩⟩, ⟨vsa, vsn, vsz⟩, ⟨vur, vuc, ⟨vua, vun, vuz⟩⟩, ⟨vdr, vdc, ⟨vda, vdn, vdz⟩⟩⟩ = #[.slice vfa vfn vfz, .int .i64 vqr, .int .i64 vqc, .slice vqa vqn vqz, .int .i64 vkr, .int .i64 vkc, .slice vka vkn vkz, .int .i64 vvr, .int .i64 vvc, .slice vva vvn vvz, .int .i64 vor, .int .i64 voc, .slice voa von voz, .slice vsa vsn vsz, .int .i64 vur, .int .i64 vuc, .slice vua vun vuz, .int .i64 vdr, .int .i64 vdc, .slice vda vdn vdz] from rfl] at HCB
      have HSM : Hid (LySm yy) := hsm
      have HOK : Hid (Bk.Ok ⟨⟨vfa, vfn, vfz⟩, ⟨vqr, vqc, ⟨vqa, vqn, vqz⟩⟩, ⟨vkr, vkc, ⟨vka, vkn, vkz⟩⟩, ⟨vvr, vvc, ⟨vva, vvn, vvz⟩⟩, ⟨vor, voc, ⟨voa, von, voz⟩⟩, ⟨vsa, vsn, vsz⟩, ⟨vur, vuc, ⟨vua, vun, vuz⟩⟩, ⟨vdr, vdc, ⟨vda, vdn, vdz⟩⟩⟩) := hok
      clear hL0 hxx hyy hcb hok eba hsm
      have szr := DR.size
      obtain ⟨XE, YB, BF⟩ := var3e wr 53 #[.slice none 0 0, .int .i64 0, .int .i64 0, .slice none 0 0, .int .i64 0, .int .i64 0, .slice none 0 0, .int .i64 0, .int .i64 0, .slice none 0 0, .int .i64 0, .int .i64 0, .slice none 0 0, .slice none 0 0, .int .i64 0, .int .i64 0, .slice none 0 0, .int .i64 0, .int .i64 0, .slice none 0 0] #[.slice vfa vfn vfz, .int .i64 vqr, .int .i64 vqc, .slice vqa vqn vqz, .int .i64 vkr, .int .i64 vkc, .slice vka vkn vkz, .int .i64 vvr, .int .i64 vvc, .slice vva vvn vvz, .int .i64 vor, .int .i64 voc, .slice voa von voz, .slice vsa vsn vsz, .int .i64 vur, .int .i64 vuc, .slice vua vun vuz, .int .i64 vdr, .int .i64 vdc, .slice vda vdn vdz]
      have hone : Array.all (#[.slice vfa vfn vfz, .int .i64 vqr, .int .i64 vqc, .slice vqa vqn vqz, .int .i64 vkr, .int .i64 vkc, .slice vka vkn vkz, .int .i64 vvr, .int .i64 vvc, .slice vva vvn vvz, .int .i64 vor, .int .i64 voc, .slice voa von voz, .slice vsa vsn vsz, .int .i64 vur, .int .i64 vuc, .slice vua vun vuz, .int .i64 vdr, .int .i64 vdc, .slice vda vdn vdz] : Array Value) (fun v => v.oneCell') = true := by simp [Value.oneCell']
      generalize hwe : wr.alloc (.cells #[.slice none 0 0, .int .i64 0, .int .i64 0, .slice none 0 0, .int .i64 0, .int .i64 0, .slice none 0 0, .int .i64 0, .int .i64 0, .slice none 0 0, .int .i64 0, .int .i64 0, .slice none 0 0, .slice none 0 0, .int .i64 0, .int .i64 0, .slice none 0 0, .int .i64 0, .int .i64 0, .slice none 0 0] 53) = we at *
      generalize hwf : we.setRow wr.heap.size #[.slice vfa vfn vfz, .int .i64 vqr, .int .i64 vqc, .slice vqa vqn vqz, .int .i64 vkr, .int .i64 vkc, .slice vka vkn vkz, .int .i64 vvr, .int .i64 vvc, .slice vva vvn vvz, .int .i64 vor, .int .i64 voc, .slice voa von voz, .slice vsa vsn vsz, .int .i64 vur, .int .i64 vuc, .slice vua vun vuz, .int .i64 vdr, .int .i64 vdc, .slice vda vdn vdz] = wf at *
      have CB := HCB.out wf BF
      have DF := below_then DR BF
      have zN := XN.lt
      replace X0 := X0.below BF
      replace X1 := X1.below BF
      replace XN := XN.below BF
      replace XT := XT.map (fun h => h.below BF)
      replace RG : ∀ t x', xs[t]? = some x' → wf.rangeAt gB (t * 20) x'.cells.toList := fun t x' hx => rangeAt_block (RG t x' hx) (BF.block gB zN)
      clear HCB
      go_upto_region 5 with (first | (refine wpList_load_mid rfl 53 _ rfl gb (ob + k * 20) rfl (#[.slice vfa vfn vfz, .int .i64 vqr, .int .i64 vqc, .slice vqa vqn vqz, .int .i64 vkr, .int .i64 vkc, .slice vka vkn vkz, .int .i64 vvr, .int .i64 vvc, .slice vva vvn vvz, .int .i64 vor, .int .i64 voc, .slice voa von voz, .slice vsa vsn vsz, .int .i64 vur, .int .i64 vuc, .slice vua vun vuz, .int .i64 vdr, .int .i64 vdc, .slice vda vdn vdz] : Array Value).toList _ r0 Try.underlying53 rfl (by exact Try.infoB) ?_) | (refine wpList_store_row rfl 53 _ _ rfl wr.heap.size #[.slice vfa vfn vfz, .int .i64 vqr, .int .i64 vqc, .slice vqa vqn vqz, .int .i64 vkr, .int .i64 vkc, .slice vka vkn vkz, .int .i64 vvr, .int .i64 vvc, .slice vva vvn vvz, .int .i64 vor, .int .i64 voc, .slice voa von voz, .slice vsa vsn vsz, .int .i64 vur, .int .i64 vuc, .slice vua vun vuz, .int .i64 vdr, .int .i64 vdc, .slice vda vdn vdz] rfl rfl 53 _ XE (by exact Try.infoB) rfl hone ?_; rw [hwf]))
      clear hwe hwf XE r0 hone BF
      go_wp2_with (refine wpList_load_row rfl 53 _ rfl wr.heap.size rfl 53 #[.slice vfa vfn vfz, .int .i64 vqr, .int .i64 vqc, .slice vqa vqn vqz, .int .i64 vkr, .int .i64 vkc, .slice vka vkn vkz, .int .i64 vvr, .int .i64 vvc, .slice vva vvn vvz, .int .i64 vor, .int .i64 voc, .slice voa von voz, .slice vsa vsn vsz, .int .i64 vur, .int .i64 vuc, .slice vua vun vuz, .int .i64 vdr, .int .i64 vdc, .slice vda vdn vdz] (0, 0) _ YB Try.underlying53 rfl Try.infoB ?_)
      refine CB.mono ?_
      rintro e w9 ⟨x', rfl, BT9, B9⟩
      have zF := DF.size
      have zN2 := XN.lt
      replace X0 := X0.below B9
      replace X1 := X1.below B9
      replace XT := XT.map (fun h => h.below B9)
      replace RG : ∀ t x', xs[t]? = some x' → w9.rangeAt gB (t * 20) x'.cells.toList := fun t x' hx => rangeAt_block (RG t x' hx) (B9.block gB zN2)
      replace XN := XN.below B9
      have D9 := below_then DF B9
      replace BT9 := BT9.mono zF
      clear B9 CB YB DF
      have TH : w9.there gB (k * 20) 20 := there_of XN _ (by omega)
      have HST := store_block w9 gB (k * 20) x'.cells (bk_size x') TH (bk_one x')
      have HSZ := bk_size x'
      have so : ∀ b, b ≠ gB → (w9.setCells gB (k * 20) x'.cells.toList).heap[b]? = w9.heap[b]? := fun b hb => setCells_other gB _ _ _ b hb
      obtain ⟨cs', XN2, hcs2⟩ := setCells_block gB 53 x'.cells.toList (k * 20) w9 cs XN
      have RS : (w9.setCells gB (k * 20) x'.cells.toList).rangeAt gB (k * 20) x'.cells.toList := World.rangeAt_setCells_same _ _ _ _ (by rw [show x'.cells.toList.length = 20 from rfl]; exact TH)
      have RG2 : ∀ t z, xs[t]? = some z → (w9.setCells gB (k * 20) x'.cells.toList).rangeAt gB (t * 20) z.cells.toList := fun t z hz => World.rangeAt_setCells_apart (RG t z hz) _ _ _ (Or.inr (Or.inl (by
        have := (List.getElem?_eq_some_iff.1 hz).1
        rw [show z.cells.toList.length = 20 from rfl]
        omega)))
      have X02 := Blk.of_block X0 (so _ (by omega))
      have X12 := Blk.of_block X1 (so _ (by omega))
      have XT2 := XT.map (fun h => h.keep XN (by decide) so)
      have BT2 := BT9.keep XN (by decide) so
      have D2 : Below w.heap.size w (w9.setCells gB (k * 20) x'.cells.toList) := Below.setCells D9 (by omega) _ _
      have x'ok : x'.Ok := ⟨by have := BT9.f.row.max; exact this, mt_ok_of HOK.out.q BT9.qs, mt_ok_of HOK.out.k BT9.ks, mt_ok_of HOK.out.v BT9.vs, mt_ok_of HOK.out.o BT9.os, by have := BT9.s.row.max; exact this, mt_ok_of HOK.out.u BT9.us, mt_ok_of HOK.out.d BT9.ds⟩
      go_wp2_with fail
      go_roundg (bn - (k + 1))
      case measure => omega
      case rel =>
        refine ⟨k + 1, xs ++ [x'], by omega, rfl, by go_num, X02, X12, ⟨cs', XN2, by omega⟩, fun t z hz => ?_, XT2.snoc HBX.out HYY.out HSM.out x'ok BT2, D2⟩
        rcases Nat.lt_or_ge t k with ht | ht
        · rw [List.getElem?_append_left (by omega)] at hz
          exact RG2 t z hz
        · rw [List.getElem?_append_right (by omega), hxl] at hz
          have ht2 : t < k + 1 := by
            rcases Nat.lt_or_ge (t - k) 1 with q | q
            · omega
            · rw [List.getElem?_eq_none (by simpa using q)] at hz; cases hz
          obtain rfl : t = k := by omega
          simp at hz
          subst hz
          exact RS
    · obtain rfl : k = bn := by omega
      go_wp2_with fail
      have zN := XN.lt
      have BD : Below wr.heap.size wr wr.drew := (Below.refl _ wr).drew
      replace X0 := X0.below BD
      replace X1 := X1.below BD
      replace DR := DR.drew
      have HR : Hid (∀ wv, Below wr.drew.heap.size wr.drew wv → (∀ t x', xs[t]? = some x' → wv.rangeAt gB (t * 20) x'.cells.toList) ∧ CBs wv w.heap.size k bs xs M.Ls) := fun wv hb => ⟨fun t x' hx => rangeAt_block (RG t x' hx) ((BD.trans hb).block gB zN), XT.map (fun h => h.below (BD.trans hb))⟩
      have KB := Below.refl wr.drew.heap.size wr.drew
      have DB := DR
      clear BD RG XT XN hcs DR
      refine wp_region_held_drew (S := fun w' => Blk w' w.heap.size 29 #[.int .i64 er, .int .i64 ec, .slice ea en ez, .slice ba k bz, .slice la ln lz, .int .i64 gr, .int .i64 gc, .slice ga gn gz]) (by kernel_rfl) (X0) (fun hHeld => ?_)
      generalize hA : wr.drew = wA at *
      clear hA
      refine wpAnyH_take (i := 0) (v := (.pointer (some ⟨w.heap.size, 0, none⟩))) rfl (by kernel_rfl) (by kernel_rfl) (by kernel_rfl) (fun _ _ _ h => h) (Or.inl ⟨by rfl, ?_⟩) (by assumption) ?_
      · intro w' hSw
        go_simp
      simp only [List.getElem_toArray, List.getElem_cons_zero, Act.put, List.setIfInBounds_toArray, List.set_cons_zero, List.set_cons_succ]
      refine wpAnyH_take (i := 1) (v := (.agg #[.int .i64 er, .int .i64 ec, .slice ea en ez])) rfl (by kernel_rfl) (by kernel_rfl) (by kernel_rfl) (fun _ _ _ h => h) (Or.inl ⟨by rfl, ?_⟩) (by assumption) ?_
      · intro w' hSw
        have cc0 : w'.cell? ⟨w.heap.size, 0, none⟩ = some (.int .i64 er) := hSw.cell 0 rfl
        have cc1 : w'.cell? ⟨w.heap.size, 1, none⟩ = some (.int .i64 ec) := hSw.cell 1 rfl
        have cc2 : w'.cell? ⟨w.heap.size, 2, none⟩ = some (.slice ea en ez) := hSw.cell 2 rfl
        go_simp
      simp only [List.getElem_toArray, List.getElem_cons_succ, List.getElem_cons_zero, Act.put, List.setIfInBounds_toArray, List.set_cons_zero, List.set_cons_succ]
      refine wpAnyH_take (i := 3) (v := (.slice (some ⟨gB, 0, none⟩) k k)) rfl (by kernel_rfl) (by kernel_rfl) (by kernel_rfl) (fun _ _ _ h => h) (Or.inl ⟨by rfl, ?_⟩) (by assumption) ?_
      · intro w' hSw
        go_simp
      simp only [List.getElem_toArray, List.getElem_cons_succ, List.getElem_cons_zero, Act.put, List.setIfInBounds_toArray, List.set_cons_zero, List.set_cons_succ]
      refine wpAnyH_take (i := 4) (v := (.pointer (some ⟨w.heap.size, 4, none⟩))) rfl (by kernel_rfl) (by kernel_rfl) (by kernel_rfl) (fun _ _ _ h => h) (Or.inl ⟨by rfl, ?_⟩) (by assumption) ?_
      · intro w' hSw
        go_simp
      simp only [List.getElem_toArray, List.getElem_cons_succ, List.getElem_cons_zero, Act.put, List.setIfInBounds_toArray, List.set_cons_zero, List.set_cons_succ]
      refine wpAnyH_take (i := 5) (v := (.slice la ln lz)) rfl (by kernel_rfl) (by kernel_rfl) (by kernel_rfl) (fun _ _ _ h => h) (Or.inl ⟨by rfl, ?_⟩) (by assumption) ?_
      · intro w' hSw
        have cc4 : w'.cell? ⟨w.heap.size, 4, none⟩ = some (.slice la ln lz) := hSw.cell 4 rfl
        go_simp
      simp only [List.getElem_toArray, List.getElem_cons_succ, List.getElem_cons_zero, Act.put, List.setIfInBounds_toArray, List.set_cons_zero, List.set_cons_succ]
      refine wpAnyH_take (i := 7) (v := (.pointer (some ⟨w.heap.size, 5, none⟩))) rfl (by kernel_rfl) (by kernel_rfl) (by kernel_rfl) (fun _ _ _ h => h) (Or.inl ⟨by rfl, ?_⟩) (by assumption) ?_
      · intro w' hSw
        go_simp
      simp only [List.getElem_toArray, List.getElem_cons_succ, List.getElem_cons_zero, Act.put, List.setIfInBounds_toArray, List.set_cons_zero, List.set_cons_succ]
      refine wpAnyH_take (i := 8) (v := (.agg #[.int .i64 gr, .int .i64 gc, .slice ga gn gz])) rfl (by kernel_rfl) (by kernel_rfl) (by kernel_rfl) (fun _ _ _ h => h) (Or.inl ⟨by rfl, ?_⟩) (by assumption) ?_
      · intro w' hSw
        have cc5 : w'.cell? ⟨w.heap.size, 5, none⟩ = some (.int .i64 gr) := hSw.cell 5 rfl
        have cc6 : w'.cell? ⟨w.heap.size, 6, none⟩ = some (.int .i64 gc) := hSw.cell 6 rfl
        have cc7 : w'.cell? ⟨w.heap.size, 7, none⟩ = some (.slice ga gn gz) := hSw.cell 7 rfl
        go_simp
      simp only [List.getElem_toArray, List.getElem_cons_succ, List.getElem_cons_zero, Act.put, List.setIfInBounds_toArray, List.set_cons_zero, List.set_cons_succ]
      refine wpAnyH_ready (rs := [2]) (by kernel_rfl) (by simp) ?_
      refine AllReadyH.cons rfl (fun Kc hKc => ?_) AllReadyH.nil
      simp only [List.getElem_toArray, List.getElem_cons_succ, List.getElem_cons_zero]
      rw [if_pos (by rfl)]
      go_wp2_with fail
      refine (copyMatrix_any er ec B0 ⟨ea, en, ez⟩ M.E _ (HW.out _ DB).e (HW.out _ DB).se).mono ?_
      rintro e wu ⟨⟨y1a, y1n, y1z⟩, rfl, E1, EM⟩
      replace E1 := E1.mono DB.size
      replace X0 := X0.below EM
      replace X1 := X1.below EM
      replace DB := below_then DB EM
      replace KB := below_then KB EM
      clear EM
      go_wp2_with fail
      refine hKc.out _ _ (X0) (fun hHeld => ?_)
      clear hKc Kc
      refine wpAnyH_ready (rs := [6]) (by kernel_rfl) (by simp) ?_
      refine AllReadyH.cons rfl (fun Kc hKc => ?_) AllReadyH.nil
      simp only [List.getElem_toArray, List.getElem_cons_succ, List.getElem_cons_zero]
      rw [if_pos (by rfl)]
      go_wp2_with fail
      refine (clone_fr B0 ⟨la, ln, lz⟩ M.G _ (HW.out _ DB).l (HW.out _ DB).sl).mono ?_
      rintro e wv ⟨⟨y2a, y2n, y2z⟩, rfl, E2, EM⟩
      replace E2 := E2.mono DB.size
      replace E1 := E1.below EM
      replace X0 := X0.below EM
      replace X1 := X1.below EM
      replace DB := below_then DB EM
      replace KB := below_then KB EM
      clear EM
      go_wp2_with fail
      refine hKc.out _ _ (X0) (fun hHeld => ?_)
      clear hKc Kc
      refine wpAnyH_ready (rs := [9]) (by kernel_rfl) (by simp) ?_
      refine AllReadyH.cons rfl (fun Kc hKc => ?_) AllReadyH.nil
      simp only [List.getElem_toArray, List.getElem_cons_succ, List.getElem_cons_zero]
      rw [if_pos (by rfl)]
      go_wp2_with fail
      refine (copyMatrix_any gr gc B0 ⟨ga, gn, gz⟩ M.O _ (HW.out _ DB).o (HW.out _ DB).so).mono ?_
      rintro e wZ ⟨⟨y3a, y3n, y3z⟩, rfl, E3, EM⟩
      replace E3 := E3.mono DB.size
      replace E1 := E1.below EM
      replace E2 := E2.below EM
      replace X0 := X0.below EM
      replace X1 := X1.below EM
      replace DB := below_then DB EM
      replace KB := below_then KB EM
      clear EM
      go_wp2_with fail
      refine hKc.out _ _ (X0) (fun hHeld => ?_)
      clear hKc Kc
      refine wpAnyH_take (i := 10) (v := (.agg #[.int .i64 er, .int .i64 ec, .slice y1a y1n y1z, .slice (some ⟨gB, 0, none⟩) k k, .slice y2a y2n y2z, .int .i64 gr, .int .i64 gc, .slice y3a y3n y3z])) rfl (by kernel_rfl) (by kernel_rfl) (by kernel_rfl) (fun _ _ _ h => h) (Or.inl ⟨by rfl, ?_⟩) (by assumption) ?_
      · intro w' hSw
        go_simp
      simp only [List.getElem_toArray, List.getElem_cons_succ, List.getElem_cons_zero, Act.put, List.setIfInBounds_toArray, List.set_cons_zero, List.set_cons_succ]
      obtain ⟨RG, XT⟩ := HR.out _ KB
      refine wpAnyH_ready (rs := [11]) (by kernel_rfl) (by simp) ?_
      refine AllReadyH.cons rfl (fun Kc hKc => ?_) AllReadyH.nil
      simp only [List.getElem_toArray, List.getElem_cons_succ, List.getElem_cons_zero]
      rw [if_pos (by rfl)]
      have one : Array.all (#[.int .i64 er, .int .i64 ec, .slice y1a y1n y1z, .slice (some ⟨gB, 0, none⟩) k k, .slice y2a y2n y2z, .int .i64 gr, .int .i64 gc, .slice y3a y3n y3z] : Array Value) (fun v => v.oneCell') = true := by simp [Value.oneCell']
      have so : ∀ b, b ≠ w.heap.size + 1 → (wZ.setRow (w.heap.size + 1) #[.int .i64 er, .int .i64 ec, .slice y1a y1n y1z, .slice (some ⟨gB, 0, none⟩) k k, .slice y2a y2n y2z, .int .i64 gr, .int .i64 gc, .slice y3a y3n y3z]).heap[b]? = wZ.heap[b]? := fun b hb => setRow_other _ _ _ _ hb
      refine wp_store_row 29 _ _ rfl (w.heap.size + 1) #[.int .i64 er, .int .i64 ec, .slice y1a y1n y1z, .slice (some ⟨gB, 0, none⟩) k k, .slice y2a y2n y2z, .int .i64 gr, .int .i64 gc, .slice y3a y3n y3z] rfl rfl 29 _ X1 Try.infoW rfl one ?_
      replace E1 := E1.keep X1 (by decide) so
      replace E2 := E2.keep X1 (by decide) so
      replace E3 := E3.keep X1 (by decide) so
      replace XT := XT.map (fun h => h.keep X1 (by decide) so)
      replace RG : ∀ t x', xs[t]? = some x' → (wZ.setRow (w.heap.size + 1) #[.int .i64 er, .int .i64 ec, .slice y1a y1n y1z, .slice (some ⟨gB, 0, none⟩) k k, .slice y2a y2n y2z, .int .i64 gr, .int .i64 gc, .slice y3a y3n y3z]).rangeAt gB (t * 20) x'.cells.toList := fun t x' hx => rangeAt_block (RG t x' hx) (so gB (by omega))
      replace X0 := Blk.of_block X0 (so _ (by omega))
      replace DB := below_setRow DB (show w.heap.size ≤ w.heap.size + 1 by omega) #[.int .i64 er, .int .i64 ec, .slice y1a y1n y1z, .slice (some ⟨gB, 0, none⟩) k k, .slice y2a y2n y2z, .int .i64 gr, .int .i64 gc, .slice y3a y3n y3z]
      have XR := X1.row #[.int .i64 er, .int .i64 ec, .slice y1a y1n y1z, .slice (some ⟨gB, 0, none⟩) k k, .slice y2a y2n y2z, .int .i64 gr, .int .i64 gc, .slice y3a y3n y3z]
      generalize wZ.setRow (w.heap.size + 1) #[.int .i64 er, .int .i64 ec, .slice y1a y1n y1z, .slice (some ⟨gB, 0, none⟩) k k, .slice y2a y2n y2z, .int .i64 gr, .int .i64 gc, .slice y3a y3n y3z] = wY at *
      refine hKc.out _ _ X0 (fun hHeld => ?_)
      clear hKc Kc so one X1
      refine wpAnyH_done (by kernel_rfl) ?_ _
      clear hHeld
      go_wp2_with fail
      refine bodyPost_ret (results_cell_row rfl _ _ (w.heap.size + 1) 29 _ _ _ rfl XR Try.underlying29 rfl Try.infoW) rfl ?_
      refine ⟨⟨⟨er, ec, ⟨y1a, y1n, y1z⟩⟩, ⟨some ⟨gB, 0, none⟩, k, k⟩, ⟨y2a, y2n, y2z⟩, ⟨gr, gc, ⟨y3a, y3n, y3z⟩⟩⟩, rfl, ⟨xs, E1, ⟨rfl, rfl⟩, E2, E3, ⟨rfl, rfl⟩, rfl, ⟨XT.len, by show k ≤ _; omega, fun x hx => ?_, fun _ => ⟨gB, 0, rfl, fun t x hx => by rw [Nat.zero_add]; exact RG t x hx⟩⟩, XT⟩, DB⟩
      obtain ⟨t, ht, rfl⟩ := List.mem_iff_getElem.1 hx
      obtain ⟨_, _, _, _, _, h4, _⟩ := XT.at_ t _ (List.getElem?_eq_getElem ht)
      exact h4
end Go.Proofs.Ytlghodjiiajapaa

/- spoil: only memory of the numbers' own is turned. Laid by tools/genspoil6.py. -/
namespace Go.Proofs.Ytlghodjiiajapaa
open Go.ChangeShapes Go.WideShapes Go.ChangeAt Go.RowKit Go.Deep
theorem Try.infoRowS : (Try.prog.info? 24).map (fun i => (i.zero, i.size, i.bytes)) = some (some (.slice none 0 0), 1, 24) := by kernel_rfl
theorem owns4 {w w' : World} {B n : Nat} {u : Value} {xs : List Value} {e : TypeId} {z : Nat} (h : w.ownsRow B e z u n xs) (hb : ∀ b, u.ownBlock = some b → w'.heap[b]? = w.heap[b]?) : w'.ownsRow B e z u n xs := by
  obtain ⟨h1, h2⟩ := h
  refine ⟨h1, ?_⟩
  rcases h2 with h2 | ⟨g, cap, cur, hv, hg, hh, r⟩
  · exact Or.inl h2
  · exact Or.inr ⟨g, cap, cur, hv, hg, by rw [hb g (by rw [hv]; rfl)]; exact hh, r⟩
theorem owns4_lt {w : World} {B n : Nat} {u : Value} {xs : List Value} {e : TypeId} {z : Nat} (h : w.ownsRow B e z u n xs) {b : Nat} (hb : u.ownBlock = some b) : B ≤ b ∧ b < w.heap.size := by
  rcases h.2 with ⟨h1, _⟩ | ⟨g, cap, cur, hv, hg, hh, _⟩
  · rw [h1] at hb; cases hb
  · rw [hv] at hb
    simp only [Value.ownBlock, Option.some.injEq] at hb
    subst hb
    exact ⟨hg, (Array.getElem?_eq_some_iff.1 hh).1⟩
/-- A row of numbers in memory from B on, whatever it reads as. -/
def AnyR (w : World) (B : Nat) (s : Sl) : Prop := ∃ A, FR w B s s.n A
structure BkO (w : World) (B : Nat) (x : Bk) : Prop where
  f : AnyR w B x.f
  q : AnyR w B x.q.d
  k : AnyR w B x.k.d
  v : AnyR w B x.v.d
  o : AnyR w B x.o.d
  s : AnyR w B x.s
  u : AnyR w B x.u.d
  d : AnyR w B x.d.d
theorem AnyR.below {w w' : World} {B : Nat} {s : Sl} (h : AnyR w B s) (hb : Below w.heap.size w w') : AnyR w' B s := let ⟨A, h⟩ := h; ⟨A, h.below hb⟩
theorem AnyR.poke {w : World} {B g t : Nat} {s : Sl} {v : Int} (h : AnyR w B s) (hv : -2147483648 ≤ v ∧ v ≤ 2147483647) : AnyR (w.setCell ⟨g, t, none⟩ (.int .i32 v)) B s := by
  obtain ⟨A, g', e1, e2, F⟩ := h
  by_cases hg : g' = g
  · subst hg
    by_cases ht : t < s.n
    · exact ⟨A.set t v, g', e1, rfl, F.set t v ht hv⟩
    · obtain ⟨c, hb, hs, hc⟩ := F.row
      refine ⟨A, g', e1, rfl, F.base, F.len, F.fit, F.max, F.small, c.setIfInBounds t (.int .i32 v), ?_, by simpa using hs, fun k hk => ?_⟩
      · simp [World.setCell, Array.getElem?_modify, hb]
      · rw [Array.getElem?_setIfInBounds, if_neg (by omega)]; exact hc k hk
  · exact ⟨A, g', e1, rfl, F.setOther (a := ⟨g, t, none⟩) hg _⟩
theorem own_cell {w : World} {B g n c : Nat} {e : TypeId} {vs : List Value} (h : w.ownsRow B e 1 (.slice (some ⟨g, 0, none⟩) n c) n vs) {k : Nat} {v : Value} (hk : vs[k]? = some v) : w.cell? ⟨g, k, none⟩ = some v := by
  have := h.cells (g := g) rfl k v hk
  rw [Addr.add_mid, Nat.zero_add] at this
  exact this
set_option maxHeartbeats 1600000 in
theorem wpList_append_sls {w : World} {ops : Array Oper} {rest : List Oper} {o : Oper} {a : Act} {Q : Exit → Act → World → Prop} (hgd : o.guard = none) (s x : Operand)
    (ho : o.op = .call { callee := .builtin .append, args := #[s, x], argTypes := #[66, 66] })
    (B : Nat) (v : Value) (n : Nat) (Ss : List Sl) (hs : a.eval s = v) (hO : w.ownsRow B 24 1 v n (Ss.map Sl.v)) (b : Nat) (N : List Sl) (m : Nat) (hx : a.eval x = .slice (some ⟨b, 0, none⟩) m m) (hm : N.length = m) (hm0 : 0 < m)
    (hX : ∀ j u, (N.map Sl.v)[j]? = some u → w.cell? ⟨b, j, none⟩ = some u) (hn : n + m ≤ 100000) (hB : B ≤ w.heap.size)
    (hK : ∀ g' c' w', w'.ownsRow B 24 1 (.slice (some ⟨g', 0, none⟩) (n + m) c') (n + m) ((Ss ++ N).map Sl.v) → Below B w w' → wpList Try.prog ops Q rest (a.put o.dst (.slice (some ⟨g', 0, none⟩) (n + m) c')) w') : wpList Try.prog ops Q (o :: rest) a w := by
  obtain ⟨i0, hi, hz0, hz1, hz2⟩ := info_parts Try.infoRowS
  refine wpList_append_own w hgd s x 66 ho B 24 i0 (.slice none 0 0) 1 24 Try.underlying66 hi hz0 hz1 hz2 rfl (by decide) v n _ hs hO ⟨b, 0, none⟩ m m (N.map Sl.v) hx (by simp; omega) ?_ ?_ (by unfold maxLen; omega) (by omega) hB ?_
  · intro j u hj
    rw [Addr.add_mid, Nat.zero_add]
    exact hX j u hj
  · intro u hu
    obtain ⟨s', _, rfl⟩ := List.mem_map.1 hu
    rfl
  · intro v' w' hown hg hnil
    have hb : Below B w w' := (Below.refl _ _).grown hg hB (fun k hk => (hO.lt k hk).1)
    rw [← List.map_append] at hown
    obtain ⟨h1, h2⟩ := hown
    rcases h2 with ⟨h3, h4⟩ | ⟨g', c', cur, hv, hr⟩
    · omega
    · subst hv
      exact hK g' c' w' ⟨h1, Or.inr ⟨g', c', cur, rfl, hr⟩⟩ hb
theorem own_lit {w : World} {B b n : Nat} {e : TypeId} {vs : List Value} (h : w.heap[b]? = some (.cells vs.toArray e (0, 0))) (hn : vs.length = n) (hB : B ≤ b) (hm : n ≤ 100000) : w.ownsRow B e 1 (.slice (some ⟨b, 0, none⟩) n n) n vs :=
  ⟨by omega, Or.inr ⟨b, n, vs.toArray, rfl, hB, h, Nat.le_refl _, by unfold maxLen; omega, by simpa using hn, by simp [← hn]⟩⟩
set_option maxRecDepth 100000 in
set_option maxHeartbeats 6400000 in
theorem spoil_any (W : Wt) (xs : List Bk) (g B : Nat) (at_ : Int) (w : World) (X0 : Blk w g 29 W.cells) (hb : BlocksAt w W.b xs) (hn : xs.length ≤ 1000) (he : AnyR w B W.e.d) (hl : AnyR w B W.l) (ho : AnyR w B W.o.d) (hs : ∀ x ∈ xs, BkO w B x) (hB : B ≤ w.heap.size) :
   Calls Try.prog 17 #[.pointer (some ⟨g, 0, none⟩), .int .i64 at_] w fun e w' => e = .returned (.tuple #[]) ∧ Below B w w' := by
  have hbl := hb.len
  obtain ⟨⟨er, ec, ⟨ea, en, ez⟩⟩, ⟨ba, bn, bz⟩, ⟨la, ln, lz⟩, ⟨gr, gc, ⟨ga, gn, gz⟩⟩⟩ := W
  have HBA : Hid (∀ wv, Below w.heap.size w wv → BlocksAt wv ⟨ba, bn, bz⟩ xs) := fun wv h => hb.below h
  have HXS : Hid (∀ x ∈ xs, BkO w B x) := hs
  have HE : Hid (∀ s ∈ ([⟨ea, en, ez⟩, ⟨la, ln, lz⟩, ⟨ga, gn, gz⟩] : List Sl), AnyR w B s) := fun s h => by
    simp only [List.mem_cons, List.not_mem_nil, or_false] at h
    rcases h with rfl | rfl | rfl
    · exact he
    · exact hl
    · exact ho
  simp only at hbl
  have HBL : Hid (xs.length = bn) := hbl
  have hbn : bn ≤ 1000 := by omega
  clear hb hs he hl ho hbl hn

  have zg := X0.lt
  replace X0 : Blk w g 29 #[.int .i64 er, .int .i64 ec, .slice ea en ez, .slice ba bn bz, .slice la ln lz, .int .i64 gr, .int .i64 gc, .slice ga gn gz] := X0
  go_enter Try.func17, Try.ntmps17
  go_wp2_with fail
  have BD : Below w.heap.size w w.drew := (Below.refl _ w).drew
  replace X0 := X0.below BD
  have DB := BD
  clear BD
  refine wp_region_held_drew (S := fun w' => Blk w' g 29 #[.int .i64 er, .int .i64 ec, .slice ea en ez, .slice ba bn bz, .slice la ln lz, .int .i64 gr, .int .i64 gc, .slice ga gn gz]) (by kernel_rfl) (X0) (fun hHeld => ?_)
  generalize hA : w.drew = wA at *
  clear hA
  refine wpAnyH_take (i := 0) (v := (.pointer (some ⟨g, 0, none⟩))) rfl (by kernel_rfl) (by kernel_rfl) (by kernel_rfl) (fun _ _ _ h => h) (Or.inl ⟨by rfl, ?_⟩) (by assumption) ?_
  · intro w' hSw
    go_simp
  simp only [List.getElem_toArray, List.getElem_cons_zero, Act.put, List.setIfInBounds_toArray, List.set_cons_zero, List.set_cons_succ]
  refine wpAnyH_take (i := 1) (v := (.pointer (some ⟨g, 0, none⟩))) rfl (by kernel_rfl) (by kernel_rfl) (by kernel_rfl) (fun _ _ _ h => h) (Or.inl ⟨by rfl, ?_⟩) (by assumption) ?_
  · intro w' hSw
    go_simp
  simp only [List.getElem_toArray, List.getElem_cons_succ, List.getElem_cons_zero, Act.put, List.setIfInBounds_toArray, List.set_cons_zero, List.set_cons_succ]
  refine wpAnyH_take (i := 2) (v := (.pointer (some ⟨g, 0, none⟩))) rfl (by kernel_rfl) (by kernel_rfl) (by kernel_rfl) (fun _ _ _ h => h) (Or.inl ⟨by rfl, ?_⟩) (by assumption) ?_
  · intro w' hSw
    go_simp
  simp only [List.getElem_toArray, List.getElem_cons_succ, List.getElem_cons_zero, Act.put, List.setIfInBounds_toArray, List.set_cons_zero, List.set_cons_succ]
  refine wpAnyH_take (i := 3) (v := (.pointer (some ⟨g, 2, none⟩))) rfl (by kernel_rfl) (by kernel_rfl) (by kernel_rfl) (fun _ _ _ h => h) (Or.inl ⟨by rfl, ?_⟩) (by assumption) ?_
  · intro w' hSw
    go_simp
  simp only [List.getElem_toArray, List.getElem_cons_succ, List.getElem_cons_zero, Act.put, List.setIfInBounds_toArray, List.set_cons_zero, List.set_cons_succ]
  refine wpAnyH_take (i := 4) (v := (.slice ea en ez)) rfl (by kernel_rfl) (by kernel_rfl) (by kernel_rfl) (fun _ _ _ h => h) (Or.inl ⟨by rfl, ?_⟩) (by assumption) ?_
  · intro w' hSw
    have cc2 : w'.cell? ⟨g, 2, none⟩ = some (.slice ea en ez) := hSw.cell 2 rfl
    go_simp
  simp only [List.getElem_toArray, List.getElem_cons_succ, List.getElem_cons_zero, Act.put, List.setIfInBounds_toArray, List.set_cons_zero, List.set_cons_succ]
  refine wpAnyH_take (i := 5) (v := (.pointer (some ⟨g, 0, none⟩))) rfl (by kernel_rfl) (by kernel_rfl) (by kernel_rfl) (fun _ _ _ h => h) (Or.inl ⟨by rfl, ?_⟩) (by assumption) ?_
  · intro w' hSw
    go_simp
  simp only [List.getElem_toArray, List.getElem_cons_succ, List.getElem_cons_zero, Act.put, List.setIfInBounds_toArray, List.set_cons_zero, List.set_cons_succ]
  refine wpAnyH_take (i := 6) (v := (.pointer (some ⟨g, 0, none⟩))) rfl (by kernel_rfl) (by kernel_rfl) (by kernel_rfl) (fun _ _ _ h => h) (Or.inl ⟨by rfl, ?_⟩) (by assumption) ?_
  · intro w' hSw
    go_simp
  simp only [List.getElem_toArray, List.getElem_cons_succ, List.getElem_cons_zero, Act.put, List.setIfInBounds_toArray, List.set_cons_zero, List.set_cons_succ]
  refine wpAnyH_take (i := 7) (v := (.pointer (some ⟨g, 4, none⟩))) rfl (by kernel_rfl) (by kernel_rfl) (by kernel_rfl) (fun _ _ _ h => h) (Or.inl ⟨by rfl, ?_⟩) (by assumption) ?_
  · intro w' hSw
    go_simp
  simp only [List.getElem_toArray, List.getElem_cons_succ, List.getElem_cons_zero, Act.put, List.setIfInBounds_toArray, List.set_cons_zero, List.set_cons_succ]
  refine wpAnyH_take (i := 8) (v := (.slice la ln lz)) rfl (by kernel_rfl) (by kernel_rfl) (by kernel_rfl) (fun _ _ _ h => h) (Or.inl ⟨by rfl, ?_⟩) (by assumption) ?_
  · intro w' hSw
    have cc4 : w'.cell? ⟨g, 4, none⟩ = some (.slice la ln lz) := hSw.cell 4 rfl
    go_simp
  simp only [List.getElem_toArray, List.getElem_cons_succ, List.getElem_cons_zero, Act.put, List.setIfInBounds_toArray, List.set_cons_zero, List.set_cons_succ]
  refine wpAnyH_take (i := 9) (v := (.pointer (some ⟨g, 0, none⟩))) rfl (by kernel_rfl) (by kernel_rfl) (by kernel_rfl) (fun _ _ _ h => h) (Or.inl ⟨by rfl, ?_⟩) (by assumption) ?_
  · intro w' hSw
    go_simp
  simp only [List.getElem_toArray, List.getElem_cons_succ, List.getElem_cons_zero, Act.put, List.setIfInBounds_toArray, List.set_cons_zero, List.set_cons_succ]
  refine wpAnyH_take (i := 10) (v := (.pointer (some ⟨g, 0, none⟩))) rfl (by kernel_rfl) (by kernel_rfl) (by kernel_rfl) (fun _ _ _ h => h) (Or.inl ⟨by rfl, ?_⟩) (by assumption) ?_
  · intro w' hSw
    go_simp
  simp only [List.getElem_toArray, List.getElem_cons_succ, List.getElem_cons_zero, Act.put, List.setIfInBounds_toArray, List.set_cons_zero, List.set_cons_succ]
  refine wpAnyH_take (i := 11) (v := (.pointer (some ⟨g, 5, none⟩))) rfl (by kernel_rfl) (by kernel_rfl) (by kernel_rfl) (fun _ _ _ h => h) (Or.inl ⟨by rfl, ?_⟩) (by assumption) ?_
  · intro w' hSw
    go_simp
  simp only [List.getElem_toArray, List.getElem_cons_succ, List.getElem_cons_zero, Act.put, List.setIfInBounds_toArray, List.set_cons_zero, List.set_cons_succ]
  refine wpAnyH_take (i := 12) (v := (.pointer (some ⟨g, 7, none⟩))) rfl (by kernel_rfl) (by kernel_rfl) (by kernel_rfl) (fun _ _ _ h => h) (Or.inl ⟨by rfl, ?_⟩) (by assumption) ?_
  · intro w' hSw
    go_simp
  simp only [List.getElem_toArray, List.getElem_cons_succ, List.getElem_cons_zero, Act.put, List.setIfInBounds_toArray, List.set_cons_zero, List.set_cons_succ]
  refine wpAnyH_take (i := 13) (v := (.slice ga gn gz)) rfl (by kernel_rfl) (by kernel_rfl) (by kernel_rfl) (fun _ _ _ h => h) (Or.inl ⟨by rfl, ?_⟩) (by assumption) ?_
  · intro w' hSw
    have cc7 : w'.cell? ⟨g, 7, none⟩ = some (.slice ga gn gz) := hSw.cell 7 rfl
    go_simp
  simp only [List.getElem_toArray, List.getElem_cons_succ, List.getElem_cons_zero, Act.put, List.setIfInBounds_toArray, List.set_cons_zero, List.set_cons_succ]
  refine wpAnyH_ready (rs := [14]) (by kernel_rfl) (by simp) ?_
  refine AllReadyH.cons rfl (fun Kc hKc => ?_) AllReadyH.nil
  simp only [List.getElem_toArray, List.getElem_cons_succ, List.getElem_cons_zero]
  rw [if_pos (by rfl)]
  have CN := blk_new wA 24 #[.slice ea en ez, .slice la ln lz, .slice ga gn gz]
  have EM : Below wA.heap.size wA (wA.alloc (.cells #[.slice ea en ez, .slice la ln lz, .slice ga gn gz] 24)) := (Below.refl _ _).alloc (Nat.le_refl _) _
  generalize hwn : wA.alloc (.cells #[.slice ea en ez, .slice la ln lz, .slice ga gn gz] 24) = wg at *
  go_wp2_with fail
  replace X0 := X0.below EM
  have zS := DB.size
  replace DB := below_then DB EM
  refine hKc.out _ _ X0 (fun hHeld => ?_)
  clear hKc Kc EM hwn
  refine wpAnyH_take (i := 15) (v := (.slice (some ⟨wA.heap.size, 0, none⟩) 3 3)) rfl (by kernel_rfl) (by kernel_rfl) (by kernel_rfl) (fun _ _ _ h => h) (Or.inl ⟨by rfl, ?_⟩) (by assumption) ?_
  · intro w' hSw
    go_simp
  simp only [List.getElem_toArray, List.getElem_cons_succ, List.getElem_cons_zero, Act.put, List.setIfInBounds_toArray, List.set_cons_zero, List.set_cons_succ]
  refine wpAnyH_done (by kernel_rfl) ?_ _
  clear hHeld
  have OL : wg.ownsRow w.heap.size 24 1 (.slice (some ⟨wA.heap.size, 0, none⟩) 3 3) 3 (([⟨ea, en, ez⟩, ⟨la, ln, lz⟩, ⟨ga, gn, gz⟩] : List Sl).map Sl.v) := own_lit CN rfl (by omega) (by omega)
  clear CN
  generalize wA.heap.size = gl0 at *
  have a3 : wg.cell? ⟨g, 3, none⟩ = some (.slice ba bn bz) := X0.cell 3 rfl
  go_wp2_with fail
  clear a3 zS
  go_loopg [4, 30] bn (fun r l i wr => ∃ (k gl cl : Nat) (Ss : List Sl), k ≤ bn ∧ r = bn - k ∧ l = .slice (some ⟨gl, 0, none⟩) (3 + k * 8) cl ∧ i = .int .i64 (k : Int) ∧ wr.ownsRow w.heap.size 24 1 (.slice (some ⟨gl, 0, none⟩) (3 + k * 8) cl) (3 + k * 8) (Ss.map Sl.v) ∧ (∀ s ∈ Ss, AnyR w B s) ∧ Below w.heap.size w wr)
  case atStart => exact ⟨0, gl0, 3, _, by omega, by omega, rfl, rfl, OL, HE.out, DB⟩
  case round =>
    clear OL DB X0 HE
    obtain ⟨k, gl, cl, Ss, hk, rfl, rfl, rfl, OL, HS, DR⟩ := hrel
    by_cases hlt : k < bn
    · obtain ⟨xx, hxx⟩ : ∃ x, xs[k]? = some x := ⟨_, List.getElem?_eq_getElem (show k < xs.length by have := HBL.out; omega)⟩
      have hxo := HXS.out xx (List.mem_of_getElem? hxx)
      obtain ⟨gb, ob, eba, hcb⟩ := (HBA.out wr DR).cells (by show 0 < bn; omega)
      have eba' : ba = some ⟨gb, ob, none⟩ := eba
      subst eba'
      have r0 := hcb k xx hxx
      obtain ⟨⟨vfa, vfn, vfz⟩, ⟨vqr, vqc, ⟨vqa, vqn, vqz⟩⟩, ⟨vkr, vkc, ⟨vka, vkn, vkz⟩⟩, ⟨vvr, vvc, ⟨vva, vvn, vvz⟩⟩, ⟨vor, voc, ⟨voa, von, voz⟩⟩, ⟨vsa, vsn, vsz⟩, ⟨vur, vuc, ⟨vua, vun, vuz⟩⟩, ⟨vdr, vdc, ⟨vda, vdn, vdz⟩⟩⟩ := xx
      rw [show Bk.cells ⟨⟨vfa, vfn, vfz⟩, ⟨vqr, vqc, ⟨vqa, vqn, vqz⟩⟩, ⟨vkr, vkc, ⟨vka, vkn, vkz⟩⟩, ⟨vvr, vvc, ⟨vva, vvn, vvz⟩⟩, ⟨vor, voc, ⟨voa, von, voz⟩⟩, ⟨vsa, vsn, vsz⟩, ⟨vur, vuc, ⟨vua, vun, vuz⟩⟩, ⟨vdr, vdc, ⟨vda, vdn, vdz⟩⟩⟩ = #[.slice vfa vfn vfz, .int .i64 vqr, .int .i64 vqc, .slice vqa vqn vqz, .int .i64 vkr, .int .i64 vkc, .slice vka vkn vkz, .int .i64 vvr, .int .i64 vvc, .slice vva vvn vvz, .int .i64 vor, .int .i64 voc, .slice voa von voz, .slice vsa vsn vsz, .int .i64 vur, .int .i64 vuc, .slice vua vun vuz, .int .i64 vdr, .int .i64 vdc, .slice vda vdn vdz] from rfl] at r0
      clear hxx hcb eba
      have szr := DR.size
      have HN : Hid (∀ s ∈ Ss ++ ([⟨vfa, vfn, vfz⟩, ⟨vqa, vqn, vqz⟩, ⟨vka, vkn, vkz⟩, ⟨vva, vvn, vvz⟩, ⟨voa, von, voz⟩, ⟨vsa, vsn, vsz⟩, ⟨vua, vun, vuz⟩, ⟨vda, vdn, vdz⟩] : List Sl), AnyR w B s) := fun s h => by
        rcases List.mem_append.1 h with h | h
        · exact HS s h
        · simp only [List.mem_cons, List.not_mem_nil, or_false] at h
          rcases h with rfl | rfl | rfl | rfl | rfl | rfl | rfl | rfl
          · exact hxo.f
          · exact hxo.q
          · exact hxo.k
          · exact hxo.v
          · exact hxo.o
          · exact hxo.s
          · exact hxo.u
          · exact hxo.d
      clear hxo HS
      obtain ⟨XE, YB, BF⟩ := var3e wr 53 #[.slice none 0 0, .int .i64 0, .int .i64 0, .slice none 0 0, .int .i64 0, .int .i64 0, .slice none 0 0, .int .i64 0, .int .i64 0, .slice none 0 0, .int .i64 0, .int .i64 0, .slice none 0 0, .slice none 0 0, .int .i64 0, .int .i64 0, .slice none 0 0, .int .i64 0, .int .i64 0, .slice none 0 0] #[.slice vfa vfn vfz, .int .i64 vqr, .int .i64 vqc, .slice vqa vqn vqz, .int .i64 vkr, .int .i64 vkc, .slice vka vkn vkz, .int .i64 vvr, .int .i64 vvc, .slice vva vvn vvz, .int .i64 vor, .int .i64 voc, .slice voa von voz, .slice vsa vsn vsz, .int .i64 vur, .int .i64 vuc, .slice vua vun vuz, .int .i64 vdr, .int .i64 vdc, .slice vda vdn vdz]
      have hone : Array.all (#[.slice vfa vfn vfz, .int .i64 vqr, .int .i64 vqc, .slice vqa vqn vqz, .int .i64 vkr, .int .i64 vkc, .slice vka vkn vkz, .int .i64 vvr, .int .i64 vvc, .slice vva vvn vvz, .int .i64 vor, .int .i64 voc, .slice voa von voz, .slice vsa vsn vsz, .int .i64 vur, .int .i64 vuc, .slice vua vun vuz, .int .i64 vdr, .int .i64 vdc, .slice vda vdn vdz] : Array Value) (fun v => v.oneCell') = true := by simp [Value.oneCell']
      generalize hwe : wr.alloc (.cells #[.slice none 0 0, .int .i64 0, .int .i64 0, .slice none 0 0, .int .i64 0, .int .i64 0, .slice none 0 0, .int .i64 0, .int .i64 0, .slice none 0 0, .int .i64 0, .int .i64 0, .slice none 0 0, .slice none 0 0, .int .i64 0, .int .i64 0, .slice none 0 0, .int .i64 0, .int .i64 0, .slice none 0 0] 53) = we at *
      generalize hwf : we.setRow wr.heap.size #[.slice vfa vfn vfz, .int .i64 vqr, .int .i64 vqc, .slice vqa vqn vqz, .int .i64 vkr, .int .i64 vkc, .slice vka vkn vkz, .int .i64 vvr, .int .i64 vvc, .slice vva vvn vvz, .int .i64 vor, .int .i64 voc, .slice voa von voz, .slice vsa vsn vsz, .int .i64 vur, .int .i64 vuc, .slice vua vun vuz, .int .i64 vdr, .int .i64 vdc, .slice vda vdn vdz] = wf at *
      have DF := below_then DR BF
      replace OL := owns4 OL (w' := wf) (fun b hb => BF.block b (owns4_lt OL hb).2)
      clear BF
      have x0 : wf.cell? ⟨wr.heap.size, 0, none⟩ = some (.slice vfa vfn vfz) := YB.cell 0 rfl
      have x3 : wf.cell? ⟨wr.heap.size, 3, none⟩ = some (.slice vqa vqn vqz) := YB.cell 3 rfl
      have x6 : wf.cell? ⟨wr.heap.size, 6, none⟩ = some (.slice vka vkn vkz) := YB.cell 6 rfl
      have x9 : wf.cell? ⟨wr.heap.size, 9, none⟩ = some (.slice vva vvn vvz) := YB.cell 9 rfl
      have x12 : wf.cell? ⟨wr.heap.size, 12, none⟩ = some (.slice voa von voz) := YB.cell 12 rfl
      have x13 : wf.cell? ⟨wr.heap.size, 13, none⟩ = some (.slice vsa vsn vsz) := YB.cell 13 rfl
      have x16 : wf.cell? ⟨wr.heap.size, 16, none⟩ = some (.slice vua vun vuz) := YB.cell 16 rfl
      have x19 : wf.cell? ⟨wr.heap.size, 19, none⟩ = some (.slice vda vdn vdz) := YB.cell 19 rfl
      have CN := blk_new wf 24 #[.slice vfa vfn vfz, .slice vqa vqn vqz, .slice vka vkn vkz, .slice vva vvn vvz, .slice voa von voz, .slice vsa vsn vsz, .slice vua vun vuz, .slice vda vdn vdz]
      have EM : Below wf.heap.size wf (wf.alloc (.cells #[.slice vfa vfn vfz, .slice vqa vqn vqz, .slice vka vkn vkz, .slice vva vvn vvz, .slice voa von voz, .slice vsa vsn vsz, .slice vua vun vuz, .slice vda vdn vdz] 24)) := (Below.refl _ _).alloc (Nat.le_refl _) _
      generalize hwn : wf.alloc (.cells #[.slice vfa vfn vfz, .slice vqa vqn vqz, .slice vka vkn vkz, .slice vva vvn vvz, .slice voa von voz, .slice vsa vsn vsz, .slice vua vun vuz, .slice vda vdn vdz] 24) = wg2 at *
      have OL2 := owns4 OL (w' := wg2) (fun b hb => EM.block b (owns4_lt OL hb).2)
      have DG := below_then DF EM
      have zF := DF.size
      have zG := DG.size
      have hXX : ∀ j u, ((([⟨vfa, vfn, vfz⟩, ⟨vqa, vqn, vqz⟩, ⟨vka, vkn, vkz⟩, ⟨vva, vvn, vvz⟩, ⟨voa, von, voz⟩, ⟨vsa, vsn, vsz⟩, ⟨vua, vun, vuz⟩, ⟨vda, vdn, vdz⟩] : List Sl)).map Sl.v)[j]? = some u → wg2.cell? ⟨wf.heap.size, j, none⟩ = some u := fun j u hj => CN.cell j (by simpa [Sl.v] using hj)
      go_upto_region 4 with (first | (refine wpList_load_mid rfl 53 _ rfl gb (ob + k * 20) rfl (#[.slice vfa vfn vfz, .int .i64 vqr, .int .i64 vqc, .slice vqa vqn vqz, .int .i64 vkr, .int .i64 vkc, .slice vka vkn vkz, .int .i64 vvr, .int .i64 vvc, .slice vva vvn vvz, .int .i64 vor, .int .i64 voc, .slice voa von voz, .slice vsa vsn vsz, .int .i64 vur, .int .i64 vuc, .slice vua vun vuz, .int .i64 vdr, .int .i64 vdc, .slice vda vdn vdz] : Array Value).toList _ r0 Try.underlying53 rfl (by exact Try.infoB) ?_) | (refine wpList_store_row rfl 53 _ _ rfl wr.heap.size #[.slice vfa vfn vfz, .int .i64 vqr, .int .i64 vqc, .slice vqa vqn vqz, .int .i64 vkr, .int .i64 vkc, .slice vka vkn vkz, .int .i64 vvr, .int .i64 vvc, .slice vva vvn vvz, .int .i64 vor, .int .i64 voc, .slice voa von voz, .slice vsa vsn vsz, .int .i64 vur, .int .i64 vuc, .slice vua vun vuz, .int .i64 vdr, .int .i64 vdc, .slice vda vdn vdz] rfl rfl 53 _ XE (by exact Try.infoB) rfl hone ?_; rw [hwf]))
      clear hwe XE r0 hone
      go_wp2_with (at_builtin; refine wpList_append_sls rfl _ _ rfl w.heap.size _ (3 + k * 8) Ss rfl OL2 wf.heap.size [⟨vfa, vfn, vfz⟩, ⟨vqa, vqn, vqz⟩, ⟨vka, vkn, vkz⟩, ⟨vva, vvn, vvz⟩, ⟨voa, von, voz⟩, ⟨vsa, vsn, vsz⟩, ⟨vua, vun, vuz⟩, ⟨vda, vdn, vdz⟩] 8 rfl rfl (by omega) hXX (by omega) (by omega) ?_; intro g2 c2 w2 OL3 BH)
      clear x0 x3 x6 x9 x12 x13 x16 x19 hwf OL OL2 hXX CN YB EM hwn
      rw [show 3 + k * 8 + 8 = 3 + (k + 1) * 8 by omega] at OL3 ⊢
      go_wp2_with fail
      go_roundg (bn - (k + 1))
      case measure => omega
      case rel => exact ⟨k + 1, g2, c2, _, by omega, rfl, rfl, by go_num, OL3, HN.out, DG.trans BH⟩
    · obtain rfl : k = bn := by omega
      clear HXS HBA HBL
      have zR := DR.size
      have HS2 : ∀ s ∈ Ss, AnyR wr B s := fun s h => (HS s h).below DR
      have hSl : Ss.length = 3 + k * 8 := by have := OL.1; simpa using this
      have DB2 : Below B w wr := DR.mono hB
      clear HS DR
      generalize hm : 3 + k * 8 = m at *
      have hm2 : m ≤ 100000 := by omega
      clear hm hk hlt hbn
      go_wp2_with fail
      go_loopg [62] m (fun r i wv => ∃ k : Nat, k ≤ m ∧ r = m - k ∧ i = .int .i64 (k : Int) ∧ wv.ownsRow w.heap.size 24 1 (.slice (some ⟨gl, 0, none⟩) m cl) m (Ss.map Sl.v) ∧ (∀ s ∈ Ss, AnyR wv B s) ∧ Below B w wv)
      case atStart => exact ⟨0, by omega, by omega, rfl, OL, HS2, DB2⟩
      case round =>
        clear OL HS2 DB2 zR
        rename World => wl
        obtain ⟨t, ht, rfl, rfl, OL, HS, DV⟩ := hrel
        by_cases htm : t < m
        · obtain ⟨s, hts⟩ : ∃ s, Ss[t]? = some s := ⟨_, List.getElem?_eq_getElem (show t < Ss.length by omega)⟩
          have cs : wl.cell? ⟨gl, t, none⟩ = some s.v := own_cell OL (by rw [List.getElem?_map, hts]; rfl)
          have hmem := List.mem_of_getElem? hts
          obtain ⟨sa, sn, sz⟩ := s
          replace cs : wl.cell? ⟨gl, t, none⟩ = some (.slice sa sn sz) := cs
          have hsn : sn ≤ 9223372036854775807 := by obtain ⟨A, h⟩ := HS _ hmem; exact h.row.max
          clear hts
          go_wp2_with fail
          clear cs
          go_loopg [68] sn (fun r i wv => ∃ j : Nat, j ≤ sn ∧ r = sn - j ∧ i = .int .i64 (j : Int) ∧ wv.ownsRow w.heap.size 24 1 (.slice (some ⟨gl, 0, none⟩) m cl) m (Ss.map Sl.v) ∧ (∀ s ∈ Ss, AnyR wv B s) ∧ Below B w wv)
          case atStart => exact ⟨0, by omega, by omega, rfl, OL, HS, DV⟩
          case round =>
            clear OL HS DV
            obtain ⟨j, hj, rfl, rfl, OL, HS, DV⟩ := hrel
            by_cases hjs : j < sn
            · obtain ⟨A, gs, e1, -, F⟩ := HS _ hmem
              have e1' : sa = some ⟨gs, 0, none⟩ := e1
              subst e1'
              have cj : wr.cell? ⟨gs, j, none⟩ = some (.int .i32 (el A j)) := F.cell hjs
              have fj := F.frozen j
              have hbd := F.small.el j
              have hBg := F.base
              have hgl : gs ≠ gl := fun h => by
                subst h
                obtain ⟨_, h2⟩ := OL
                rcases h2 with ⟨h3, _⟩ | ⟨g', c', cur, hv, _, hh, _⟩
                · cases h3
                · simp only [Value.slice.injEq, Option.some.injEq, Addr.mk.injEq] at hv
                  obtain ⟨⟨rfl, _⟩, _⟩ := hv
                  exact absurd rfl (F.ne hh (by decide))
              clear F
              generalize el A j = v at *
              obtain ⟨q, hq⟩ : ∃ q, at_.tmod 7 = q := ⟨_, rfl⟩
              have hqb : -7 < q ∧ q < 7 := by rw [← hq]; exact ⟨Int.lt_tmod_of_pos _ (by decide), Int.tmod_lt_of_pos _ (by decide)⟩
              have hz7 : ¬ ((7 : Int) = 0) := by omega
              go_wp2_with fail
              have hw32 : -2147483648 ≤ wrap32 (v + (q + 8)) ∧ wrap32 (v + (q + 8)) ≤ 2147483647 := by first | exact wrap32_bounds _ | (unfold wrap32; omega) | (simp only [wrap32, IntKind.wrap]; omega)
              have OL2 := owns4 OL (w' := wr.setCell ⟨gs, j, none⟩ (.int .i32 (wrap32 (v + (q + 8))))) (fun b hb => by
                simp only [Value.ownBlock, Option.some.injEq] at hb
                subst hb
                exact Below.heap_setCell _ _ _ _ (fun h => hgl h.symm))
              have HS2 : ∀ s ∈ Ss, AnyR (wr.setCell ⟨gs, j, none⟩ (.int .i32 (wrap32 (v + (q + 8))))) B s := fun s h => (HS s h).poke hw32
              have DV2 := DV.setCell (p := ⟨gs, j, none⟩) hBg (.int .i32 (wrap32 (v + (q + 8))))
              go_roundg (sn - (j + 1))
              case measure => omega
              case rel => exact ⟨j + 1, by omega, rfl, by go_num, OL2, HS2, DV2⟩
            · obtain rfl : j = sn := by omega
              go_wp2_with fail
              go_roundg (m - (t + 1))
              case measure => omega
              case rel => exact ⟨t + 1, by omega, rfl, by go_num, OL, HS, DV⟩
        · obtain rfl : t = m := by omega
          go_wp2_with fail
          go_end0
          exact ⟨rfl, DV⟩
end Go.Proofs.Ytlghodjiiajapaa
