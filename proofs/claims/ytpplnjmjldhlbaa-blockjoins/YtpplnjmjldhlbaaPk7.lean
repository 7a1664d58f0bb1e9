/- Contracts of the program's functions, part 7 of 10: what each call returns and leaves of memory. -/
import Derived.Test.YtpplnjmjldhlbaaPk6
import Derived.Test.YtpplnjmjldhlbaaPk4
/- Told, Of and Copy of layer 9 over any view. -/
namespace Go.Proofs.Ytpplnjmjldhlbaa
open Go.ChangeShapes Go.WideShapes Go.ChangeAt Go.RowKit
/-- A view that came in. -/
structure VwR (w : World) (v : VwV) (X : Vw) : Prop where
  t : IArg w v.t.ao v.t.n v.t.c X.T
  k : CubeR w v.k.ao v.k.n X.K
  v : CubeR w v.v.ao v.v.n X.V
theorem VwR.below {w w' : World} {v : VwV} {X : Vw} (h : VwR w v X) (hb : Below w.heap.size w w') : VwR w' v X := ⟨h.t.below hb, h.k.below hb, h.v.below hb⟩
theorem VwAt.raw {w : World} {v : VwV} {X : Vw} (h : VwAt w v X) : VwR w v X := ⟨h.t, h.k.raw, h.v.raw⟩
def cutVw (X : Vw) : Vw := ⟨X.T.take 130, cutC X.K 130, cutC X.V 130⟩
theorem rowsN_twice (R : List (List Int)) (n : Nat) : rowsN (rowsN R n) n = rowsN R n := by
  unfold rowsN
  rw [← List.map_take, List.take_take, Nat.min_self, List.map_map]
  congr 1
  funext l
  show List.take 40 (List.take 40 l) = List.take 40 l
  rw [List.take_take, Nat.min_self]
theorem cutC_twice (C : List (List (List Int))) (n : Nat) : cutC (cutC C n) n = cutC C n := by
  unfold cutC
  rw [← List.map_take, List.take_take, Nat.min_self, List.map_map]
  congr 1
  funext R
  exact rowsN_twice R n
theorem cutVw_twice (X : Vw) : cutVw (cutVw X) = cutVw X := by
  unfold cutVw
  simp only [cutC_twice, List.take_take, Nat.min_self]
theorem cutC_mem {C : List (List (List Int))} {n : Nat} {R : List (List Int)} (h : R ∈ cutC C n) : R.length ≤ n ∧ (∀ t, (rowOf R t).length ≤ 40) ∧ rowsN R n = R := by
  obtain ⟨S, _, rfl⟩ := List.mem_map.1 h
  exact ⟨by unfold rowsN; rw [List.length_map, List.length_take]; omega, fun t => rowsN_len S n t, rowsN_twice S n⟩
theorem cutC_at_most (C : List (List (List Int))) (n : Nat) : (cutC C n).length ≤ 5 := by rw [cutC_len]; omega
theorem IOwn.newArg {w : World} {B : Nat} {ao : Option Addr} {n c : Nat} {A : List Int} (h : IOwn w B (.slice ao n c) n A) (hs : ∀ k, -9223372036854775808 ≤ el A k ∧ el A k ≤ 9223372036854775807) : New B w (fun w => IArg w ao n c A) := fun w2 h2 => by
  obtain ⟨x1, y1, e1, IT⟩ := IOwn.arg (A := A) (owns_mono h (Nat.le_refl _) (fun b hb => h2 b (h.lt b hb).1 (h.lt b hb).2)) hs
  simp only [Value.slice.injEq, true_and] at e1
  obtain ⟨rfl, rfl⟩ := e1
  exact IT
set_option maxRecDepth 100000 in
set_option maxHeartbeats 800000 in
theorem told9N_any (vv : VwV) (X : Vw) (w : World) (hv : VwR w vv X) :
   Calls Try.prog 6 #[.agg vv.cells] w fun e w' => ∃ t k v : Sl, e = .returned (.agg #[t.v, k.v, v.v]) ∧ New w.heap.size w' (fun w => ToldAt w t k v (cutVw X)) ∧ Below w.heap.size w w' := by
  have hsm := hv.t.row.small
  have HT : Hid (∀ wv, Below w.heap.size w wv → IArg wv vv.t.ao vv.t.n vv.t.c X.T) := fun wv hb => hv.t.below hb
  have HK : Hid (∀ wv, Below w.heap.size w wv → CubeR wv vv.k.ao vv.k.n X.K) := fun wv hb => hv.k.below hb
  have HV : Hid (∀ wv, Below w.heap.size w wv → CubeR wv vv.v.ao vv.v.n X.V) := fun wv hb => hv.v.below hb
  clear hv
  obtain ⟨⟨ta, tn, tc⟩, ⟨ka, kn, kc⟩, ⟨va, vn, vc⟩⟩ := vv
  unfold VwV.cells Sl.v
  simp only at *
  obtain ⟨TT, hTT⟩ : ∃ TT, TT = X.T.take 130 := ⟨_, rfl⟩
  obtain ⟨KK, hKK⟩ : ∃ KK, KK = cutC X.K 130 := ⟨_, rfl⟩
  obtain ⟨VV, hVV⟩ : ∃ VV, VV = cutC X.V 130 := ⟨_, rfl⟩
  obtain ⟨kn5, hkn5⟩ : ∃ m, m = min 5 kn := ⟨_, rfl⟩
  obtain ⟨vn5, hvn5⟩ : ∃ m, m = min 5 vn := ⟨_, rfl⟩
  have hsm2 : Hid (∀ k, -9223372036854775808 ≤ el TT k ∧ el TT k ≤ 9223372036854775807) := by
    intro k
    subst hTT
    rcases Nat.lt_or_ge k 130 with h | h
    · rw [el_take h]; exact hsm k
    · rw [el_over (by rw [List.length_take]; omega)]; omega
  have HTT : Hid (TT = X.T.take 130) := hTT
  have HKK : Hid (KK = cutC X.K 130) := hKK
  have HVV : Hid (VV = cutC X.V 130) := hVV
  have HKN : Hid (kn5 = min 5 kn) := hkn5
  have HVN : Hid (vn5 = min 5 vn) := hvn5
  clear hTT hKK hVV hkn5 hvn5 hsm
  have X0 := blk_new w 29 #[.slice ta tn tc, .slice ka kn kc, .slice va vn vc]
  have B0 : Below w.heap.size w (w.alloc (.cells #[.slice ta tn tc, .slice ka kn kc, .slice va vn vc] 29)) := (Below.refl _ _).alloc (Nat.le_refl _) _
  generalize hw0 : w.alloc (.cells #[.slice ta tn tc, .slice ka kn kc, .slice va vn vc] 29) = w0 at *
  have lt0 := X0.lt
  have X1 := blk_new w0 31 #[.slice none 0 0, .slice none 0 0, .slice none 0 0]
  have B1 : Below w0.heap.size w0 (w0.alloc (.cells #[.slice none 0 0, .slice none 0 0, .slice none 0 0] 31)) := (Below.refl _ _).alloc (Nat.le_refl _) _
  generalize hw1 : w0.alloc (.cells #[.slice none 0 0, .slice none 0 0, .slice none 0 0] 31) = w1 at *
  replace X0 := X0.below B1
  have D := below_then B0 B1
  clear B0 B1
  have lt1 := X1.lt
  go_enter Try.func6, Try.ntmps6
  go_wp2_with fail
  clear hw0 hw1
  replace X0 := X0.below ((Below.refl _ _).drew)
  replace X1 := X1.below ((Below.refl _ _).drew)
  replace D := D.drew
  replace lt1 : w0.heap.size < w1.drew.heap.size := lt1
  refine wp_region_held_drew (S := fun w' => Blk w' w.heap.size 29 #[.slice ta tn tc, .slice ka kn kc, .slice va vn vc]) (by kernel_rfl) (X0) (fun hHeld => ?_)
  generalize hA : w1.drew = wA at *
  clear hA
  refine wpAnyH_take (i := 0) (v := (.pointer (some ⟨w.heap.size, 0, none⟩))) rfl (by kernel_rfl) (by kernel_rfl) (by kernel_rfl) (fun _ _ _ h => h) (Or.inl ⟨by rfl, ?_⟩) (by assumption) ?_
  · intro w' hSw
    go_simp
  simp only [List.getElem_toArray, List.getElem_cons_zero, Act.put, List.setIfInBounds_toArray, List.set_cons_zero, List.set_cons_succ]
  refine wpAnyH_take (i := 1) (v := (.slice ta tn tc)) rfl (by kernel_rfl) (by kernel_rfl) (by kernel_rfl) (fun _ _ _ h => h) (Or.inl ⟨by rfl, ?_⟩) (by assumption) ?_
  · intro w' hSw
    have cc0 : w'.cell? ⟨w.heap.size, 0, none⟩ = some (.slice ta tn tc) := hSw.cell 0 rfl
    go_simp
  simp only [List.getElem_toArray, List.getElem_cons_succ, List.getElem_cons_zero, Act.put, List.setIfInBounds_toArray, List.set_cons_zero, List.set_cons_succ]
  refine wpAnyH_take (i := 3) (v := (.pointer (some ⟨w.heap.size, 1, none⟩))) rfl (by kernel_rfl) (by kernel_rfl) (by kernel_rfl) (fun _ _ _ h => h) (Or.inl ⟨by rfl, ?_⟩) (by assumption) ?_
  · intro w' hSw
    go_simp
  simp only [List.getElem_toArray, List.getElem_cons_succ, List.getElem_cons_zero, Act.put, List.setIfInBounds_toArray, List.set_cons_zero, List.set_cons_succ]
  refine wpAnyH_take (i := 4) (v := (.pointer (some ⟨w.heap.size, 1, none⟩))) rfl (by kernel_rfl) (by kernel_rfl) (by kernel_rfl) (fun _ _ _ h => h) (Or.inl ⟨by rfl, ?_⟩) (by assumption) ?_
  · intro w' hSw
    go_simp
  simp only [List.getElem_toArray, List.getElem_cons_succ, List.getElem_cons_zero, Act.put, List.setIfInBounds_toArray, List.set_cons_zero, List.set_cons_succ]
  refine wpAnyH_take (i := 5) (v := (.slice ka kn kc)) rfl (by kernel_rfl) (by kernel_rfl) (by kernel_rfl) (fun _ _ _ h => h) (Or.inl ⟨by rfl, ?_⟩) (by assumption) ?_
  · intro w' hSw
    have cc1 : w'.cell? ⟨w.heap.size, 1, none⟩ = some (.slice ka kn kc) := hSw.cell 1 rfl
    go_simp
  simp only [List.getElem_toArray, List.getElem_cons_succ, List.getElem_cons_zero, Act.put, List.setIfInBounds_toArray, List.set_cons_zero, List.set_cons_succ]
  refine wpAnyH_take (i := 7) (v := (.pointer (some ⟨w.heap.size, 1, none⟩))) rfl (by kernel_rfl) (by kernel_rfl) (by kernel_rfl) (fun _ _ _ h => h) (Or.inl ⟨by rfl, ?_⟩) (by assumption) ?_
  · intro w' hSw
    go_simp
  simp only [List.getElem_toArray, List.getElem_cons_succ, List.getElem_cons_zero, Act.put, List.setIfInBounds_toArray, List.set_cons_zero, List.set_cons_succ]
  refine wpAnyH_take (i := 8) (v := (.pointer (some ⟨w.heap.size, 2, none⟩))) rfl (by kernel_rfl) (by kernel_rfl) (by kernel_rfl) (fun _ _ _ h => h) (Or.inl ⟨by rfl, ?_⟩) (by assumption) ?_
  · intro w' hSw
    go_simp
  simp only [List.getElem_toArray, List.getElem_cons_succ, List.getElem_cons_zero, Act.put, List.setIfInBounds_toArray, List.set_cons_zero, List.set_cons_succ]
  refine wpAnyH_take (i := 9) (v := (.slice va vn vc)) rfl (by kernel_rfl) (by kernel_rfl) (by kernel_rfl) (fun _ _ _ h => h) (Or.inl ⟨by rfl, ?_⟩) (by assumption) ?_
  · intro w' hSw
    have cc2 : w'.cell? ⟨w.heap.size, 2, none⟩ = some (.slice va vn vc) := hSw.cell 2 rfl
    go_simp
  simp only [List.getElem_toArray, List.getElem_cons_succ, List.getElem_cons_zero, Act.put, List.setIfInBounds_toArray, List.set_cons_zero, List.set_cons_succ]
  refine wpAnyH_ready (rs := [2]) (by kernel_rfl) (by simp) ?_
  refine AllReadyH.cons rfl (fun Kc hKc => ?_) AllReadyH.nil
  simp only [List.getElem_toArray, List.getElem_cons_succ, List.getElem_cons_zero]
  rw [if_pos (by rfl)]
  go_wp2_with fail
  refine (few8_gen ta tn tc X.T TT 130 _ (HT.out _ D) (by omega) HTT.out).mono ?_
  rintro e w2 ⟨tb, tc2, rfl, OT, B2⟩
  have zA2 := B2.size
  replace X0 := X0.below B2
  replace X1 := X1.below B2
  replace D := below_then D B2
  go_wp2_with fail
  refine hKc.out _ _ (X0) (fun hHeld => ?_)
  clear hKc Kc
  refine wpAnyH_ready (rs := [6]) (by kernel_rfl) (by simp) ?_
  refine AllReadyH.cons rfl (fun Kc hKc => ?_) AllReadyH.nil
  simp only [List.getElem_toArray, List.getElem_cons_succ, List.getElem_cons_zero]
  rw [if_pos (by rfl)]
  go_wp2_with fail
  refine (listsR_any ka kn kc X.K kn5 KK _ (HK.out _ D) HKN.out HKK.out).mono ?_
  rintro e w3 ⟨kg, kc2, rfl, NK, B3⟩
  replace OT := owns_below OT B3
  have z3 := B3.size
  replace X0 := X0.below B3
  replace X1 := X1.below B3
  replace D := below_then D B3
  go_wp2_with fail
  refine hKc.out _ _ (X0) (fun hHeld => ?_)
  clear hKc Kc
  refine wpAnyH_ready (rs := [10]) (by kernel_rfl) (by simp) ?_
  refine AllReadyH.cons rfl (fun Kc hKc => ?_) AllReadyH.nil
  simp only [List.getElem_toArray, List.getElem_cons_succ, List.getElem_cons_zero]
  rw [if_pos (by rfl)]
  go_wp2_with fail
  refine (listsR_any va vn vc X.V vn5 VV _ (HV.out _ D) HVN.out HVV.out).mono ?_
  rintro e w4 ⟨vg, vc2, rfl, NV, B4⟩
  replace OT := owns_below OT B4
  replace NK := NK.below B4
  replace X0 := X0.below B4
  replace X1 := X1.below B4
  replace D := below_then D B4
  go_wp2_with fail
  refine hKc.out _ _ (X0) (fun hHeld => ?_)
  clear hKc Kc
  refine wpAnyH_take (i := 11) (v := (.agg #[.slice (some ⟨tb, 0, none⟩) TT.length tc2, .slice (some ⟨kg, 0, none⟩) kn5 kc2, .slice (some ⟨vg, 0, none⟩) vn5 vc2])) rfl (by kernel_rfl) (by kernel_rfl) (by kernel_rfl) (fun _ _ _ h => h) (Or.inl ⟨by rfl, ?_⟩) (by assumption) ?_
  · intro w' hSw
    go_simp
  simp only [List.getElem_toArray, List.getElem_cons_succ, List.getElem_cons_zero, Act.put, List.setIfInBounds_toArray, List.set_cons_zero, List.set_cons_succ]
  refine wpAnyH_ready (rs := [12]) (by kernel_rfl) (by simp) ?_
  refine AllReadyH.cons rfl (fun Kc hKc => ?_) AllReadyH.nil
  simp only [List.getElem_toArray, List.getElem_cons_succ, List.getElem_cons_zero]
  rw [if_pos (by rfl)]
  have hall : Array.all (#[.slice (some ⟨tb, 0, none⟩) TT.length tc2, .slice (some ⟨kg, 0, none⟩) kn5 kc2, .slice (some ⟨vg, 0, none⟩) vn5 vc2] : Array Value) (fun v => v.oneCell') = true := by simp [Value.oneCell']
  refine wp_store_row 31 _ _ rfl w0.heap.size #[.slice (some ⟨tb, 0, none⟩) TT.length tc2, .slice (some ⟨kg, 0, none⟩) kn5 kc2, .slice (some ⟨vg, 0, none⟩) vn5 vc2] rfl rfl 31 _ X1 Try.infoRV rfl hall ?_
  refine hKc.out _ _ (Blk.of_block X0 (setRow_other _ _ _ _ (by omega))) (fun hHeld => ?_)
  clear hKc Kc
  refine wpAnyH_done (by kernel_rfl) ?_ _
  clear hHeld
  go_wp2
  refine bodyPost_ret (results_cell_row rfl _ _ w0.heap.size 31 _ _ _ rfl (X1.row _) Try.underlying31 rfl Try.infoRV) rfl ?_
  have so : ∀ (b : Nat) (x : Array Value), b ≠ w0.heap.size → (w4.setRow w0.heap.size x).heap[b]? = w4.heap[b]? := fun b x hb => setRow_other _ _ _ _ hb
  have IT := IOwn.newArg (owns_mono OT (Nat.le_refl _) (fun b hb => so b #[.slice (some ⟨tb, 0, none⟩) TT.length tc2, .slice (some ⟨kg, 0, none⟩) kn5 kc2, .slice (some ⟨vg, 0, none⟩) vn5 vc2] (by have := (OT.lt b hb).1; omega))) hsm2.out
  have q1 := (Hangs.row NK (g := w0.heap.size) (by show ¬ (_ ≤ _); omega) #[.slice (some ⟨tb, 0, none⟩) TT.length tc2, .slice (some ⟨kg, 0, none⟩) kn5 kc2, .slice (some ⟨vg, 0, none⟩) vn5 vc2])
  have q2 := (Hangs.row NV (g := w0.heap.size) (by show ¬ (_ ≤ _); omega) #[.slice (some ⟨tb, 0, none⟩) TT.length tc2, .slice (some ⟨kg, 0, none⟩) kn5 kc2, .slice (some ⟨vg, 0, none⟩) vn5 vc2])
  have E1 := HTT.out
  have E2 := HKK.out
  have E3 := HVV.out
  subst E1 E2 E3
  exact ⟨⟨some ⟨tb, 0, none⟩, _, tc2⟩, ⟨some ⟨kg, 0, none⟩, kn5, kc2⟩, ⟨some ⟨vg, 0, none⟩, vn5, vc2⟩, rfl, fun w2 h2 => ⟨(New.mono (B' := w.heap.size) IT (by omega)) w2 h2, (New.mono (B' := w.heap.size) q1 (by omega)) w2 h2, (New.mono (B' := w.heap.size) q2 (by omega)) w2 h2⟩, below_setRow D (by omega) _⟩
theorem told9R_any (vv : VwV) (X : Vw) (w : World) (hv : VwR w vv X) :
   Calls Try.prog 6 #[.agg vv.cells] w fun e w' => ∃ t k v : Sl, e = .returned (.agg #[t.v, k.v, v.v]) ∧ ToldAt w' t k v (cutVw X) ∧ Below w.heap.size w w' := by
  refine (told9N_any vv X w hv).mono ?_
  rintro e w' ⟨t, k, v, rfl, N, B⟩
  exact ⟨t, k, v, rfl, N.now, B⟩
set_option maxRecDepth 100000 in
set_option maxHeartbeats 800000 in
theorem of9_gen (vv : VwV) (X : Vw) (w : World) (hv : VwR w vv X) :
   Calls Try.prog 8 #[.agg vv.cells] w fun e w' => ∃ v2 : VwV, e = .returned (.agg v2.cells) ∧ VwAt w' v2 (cutVw X) ∧ Below w.heap.size w w' := by
  have hsm := hv.t.row.small
  have HT : Hid (∀ wv, Below w.heap.size w wv → IArg wv vv.t.ao vv.t.n vv.t.c X.T) := fun wv hb => hv.t.below hb
  have HK : Hid (∀ wv, Below w.heap.size w wv → CubeR wv vv.k.ao vv.k.n X.K) := fun wv hb => hv.k.below hb
  have HV : Hid (∀ wv, Below w.heap.size w wv → CubeR wv vv.v.ao vv.v.n X.V) := fun wv hb => hv.v.below hb
  clear hv
  obtain ⟨⟨ta, tn, tc⟩, ⟨ka, kn, kc⟩, ⟨va, vn, vc⟩⟩ := vv
  unfold VwV.cells Sl.v
  simp only at *
  obtain ⟨TT, hTT⟩ : ∃ TT, TT = X.T.take 130 := ⟨_, rfl⟩
  obtain ⟨KK, hKK⟩ : ∃ KK, KK = cutC X.K 130 := ⟨_, rfl⟩
  obtain ⟨VV, hVV⟩ : ∃ VV, VV = cutC X.V 130 := ⟨_, rfl⟩
  obtain ⟨kn5, hkn5⟩ : ∃ m, m = min 5 kn := ⟨_, rfl⟩
  obtain ⟨vn5, hvn5⟩ : ∃ m, m = min 5 vn := ⟨_, rfl⟩
  have hsm2 : Hid (∀ k, -9223372036854775808 ≤ el TT k ∧ el TT k ≤ 9223372036854775807) := by
    intro k
    subst hTT
    rcases Nat.lt_or_ge k 130 with h | h
    · rw [el_take h]; exact hsm k
    · rw [el_over (by rw [List.length_take]; omega)]; omega
  have HTT : Hid (TT = X.T.take 130) := hTT
  have HKK : Hid (KK = cutC X.K 130) := hKK
  have HVV : Hid (VV = cutC X.V 130) := hVV
  have HKN : Hid (kn5 = min 5 kn) := hkn5
  have HVN : Hid (vn5 = min 5 vn) := hvn5
  clear hTT hKK hVV hkn5 hvn5 hsm
  have X0 := blk_new w 31 #[.slice ta tn tc, .slice ka kn kc, .slice va vn vc]
  have B0 : Below w.heap.size w (w.alloc (.cells #[.slice ta tn tc, .slice ka kn kc, .slice va vn vc] 31)) := (Below.refl _ _).alloc (Nat.le_refl _) _
  generalize hw0 : w.alloc (.cells #[.slice ta tn tc, .slice ka kn kc, .slice va vn vc] 31) = w0 at *
  have lt0 := X0.lt
  have X1 := blk_new w0 29 #[.slice none 0 0, .slice none 0 0, .slice none 0 0]
  have B1 : Below w0.heap.size w0 (w0.alloc (.cells #[.slice none 0 0, .slice none 0 0, .slice none 0 0] 29)) := (Below.refl _ _).alloc (Nat.le_refl _) _
  generalize hw1 : w0.alloc (.cells #[.slice none 0 0, .slice none 0 0, .slice none 0 0] 29) = w1 at *
  replace X0 := X0.below B1
  have D := below_then B0 B1
  clear B0 B1
  have lt1 := X1.lt
  go_enter Try.func8, Try.ntmps8
  go_wp2_with fail
  clear hw0 hw1
  replace X0 := X0.below ((Below.refl _ _).drew)
  replace X1 := X1.below ((Below.refl _ _).drew)
  replace D := D.drew
  replace lt1 : w0.heap.size < w1.drew.heap.size := lt1
  refine wp_region_held_drew (S := fun w' => Blk w' w.heap.size 31 #[.slice ta tn tc, .slice ka kn kc, .slice va vn vc]) (by kernel_rfl) (X0) (fun hHeld => ?_)
  generalize hA : w1.drew = wA at *
  clear hA
  refine wpAnyH_take (i := 0) (v := (.pointer (some ⟨w.heap.size, 0, none⟩))) rfl (by kernel_rfl) (by kernel_rfl) (by kernel_rfl) (fun _ _ _ h => h) (Or.inl ⟨by rfl, ?_⟩) (by assumption) ?_
  · intro w' hSw
    go_simp
  simp only [List.getElem_toArray, List.getElem_cons_zero, Act.put, List.setIfInBounds_toArray, List.set_cons_zero, List.set_cons_succ]
  refine wpAnyH_take (i := 1) (v := (.slice ta tn tc)) rfl (by kernel_rfl) (by kernel_rfl) (by kernel_rfl) (fun _ _ _ h => h) (Or.inl ⟨by rfl, ?_⟩) (by assumption) ?_
  · intro w' hSw
    have cc0 : w'.cell? ⟨w.heap.size, 0, none⟩ = some (.slice ta tn tc) := hSw.cell 0 rfl
    go_simp
  simp only [List.getElem_toArray, List.getElem_cons_succ, List.getElem_cons_zero, Act.put, List.setIfInBounds_toArray, List.set_cons_zero, List.set_cons_succ]
  refine wpAnyH_take (i := 3) (v := (.pointer (some ⟨w.heap.size, 1, none⟩))) rfl (by kernel_rfl) (by kernel_rfl) (by kernel_rfl) (fun _ _ _ h => h) (Or.inl ⟨by rfl, ?_⟩) (by assumption) ?_
  · intro w' hSw
    go_simp
  simp only [List.getElem_toArray, List.getElem_cons_succ, List.getElem_cons_zero, Act.put, List.setIfInBounds_toArray, List.set_cons_zero, List.set_cons_succ]
  refine wpAnyH_take (i := 4) (v := (.slice ka kn kc)) rfl (by kernel_rfl) (by kernel_rfl) (by kernel_rfl) (fun _ _ _ h => h) (Or.inl ⟨by rfl, ?_⟩) (by assumption) ?_
  · intro w' hSw
    have cc1 : w'.cell? ⟨w.heap.size, 1, none⟩ = some (.slice ka kn kc) := hSw.cell 1 rfl
    go_simp
  simp only [List.getElem_toArray, List.getElem_cons_succ, List.getElem_cons_zero, Act.put, List.setIfInBounds_toArray, List.set_cons_zero, List.set_cons_succ]
  refine wpAnyH_take (i := 6) (v := (.pointer (some ⟨w.heap.size, 2, none⟩))) rfl (by kernel_rfl) (by kernel_rfl) (by kernel_rfl) (fun _ _ _ h => h) (Or.inl ⟨by rfl, ?_⟩) (by assumption) ?_
  · intro w' hSw
    go_simp
  simp only [List.getElem_toArray, List.getElem_cons_succ, List.getElem_cons_zero, Act.put, List.setIfInBounds_toArray, List.set_cons_zero, List.set_cons_succ]
  refine wpAnyH_take (i := 7) (v := (.slice va vn vc)) rfl (by kernel_rfl) (by kernel_rfl) (by kernel_rfl) (fun _ _ _ h => h) (Or.inl ⟨by rfl, ?_⟩) (by assumption) ?_
  · intro w' hSw
    have cc2 : w'.cell? ⟨w.heap.size, 2, none⟩ = some (.slice va vn vc) := hSw.cell 2 rfl
    go_simp
  simp only [List.getElem_toArray, List.getElem_cons_succ, List.getElem_cons_zero, Act.put, List.setIfInBounds_toArray, List.set_cons_zero, List.set_cons_succ]
  refine wpAnyH_ready (rs := [2]) (by kernel_rfl) (by simp) ?_
  refine AllReadyH.cons rfl (fun Kc hKc => ?_) AllReadyH.nil
  simp only [List.getElem_toArray, List.getElem_cons_succ, List.getElem_cons_zero]
  rw [if_pos (by rfl)]
  go_wp2_with fail
  refine (few8_gen ta tn tc X.T TT 130 _ (HT.out _ D) (by omega) HTT.out).mono ?_
  rintro e w2 ⟨tb, tc2, rfl, OT, B2⟩
  have zA2 := B2.size
  replace X0 := X0.below B2
  replace X1 := X1.below B2
  replace D := below_then D B2
  go_wp2_with fail
  refine hKc.out _ _ (X0) (fun hHeld => ?_)
  clear hKc Kc
  refine wpAnyH_ready (rs := [5]) (by kernel_rfl) (by simp) ?_
  refine AllReadyH.cons rfl (fun Kc hKc => ?_) AllReadyH.nil
  simp only [List.getElem_toArray, List.getElem_cons_succ, List.getElem_cons_zero]
  rw [if_pos (by rfl)]
  go_wp2_with fail
  refine (listsR_any ka kn kc X.K kn5 KK _ (HK.out _ D) HKN.out HKK.out).mono ?_
  rintro e w3 ⟨kg, kc2, rfl, NK, B3⟩
  replace OT := owns_below OT B3
  have z3 := B3.size
  replace X0 := X0.below B3
  replace X1 := X1.below B3
  replace D := below_then D B3
  go_wp2_with fail
  refine hKc.out _ _ (X0) (fun hHeld => ?_)
  clear hKc Kc
  refine wpAnyH_ready (rs := [8]) (by kernel_rfl) (by simp) ?_
  refine AllReadyH.cons rfl (fun Kc hKc => ?_) AllReadyH.nil
  simp only [List.getElem_toArray, List.getElem_cons_succ, List.getElem_cons_zero]
  rw [if_pos (by rfl)]
  go_wp2_with fail
  refine (listsR_any va vn vc X.V vn5 VV _ (HV.out _ D) HVN.out HVV.out).mono ?_
  rintro e w4 ⟨vg, vc2, rfl, NV, B4⟩
  replace OT := owns_below OT B4
  replace NK := NK.below B4
  replace X0 := X0.below B4
  replace X1 := X1.below B4
  replace D := below_then D B4
  go_wp2_with fail
  refine hKc.out _ _ (X0) (fun hHeld => ?_)
  clear hKc Kc
  refine wpAnyH_take (i := 9) (v := (.agg #[.slice (some ⟨kg, 0, none⟩) kn5 kc2, .slice (some ⟨vg, 0, none⟩) vn5 vc2])) rfl (by kernel_rfl) (by kernel_rfl) (by kernel_rfl) (fun _ _ _ h => h) (Or.inl ⟨by rfl, ?_⟩) (by assumption) ?_
  · intro w' hSw
    go_simp
  simp only [List.getElem_toArray, List.getElem_cons_succ, List.getElem_cons_zero, Act.put, List.setIfInBounds_toArray, List.set_cons_zero, List.set_cons_succ]
  refine wpAnyH_take (i := 10) (v := (.agg #[.slice (some ⟨tb, 0, none⟩) TT.length tc2, .slice (some ⟨kg, 0, none⟩) kn5 kc2, .slice (some ⟨vg, 0, none⟩) vn5 vc2])) rfl (by kernel_rfl) (by kernel_rfl) (by kernel_rfl) (fun _ _ _ h => h) (Or.inl ⟨by rfl, ?_⟩) (by assumption) ?_
  · intro w' hSw
    go_simp
  simp only [List.getElem_toArray, List.getElem_cons_succ, List.getElem_cons_zero, Act.put, List.setIfInBounds_toArray, List.set_cons_zero, List.set_cons_succ]
  refine wpAnyH_ready (rs := [11]) (by kernel_rfl) (by simp) ?_
  refine AllReadyH.cons rfl (fun Kc hKc => ?_) AllReadyH.nil
  simp only [List.getElem_toArray, List.getElem_cons_succ, List.getElem_cons_zero]
  rw [if_pos (by rfl)]
  have hall : Array.all (#[.slice (some ⟨tb, 0, none⟩) TT.length tc2, .slice (some ⟨kg, 0, none⟩) kn5 kc2, .slice (some ⟨vg, 0, none⟩) vn5 vc2] : Array Value) (fun v => v.oneCell') = true := by simp [Value.oneCell']
  refine wp_store_row 29 _ _ rfl w0.heap.size #[.slice (some ⟨tb, 0, none⟩) TT.length tc2, .slice (some ⟨kg, 0, none⟩) kn5 kc2, .slice (some ⟨vg, 0, none⟩) vn5 vc2] rfl rfl 29 _ X1 Try.infoV rfl hall ?_
  refine hKc.out _ _ (Blk.of_block X0 (setRow_other _ _ _ _ (by omega))) (fun hHeld => ?_)
  clear hKc Kc
  refine wpAnyH_done (by kernel_rfl) ?_ _
  clear hHeld
  go_wp2
  refine bodyPost_ret (results_cell_row rfl _ _ w0.heap.size 29 _ _ _ rfl (X1.row _) Try.underlying29 rfl Try.infoV) rfl ?_
  have so : ∀ (b : Nat) (x : Array Value), b ≠ w0.heap.size → (w4.setRow w0.heap.size x).heap[b]? = w4.heap[b]? := fun b x hb => setRow_other _ _ _ _ hb
  obtain ⟨x1, y1, e1, IT⟩ := IOwn.arg (A := TT) (owns_mono OT (Nat.le_refl _) (fun b hb => so b #[.slice (some ⟨tb, 0, none⟩) TT.length tc2, .slice (some ⟨kg, 0, none⟩) kn5 kc2, .slice (some ⟨vg, 0, none⟩) vn5 vc2] (by have := (OT.lt b hb).1; omega))) hsm2.out
  simp only [Value.slice.injEq, true_and] at e1
  obtain ⟨rfl, rfl⟩ := e1
  have q1 := (Hangs.row NK (g := w0.heap.size) (by show ¬ (_ ≤ _); omega) #[.slice (some ⟨tb, 0, none⟩) TT.length tc2, .slice (some ⟨kg, 0, none⟩) kn5 kc2, .slice (some ⟨vg, 0, none⟩) vn5 vc2]).now
  have q2 := (Hangs.row NV (g := w0.heap.size) (by show ¬ (_ ≤ _); omega) #[.slice (some ⟨tb, 0, none⟩) TT.length tc2, .slice (some ⟨kg, 0, none⟩) kn5 kc2, .slice (some ⟨vg, 0, none⟩) vn5 vc2]).now
  have E1 := HTT.out
  have E2 := HKK.out
  have E3 := HVV.out
  subst E1 E2 E3
  exact ⟨⟨⟨some ⟨tb, 0, none⟩, _, tc2⟩, ⟨some ⟨kg, 0, none⟩, kn5, kc2⟩, ⟨some ⟨vg, 0, none⟩, vn5, vc2⟩⟩, rfl, ⟨IT, q1, q2⟩, below_setRow D (by omega) _⟩
theorem ToldAt.raw {w : World} {t k v : Sl} {X : Vw} (h : ToldAt w t k v X) : VwR w ⟨t, k, v⟩ X := ⟨h.t, h.k.raw, h.v.raw⟩
theorem of9_any (t k v : Sl) (X : Vw) (w : World) (h : ToldAt w t k v X) (hX : cutVw X = X) :
   Calls Try.prog 8 #[.agg #[t.v, k.v, v.v]] w fun e w' => ∃ v2 : VwV, e = .returned (.agg v2.cells) ∧ VwAt w' v2 X ∧ Below w.heap.size w w' := by
  have := of9_gen ⟨t, k, v⟩ X w h.raw
  rw [hX] at this
  exact this
theorem KV.cubeR {w : World} {g m : Nat} {p : Nat → Prop} {A C : List (List (List Int))} (h : KV w g m 0 p A C) (hl : C.length = m) (hm : m ≤ 9223372036854775807) (hr : ∀ R ∈ C, R.length ≤ 4096) : CubeAt w (some ⟨g, 0, none⟩) m C := by
  obtain ⟨cs, h1, h2, _, h4⟩ := h.row
  refine ⟨hl, hm, fun _ => ⟨g, 0, rfl, fun t R hR => ?_⟩⟩
  have ht : t < m := by have := (List.getElem?_eq_some_iff.1 hR).1; omega
  obtain ⟨ro, n, vs, e, q1, N⟩ := h4 t (by omega) ht
  have e2 : C.getD t [] = R := by rw [List.getD_eq_getElem?_getD, hR]; rfl
  rw [e2] at N
  have G := N.now.grid
  have hl2 := hr R (List.mem_of_getElem? hR)
  have hn := G.len
  refine ⟨ro, n, n, ?_, q1, Nat.le_refl _, by omega, G⟩
  rw [Nat.zero_add]
  unfold World.cell?
  simp only [h1]
  exact e
theorem cutVw_bounds {X : Vw} (hX : cutVw X = X) : X.T.length ≤ 130 ∧ X.K.length ≤ 5 ∧ X.V.length ≤ 5 ∧ (∀ R ∈ X.K, R.length ≤ 130 ∧ (∀ t, (rowOf R t).length ≤ 40) ∧ rowsN R 130 = R) ∧ ∀ R ∈ X.V, R.length ≤ 130 ∧ (∀ t, (rowOf R t).length ≤ 40) ∧ rowsN R 130 = R := by
  have h1 : X.T.take 130 = X.T := congrArg Vw.T hX
  have h2 : cutC X.K 130 = X.K := congrArg Vw.K hX
  have h3 : cutC X.V 130 = X.V := congrArg Vw.V hX
  refine ⟨by rw [← h1, List.length_take]; omega, by rw [← h2]; exact cutC_at_most _ _, by rw [← h3]; exact cutC_at_most _ _, fun R hR => cutC_mem (by rw [h2]; exact hR), fun R hR => cutC_mem (by rw [h3]; exact hR)⟩
/-- Told of a view that was cut: the same again. -/
theorem told9C_any (vv : VwV) (X : Vw) (w : World) (hv : VwAt w vv X) (hX : cutVw X = X) :
   Calls Try.prog 6 #[.agg vv.cells] w fun e w' => ∃ t k v : Sl, e = .returned (.agg #[t.v, k.v, v.v]) ∧ ToldAt w' t k v X ∧ Below w.heap.size w w' := by
  have := told9R_any vv X w hv.raw
  rw [hX] at this
  exact this
end Go.Proofs.Ytpplnjmjldhlbaa

/- Lists of at most 20 rows: a copy of lists of rows that came in. -/
namespace Go.Proofs.Ytpplnjmjldhlbaa
open Go.ChangeShapes Go.WideShapes Go.ChangeAt Go.RowKit
set_option maxRecDepth 100000 in
set_option maxHeartbeats 800000 in
theorem lists11_any (ao : Option Addr) (n ca : Nat) (C : List (List (List Int))) (m5 : Nat) (Z : List (List (List Int))) (w : World) (hC : CubeR w ao n C) (hm5 : m5 = min 5 n) (hZ : Z = cutC C 20) :
   Calls Try.prog 34 #[.slice ao n ca] w fun e w' => ∃ g cap, e = .returned (.slice (some ⟨g, 0, none⟩) m5 cap) ∧ New w.heap.size w' (fun w => CubeAt w (some ⟨g, 0, none⟩) m5 Z) ∧ Below w.heap.size w w' := by
  have hl := hC.len
  have F0 := ownCube_empty w
  have B0 : Below w.heap.size w (w.alloc (.cells #[] 73)) := (Below.refl _ _).alloc (Nat.le_refl _) _
  have HC : Hid (∀ wv, Below w.heap.size w wv → CubeR wv ao n C) := fun wv hb => hC.below hb
  go_enter Try.func34, Try.ntmps34
  go_wp2
  generalize w.alloc (.cells #[] 73) = w0 at *
  have hC' := hC
  have HZ : Hid (Z = cutC C 20) := hZ
  have HM5 : Hid (m5 = min 5 n) := hm5
  clear hC hZ hm5
  have hmx := hC'.max
  go_loopg [3, 4] n (fun r s i wr => ∃ (k g cap : Nat), k ≤ n ∧ k ≤ 5 ∧ r = n - k ∧ i = .int .i64 k ∧ s = .slice (some ⟨g, 0, none⟩) k cap ∧ OwnCube wr w.heap.size g k cap ((C.take k).map fun R => rowsN R 20) ∧ Below w.heap.size w wr)
  case atStart => exact ⟨0, _, _, by omega, by omega, by omega, rfl, rfl, by rw [List.take_zero]; exact F0, B0⟩
  case round =>
    obtain ⟨k, g, cap, hk, hk5, rfl, rfl, rfl, F2, B2⟩ := hrel
    clear hC'
    clear F0 B0
    by_cases hlt : k < n ∧ k < 5
    · obtain ⟨hlt, h5⟩ := hlt
      obtain ⟨b, o, rfl, hc⟩ := (HC.out _ B2).cells (by omega)
      obtain ⟨R, hR⟩ : ∃ R, C[k]? = some R := ⟨_, List.getElem?_eq_getElem (show k < C.length by omega)⟩
      obtain ⟨ro, m1, c1, q1, -, -, -, G1⟩ := hc k R hR
      have HS : Hid (((C.take (k + 1)).map fun R => rowsN R 20) = ((C.take k).map fun R => rowsN R 20) ++ [rowsN R 20]) := cutC_snoc 20 h5 hR
      have s2 := B2.size
      have lg := F2.lt
      have h5' : (k : Int) < 5 := by omega
      clear hc
      go_wp2_with fail
      refine (hrowsR_any ro m1 c1 R 20 20 _ rfl G1 (by omega)).mono ?_
      rintro e w3 ⟨g3, n3, c3, rfl, hm3, OG, B3⟩
      obtain ⟨p1, p2⟩ := own_caps OG.own.choose_spec.1
      have NG := OG.hangs (by omega)
      have BL : Below w3.heap.size w3 (w3.alloc (.cells #[.slice (some ⟨g3, 0, none⟩) n3 c3] 73)) := (Below.refl _ _).alloc (Nat.le_refl _) _
      have cX := cellList_new w3 (.slice (some ⟨g3, 0, none⟩) n3 c3)
      have F4 := (F2.below B3).below BL
      have s3 := B3.size
      have s4 := BL.size
      have NG4 : Hangs (fun b => w.heap.size ≤ b ∧ b ≠ g) (w3.alloc (.cells #[.slice (some ⟨g3, 0, none⟩) n3 c3] 73)) (fun w => GridAt w (some ⟨g3, 0, none⟩) n3 (rowsN R 20)) := Hangs.mono (Hangs.below NG BL) (fun b _ hb => ⟨by omega, by omega⟩)
      have B4 := below_then (below_then B2 B3) BL
      clear NG OG F2 G1 q1
      generalize hw4 : w3.alloc (.cells #[.slice (some ⟨g3, 0, none⟩) n3 c3] 73) = w4 at *
      go_wp2_with (at_builtin; refine wpList_append_cube rfl _ _ rfl w.heap.size g k cap _ rfl (by exact F4) w3.heap.size g3 n3 c3 (rowsN R 20) rfl (by exact cX) p1 p2 (by exact NG4) (by omega) (by omega) ?_; intro g' cap' w' F7 B7)
      go_roundg (n - (k + 1))
      case measure => omega
      case rel => exact ⟨k + 1, _, _, by omega, by omega, rfl, by go_num, rfl, by rw [HS.out]; exact F7, B4.trans B7⟩
    · have e1 : (C.take k).map (fun R => rowsN R 20) = cutC C 20 := by
        unfold cutC
        by_cases h5 : k = 5
        · rw [h5]
        · rw [List.take_of_length_le (by omega), List.take_of_length_le (by omega)]
      have e2 : k = min 5 n := by omega
      have e3 := HM5.out
      rw [← e2] at e3
      rw [e1, ← HZ.out] at F2
      subst e3
      clear hlt
      by_cases h5 : m5 < n
      · have hk5' : (m5 : Int) = 5 := by omega
        clear e1 e2
        go_wp2
        go_ret
        exact ⟨_, _, rfl, F2.hangs (by omega), B2⟩
      · obtain rfl : m5 = n := by omega
        clear e1 e2
        go_wp2
        go_ret
        exact ⟨_, _, rfl, F2.hangs (by omega), B2⟩
end Go.Proofs.Ytpplnjmjldhlbaa

/- Told and Of of layer 11 over any block; the document's Same of blocks that read alike. -/
namespace Go.Proofs.Ytpplnjmjldhlbaa
open Go.ChangeShapes Go.WideShapes Go.ChangeAt Go.RowKit
/-- A block that came in. -/
structure PgR (w : World) (p : PgV) (X : Pg) : Prop where
  t : IArg w p.t.ao p.t.n p.t.c X.T
  f : p.f = X.F
  k : CubeR w p.k.ao p.k.n X.K
  v : CubeR w p.v.ao p.v.n X.V
theorem PgR.below {w w' : World} {p : PgV} {X : Pg} (h : PgR w p X) (hb : Below w.heap.size w w') : PgR w' p X := ⟨h.t.below hb, h.f, h.k.below hb, h.v.below hb⟩
theorem PgAt.raw {w : World} {p : PgV} {X : Pg} (h : PgAt w p X) : PgR w p X := ⟨h.t, h.f, h.k.raw, h.v.raw⟩
def cutPg (X : Pg) : Pg := ⟨X.T.take 140, X.F, cutC X.K 20, cutC X.V 20⟩
theorem cutPg_twice (X : Pg) : cutPg (cutPg X) = cutPg X := by
  unfold cutPg
  simp only [cutC_twice, List.take_take, Nat.min_self]
theorem Try.infoTg : (Try.prog.info? 44).map (·.size) = some 4 := by kernel_rfl
set_option maxRecDepth 100000 in
set_option maxHeartbeats 800000 in
theorem told11_any (vv : PgV) (X : Pg) (w : World) (hv : PgR w vv X) :
   Calls Try.prog 13 #[.agg vv.cells] w fun e w' => ∃ p2 : PgV, e = .returned (.agg p2.cells) ∧ New w.heap.size w' (fun w => PgAt w p2 (cutPg X)) ∧ Below w.heap.size w w' := by
  have hsm := hv.t.row.small
  have hfx : vv.f = X.F := hv.f
  have HT : Hid (∀ wv, Below w.heap.size w wv → IArg wv vv.t.ao vv.t.n vv.t.c X.T) := fun wv hb => hv.t.below hb
  have HK : Hid (∀ wv, Below w.heap.size w wv → CubeR wv vv.k.ao vv.k.n X.K) := fun wv hb => hv.k.below hb
  have HV : Hid (∀ wv, Below w.heap.size w wv → CubeR wv vv.v.ao vv.v.n X.V) := fun wv hb => hv.v.below hb
  clear hv
  obtain ⟨⟨ta, tn, tc⟩, fr, ⟨ka, kn, kc⟩, ⟨va, vn, vc⟩⟩ := vv
  unfold PgV.cells Sl.v
  simp only at *
  obtain ⟨TT, hTT⟩ : ∃ TT, TT = X.T.take 140 := ⟨_, rfl⟩
  obtain ⟨KK, hKK⟩ : ∃ KK, KK = cutC X.K 20 := ⟨_, rfl⟩
  obtain ⟨VV, hVV⟩ : ∃ VV, VV = cutC X.V 20 := ⟨_, rfl⟩
  obtain ⟨kn5, hkn5⟩ : ∃ m, m = min 5 kn := ⟨_, rfl⟩
  obtain ⟨vn5, hvn5⟩ : ∃ m, m = min 5 vn := ⟨_, rfl⟩
  have hsm2 : Hid (∀ k, -9223372036854775808 ≤ el TT k ∧ el TT k ≤ 9223372036854775807) := by
    intro k
    subst hTT
    rcases Nat.lt_or_ge k 140 with h | h
    · rw [el_take h]; exact hsm k
    · rw [el_over (by rw [List.length_take]; omega)]; omega
  have HTT : Hid (TT = X.T.take 140) := hTT
  have HKK : Hid (KK = cutC X.K 20) := hKK
  have HVV : Hid (VV = cutC X.V 20) := hVV
  have HKN : Hid (kn5 = min 5 kn) := hkn5
  have HVN : Hid (vn5 = min 5 vn) := hvn5
  replace hfx : Hid (fr = X.F) := hfx
  clear hTT hKK hVV hkn5 hvn5 hsm
  have X0 := blk_new w 47 #[.slice ta tn tc, .int .i64 fr, .slice ka kn kc, .slice va vn vc]
  have B0 : Below w.heap.size w (w.alloc (.cells #[.slice ta tn tc, .int .i64 fr, .slice ka kn kc, .slice va vn vc] 47)) := (Below.refl _ _).alloc (Nat.le_refl _) _
  generalize hw0 : w.alloc (.cells #[.slice ta tn tc, .int .i64 fr, .slice ka kn kc, .slice va vn vc] 47) = w0 at *
  have lt0 := X0.lt
  have X1 := blk_new w0 44 #[.slice none 0 0, .int .i64 0, .slice none 0 0, .slice none 0 0]
  have B1 : Below w0.heap.size w0 (w0.alloc (.cells #[.slice none 0 0, .int .i64 0, .slice none 0 0, .slice none 0 0] 44)) := (Below.refl _ _).alloc (Nat.le_refl _) _
  generalize hw1 : w0.alloc (.cells #[.slice none 0 0, .int .i64 0, .slice none 0 0, .slice none 0 0] 44) = w1 at *
  replace X0 := X0.below B1
  have D := below_then B0 B1
  clear B0 B1
  have lt1 := X1.lt
  go_enter Try.func13, Try.ntmps13
  go_wp2_with fail
  clear hw0 hw1
  replace X0 := X0.below ((Below.refl _ _).drew)
  replace X1 := X1.below ((Below.refl _ _).drew)
  replace D := D.drew
  replace lt1 : w0.heap.size < w1.drew.heap.size := lt1
  refine wp_region_held_drew (S := fun w' => Blk w' w.heap.size 47 #[.slice ta tn tc, .int .i64 fr, .slice ka kn kc, .slice va vn vc]) (by kernel_rfl) (X0) (fun hHeld => ?_)
  generalize hA : w1.drew = wA at *
  clear hA
  refine wpAnyH_take (i := 0) (v := (.pointer (some ⟨w.heap.size, 0, none⟩))) rfl (by kernel_rfl) (by kernel_rfl) (by kernel_rfl) (fun _ _ _ h => h) (Or.inl ⟨by rfl, ?_⟩) (by assumption) ?_
  · intro w' hSw
    go_simp
  simp only [List.getElem_toArray, List.getElem_cons_zero, Act.put, List.setIfInBounds_toArray, List.set_cons_zero, List.set_cons_succ]
  refine wpAnyH_take (i := 1) (v := (.slice ta tn tc)) rfl (by kernel_rfl) (by kernel_rfl) (by kernel_rfl) (fun _ _ _ h => h) (Or.inl ⟨by rfl, ?_⟩) (by assumption) ?_
  · intro w' hSw
    have cc0 : w'.cell? ⟨w.heap.size, 0, none⟩ = some (.slice ta tn tc) := hSw.cell 0 rfl
    go_simp
  simp only [List.getElem_toArray, List.getElem_cons_succ, List.getElem_cons_zero, Act.put, List.setIfInBounds_toArray, List.set_cons_zero, List.set_cons_succ]
  refine wpAnyH_take (i := 3) (v := (.pointer (some ⟨w.heap.size, 1, none⟩))) rfl (by kernel_rfl) (by kernel_rfl) (by kernel_rfl) (fun _ _ _ h => h) (Or.inl ⟨by rfl, ?_⟩) (by assumption) ?_
  · intro w' hSw
    go_simp
  simp only [List.getElem_toArray, List.getElem_cons_succ, List.getElem_cons_zero, Act.put, List.setIfInBounds_toArray, List.set_cons_zero, List.set_cons_succ]
  refine wpAnyH_take (i := 4) (v := (.int .i64 fr)) rfl (by kernel_rfl) (by kernel_rfl) (by kernel_rfl) (fun _ _ _ h => h) (Or.inl ⟨by rfl, ?_⟩) (by assumption) ?_
  · intro w' hSw
    have cc1 : w'.cell? ⟨w.heap.size, 1, none⟩ = some (.int .i64 fr) := hSw.cell 1 rfl
    go_simp
  simp only [List.getElem_toArray, List.getElem_cons_succ, List.getElem_cons_zero, Act.put, List.setIfInBounds_toArray, List.set_cons_zero, List.set_cons_succ]
  refine wpAnyH_take (i := 5) (v := (.pointer (some ⟨w.heap.size, 2, none⟩))) rfl (by kernel_rfl) (by kernel_rfl) (by kernel_rfl) (fun _ _ _ h => h) (Or.inl ⟨by rfl, ?_⟩) (by assumption) ?_
  · intro w' hSw
    go_simp
  simp only [List.getElem_toArray, List.getElem_cons_succ, List.getElem_cons_zero, Act.put, List.setIfInBounds_toArray, List.set_cons_zero, List.set_cons_succ]
  refine wpAnyH_take (i := 6) (v := (.pointer (some ⟨w.heap.size, 2, none⟩))) rfl (by kernel_rfl) (by kernel_rfl) (by kernel_rfl) (fun _ _ _ h => h) (Or.inl ⟨by rfl, ?_⟩) (by assumption) ?_
  · intro w' hSw
    go_simp
  simp only [List.getElem_toArray, List.getElem_cons_succ, List.getElem_cons_zero, Act.put, List.setIfInBounds_toArray, List.set_cons_zero, List.set_cons_succ]
  refine wpAnyH_take (i := 7) (v := (.slice ka kn kc)) rfl (by kernel_rfl) (by kernel_rfl) (by kernel_rfl) (fun _ _ _ h => h) (Or.inl ⟨by rfl, ?_⟩) (by assumption) ?_
  · intro w' hSw
    have cc2 : w'.cell? ⟨w.heap.size, 2, none⟩ = some (.slice ka kn kc) := hSw.cell 2 rfl
    go_simp
  simp only [List.getElem_toArray, List.getElem_cons_succ, List.getElem_cons_zero, Act.put, List.setIfInBounds_toArray, List.set_cons_zero, List.set_cons_succ]
  refine wpAnyH_take (i := 9) (v := (.pointer (some ⟨w.heap.size, 2, none⟩))) rfl (by kernel_rfl) (by kernel_rfl) (by kernel_rfl) (fun _ _ _ h => h) (Or.inl ⟨by rfl, ?_⟩) (by assumption) ?_
  · intro w' hSw
    go_simp
  simp only [List.getElem_toArray, List.getElem_cons_succ, List.getElem_cons_zero, Act.put, List.setIfInBounds_toArray, List.set_cons_zero, List.set_cons_succ]
  refine wpAnyH_take (i := 10) (v := (.pointer (some ⟨w.heap.size, 3, none⟩))) rfl (by kernel_rfl) (by kernel_rfl) (by kernel_rfl) (fun _ _ _ h => h) (Or.inl ⟨by rfl, ?_⟩) (by assumption) ?_
  · intro w' hSw
    go_simp
  simp only [List.getElem_toArray, List.getElem_cons_succ, List.getElem_cons_zero, Act.put, List.setIfInBounds_toArray, List.set_cons_zero, List.set_cons_succ]
  refine wpAnyH_take (i := 11) (v := (.slice va vn vc)) rfl (by kernel_rfl) (by kernel_rfl) (by kernel_rfl) (fun _ _ _ h => h) (Or.inl ⟨by rfl, ?_⟩) (by assumption) ?_
  · intro w' hSw
    have cc3 : w'.cell? ⟨w.heap.size, 3, none⟩ = some (.slice va vn vc) := hSw.cell 3 rfl
    go_simp
  simp only [List.getElem_toArray, List.getElem_cons_succ, List.getElem_cons_zero, Act.put, List.setIfInBounds_toArray, List.set_cons_zero, List.set_cons_succ]
  refine wpAnyH_ready (rs := [2]) (by kernel_rfl) (by simp) ?_
  refine AllReadyH.cons rfl (fun Kc hKc => ?_) AllReadyH.nil
  simp only [List.getElem_toArray, List.getElem_cons_succ, List.getElem_cons_zero]
  rw [if_pos (by rfl)]
  go_wp2_with fail
  refine (few8_gen ta tn tc X.T TT 140 _ (HT.out _ D) (by omega) HTT.out).mono ?_
  rintro e w2 ⟨tb, tc2, rfl, OT, B2⟩
  have zA2 := B2.size
  have zD2 := D.size
  replace X0 := X0.below B2
  replace X1 := X1.below B2
  replace D := below_then D B2
  go_wp2_with fail
  refine hKc.out _ _ (X0) (fun hHeld => ?_)
  clear hKc Kc
  refine wpAnyH_ready (rs := [8]) (by kernel_rfl) (by simp) ?_
  refine AllReadyH.cons rfl (fun Kc hKc => ?_) AllReadyH.nil
  simp only [List.getElem_toArray, List.getElem_cons_succ, List.getElem_cons_zero]
  rw [if_pos (by rfl)]
  go_wp2_with fail
  refine (lists11_any ka kn kc X.K kn5 KK _ (HK.out _ D) HKN.out HKK.out).mono ?_
  rintro e w3 ⟨kg, kc2, rfl, NK, B3⟩
  replace OT := owns_below OT B3
  have z3 := B3.size
  replace X0 := X0.below B3
  replace X1 := X1.below B3
  replace D := below_then D B3
  go_wp2_with fail
  refine hKc.out _ _ (X0) (fun hHeld => ?_)
  clear hKc Kc
  refine wpAnyH_ready (rs := [12]) (by kernel_rfl) (by simp) ?_
  refine AllReadyH.cons rfl (fun Kc hKc => ?_) AllReadyH.nil
  simp only [List.getElem_toArray, List.getElem_cons_succ, List.getElem_cons_zero]
  rw [if_pos (by rfl)]
  go_wp2_with fail
  refine (lists11_any va vn vc X.V vn5 VV _ (HV.out _ D) HVN.out HVV.out).mono ?_
  rintro e w4 ⟨vg, vc2, rfl, NV, B4⟩
  replace OT := owns_below OT B4
  replace NK := NK.below B4
  replace X0 := X0.below B4
  replace X1 := X1.below B4
  replace D := below_then D B4
  go_wp2_with fail
  refine hKc.out _ _ (X0) (fun hHeld => ?_)
  clear hKc Kc
  refine wpAnyH_take (i := 13) (v := (.agg #[.slice (some ⟨tb, 0, none⟩) TT.length tc2, .int .i64 fr, .slice (some ⟨kg, 0, none⟩) kn5 kc2, .slice (some ⟨vg, 0, none⟩) vn5 vc2])) rfl (by kernel_rfl) (by kernel_rfl) (by kernel_rfl) (fun _ _ _ h => h) (Or.inl ⟨by rfl, ?_⟩) (by assumption) ?_
  · intro w' hSw
    go_simp
  simp only [List.getElem_toArray, List.getElem_cons_succ, List.getElem_cons_zero, Act.put, List.setIfInBounds_toArray, List.set_cons_zero, List.set_cons_succ]
  refine wpAnyH_ready (rs := [14]) (by kernel_rfl) (by simp) ?_
  refine AllReadyH.cons rfl (fun Kc hKc => ?_) AllReadyH.nil
  simp only [List.getElem_toArray, List.getElem_cons_succ, List.getElem_cons_zero]
  rw [if_pos (by rfl)]
  have hall : Array.all (#[.slice (some ⟨tb, 0, none⟩) TT.length tc2, .int .i64 fr, .slice (some ⟨kg, 0, none⟩) kn5 kc2, .slice (some ⟨vg, 0, none⟩) vn5 vc2] : Array Value) (fun v => v.oneCell') = true := by simp [Value.oneCell']
  refine wp_store_row 44 _ _ rfl w0.heap.size #[.slice (some ⟨tb, 0, none⟩) TT.length tc2, .int .i64 fr, .slice (some ⟨kg, 0, none⟩) kn5 kc2, .slice (some ⟨vg, 0, none⟩) vn5 vc2] rfl rfl 44 _ X1 Try.infoTg rfl hall ?_
  refine hKc.out _ _ (Blk.of_block X0 (setRow_other _ _ _ _ (by omega))) (fun hHeld => ?_)
  clear hKc Kc
  refine wpAnyH_done (by kernel_rfl) ?_ _
  clear hHeld
  go_wp2
  refine bodyPost_ret (results_cell_row rfl _ _ w0.heap.size 44 _ _ _ rfl (X1.row _) Try.underlying44 rfl Try.infoTg) rfl ?_
  have so : ∀ (b : Nat) (x : Array Value), b ≠ w0.heap.size → (w4.setRow w0.heap.size x).heap[b]? = w4.heap[b]? := fun b x hb => setRow_other _ _ _ _ hb
  have OT2 := owns_mono OT (Nat.le_refl _) (fun b hb => so b #[.slice (some ⟨tb, 0, none⟩) TT.length tc2, .int .i64 fr, .slice (some ⟨kg, 0, none⟩) kn5 kc2, .slice (some ⟨vg, 0, none⟩) vn5 vc2] (by have := (OT.lt b hb).1; omega))
  have q1 := Hangs.row NK (g := w0.heap.size) (by show ¬ (_ ≤ _); omega) #[.slice (some ⟨tb, 0, none⟩) TT.length tc2, .int .i64 fr, .slice (some ⟨kg, 0, none⟩) kn5 kc2, .slice (some ⟨vg, 0, none⟩) vn5 vc2]
  have q2 := Hangs.row NV (g := w0.heap.size) (by show ¬ (_ ≤ _); omega) #[.slice (some ⟨tb, 0, none⟩) TT.length tc2, .int .i64 fr, .slice (some ⟨kg, 0, none⟩) kn5 kc2, .slice (some ⟨vg, 0, none⟩) vn5 vc2]
  have hsm3 := hsm2.out
  have E1 := HTT.out
  have E2 := HKK.out
  have E3 := HVV.out
  subst E1 E2 E3
  refine ⟨⟨⟨some ⟨tb, 0, none⟩, _, tc2⟩, fr, ⟨some ⟨kg, 0, none⟩, kn5, kc2⟩, ⟨some ⟨vg, 0, none⟩, vn5, vc2⟩⟩, rfl, fun wz hz => ?_, below_setRow D (by omega) _⟩
  obtain ⟨x1, y1, e1, IT⟩ := IOwn.arg (A := X.T.take 140) (owns_mono OT2 (Nat.le_refl _) (fun b hb => hz b (by have := (OT2.lt b hb).1; show _ ≤ _; omega) (OT2.lt b hb).2)) hsm3
  simp only [Value.slice.injEq, true_and] at e1
  obtain ⟨rfl, rfl⟩ := e1
  exact ⟨IT, hfx, q1 wz (fun b hb hl => hz b (by show _ ≤ _; have hb' : _ ≤ b := hb; omega) hl), q2 wz (fun b hb hl => hz b (by show _ ≤ _; have hb' : _ ≤ b := hb; omega) hl)⟩
set_option maxRecDepth 100000 in
set_option maxHeartbeats 800000 in
theorem of11_any (vv : PgV) (X : Pg) (w : World) (hv : PgR w vv X) :
   Calls Try.prog 17 #[.agg vv.cells] w fun e w' => ∃ p2 : PgV, e = .returned (.agg p2.cells) ∧ New w.heap.size w' (fun w => PgAt w p2 (cutPg X)) ∧ Below w.heap.size w w' := by
  have hsm := hv.t.row.small
  have hfx : vv.f = X.F := hv.f
  have HT : Hid (∀ wv, Below w.heap.size w wv → IArg wv vv.t.ao vv.t.n vv.t.c X.T) := fun wv hb => hv.t.below hb
  have HK : Hid (∀ wv, Below w.heap.size w wv → CubeR wv vv.k.ao vv.k.n X.K) := fun wv hb => hv.k.below hb
  have HV : Hid (∀ wv, Below w.heap.size w wv → CubeR wv vv.v.ao vv.v.n X.V) := fun wv hb => hv.v.below hb
  clear hv
  obtain ⟨⟨ta, tn, tc⟩, fr, ⟨ka, kn, kc⟩, ⟨va, vn, vc⟩⟩ := vv
  unfold PgV.cells Sl.v
  simp only at *
  obtain ⟨TT, hTT⟩ : ∃ TT, TT = X.T.take 140 := ⟨_, rfl⟩
  obtain ⟨KK, hKK⟩ : ∃ KK, KK = cutC X.K 20 := ⟨_, rfl⟩
  obtain ⟨VV, hVV⟩ : ∃ VV, VV = cutC X.V 20 := ⟨_, rfl⟩
  obtain ⟨kn5, hkn5⟩ : ∃ m, m = min 5 kn := ⟨_, rfl⟩
  obtain ⟨vn5, hvn5⟩ : ∃ m, m = min 5 vn := ⟨_, rfl⟩
  have hsm2 : Hid (∀ k, -9223372036854775808 ≤ el TT k ∧ el TT k ≤ 9223372036854775807) := by
    intro k
    subst hTT
    rcases Nat.lt_or_ge k 140 with h | h
    · rw [el_take h]; exact hsm k
    · rw [el_over (by rw [List.length_take]; omega)]; omega
  have HTT : Hid (TT = X.T.take 140) := hTT
  have HKK : Hid (KK = cutC X.K 20) := hKK
  have HVV : Hid (VV = cutC X.V 20) := hVV
  have HKN : Hid (kn5 = min 5 kn) := hkn5
  have HVN : Hid (vn5 = min 5 vn) := hvn5
  replace hfx : Hid (fr = X.F) := hfx
  clear hTT hKK hVV hkn5 hvn5 hsm
  have X0 := blk_new w 44 #[.slice ta tn tc, .int .i64 fr, .slice ka kn kc, .slice va vn vc]
  have B0 : Below w.heap.size w (w.alloc (.cells #[.slice ta tn tc, .int .i64 fr, .slice ka kn kc, .slice va vn vc] 44)) := (Below.refl _ _).alloc (Nat.le_refl _) _
  generalize hw0 : w.alloc (.cells #[.slice ta tn tc, .int .i64 fr, .slice ka kn kc, .slice va vn vc] 44) = w0 at *
  have lt0 := X0.lt
  have X1 := blk_new w0 47 #[.slice none 0 0, .int .i64 0, .slice none 0 0, .slice none 0 0]
  have B1 : Below w0.heap.size w0 (w0.alloc (.cells #[.slice none 0 0, .int .i64 0, .slice none 0 0, .slice none 0 0] 47)) := (Below.refl _ _).alloc (Nat.le_refl _) _
  generalize hw1 : w0.alloc (.cells #[.slice none 0 0, .int .i64 0, .slice none 0 0, .slice none 0 0] 47) = w1 at *
  replace X0 := X0.below B1
  have D := below_then B0 B1
  clear B0 B1
  have lt1 := X1.lt
  go_enter Try.func17, Try.ntmps17
  go_wp2_with fail
  clear hw0 hw1
  replace X0 := X0.below ((Below.refl _ _).drew)
  replace X1 := X1.below ((Below.refl _ _).drew)
  replace D := D.drew
  replace lt1 : w0.heap.size < w1.drew.heap.size := lt1
  refine wp_region_held_drew (S := fun w' => Blk w' w.heap.size 44 #[.slice ta tn tc, .int .i64 fr, .slice ka kn kc, .slice va vn vc]) (by kernel_rfl) (X0) (fun hHeld => ?_)
  generalize hA : w1.drew = wA at *
  clear hA
  refine wpAnyH_take (i := 0) (v := (.pointer (some ⟨w.heap.size, 0, none⟩))) rfl (by kernel_rfl) (by kernel_rfl) (by kernel_rfl) (fun _ _ _ h => h) (Or.inl ⟨by rfl, ?_⟩) (by assumption) ?_
  · intro w' hSw
    go_simp
  simp only [List.getElem_toArray, List.getElem_cons_zero, Act.put, List.setIfInBounds_toArray, List.set_cons_zero, List.set_cons_succ]
  refine wpAnyH_take (i := 1) (v := (.slice ta tn tc)) rfl (by kernel_rfl) (by kernel_rfl) (by kernel_rfl) (fun _ _ _ h => h) (Or.inl ⟨by rfl, ?_⟩) (by assumption) ?_
  · intro w' hSw
    have cc0 : w'.cell? ⟨w.heap.size, 0, none⟩ = some (.slice ta tn tc) := hSw.cell 0 rfl
    go_simp
  simp only [List.getElem_toArray, List.getElem_cons_succ, List.getElem_cons_zero, Act.put, List.setIfInBounds_toArray, List.set_cons_zero, List.set_cons_succ]
  refine wpAnyH_take (i := 3) (v := (.pointer (some ⟨w.heap.size, 1, none⟩))) rfl (by kernel_rfl) (by kernel_rfl) (by kernel_rfl) (fun _ _ _ h => h) (Or.inl ⟨by rfl, ?_⟩) (by assumption) ?_
  · intro w' hSw
    go_simp
  simp only [List.getElem_toArray, List.getElem_cons_succ, List.getElem_cons_zero, Act.put, List.setIfInBounds_toArray, List.set_cons_zero, List.set_cons_succ]
  refine wpAnyH_take (i := 4) (v := (.int .i64 fr)) rfl (by kernel_rfl) (by kernel_rfl) (by kernel_rfl) (fun _ _ _ h => h) (Or.inl ⟨by rfl, ?_⟩) (by assumption) ?_
  · intro w' hSw
    have cc1 : w'.cell? ⟨w.heap.size, 1, none⟩ = some (.int .i64 fr) := hSw.cell 1 rfl
    go_simp
  simp only [List.getElem_toArray, List.getElem_cons_succ, List.getElem_cons_zero, Act.put, List.setIfInBounds_toArray, List.set_cons_zero, List.set_cons_succ]
  refine wpAnyH_take (i := 5) (v := (.pointer (some ⟨w.heap.size, 2, none⟩))) rfl (by kernel_rfl) (by kernel_rfl) (by kernel_rfl) (fun _ _ _ h => h) (Or.inl ⟨by rfl, ?_⟩) (by assumption) ?_
  · intro w' hSw
    go_simp
  simp only [List.getElem_toArray, List.getElem_cons_succ, List.getElem_cons_zero, Act.put, List.setIfInBounds_toArray, List.set_cons_zero, List.set_cons_succ]
  refine wpAnyH_take (i := 6) (v := (.slice ka kn kc)) rfl (by kernel_rfl) (by kernel_rfl) (by kernel_rfl) (fun _ _ _ h => h) (Or.inl ⟨by rfl, ?_⟩) (by assumption) ?_
  · intro w' hSw
    have cc2 : w'.cell? ⟨w.heap.size, 2, none⟩ = some (.slice ka kn kc) := hSw.cell 2 rfl
    go_simp
  simp only [List.getElem_toArray, List.getElem_cons_succ, List.getElem_cons_zero, Act.put, List.setIfInBounds_toArray, List.set_cons_zero, List.set_cons_succ]
  refine wpAnyH_take (i := 8) (v := (.pointer (some ⟨w.heap.size, 3, none⟩))) rfl (by kernel_rfl) (by kernel_rfl) (by kernel_rfl) (fun _ _ _ h => h) (Or.inl ⟨by rfl, ?_⟩) (by assumption) ?_
  · intro w' hSw
    go_simp
  simp only [List.getElem_toArray, List.getElem_cons_succ, List.getElem_cons_zero, Act.put, List.setIfInBounds_toArray, List.set_cons_zero, List.set_cons_succ]
  refine wpAnyH_take (i := 9) (v := (.slice va vn vc)) rfl (by kernel_rfl) (by kernel_rfl) (by kernel_rfl) (fun _ _ _ h => h) (Or.inl ⟨by rfl, ?_⟩) (by assumption) ?_
  · intro w' hSw
    have cc3 : w'.cell? ⟨w.heap.size, 3, none⟩ = some (.slice va vn vc) := hSw.cell 3 rfl
    go_simp
  simp only [List.getElem_toArray, List.getElem_cons_succ, List.getElem_cons_zero, Act.put, List.setIfInBounds_toArray, List.set_cons_zero, List.set_cons_succ]
  refine wpAnyH_ready (rs := [2]) (by kernel_rfl) (by simp) ?_
  refine AllReadyH.cons rfl (fun Kc hKc => ?_) AllReadyH.nil
  simp only [List.getElem_toArray, List.getElem_cons_succ, List.getElem_cons_zero]
  rw [if_pos (by rfl)]
  go_wp2_with fail
  refine (few8_gen ta tn tc X.T TT 140 _ (HT.out _ D) (by omega) HTT.out).mono ?_
  rintro e w2 ⟨tb, tc2, rfl, OT, B2⟩
  have zA2 := B2.size
  have zD2 := D.size
  replace X0 := X0.below B2
  replace X1 := X1.below B2
  replace D := below_then D B2
  go_wp2_with fail
  refine hKc.out _ _ (X0) (fun hHeld => ?_)
  clear hKc Kc
  refine wpAnyH_ready (rs := [7]) (by kernel_rfl) (by simp) ?_
  refine AllReadyH.cons rfl (fun Kc hKc => ?_) AllReadyH.nil
  simp only [List.getElem_toArray, List.getElem_cons_succ, List.getElem_cons_zero]
  rw [if_pos (by rfl)]
  go_wp2_with fail
  refine (lists11_any ka kn kc X.K kn5 KK _ (HK.out _ D) HKN.out HKK.out).mono ?_
  rintro e w3 ⟨kg, kc2, rfl, NK, B3⟩
  replace OT := owns_below OT B3
  have z3 := B3.size
  replace X0 := X0.below B3
  replace X1 := X1.below B3
  replace D := below_then D B3
  go_wp2_with fail
  refine hKc.out _ _ (X0) (fun hHeld => ?_)
  clear hKc Kc
  refine wpAnyH_ready (rs := [10]) (by kernel_rfl) (by simp) ?_
  refine AllReadyH.cons rfl (fun Kc hKc => ?_) AllReadyH.nil
  simp only [List.getElem_toArray, List.getElem_cons_succ, List.getElem_cons_zero]
  rw [if_pos (by rfl)]
  go_wp2_with fail
  refine (lists11_any va vn vc X.V vn5 VV _ (HV.out _ D) HVN.out HVV.out).mono ?_
  rintro e w4 ⟨vg, vc2, rfl, NV, B4⟩
  replace OT := owns_below OT B4
  replace NK := NK.below B4
  replace X0 := X0.below B4
  replace X1 := X1.below B4
  replace D := below_then D B4
  go_wp2_with fail
  refine hKc.out _ _ (X0) (fun hHeld => ?_)
  clear hKc Kc
  refine wpAnyH_take (i := 11) (v := (.agg #[.slice (some ⟨kg, 0, none⟩) kn5 kc2, .slice (some ⟨vg, 0, none⟩) vn5 vc2])) rfl (by kernel_rfl) (by kernel_rfl) (by kernel_rfl) (fun _ _ _ h => h) (Or.inl ⟨by rfl, ?_⟩) (by assumption) ?_
  · intro w' hSw
    go_simp
  simp only [List.getElem_toArray, List.getElem_cons_succ, List.getElem_cons_zero, Act.put, List.setIfInBounds_toArray, List.set_cons_zero, List.set_cons_succ]
  refine wpAnyH_take (i := 12) (v := (.agg #[.slice (some ⟨tb, 0, none⟩) TT.length tc2, .int .i64 fr, .slice (some ⟨kg, 0, none⟩) kn5 kc2, .slice (some ⟨vg, 0, none⟩) vn5 vc2])) rfl (by kernel_rfl) (by kernel_rfl) (by kernel_rfl) (fun _ _ _ h => h) (Or.inl ⟨by rfl, ?_⟩) (by assumption) ?_
  · intro w' hSw
    go_simp
  simp only [List.getElem_toArray, List.getElem_cons_succ, List.getElem_cons_zero, Act.put, List.setIfInBounds_toArray, List.set_cons_zero, List.set_cons_succ]
  refine wpAnyH_ready (rs := [13]) (by kernel_rfl) (by simp) ?_
  refine AllReadyH.cons rfl (fun Kc hKc => ?_) AllReadyH.nil
  simp only [List.getElem_toArray, List.getElem_cons_succ, List.getElem_cons_zero]
  rw [if_pos (by rfl)]
  have hall : Array.all (#[.slice (some ⟨tb, 0, none⟩) TT.length tc2, .int .i64 fr, .slice (some ⟨kg, 0, none⟩) kn5 kc2, .slice (some ⟨vg, 0, none⟩) vn5 vc2] : Array Value) (fun v => v.oneCell') = true := by simp [Value.oneCell']
  refine wp_store_row 47 _ _ rfl w0.heap.size #[.slice (some ⟨tb, 0, none⟩) TT.length tc2, .int .i64 fr, .slice (some ⟨kg, 0, none⟩) kn5 kc2, .slice (some ⟨vg, 0, none⟩) vn5 vc2] rfl rfl 47 _ X1 Try.infoPg rfl hall ?_
  refine hKc.out _ _ (Blk.of_block X0 (setRow_other _ _ _ _ (by omega))) (fun hHeld => ?_)
  clear hKc Kc
  refine wpAnyH_done (by kernel_rfl) ?_ _
  clear hHeld
  go_wp2
  refine bodyPost_ret (results_cell_row rfl _ _ w0.heap.size 47 _ _ _ rfl (X1.row _) Try.underlying47 rfl Try.infoPg) rfl ?_
  have so : ∀ (b : Nat) (x : Array Value), b ≠ w0.heap.size → (w4.setRow w0.heap.size x).heap[b]? = w4.heap[b]? := fun b x hb => setRow_other _ _ _ _ hb
  have OT2 := owns_mono OT (Nat.le_refl _) (fun b hb => so b #[.slice (some ⟨tb, 0, none⟩) TT.length tc2, .int .i64 fr, .slice (some ⟨kg, 0, none⟩) kn5 kc2, .slice (some ⟨vg, 0, none⟩) vn5 vc2] (by have := (OT.lt b hb).1; omega))
  have q1 := Hangs.row NK (g := w0.heap.size) (by show ¬ (_ ≤ _); omega) #[.slice (some ⟨tb, 0, none⟩) TT.length tc2, .int .i64 fr, .slice (some ⟨kg, 0, none⟩) kn5 kc2, .slice (some ⟨vg, 0, none⟩) vn5 vc2]
  have q2 := Hangs.row NV (g := w0.heap.size) (by show ¬ (_ ≤ _); omega) #[.slice (some ⟨tb, 0, none⟩) TT.length tc2, .int .i64 fr, .slice (some ⟨kg, 0, none⟩) kn5 kc2, .slice (some ⟨vg, 0, none⟩) vn5 vc2]
  have hsm3 := hsm2.out
  have E1 := HTT.out
  have E2 := HKK.out
  have E3 := HVV.out
  subst E1 E2 E3
  refine ⟨⟨⟨some ⟨tb, 0, none⟩, _, tc2⟩, fr, ⟨some ⟨kg, 0, none⟩, kn5, kc2⟩, ⟨some ⟨vg, 0, none⟩, vn5, vc2⟩⟩, rfl, fun wz hz => ?_, below_setRow D (by omega) _⟩
  obtain ⟨x1, y1, e1, IT⟩ := IOwn.arg (A := X.T.take 140) (owns_mono OT2 (Nat.le_refl _) (fun b hb => hz b (by have := (OT2.lt b hb).1; show _ ≤ _; omega) (OT2.lt b hb).2)) hsm3
  simp only [Value.slice.injEq, true_and] at e1
  obtain ⟨rfl, rfl⟩ := e1
  exact ⟨IT, hfx, q1 wz (fun b hb hl => hz b (by show _ ≤ _; have hb' : _ ≤ b := hb; omega) hl), q2 wz (fun b hb hl => hz b (by show _ ≤ _; have hb' : _ ≤ b := hb; omega) hl)⟩
set_option maxHeartbeats 800000 in
theorem same11_any (p q : PgV) (X : Pg) (w : World) (h1 : PgAt w p X) (h2 : PgAt w q X) :
   Calls Try.prog 12 #[.agg p.cells, .agg q.cells] w fun e w' => e = .returned (.bool true) ∧ Below w.heap.size w w' := by
  obtain ⟨t, f, k, v⟩ := p
  obtain ⟨t', f', k', v'⟩ := q
  have ef : f = X.F := h1.f
  have ef' : f' = X.F := h2.f
  obtain rfl : f = f' := ef.trans ef'.symm
  clear ef ef'
  unfold PgV.cells
  obtain ⟨tn, hn⟩ : ∃ tn, X.T.length = tn := ⟨_, rfl⟩
  obtain ⟨kn, hkn⟩ : ∃ kn, X.K.length = kn := ⟨_, rfl⟩
  obtain ⟨vn, hvn⟩ : ∃ vn, X.V.length = vn := ⟨_, rfl⟩
  have et1 : X.T.length = t.n := h1.t.row.len
  have et2 : X.T.length = t'.n := h2.t.row.len
  have ek1 : X.K.length = k.n := h1.k.len
  have ek2 : X.K.length = k'.n := h2.k.len
  have ev1 : X.V.length = v.n := h1.v.len
  have ev2 : X.V.length = v'.n := h2.v.len
  rw [hn] at et1 et2
  rw [hkn] at ek1 ek2
  rw [hvn] at ev1 ev2
  have T1 : Hid (∀ wv, Below w.heap.size w wv → IArg wv t.ao t.n t.c X.T) := fun wv hb => h1.t.below hb
  have T2 : Hid (∀ wv, Below w.heap.size w wv → IArg wv t'.ao t'.n t'.c X.T) := fun wv hb => h2.t.below hb
  have K1 : Hid (∀ wv, Below w.heap.size w wv → CubeAt wv k.ao k.n X.K) := fun wv hb => h1.k.below hb
  have K2 : Hid (∀ wv, Below w.heap.size w wv → CubeAt wv k'.ao k'.n X.K) := fun wv hb => h2.k.below hb
  have V1 : Hid (∀ wv, Below w.heap.size w wv → CubeAt wv v.ao v.n X.V) := fun wv hb => h1.v.below hb
  have V2 : Hid (∀ wv, Below w.heap.size w wv → CubeAt wv v'.ao v'.n X.V) := fun wv hb => h2.v.below hb
  obtain ⟨ta, t1, tc⟩ := t
  obtain ⟨ta', t1', tc'⟩ := t'
  obtain ⟨ka, k1, kc⟩ := k
  obtain ⟨ka', k1', kc'⟩ := k'
  obtain ⟨va, v1, vc⟩ := v
  obtain ⟨va', v1', vc'⟩ := v'
  unfold Sl.v
  simp only at *
  subst et1 et2 ek1 ek2 ev1 ev2
  clear h1 h2 hn hkn hvn
  have X0 := blk_new w 44 #[.slice ta tn tc, .int .i64 f, .slice ka kn kc, .slice va vn vc]
  have B0 : Below w.heap.size w (w.alloc (.cells #[.slice ta tn tc, .int .i64 f, .slice ka kn kc, .slice va vn vc] 44)) := (Below.refl _ _).alloc (Nat.le_refl _) _
  generalize hw0 : w.alloc (.cells #[.slice ta tn tc, .int .i64 f, .slice ka kn kc, .slice va vn vc] 44) = w0 at *
  have X1 := blk_new w0 44 #[.slice ta' tn tc', .int .i64 f, .slice ka' kn kc', .slice va' vn vc']
  have B1 : Below w0.heap.size w0 (w0.alloc (.cells #[.slice ta' tn tc', .int .i64 f, .slice ka' kn kc', .slice va' vn vc'] 44)) := (Below.refl _ _).alloc (Nat.le_refl _) _
  generalize hw1 : w0.alloc (.cells #[.slice ta' tn tc', .int .i64 f, .slice ka' kn kc', .slice va' vn vc'] 44) = w1 at *
  replace X0 := X0.below B1
  have D1 := below_then B0 B1
  clear B0 B1
  have a0 : w1.cell? ⟨w.heap.size, 0, none⟩ = some (.slice ta tn tc) := X0.cell 0 rfl
  have a1 : w1.cell? ⟨w.heap.size, 1, none⟩ = some (.int .i64 f) := X0.cell 1 rfl
  have a2 : w1.cell? ⟨w.heap.size, 2, none⟩ = some (.slice ka kn kc) := X0.cell 2 rfl
  have a3 : w1.cell? ⟨w.heap.size, 3, none⟩ = some (.slice va vn vc) := X0.cell 3 rfl
  have b0 : w1.cell? ⟨w0.heap.size, 0, none⟩ = some ((.slice ta' tn tc')) := X1.cell 0 rfl
  have b1 : w1.cell? ⟨w0.heap.size, 1, none⟩ = some (.int .i64 f) := X1.cell 1 rfl
  have b2 : w1.cell? ⟨w0.heap.size, 2, none⟩ = some ((.slice ka' kn kc')) := X1.cell 2 rfl
  have b3 : w1.cell? ⟨w0.heap.size, 3, none⟩ = some ((.slice va' vn vc')) := X1.cell 3 rfl
  have hn := (T1.out w (Below.refl _ _)).row.max
  go_enter Try.func12, Try.ntmps12
  go_wp2_with fail
  refine (cubeSame_eq ka ka' kn kc kc' X.K _ (K1.out _ D1) (K2.out _ D1)).mono ?_
  rintro e w2 ⟨rfl, m2, hm2⟩
  have B2 : Below w1.heap.size w1 w2 := by rw [hm2]; exact below_drewN (Below.refl _ _) m2
  clear hm2 a0 a1 a2 a3 b0 b1 b2 b3 hw0 hw1
  replace X0 := X0.below B2
  replace X1 := X1.below B2
  have D2 := below_then D1 B2
  have a0 : w2.cell? ⟨w.heap.size, 0, none⟩ = some (.slice ta tn tc) := X0.cell 0 rfl
  have a1 : w2.cell? ⟨w.heap.size, 1, none⟩ = some (.int .i64 f) := X0.cell 1 rfl
  have a2 : w2.cell? ⟨w.heap.size, 2, none⟩ = some (.slice ka kn kc) := X0.cell 2 rfl
  have a3 : w2.cell? ⟨w.heap.size, 3, none⟩ = some (.slice va vn vc) := X0.cell 3 rfl
  have b0 : w2.cell? ⟨w0.heap.size, 0, none⟩ = some ((.slice ta' tn tc')) := X1.cell 0 rfl
  have b1 : w2.cell? ⟨w0.heap.size, 1, none⟩ = some (.int .i64 f) := X1.cell 1 rfl
  have b2 : w2.cell? ⟨w0.heap.size, 2, none⟩ = some ((.slice ka' kn kc')) := X1.cell 2 rfl
  have b3 : w2.cell? ⟨w0.heap.size, 3, none⟩ = some ((.slice va' vn vc')) := X1.cell 3 rfl
  go_wp2_with fail
  refine (cubeSame_eq va va' vn vc vc' X.V _ (V1.out _ D2) (V2.out _ D2)).mono ?_
  rintro e w3 ⟨rfl, m3, hm3⟩
  have B3 : Below w2.heap.size w2 w3 := by rw [hm3]; exact below_drewN (Below.refl _ _) m3
  clear hm3 a0 a1 a2 a3 b0 b1 b2 b3 D1
  replace X0 := X0.below B3
  replace X1 := X1.below B3
  have D3 := below_then D2 B3
  have a0 : w3.cell? ⟨w.heap.size, 0, none⟩ = some (.slice ta tn tc) := X0.cell 0 rfl
  have a1 : w3.cell? ⟨w.heap.size, 1, none⟩ = some (.int .i64 f) := X0.cell 1 rfl
  have a2 : w3.cell? ⟨w.heap.size, 2, none⟩ = some (.slice ka kn kc) := X0.cell 2 rfl
  have a3 : w3.cell? ⟨w.heap.size, 3, none⟩ = some (.slice va vn vc) := X0.cell 3 rfl
  have b0 : w3.cell? ⟨w0.heap.size, 0, none⟩ = some ((.slice ta' tn tc')) := X1.cell 0 rfl
  have b1 : w3.cell? ⟨w0.heap.size, 1, none⟩ = some (.int .i64 f) := X1.cell 1 rfl
  have b2 : w3.cell? ⟨w0.heap.size, 2, none⟩ = some ((.slice ka' kn kc')) := X1.cell 2 rfl
  have b3 : w3.cell? ⟨w0.heap.size, 3, none⟩ = some ((.slice va' vn vc')) := X1.cell 3 rfl
  go_wp2_with fail
  clear a0 a1 a2 a3 b0 b1 b2 b3
  go_loopg [39] tn (fun r i wr => ∃ j : Nat, j ≤ tn ∧ r = tn - j ∧ i = .int .i64 j ∧ Blk wr w.heap.size 44 #[.slice ta tn tc, .int .i64 f, .slice ka kn kc, .slice va vn vc] ∧ Blk wr w0.heap.size 44 #[.slice ta' tn tc', .int .i64 f, .slice ka' kn kc', .slice va' vn vc'] ∧ Below w.heap.size w wr)
  case atStart => exact ⟨0, by omega, by omega, rfl, X0, X1, D3⟩
  case round =>
    clear X0 X1 D3 B3 B2 D2
    obtain ⟨j, hj, rfl, rfl, X0, X1, DR⟩ := hrel
    by_cases hjt : j < tn
    · obtain ⟨d, p, rfl, hd⟩ := (T1.out _ DR).row.cells (by omega)
      obtain ⟨d', p', rfl, hd'⟩ := (T2.out _ DR).row.cells (by omega)
      have c1 := hd j hjt
      have c2 := hd' j hjt
      clear hd hd'
      have a0 : wr.cell? ⟨w.heap.size, 0, none⟩ = some (.slice (some ⟨d, p, none⟩) tn tc) := X0.cell 0 rfl
      have b0 : wr.cell? ⟨w0.heap.size, 0, none⟩ = some (.slice (some ⟨d', p', none⟩) tn tc') := X1.cell 0 rfl
      go_wp2_with fail
      go_quiet (fail)
      go_wp2
      go_roundg (tn - (j + 1))
      case measure => omega
      case rel => exact ⟨j + 1, by omega, rfl, by go_num, X0.below (below_drewN (Below.refl _ _) nq), X1.below (below_drewN (Below.refl _ _) nq), below_drewN DR nq⟩
    · obtain rfl : j = tn := by omega
      go_wp2
      go_ret
      exact ⟨rfl, DR⟩
end Go.Proofs.Ytpplnjmjldhlbaa

/- The document's shaped and Check of layer 11, of any block and any configuration. Laid by tools/genrcheck11.py. -/
namespace Go.Proofs.Ytpplnjmjldhlbaa
open Go.ChangeShapes Go.WideShapes Go.ChangeAt Go.RowKit
theorem all_take_snoc {α : Type} {A : List α} {k : Nat} {x : α} (h : A[k]? = some x) (p : α → Bool) : (A.take (k + 1)).all p = ((A.take k).all p && p x) := by
  rw [List.take_add_one, h, List.all_append]
  simp
set_option maxRecDepth 100000 in
set_option maxHeartbeats 1600000 in
theorem shaped_any (ao : Option Addr) (m ca : Nat) (C : List (List (List Int))) (places dim : Int) (w : World) (hC : CubeAt w ao m C) :
   Calls Try.prog 40 #[.slice ao m ca, .int .i64 places, .int .i64 dim] w fun e w' => e = .returned (.bool (rfB C places dim)) ∧ w' = w := by
  have hm := hC.max
  have HLN : Hid (C.length = m) := hC.len
  have HC : Hid (CubeAt w ao m C) := hC
  clear hC
  go_enter Try.func40, Try.ntmps40
  go_wp2
  go_loopg [7, 14] m (fun r g2 i wr => ∃ k : Nat, k ≤ m ∧ r = m - k ∧ i = .int .i64 (k : Int) ∧ wr = w ∧ g2 = .bool ((C.take k).all fun R => rfR R places dim))
  case atStart => exact ⟨0, by omega, by omega, rfl, rfl, by simp⟩
  case round =>
    obtain ⟨k, hk, rfl, rfl, hwr, rfl⟩ := hrel
    obtain rfl : w = wr := hwr.symm
    by_cases hlt : k < m
    rotate_left
    · obtain rfl : k = m := by omega
      have HE : Hid ((C.take k).all (fun R => rfR R places dim) = rfB C places dim) := by
        show _ = _
        rw [List.take_of_length_le (by rw [HLN.out]; exact Nat.le_refl _)]; rfl
      go_wp2
      go_ret
      exact ⟨by rw [HE.out]; rfl, rfl⟩
    obtain ⟨b, o, rfl, hc⟩ := HC.out.cells (by omega)
    obtain ⟨R, hR⟩ : ∃ R, C[k]? = some R := ⟨_, List.getElem?_eq_getElem (show k < C.length by rw [HLN.out]; exact hlt)⟩
    obtain ⟨ro, n, c1, s1, -, -, -, GR⟩ := hc k R hR
    have hn := GR.max
    have HGL : Hid (R.length = n) := GR.len
    have HG : Hid (GridAt w ro n R) := GR
    have HX : Hid ((C.take (k + 1)).all (fun R => rfR R places dim) = ((C.take k).all (fun R => rfR R places dim) && (decide ((n : Int) = places) && R.all (fun r : List Int => decide ((r.length : Int) = dim))))) := by
      show _ = _
      rw [all_take_snoc hR]
      unfold rfR
      rw [HGL.out]
    clear hc GR hR
    generalize (C.take k).all (fun R => rfR R places dim) = p at *
    obtain ⟨g, hg⟩ : ∃ g, ((n : Int) == places) = g := ⟨_, rfl⟩
    have HGG : Hid (decide ((n : Int) = places) = g) := by show _ = _; rw [← hg]; rfl
    cases p with
    | false =>
      have HG1 : Hid ((false && g) = false) := rfl
      go_wp2
      clear hg
      go_loopg [7, 27] n (fun r g2 i wq => ∃ j : Nat, j ≤ n ∧ r = n - j ∧ i = .int .i64 (j : Int) ∧ wq = w ∧ g2 = .bool (false && (R.take j).all (fun r : List Int => decide ((r.length : Int) = dim))))
      case atStart => exact ⟨0, by omega, by omega, rfl, rfl, by simp⟩
      case round =>
        obtain ⟨j, hj, rfl, rfl, hwr, rfl⟩ := hrel
        obtain rfl : w = wr := hwr.symm
        by_cases hlt2 : j < n
        rotate_left
        · obtain rfl : j = n := by omega
          rw [List.take_of_length_le (by rw [HGL.out]; exact Nat.le_refl _)]
          go_wp2
          go_roundg (m - (k + 1))
          case measure => omega
          case rel => exact ⟨k + 1, by omega, rfl, by go_num, rfl, by rw [HX.out, HGG.out, ← Bool.and_assoc, HG1.out]; first | done | rfl⟩
        obtain ⟨b2, o2, rfl, hc2⟩ := HG.out.cells (by omega)
        obtain ⟨r3, l3, c3, s3, A⟩ := hc2 j hlt2
        have HY : Hid ((R.take (j + 1)).all (fun r : List Int => decide ((r.length : Int) = dim)) = ((R.take j).all (fun r : List Int => decide ((r.length : Int) = dim)) && decide ((l3 : Int) = dim))) := by
          show _ = _
          have h8 := A.row.len
          rw [all_take_snoc (x := rowOf R j) (by unfold rowOf; rw [List.getD_eq_getElem?_getD, List.getElem?_eq_getElem (show j < R.length by rw [HGL.out]; exact hlt2)]; rfl), h8]
        have hm3 := A.row.max
        clear hc2 A
        generalize (R.take j).all (fun r : List Int => decide ((r.length : Int) = dim)) = z at *
        cases hz : (false && z) with
        | false =>
          have HZ : Hid ((false && z) = false) := hz
          clear hz
          go_wp2
          go_roundg (n - (j + 1))
          case measure => omega
          case rel => exact ⟨j + 1, by omega, rfl, by go_num, rfl, by rw [HY.out, ← Bool.and_assoc, HZ.out]; rfl⟩
        | true =>
          have HZ : Hid ((false && z) = true) := hz
          clear hz
          go_wp2
          go_roundg (n - (j + 1))
          case measure => omega
          case rel => exact ⟨j + 1, by omega, rfl, by go_num, rfl, by rw [HY.out, ← Bool.and_assoc, HZ.out]; rfl⟩
    | true =>
      have HG1 : Hid ((true && g) = g) := by show _ = _; simp
      go_wp2
      clear hg
      go_loopg [7, 27] n (fun r g2 i wq => ∃ j : Nat, j ≤ n ∧ r = n - j ∧ i = .int .i64 (j : Int) ∧ wq = w ∧ g2 = .bool (g && (R.take j).all (fun r : List Int => decide ((r.length : Int) = dim))))
      case atStart => exact ⟨0, by omega, by omega, rfl, rfl, by simp⟩
      case round =>
        obtain ⟨j, hj, rfl, rfl, hwr, rfl⟩ := hrel
        obtain rfl : w = wr := hwr.symm
        by_cases hlt2 : j < n
        rotate_left
        · obtain rfl : j = n := by omega
          rw [List.take_of_length_le (by rw [HGL.out]; exact Nat.le_refl _)]
          go_wp2
          go_roundg (m - (k + 1))
          case measure => omega
          case rel => exact ⟨k + 1, by omega, rfl, by go_num, rfl, by rw [HX.out, HGG.out, ← Bool.and_assoc, HG1.out]; first | done | rfl⟩
        obtain ⟨b2, o2, rfl, hc2⟩ := HG.out.cells (by omega)
        obtain ⟨r3, l3, c3, s3, A⟩ := hc2 j hlt2
        have HY : Hid ((R.take (j + 1)).all (fun r : List Int => decide ((r.length : Int) = dim)) = ((R.take j).all (fun r : List Int => decide ((r.length : Int) = dim)) && decide ((l3 : Int) = dim))) := by
          show _ = _
          have h8 := A.row.len
          rw [all_take_snoc (x := rowOf R j) (by unfold rowOf; rw [List.getD_eq_getElem?_getD, List.getElem?_eq_getElem (show j < R.length by rw [HGL.out]; exact hlt2)]; rfl), h8]
        have hm3 := A.row.max
        clear hc2 A
        generalize (R.take j).all (fun r : List Int => decide ((r.length : Int) = dim)) = z at *
        cases hz : (g && z) with
        | false =>
          have HZ : Hid ((g && z) = false) := hz
          clear hz
          go_wp2
          go_roundg (n - (j + 1))
          case measure => omega
          case rel => exact ⟨j + 1, by omega, rfl, by go_num, rfl, by rw [HY.out, ← Bool.and_assoc, HZ.out]; rfl⟩
        | true =>
          have HZ : Hid ((g && z) = true) := hz
          clear hz
          go_wp2
          go_roundg (n - (j + 1))
          case measure => omega
          case rel => exact ⟨j + 1, by omega, rfl, by go_num, rfl, by rw [HY.out, ← Bool.and_assoc, HZ.out]; rfl⟩
theorem ck_bad {Vo D L : Int} {X : Pg} (h : X.F < 0 ∨ (X.T.length : Int) ≤ X.F ∨ 128 < (X.T.length : Int) ∨ 16 < (X.T.length : Int) - X.F ∨ (X.K.length : Int) ≠ L ∨ (X.V.length : Int) ≠ L) : ckN Vo D L X = 4 := by
  unfold ckN
  rw [if_pos]
  by_cases h1 : plB X.T.length X.F = true
  · have := plB_true h1
    have h2 : (X.K.length : Int) ≠ L ∨ (X.V.length : Int) ≠ L := by omega
    exact Or.inr h2
  · exact Or.inl (by simpa using h1)
theorem ck_good {Vo D L : Int} {X : Pg} (h : ¬ (X.F < 0 ∨ (X.T.length : Int) ≤ X.F ∨ 128 < (X.T.length : Int) ∨ 16 < (X.T.length : Int) - X.F ∨ (X.K.length : Int) ≠ L ∨ (X.V.length : Int) ≠ L)) : ckN Vo D L X = if X.T.all (tokB Vo) = true then (if rfB X.K ((X.T.length : Int) - X.F) D = true ∧ rfB X.V ((X.T.length : Int) - X.F) D = true then 0 else 4) else 7 := by
  unfold ckN
  rw [if_neg]
  rintro (h1 | h1 | h1)
  · unfold plB at h1
    have : ¬ (0 ≤ X.F ∧ X.T.length ≤ 128 ∧ 1 ≤ (X.T.length : Int) - X.F ∧ (X.T.length : Int) - X.F ≤ 16) := fun hh => by
      simp [hh.1, hh.2.1, hh.2.2.1, hh.2.2.2] at h1
    omega
  · omega
  · omega
set_option maxRecDepth 100000 in
set_option maxHeartbeats 3200000 in
theorem rcheck11_any (Vo D Hd H L : Int) (p : PgV) (X : Pg) (w : World) (hp : PgAt w p X) (hF : -9223372036854775808 ≤ X.F ∧ X.F ≤ 9223372036854775807) :
   Calls Try.prog 19 #[.agg (cfgC Vo D Hd H L), .agg p.cells] w fun e w' => e = .returned (.int .i64 (ckN Vo D L X)) ∧ Below w.heap.size w w' := by
  have hTl := hp.t.row.len
  have hKl := hp.k.len
  have hVl := hp.v.len
  have htm := hp.t.row.max
  have hkm := hp.k.max
  have hvm := hp.v.max
  have HT : Hid (∀ wv, Below w.heap.size w wv → IArg wv p.t.ao p.t.n p.t.c X.T) := fun wv hb => hp.t.below hb
  have HK : Hid (∀ wv, Below w.heap.size w wv → CubeAt wv p.k.ao p.k.n X.K) := fun wv hb => hp.k.below hb
  have HV : Hid (∀ wv, Below w.heap.size w wv → CubeAt wv p.v.ao p.v.n X.V) := fun wv hb => hp.v.below hb
  have hpf : p.f = X.F := hp.f
  obtain ⟨⟨ta, tn, tz⟩, F, ⟨ka, kn, kz⟩, ⟨va, vn, vz⟩⟩ := p
  simp only at hTl hKl hVl htm hkm hvm hpf HT HK HV
  have HBAD : Hid (F < 0 ∨ (tn : Int) ≤ F ∨ 128 < (tn : Int) ∨ 16 < (tn : Int) - F ∨ (kn : Int) ≠ L ∨ (vn : Int) ≠ L → ckN Vo D L X = 4) := fun h => ck_bad (by rw [hTl, hKl, hVl, ← hpf]; exact h)
  have HGOOD : Hid (¬ (F < 0 ∨ (tn : Int) ≤ F ∨ 128 < (tn : Int) ∨ 16 < (tn : Int) - F ∨ (kn : Int) ≠ L ∨ (vn : Int) ≠ L) → ckN Vo D L X = if X.T.all (tokB Vo) = true then (if rfB X.K ((tn : Int) - F) D = true ∧ rfB X.V ((tn : Int) - F) D = true then 0 else 4) else 7) := fun h => by
    have := ck_good (Vo := Vo) (D := D) (L := L) (X := X) (by rw [hTl, hKl, hVl, ← hpf]; exact h)
    rw [hTl, ← hpf] at this
    exact this
  rw [← hpf] at hF
  have hTT : Hid (X.T.length = tn) := hTl
  show Calls Try.prog 19 #[.agg #[.int .i64 Vo, .int .i64 D, .int .i64 Hd, .int .i64 H, .int .i64 L], .agg #[.slice ta tn tz, .int .i64 F, .slice ka kn kz, .slice va vn vz]] w _
  generalize ckN Vo D L X = q at *
  clear hp hpf hTl hKl hVl
  have X0 := blk_new w 23 #[.int .i64 Vo, .int .i64 D, .int .i64 Hd, .int .i64 H, .int .i64 L]
  have B0 : Below w.heap.size w (w.alloc (.cells #[.int .i64 Vo, .int .i64 D, .int .i64 Hd, .int .i64 H, .int .i64 L] 23)) := (Below.refl _ _).alloc (Nat.le_refl _) _
  generalize hw0 : w.alloc (.cells #[.int .i64 Vo, .int .i64 D, .int .i64 Hd, .int .i64 H, .int .i64 L] 23) = w0 at *
  have X1 := blk_new w0 44 #[.slice ta tn tz, .int .i64 F, .slice ka kn kz, .slice va vn vz]
  have BB : Below w0.heap.size w0 (w0.alloc (.cells #[.slice ta tn tz, .int .i64 F, .slice ka kn kz, .slice va vn vz] 44)) := (Below.refl _ _).alloc (Nat.le_refl _) _
  generalize hw1 : w0.alloc (.cells #[.slice ta tn tz, .int .i64 F, .slice ka kn kz, .slice va vn vz] 44) = w1 at *
  replace X0 := X0.below BB
  have B1 := below_then B0 BB
  clear B0 BB
  have a0 : w1.cell? ⟨w.heap.size, 0, none⟩ = some (.int .i64 Vo) := X0.cell 0 rfl
  have a1 : w1.cell? ⟨w.heap.size, 1, none⟩ = some (.int .i64 D) := X0.cell 1 rfl
  have a4 : w1.cell? ⟨w.heap.size, 4, none⟩ = some (.int .i64 L) := X0.cell 4 rfl
  have c0 : w1.cell? ⟨w0.heap.size, 0, none⟩ = some (.slice ta tn tz) := X1.cell 0 rfl
  have c1 : w1.cell? ⟨w0.heap.size, 1, none⟩ = some (.int .i64 F) := X1.cell 1 rfl
  have c2 : w1.cell? ⟨w0.heap.size, 2, none⟩ = some (.slice ka kn kz) := X1.cell 2 rfl
  have c3 : w1.cell? ⟨w0.heap.size, 3, none⟩ = some (.slice va vn vz) := X1.cell 3 rfl
  go_enter Try.func19, Try.ntmps19
  by_cases h1 : F < 0
  · have E : Hid (q = 4) := HBAD.out (Or.inl h1)
    clear hTT
    go_wp2
    go_ret
    exact ⟨by rw [E.out]; rfl, B1⟩
  by_cases h2 : (tn : Int) ≤ F
  · have E : Hid (q = 4) := HBAD.out (Or.inr (Or.inl h2))
    clear hTT
    go_wp2
    go_ret
    exact ⟨by rw [E.out]; rfl, B1⟩
  by_cases h3 : 128 < (tn : Int)
  · have E : Hid (q = 4) := HBAD.out (Or.inr (Or.inr (Or.inl h3)))
    clear hTT
    go_wp2
    go_ret
    exact ⟨by rw [E.out]; rfl, B1⟩
  by_cases h4 : 16 < (tn : Int) - F
  · have E : Hid (q = 4) := HBAD.out (Or.inr (Or.inr (Or.inr (Or.inl h4))))
    clear hTT
    go_wp2
    go_ret
    exact ⟨by rw [E.out]; rfl, B1⟩
  by_cases h5 : (kn : Int) = L
  rotate_left
  · have E : Hid (q = 4) := HBAD.out (Or.inr (Or.inr (Or.inr (Or.inr (Or.inl h5)))))
    clear hTT
    go_wp2
    go_ret
    exact ⟨by rw [E.out]; rfl, B1⟩
  by_cases h6 : (vn : Int) = L
  rotate_left
  · have E : Hid (q = 4) := HBAD.out (Or.inr (Or.inr (Or.inr (Or.inr (Or.inr h6)))))
    clear hTT
    go_wp2
    go_ret
    exact ⟨by rw [E.out]; rfl, B1⟩
  have HQ : Hid (q = if X.T.all (tokB Vo) = true then (if rfB X.K ((tn : Int) - F) D = true ∧ rfB X.V ((tn : Int) - F) D = true then 0 else 4) else 7) := HGOOD.out (by omega)
  have k5 : ((kn : Int) == L) = true := by simpa using h5
  have k6 : ((vn : Int) == L) = true := by simpa using h6
  have k5' : ((kn : Int) != L) = false := by simp [bne, k5]
  have k6' : ((vn : Int) != L) = false := by simp [bne, k6]
  have d5 : decide ((kn : Int) = L) = true := decide_eq_true h5
  have d6 : decide ((vn : Int) = L) = true := decide_eq_true h6
  clear h5 h6 HBAD HGOOD
  go_wp2
  clear hw0 hw1
  go_loopg [53] tn (fun r i wr => ∃ k : Nat, k ≤ tn ∧ r = tn - k ∧ i = .int .i64 k ∧ wr = w1 ∧ (X.T.take k).all (tokB Vo) = true)
  case atStart => exact ⟨0, by omega, by omega, rfl, rfl, by simp⟩
  case round =>
    obtain ⟨k, hk, rfl, rfl, hwr, HA⟩ := hrel
    obtain rfl : w1 = wr := hwr.symm
    by_cases hlt : k < tn
    · obtain ⟨b, o, rfl, hc⟩ := (HT.out w1 B1).row.cells (by omega)
      have ck := hc k hlt
      have HX : Hid ((X.T.take (k + 1)).all (tokB Vo) = ((X.T.take k).all (tokB Vo) && tokB Vo (el X.T k))) := by
        show _ = _
        rw [all_take_snoc (x := el X.T k)]
        unfold el
        rw [List.getD_eq_getElem?_getD, List.getElem?_eq_getElem (show k < X.T.length by rw [hTT.out]; exact hlt)]
        rfl
      have HM : Hid (tokB Vo (el X.T k) = false → X.T.all (tokB Vo) = false) := fun hf => by
        cases e : X.T.all (tokB Vo) with
        | false => rfl
        | true =>
          rw [List.all_eq_true] at e
          have h9 : k < X.T.length := by rw [hTT.out]; exact hlt
          have := e _ (List.getElem_mem h9)
          unfold el at hf
          rw [List.getD_eq_getElem?_getD, List.getElem?_eq_getElem h9, Option.getD_some, this] at hf
          exact hf
      generalize el X.T k = x at *
      clear hc
      have HF : Hid (tokB Vo x = false → q = 7) := fun hf => by
        rw [HQ.out, HM.out hf]; rfl
      by_cases hx0 : x < 0
      · have E : Hid (q = 7) := HF.out (by unfold tokB; simp; omega)
        go_wp2
        go_ret
        exact ⟨by rw [E.out]; rfl, B1⟩
      · by_cases hx1 : Vo ≤ x
        · have E : Hid (q = 7) := HF.out (by unfold tokB; simp; omega)
          go_wp2
          go_ret
          exact ⟨by rw [E.out]; rfl, B1⟩
        · have HT2 : Hid (tokB Vo x = true) := by show _ = _; unfold tokB; simp; omega
          go_wp2
          go_roundg (tn - (k + 1))
          case measure => omega
          case rel => exact ⟨k + 1, by omega, rfl, by go_num, rfl, by rw [HX.out, HA, HT2.out]; rfl⟩
    · obtain rfl : k = tn := by omega
      have HA2 : Hid (X.T.all (tokB Vo) = true) := by rw [List.take_of_length_le (by rw [hTT.out]; exact Nat.le_refl _)] at HA; exact HA
      have SK := shaped_any ka kn kz X.K ((k : Int) - F) D w1 (HK.out _ B1)
      have SV := shaped_any va vn vz X.V ((k : Int) - F) D w1 (HV.out _ B1)
      have HQ2 : Hid (q = if rfB X.K ((k : Int) - F) D = true ∧ rfB X.V ((k : Int) - F) D = true then 0 else 4) := by show _ = _; rw [HQ.out, if_pos HA2.out]
      generalize rfB X.K ((k : Int) - F) D = bK at *
      generalize rfB X.V ((k : Int) - F) D = bV at *
      clear HA
      cases bK with
      | false =>
        have E : Hid (q = 4) := by show _ = _; rw [HQ2.out]; simp
        go_wp2_with fail
        refine SK.mono ?_
        rintro e w2 ⟨rfl, h⟩
        obtain rfl := h.symm
        clear SK SV
        go_wp2_with fail
        go_ret
        exact ⟨by rw [E.out]; rfl, B1⟩
      | true =>
        go_wp2_with fail
        refine SK.mono ?_
        rintro e w2 ⟨rfl, h⟩
        obtain rfl := h.symm
        clear SK
        go_wp2_with fail
        refine SV.mono ?_
        rintro e w3 ⟨rfl, h⟩
        obtain rfl := h.symm
        clear SV
        cases bV with
        | false =>
          have E : Hid (q = 4) := by show _ = _; rw [HQ2.out]; simp
          go_wp2_with fail
          go_ret
          exact ⟨by rw [E.out]; rfl, B1⟩
        | true =>
          have E : Hid (q = 0) := by show _ = _; rw [HQ2.out]; simp
          go_wp2_with fail
          go_ret
          exact ⟨by rw [E.out]; rfl, B1⟩
end Go.Proofs.Ytpplnjmjldhlbaa
