/- Contracts of the program's functions, part 17 of 19: what each call returns and leaves of memory. -/
import Derived.Test.YtmdjlaileakbeaaGreatDoorPk13
import Derived.Test.YtmdjlaileakbeaaGreatDoorPk16
import Derived.Test.YtmdjlaileakbeaaGreatDoorPk15
/- Told, Of and Copy of layer 9 over any view. -/
namespace Go.Proofs.YtmdjlaileakbeaaGreatDoor
open Go.ChangeShapes Go.WideShapes Go.ChangeAt Go.RowKit
/-- A view that came in. -/
structure VwR (w : World) (v : VwV) (X : Vw) : Prop where
  t : IArg w v.t.ao v.t.n v.t.c X.T
  k : CubeR w v.k.ao v.k.n X.K
  v : CubeR w v.v.ao v.v.n X.V
theorem VwR.below {w w' : World} {v : VwV} {X : Vw} (h : VwR w v X) (hb : Below w.heap.size w w') : VwR w' v X := ⟨h.t.below hb, h.k.below hb, h.v.below hb⟩
theorem VwAt.raw {w : World} {v : VwV} {X : Vw} (h : VwAt w v X) : VwR w v X := ⟨h.t, h.k.raw, h.v.raw⟩
def cutVw (X : Vw) : Vw := ⟨X.T.take 130, cutC X.K 130, cutC X.V 130⟩
theorem rowsN_twice (R : List (List Int)) (n : Nat) : rowsN (rowsN R n) n = rowsN R n := by
  unfold rowsN
  rw [← List.map_take, List.take_take, Nat.min_self, List.map_map]
  congr 1
  funext l
  show List.take 40 (List.take 40 l) = List.take 40 l
  rw [List.take_take, Nat.min_self]
theorem cutC_twice (C : List (List (List Int))) (n : Nat) : cutC (cutC C n) n = cutC C n := by
  unfold cutC
  rw [← List.map_take, List.take_take, Nat.min_self, List.map_map]
  congr 1
  funext R
  exact rowsN_twice R n
theorem cutVw_twice (X : Vw) : cutVw (cutVw X) = cutVw X := by
  unfold cutVw
  simp only [cutC_twice, List.take_take, Nat.min_self]
theorem cutC_mem {C : List (List (List Int))} {n : Nat} {R : List (List Int)} (h : R ∈ cutC C n) : R.length ≤ n ∧ (∀ t, (rowOf R t).length ≤ 40) ∧ rowsN R n = R := by
  obtain ⟨S, _, rfl⟩ := List.mem_map.1 h
  exact ⟨by unfold rowsN; rw [List.length_map, List.length_take]; omega, fun t => rowsN_len S n t, rowsN_twice S n⟩
theorem cutC_at_most (C : List (List (List Int))) (n : Nat) : (cutC C n).length ≤ 5 := by rw [cutC_len]; omega
theorem IOwn.newArg {w : World} {B : Nat} {ao : Option Addr} {n c : Nat} {A : List Int} (h : IOwn w B (.slice ao n c) n A) (hs : ∀ k, -9223372036854775808 ≤ el A k ∧ el A k ≤ 9223372036854775807) : New B w (fun w => IArg w ao n c A) := fun w2 h2 => by
  obtain ⟨x1, y1, e1, IT⟩ := IOwn.arg (A := A) (owns_mono h (Nat.le_refl _) (fun b hb => h2 b (h.lt b hb).1 (h.lt b hb).2)) hs
  simp only [Value.slice.injEq, true_and] at e1
  obtain ⟨rfl, rfl⟩ := e1
  exact IT
set_option maxRecDepth 100000 in
set_option maxHeartbeats 800000 in
theorem told9N_any (vv : VwV) (X : Vw) (w : World) (hv : VwR w vv X) :
   Calls Tryz.prog 5 #[.agg vv.cells] w fun e w' => ∃ t k v : Sl, e = .returned (.agg #[t.v, k.v, v.v]) ∧ New w.heap.size w' (fun w => ToldAt w t k v (cutVw X)) ∧ Below w.heap.size w w' := by
  have hsm := hv.t.row.small
  have HT : Hid (∀ wv, Below w.heap.size w wv → IArg wv vv.t.ao vv.t.n vv.t.c X.T) := fun wv hb => hv.t.below hb
  have HK : Hid (∀ wv, Below w.heap.size w wv → CubeR wv vv.k.ao vv.k.n X.K) := fun wv hb => hv.k.below hb
  have HV : Hid (∀ wv, Below w.heap.size w wv → CubeR wv vv.v.ao vv.v.n X.V) := fun wv hb => hv.v.below hb
  clear hv
  obtain ⟨⟨ta, tn, tc⟩, ⟨ka, kn, kc⟩, ⟨va, vn, vc⟩⟩ := vv
  unfold VwV.cells Sl.v
  simp only at *
  obtain ⟨TT, hTT⟩ : ∃ TT, TT = X.T.take 130 := ⟨_, rfl⟩
  obtain ⟨KK, hKK⟩ : ∃ KK, KK = cutC X.K 130 := ⟨_, rfl⟩
  obtain ⟨VV, hVV⟩ : ∃ VV, VV = cutC X.V 130 := ⟨_, rfl⟩
  obtain ⟨kn5, hkn5⟩ : ∃ m, m = min 5 kn := ⟨_, rfl⟩
  obtain ⟨vn5, hvn5⟩ : ∃ m, m = min 5 vn := ⟨_, rfl⟩
  have hsm2 : Hid (∀ k, -9223372036854775808 ≤ el TT k ∧ el TT k ≤ 9223372036854775807) := by
    intro k
    subst hTT
    rcases Nat.lt_or_ge k 130 with h | h
    · rw [el_take h]; exact hsm k
    · rw [el_over (by rw [List.length_take]; omega)]; omega
  have HTT : Hid (TT = X.T.take 130) := hTT
  have HKK : Hid (KK = cutC X.K 130) := hKK
  have HVV : Hid (VV = cutC X.V 130) := hVV
  have HKN : Hid (kn5 = min 5 kn) := hkn5
  have HVN : Hid (vn5 = min 5 vn) := hvn5
  clear hTT hKK hVV hkn5 hvn5 hsm
  have X0 := blk_new w 35 #[.slice ta tn tc, .slice ka kn kc, .slice va vn vc]
  have B0 : Below w.heap.size w (w.alloc (.cells #[.slice ta tn tc, .slice ka kn kc, .slice va vn vc] 35)) := (Below.refl _ _).alloc (Nat.le_refl _) _
  generalize hw0 : w.alloc (.cells #[.slice ta tn tc, .slice ka kn kc, .slice va vn vc] 35) = w0 at *
  have lt0 := X0.lt
  have X1 := blk_new w0 41 #[.slice none 0 0, .slice none 0 0, .slice none 0 0]
  have B1 : Below w0.heap.size w0 (w0.alloc (.cells #[.slice none 0 0, .slice none 0 0, .slice none 0 0] 41)) := (Below.refl _ _).alloc (Nat.le_refl _) _
  generalize hw1 : w0.alloc (.cells #[.slice none 0 0, .slice none 0 0, .slice none 0 0] 41) = w1 at *
  replace X0 := X0.below B1
  have D := below_then B0 B1
  clear B0 B1
  have lt1 := X1.lt
  go_enter Tryz.func5, Tryz.ntmps5
  go_wp2_with fail
  clear hw0 hw1
  replace X0 := X0.below ((Below.refl _ _).drew)
  replace X1 := X1.below ((Below.refl _ _).drew)
  replace D := D.drew
  replace lt1 : w0.heap.size < w1.drew.heap.size := lt1
  refine wp_region_held_drew (S := fun w' => Blk w' w.heap.size 35 #[.slice ta tn tc, .slice ka kn kc, .slice va vn vc]) (by kernel_rfl) (X0) (fun hHeld => ?_)
  generalize hA : w1.drew = wA at *
  clear hA
  refine wpAnyH_take (i := 0) (v := (.pointer (some ⟨w.heap.size, 0, none⟩))) rfl (by kernel_rfl) (by kernel_rfl) (by kernel_rfl) (fun _ _ _ h => h) (Or.inl ⟨by rfl, ?_⟩) (by assumption) ?_
  · intro w' hSw
    go_simp
  simp only [List.getElem_toArray, List.getElem_cons_zero, Act.put, List.setIfInBounds_toArray, List.set_cons_zero, List.set_cons_succ]
  refine wpAnyH_take (i := 1) (v := (.slice ta tn tc)) rfl (by kernel_rfl) (by kernel_rfl) (by kernel_rfl) (fun _ _ _ h => h) (Or.inl ⟨by rfl, ?_⟩) (by assumption) ?_
  · intro w' hSw
    have cc0 : w'.cell? ⟨w.heap.size, 0, none⟩ = some (.slice ta tn tc) := hSw.cell 0 rfl
    go_simp
  simp only [List.getElem_toArray, List.getElem_cons_succ, List.getElem_cons_zero, Act.put, List.setIfInBounds_toArray, List.set_cons_zero, List.set_cons_succ]
  refine wpAnyH_take (i := 3) (v := (.pointer (some ⟨w.heap.size, 1, none⟩))) rfl (by kernel_rfl) (by kernel_rfl) (by kernel_rfl) (fun _ _ _ h => h) (Or.inl ⟨by rfl, ?_⟩) (by assumption) ?_
  · intro w' hSw
    go_simp
  simp only [List.getElem_toArray, List.getElem_cons_succ, List.getElem_cons_zero, Act.put, List.setIfInBounds_toArray, List.set_cons_zero, List.set_cons_succ]
  refine wpAnyH_take (i := 4) (v := (.pointer (some ⟨w.heap.size, 1, none⟩))) rfl (by kernel_rfl) (by kernel_rfl) (by kernel_rfl) (fun _ _ _ h => h) (Or.inl ⟨by rfl, ?_⟩) (by assumption) ?_
  · intro w' hSw
    go_simp
  simp only [List.getElem_toArray, List.getElem_cons_succ, List.getElem_cons_zero, Act.put, List.setIfInBounds_toArray, List.set_cons_zero, List.set_cons_succ]
  refine wpAnyH_take (i := 5) (v := (.slice ka kn kc)) rfl (by kernel_rfl) (by kernel_rfl) (by kernel_rfl) (fun _ _ _ h => h) (Or.inl ⟨by rfl, ?_⟩) (by assumption) ?_
  · intro w' hSw
    have cc1 : w'.cell? ⟨w.heap.size, 1, none⟩ = some (.slice ka kn kc) := hSw.cell 1 rfl
    go_simp
  simp only [List.getElem_toArray, List.getElem_cons_succ, List.getElem_cons_zero, Act.put, List.setIfInBounds_toArray, List.set_cons_zero, List.set_cons_succ]
  refine wpAnyH_take (i := 7) (v := (.pointer (some ⟨w.heap.size, 1, none⟩))) rfl (by kernel_rfl) (by kernel_rfl) (by kernel_rfl) (fun _ _ _ h => h) (Or.inl ⟨by rfl, ?_⟩) (by assumption) ?_
  · intro w' hSw
    go_simp
  simp only [List.getElem_toArray, List.getElem_cons_succ, List.getElem_cons_zero, Act.put, List.setIfInBounds_toArray, List.set_cons_zero, List.set_cons_succ]
  refine wpAnyH_take (i := 8) (v := (.pointer (some ⟨w.heap.size, 2, none⟩))) rfl (by kernel_rfl) (by kernel_rfl) (by kernel_rfl) (fun _ _ _ h => h) (Or.inl ⟨by rfl, ?_⟩) (by assumption) ?_
  · intro w' hSw
    go_simp
  simp only [List.getElem_toArray, List.getElem_cons_succ, List.getElem_cons_zero, Act.put, List.setIfInBounds_toArray, List.set_cons_zero, List.set_cons_succ]
  refine wpAnyH_take (i := 9) (v := (.slice va vn vc)) rfl (by kernel_rfl) (by kernel_rfl) (by kernel_rfl) (fun _ _ _ h => h) (Or.inl ⟨by rfl, ?_⟩) (by assumption) ?_
  · intro w' hSw
    have cc2 : w'.cell? ⟨w.heap.size, 2, none⟩ = some (.slice va vn vc) := hSw.cell 2 rfl
    go_simp
  simp only [List.getElem_toArray, List.getElem_cons_succ, List.getElem_cons_zero, Act.put, List.setIfInBounds_toArray, List.set_cons_zero, List.set_cons_succ]
  refine wpAnyH_ready (rs := [2]) (by kernel_rfl) (by simp) ?_
  refine AllReadyH.cons rfl (fun Kc hKc => ?_) AllReadyH.nil
  simp only [List.getElem_toArray, List.getElem_cons_succ, List.getElem_cons_zero]
  rw [if_pos (by rfl)]
  go_wp2_with fail
  refine (few8_gen ta tn tc X.T TT 130 _ (HT.out _ D) (by omega) HTT.out).mono ?_
  rintro e w2 ⟨tb, tc2, rfl, OT, B2⟩
  have zA2 := B2.size
  replace X0 := X0.below B2
  replace X1 := X1.below B2
  replace D := below_then D B2
  go_wp2_with fail
  refine hKc.out _ _ (X0) (fun hHeld => ?_)
  clear hKc Kc
  refine wpAnyH_ready (rs := [6]) (by kernel_rfl) (by simp) ?_
  refine AllReadyH.cons rfl (fun Kc hKc => ?_) AllReadyH.nil
  simp only [List.getElem_toArray, List.getElem_cons_succ, List.getElem_cons_zero]
  rw [if_pos (by rfl)]
  go_wp2_with fail
  refine (listsR_any ka kn kc X.K kn5 KK _ (HK.out _ D) HKN.out HKK.out).mono ?_
  rintro e w3 ⟨kg, kc2, rfl, NK, B3⟩
  replace OT := owns_below OT B3
  have z3 := B3.size
  replace X0 := X0.below B3
  replace X1 := X1.below B3
  replace D := below_then D B3
  go_wp2_with fail
  refine hKc.out _ _ (X0) (fun hHeld => ?_)
  clear hKc Kc
  refine wpAnyH_ready (rs := [10]) (by kernel_rfl) (by simp) ?_
  refine AllReadyH.cons rfl (fun Kc hKc => ?_) AllReadyH.nil
  simp only [List.getElem_toArray, List.getElem_cons_succ, List.getElem_cons_zero]
  rw [if_pos (by rfl)]
  go_wp2_with fail
  refine (listsR_any va vn vc X.V vn5 VV _ (HV.out _ D) HVN.out HVV.out).mono ?_
  rintro e w4 ⟨vg, vc2, rfl, NV, B4⟩
  replace OT := owns_below OT B4
  replace NK := NK.below B4
  replace X0 := X0.below B4
  replace X1 := X1.below B4
  replace D := below_then D B4
  go_wp2_with fail
  refine hKc.out _ _ (X0) (fun hHeld => ?_)
  clear hKc Kc
  refine wpAnyH_take (i := 11) (v := (.agg #[.slice (some ⟨tb, 0, none⟩) TT.length tc2, .slice (some ⟨kg, 0, none⟩) kn5 kc2, .slice (some ⟨vg, 0, none⟩) vn5 vc2])) rfl (by kernel_rfl) (by kernel_rfl) (by kernel_rfl) (fun _ _ _ h => h) (Or.inl ⟨by rfl, ?_⟩) (by assumption) ?_
  · intro w' hSw
    go_simp
  simp only [List.getElem_toArray, List.getElem_cons_succ, List.getElem_cons_zero, Act.put, List.setIfInBounds_toArray, List.set_cons_zero, List.set_cons_succ]
  refine wpAnyH_ready (rs := [12]) (by kernel_rfl) (by simp) ?_
  refine AllReadyH.cons rfl (fun Kc hKc => ?_) AllReadyH.nil
  simp only [List.getElem_toArray, List.getElem_cons_succ, List.getElem_cons_zero]
  rw [if_pos (by rfl)]
  have hall : Array.all (#[.slice (some ⟨tb, 0, none⟩) TT.length tc2, .slice (some ⟨kg, 0, none⟩) kn5 kc2, .slice (some ⟨vg, 0, none⟩) vn5 vc2] : Array Value) (fun v => v.oneCell') = true := by simp [Value.oneCell']
  refine wp_store_row 41 _ _ rfl w0.heap.size #[.slice (some ⟨tb, 0, none⟩) TT.length tc2, .slice (some ⟨kg, 0, none⟩) kn5 kc2, .slice (some ⟨vg, 0, none⟩) vn5 vc2] rfl rfl 41 _ X1 Tryz.infoRV rfl hall ?_
  refine hKc.out _ _ (Blk.of_block X0 (setRow_other _ _ _ _ (by omega))) (fun hHeld => ?_)
  clear hKc Kc
  refine wpAnyH_done (by kernel_rfl) ?_ _
  clear hHeld
  go_wp2
  refine bodyPost_ret (results_cell_row rfl _ _ w0.heap.size 41 _ _ _ rfl (X1.row _) Tryz.underlying41 rfl Tryz.infoRV) rfl ?_
  have so : ∀ (b : Nat) (x : Array Value), b ≠ w0.heap.size → (w4.setRow w0.heap.size x).heap[b]? = w4.heap[b]? := fun b x hb => setRow_other _ _ _ _ hb
  have IT := IOwn.newArg (owns_mono OT (Nat.le_refl _) (fun b hb => so b #[.slice (some ⟨tb, 0, none⟩) TT.length tc2, .slice (some ⟨kg, 0, none⟩) kn5 kc2, .slice (some ⟨vg, 0, none⟩) vn5 vc2] (by have := (OT.lt b hb).1; omega))) hsm2.out
  have q1 := (Hangs.row NK (g := w0.heap.size) (by show ¬ (_ ≤ _); omega) #[.slice (some ⟨tb, 0, none⟩) TT.length tc2, .slice (some ⟨kg, 0, none⟩) kn5 kc2, .slice (some ⟨vg, 0, none⟩) vn5 vc2])
  have q2 := (Hangs.row NV (g := w0.heap.size) (by show ¬ (_ ≤ _); omega) #[.slice (some ⟨tb, 0, none⟩) TT.length tc2, .slice (some ⟨kg, 0, none⟩) kn5 kc2, .slice (some ⟨vg, 0, none⟩) vn5 vc2])
  have E1 := HTT.out
  have E2 := HKK.out
  have E3 := HVV.out
  subst E1 E2 E3
  exact ⟨⟨some ⟨tb, 0, none⟩, _, tc2⟩, ⟨some ⟨kg, 0, none⟩, kn5, kc2⟩, ⟨some ⟨vg, 0, none⟩, vn5, vc2⟩, rfl, fun w2 h2 => ⟨(New.mono (B' := w.heap.size) IT (by omega)) w2 h2, (New.mono (B' := w.heap.size) q1 (by omega)) w2 h2, (New.mono (B' := w.heap.size) q2 (by omega)) w2 h2⟩, below_setRow D (by omega) _⟩
theorem told9R_any (vv : VwV) (X : Vw) (w : World) (hv : VwR w vv X) :
   Calls Tryz.prog 5 #[.agg vv.cells] w fun e w' => ∃ t k v : Sl, e = .returned (.agg #[t.v, k.v, v.v]) ∧ ToldAt w' t k v (cutVw X) ∧ Below w.heap.size w w' := by
  refine (told9N_any vv X w hv).mono ?_
  rintro e w' ⟨t, k, v, rfl, N, B⟩
  exact ⟨t, k, v, rfl, N.now, B⟩
set_option maxRecDepth 100000 in
set_option maxHeartbeats 800000 in
theorem of9_gen (vv : VwV) (X : Vw) (w : World) (hv : VwR w vv X) :
   Calls Tryz.prog 8 #[.agg vv.cells] w fun e w' => ∃ v2 : VwV, e = .returned (.agg v2.cells) ∧ VwAt w' v2 (cutVw X) ∧ Below w.heap.size w w' := by
  have hsm := hv.t.row.small
  have HT : Hid (∀ wv, Below w.heap.size w wv → IArg wv vv.t.ao vv.t.n vv.t.c X.T) := fun wv hb => hv.t.below hb
  have HK : Hid (∀ wv, Below w.heap.size w wv → CubeR wv vv.k.ao vv.k.n X.K) := fun wv hb => hv.k.below hb
  have HV : Hid (∀ wv, Below w.heap.size w wv → CubeR wv vv.v.ao vv.v.n X.V) := fun wv hb => hv.v.below hb
  clear hv
  obtain ⟨⟨ta, tn, tc⟩, ⟨ka, kn, kc⟩, ⟨va, vn, vc⟩⟩ := vv
  unfold VwV.cells Sl.v
  simp only at *
  obtain ⟨TT, hTT⟩ : ∃ TT, TT = X.T.take 130 := ⟨_, rfl⟩
  obtain ⟨KK, hKK⟩ : ∃ KK, KK = cutC X.K 130 := ⟨_, rfl⟩
  obtain ⟨VV, hVV⟩ : ∃ VV, VV = cutC X.V 130 := ⟨_, rfl⟩
  obtain ⟨kn5, hkn5⟩ : ∃ m, m = min 5 kn := ⟨_, rfl⟩
  obtain ⟨vn5, hvn5⟩ : ∃ m, m = min 5 vn := ⟨_, rfl⟩
  have hsm2 : Hid (∀ k, -9223372036854775808 ≤ el TT k ∧ el TT k ≤ 9223372036854775807) := by
    intro k
    subst hTT
    rcases Nat.lt_or_ge k 130 with h | h
    · rw [el_take h]; exact hsm k
    · rw [el_over (by rw [List.length_take]; omega)]; omega
  have HTT : Hid (TT = X.T.take 130) := hTT
  have HKK : Hid (KK = cutC X.K 130) := hKK
  have HVV : Hid (VV = cutC X.V 130) := hVV
  have HKN : Hid (kn5 = min 5 kn) := hkn5
  have HVN : Hid (vn5 = min 5 vn) := hvn5
  clear hTT hKK hVV hkn5 hvn5 hsm
  have X0 := blk_new w 41 #[.slice ta tn tc, .slice ka kn kc, .slice va vn vc]
  have B0 : Below w.heap.size w (w.alloc (.cells #[.slice ta tn tc, .slice ka kn kc, .slice va vn vc] 41)) := (Below.refl _ _).alloc (Nat.le_refl _) _
  generalize hw0 : w.alloc (.cells #[.slice ta tn tc, .slice ka kn kc, .slice va vn vc] 41) = w0 at *
  have lt0 := X0.lt
  have X1 := blk_new w0 35 #[.slice none 0 0, .slice none 0 0, .slice none 0 0]
  have B1 : Below w0.heap.size w0 (w0.alloc (.cells #[.slice none 0 0, .slice none 0 0, .slice none 0 0] 35)) := (Below.refl _ _).alloc (Nat.le_refl _) _
  generalize hw1 : w0.alloc (.cells #[.slice none 0 0, .slice none 0 0, .slice none 0 0] 35) = w1 at *
  replace X0 := X0.below B1
  have D := below_then B0 B1
  clear B0 B1
  have lt1 := X1.lt
  go_enter Tryz.func8, Tryz.ntmps8
  go_wp2_with fail
  clear hw0 hw1
  replace X0 := X0.below ((Below.refl _ _).drew)
  replace X1 := X1.below ((Below.refl _ _).drew)
  replace D := D.drew
  replace lt1 : w0.heap.size < w1.drew.heap.size := lt1
  refine wp_region_held_drew (S := fun w' => Blk w' w.heap.size 41 #[.slice ta tn tc, .slice ka kn kc, .slice va vn vc]) (by kernel_rfl) (X0) (fun hHeld => ?_)
  generalize hA : w1.drew = wA at *
  clear hA
  refine wpAnyH_take (i := 0) (v := (.pointer (some ⟨w.heap.size, 0, none⟩))) rfl (by kernel_rfl) (by kernel_rfl) (by kernel_rfl) (fun _ _ _ h => h) (Or.inl ⟨by rfl, ?_⟩) (by assumption) ?_
  · intro w' hSw
    go_simp
  simp only [List.getElem_toArray, List.getElem_cons_zero, Act.put, List.setIfInBounds_toArray, List.set_cons_zero, List.set_cons_succ]
  refine wpAnyH_take (i := 1) (v := (.slice ta tn tc)) rfl (by kernel_rfl) (by kernel_rfl) (by kernel_rfl) (fun _ _ _ h => h) (Or.inl ⟨by rfl, ?_⟩) (by assumption) ?_
  · intro w' hSw
    have cc0 : w'.cell? ⟨w.heap.size, 0, none⟩ = some (.slice ta tn tc) := hSw.cell 0 rfl
    go_simp
  simp only [List.getElem_toArray, List.getElem_cons_succ, List.getElem_cons_zero, Act.put, List.setIfInBounds_toArray, List.set_cons_zero, List.set_cons_succ]
  refine wpAnyH_take (i := 3) (v := (.pointer (some ⟨w.heap.size, 1, none⟩))) rfl (by kernel_rfl) (by kernel_rfl) (by kernel_rfl) (fun _ _ _ h => h) (Or.inl ⟨by rfl, ?_⟩) (by assumption) ?_
  · intro w' hSw
    go_simp
  simp only [List.getElem_toArray, List.getElem_cons_succ, List.getElem_cons_zero, Act.put, List.setIfInBounds_toArray, List.set_cons_zero, List.set_cons_succ]
  refine wpAnyH_take (i := 4) (v := (.slice ka kn kc)) rfl (by kernel_rfl) (by kernel_rfl) (by kernel_rfl) (fun _ _ _ h => h) (Or.inl ⟨by rfl, ?_⟩) (by assumption) ?_
  · intro w' hSw
    have cc1 : w'.cell? ⟨w.heap.size, 1, none⟩ = some (.slice ka kn kc) := hSw.cell 1 rfl
    go_simp
  simp only [List.getElem_toArray, List.getElem_cons_succ, List.getElem_cons_zero, Act.put, List.setIfInBounds_toArray, List.set_cons_zero, List.set_cons_succ]
  refine wpAnyH_take (i := 6) (v := (.pointer (some ⟨w.heap.size, 2, none⟩))) rfl (by kernel_rfl) (by kernel_rfl) (by kernel_rfl) (fun _ _ _ h => h) (Or.inl ⟨by rfl, ?_⟩) (by assumption) ?_
  · intro w' hSw
    go_simp
  simp only [List.getElem_toArray, List.getElem_cons_succ, List.getElem_cons_zero, Act.put, List.setIfInBounds_toArray, List.set_cons_zero, List.set_cons_succ]
  refine wpAnyH_take (i := 7) (v := (.slice va vn vc)) rfl (by kernel_rfl) (by kernel_rfl) (by kernel_rfl) (fun _ _ _ h => h) (Or.inl ⟨by rfl, ?_⟩) (by assumption) ?_
  · intro w' hSw
    have cc2 : w'.cell? ⟨w.heap.size, 2, none⟩ = some (.slice va vn vc) := hSw.cell 2 rfl
    go_simp
  simp only [List.getElem_toArray, List.getElem_cons_succ, List.getElem_cons_zero, Act.put, List.setIfInBounds_toArray, List.set_cons_zero, List.set_cons_succ]
  refine wpAnyH_ready (rs := [2]) (by kernel_rfl) (by simp) ?_
  refine AllReadyH.cons rfl (fun Kc hKc => ?_) AllReadyH.nil
  simp only [List.getElem_toArray, List.getElem_cons_succ, List.getElem_cons_zero]
  rw [if_pos (by rfl)]
  go_wp2_with fail
  refine (few8_gen ta tn tc X.T TT 130 _ (HT.out _ D) (by omega) HTT.out).mono ?_
  rintro e w2 ⟨tb, tc2, rfl, OT, B2⟩
  have zA2 := B2.size
  replace X0 := X0.below B2
  replace X1 := X1.below B2
  replace D := below_then D B2
  go_wp2_with fail
  refine hKc.out _ _ (X0) (fun hHeld => ?_)
  clear hKc Kc
  refine wpAnyH_ready (rs := [5]) (by kernel_rfl) (by simp) ?_
  refine AllReadyH.cons rfl (fun Kc hKc => ?_) AllReadyH.nil
  simp only [List.getElem_toArray, List.getElem_cons_succ, List.getElem_cons_zero]
  rw [if_pos (by rfl)]
  go_wp2_with fail
  refine (listsR_any ka kn kc X.K kn5 KK _ (HK.out _ D) HKN.out HKK.out).mono ?_
  rintro e w3 ⟨kg, kc2, rfl, NK, B3⟩
  replace OT := owns_below OT B3
  have z3 := B3.size
  replace X0 := X0.below B3
  replace X1 := X1.below B3
  replace D := below_then D B3
  go_wp2_with fail
  refine hKc.out _ _ (X0) (fun hHeld => ?_)
  clear hKc Kc
  refine wpAnyH_ready (rs := [8]) (by kernel_rfl) (by simp) ?_
  refine AllReadyH.cons rfl (fun Kc hKc => ?_) AllReadyH.nil
  simp only [List.getElem_toArray, List.getElem_cons_succ, List.getElem_cons_zero]
  rw [if_pos (by rfl)]
  go_wp2_with fail
  refine (listsR_any va vn vc X.V vn5 VV _ (HV.out _ D) HVN.out HVV.out).mono ?_
  rintro e w4 ⟨vg, vc2, rfl, NV, B4⟩
  replace OT := owns_below OT B4
  replace NK := NK.below B4
  replace X0 := X0.below B4
  replace X1 := X1.below B4
  replace D := below_then D B4
  go_wp2_with fail
  refine hKc.out _ _ (X0) (fun hHeld => ?_)
  clear hKc Kc
  refine wpAnyH_take (i := 9) (v := (.agg #[.slice (some ⟨kg, 0, none⟩) kn5 kc2, .slice (some ⟨vg, 0, none⟩) vn5 vc2])) rfl (by kernel_rfl) (by kernel_rfl) (by kernel_rfl) (fun _ _ _ h => h) (Or.inl ⟨by rfl, ?_⟩) (by assumption) ?_
  · intro w' hSw
    go_simp
  simp only [List.getElem_toArray, List.getElem_cons_succ, List.getElem_cons_zero, Act.put, List.setIfInBounds_toArray, List.set_cons_zero, List.set_cons_succ]
  refine wpAnyH_take (i := 10) (v := (.agg #[.slice (some ⟨tb, 0, none⟩) TT.length tc2, .slice (some ⟨kg, 0, none⟩) kn5 kc2, .slice (some ⟨vg, 0, none⟩) vn5 vc2])) rfl (by kernel_rfl) (by kernel_rfl) (by kernel_rfl) (fun _ _ _ h => h) (Or.inl ⟨by rfl, ?_⟩) (by assumption) ?_
  · intro w' hSw
    go_simp
  simp only [List.getElem_toArray, List.getElem_cons_succ, List.getElem_cons_zero, Act.put, List.setIfInBounds_toArray, List.set_cons_zero, List.set_cons_succ]
  refine wpAnyH_ready (rs := [11]) (by kernel_rfl) (by simp) ?_
  refine AllReadyH.cons rfl (fun Kc hKc => ?_) AllReadyH.nil
  simp only [List.getElem_toArray, List.getElem_cons_succ, List.getElem_cons_zero]
  rw [if_pos (by rfl)]
  have hall : Array.all (#[.slice (some ⟨tb, 0, none⟩) TT.length tc2, .slice (some ⟨kg, 0, none⟩) kn5 kc2, .slice (some ⟨vg, 0, none⟩) vn5 vc2] : Array Value) (fun v => v.oneCell') = true := by simp [Value.oneCell']
  refine wp_store_row 35 _ _ rfl w0.heap.size #[.slice (some ⟨tb, 0, none⟩) TT.length tc2, .slice (some ⟨kg, 0, none⟩) kn5 kc2, .slice (some ⟨vg, 0, none⟩) vn5 vc2] rfl rfl 35 _ X1 Tryz.infoV rfl hall ?_
  refine hKc.out _ _ (Blk.of_block X0 (setRow_other _ _ _ _ (by omega))) (fun hHeld => ?_)
  clear hKc Kc
  refine wpAnyH_done (by kernel_rfl) ?_ _
  clear hHeld
  go_wp2
  refine bodyPost_ret (results_cell_row rfl _ _ w0.heap.size 35 _ _ _ rfl (X1.row _) Tryz.underlying35 rfl Tryz.infoV) rfl ?_
  have so : ∀ (b : Nat) (x : Array Value), b ≠ w0.heap.size → (w4.setRow w0.heap.size x).heap[b]? = w4.heap[b]? := fun b x hb => setRow_other _ _ _ _ hb
  obtain ⟨x1, y1, e1, IT⟩ := IOwn.arg (A := TT) (owns_mono OT (Nat.le_refl _) (fun b hb => so b #[.slice (some ⟨tb, 0, none⟩) TT.length tc2, .slice (some ⟨kg, 0, none⟩) kn5 kc2, .slice (some ⟨vg, 0, none⟩) vn5 vc2] (by have := (OT.lt b hb).1; omega))) hsm2.out
  simp only [Value.slice.injEq, true_and] at e1
  obtain ⟨rfl, rfl⟩ := e1
  have q1 := (Hangs.row NK (g := w0.heap.size) (by show ¬ (_ ≤ _); omega) #[.slice (some ⟨tb, 0, none⟩) TT.length tc2, .slice (some ⟨kg, 0, none⟩) kn5 kc2, .slice (some ⟨vg, 0, none⟩) vn5 vc2]).now
  have q2 := (Hangs.row NV (g := w0.heap.size) (by show ¬ (_ ≤ _); omega) #[.slice (some ⟨tb, 0, none⟩) TT.length tc2, .slice (some ⟨kg, 0, none⟩) kn5 kc2, .slice (some ⟨vg, 0, none⟩) vn5 vc2]).now
  have E1 := HTT.out
  have E2 := HKK.out
  have E3 := HVV.out
  subst E1 E2 E3
  exact ⟨⟨⟨some ⟨tb, 0, none⟩, _, tc2⟩, ⟨some ⟨kg, 0, none⟩, kn5, kc2⟩, ⟨some ⟨vg, 0, none⟩, vn5, vc2⟩⟩, rfl, ⟨IT, q1, q2⟩, below_setRow D (by omega) _⟩
theorem ToldAt.raw {w : World} {t k v : Sl} {X : Vw} (h : ToldAt w t k v X) : VwR w ⟨t, k, v⟩ X := ⟨h.t, h.k.raw, h.v.raw⟩
theorem of9_any (t k v : Sl) (X : Vw) (w : World) (h : ToldAt w t k v X) (hX : cutVw X = X) :
   Calls Tryz.prog 8 #[.agg #[t.v, k.v, v.v]] w fun e w' => ∃ v2 : VwV, e = .returned (.agg v2.cells) ∧ VwAt w' v2 X ∧ Below w.heap.size w w' := by
  have := of9_gen ⟨t, k, v⟩ X w h.raw
  rw [hX] at this
  exact this
theorem KV.cubeR {w : World} {g m : Nat} {p : Nat → Prop} {A C : List (List (List Int))} (h : KV w g m 0 p A C) (hl : C.length = m) (hm : m ≤ 9223372036854775807) (hr : ∀ R ∈ C, R.length ≤ 4096) : CubeAt w (some ⟨g, 0, none⟩) m C := by
  obtain ⟨cs, h1, h2, _, h4⟩ := h.row
  refine ⟨hl, hm, fun _ => ⟨g, 0, rfl, fun t R hR => ?_⟩⟩
  have ht : t < m := by have := (List.getElem?_eq_some_iff.1 hR).1; omega
  obtain ⟨ro, n, vs, e, q1, N⟩ := h4 t (by omega) ht
  have e2 : C.getD t [] = R := by rw [List.getD_eq_getElem?_getD, hR]; rfl
  rw [e2] at N
  have G := N.now.grid
  have hl2 := hr R (List.mem_of_getElem? hR)
  have hn := G.len
  refine ⟨ro, n, n, ?_, q1, Nat.le_refl _, by omega, G⟩
  rw [Nat.zero_add]
  unfold World.cell?
  simp only [h1]
  exact e
theorem cutVw_bounds {X : Vw} (hX : cutVw X = X) : X.T.length ≤ 130 ∧ X.K.length ≤ 5 ∧ X.V.length ≤ 5 ∧ (∀ R ∈ X.K, R.length ≤ 130 ∧ (∀ t, (rowOf R t).length ≤ 40) ∧ rowsN R 130 = R) ∧ ∀ R ∈ X.V, R.length ≤ 130 ∧ (∀ t, (rowOf R t).length ≤ 40) ∧ rowsN R 130 = R := by
  have h1 : X.T.take 130 = X.T := congrArg Vw.T hX
  have h2 : cutC X.K 130 = X.K := congrArg Vw.K hX
  have h3 : cutC X.V 130 = X.V := congrArg Vw.V hX
  refine ⟨by rw [← h1, List.length_take]; omega, by rw [← h2]; exact cutC_at_most _ _, by rw [← h3]; exact cutC_at_most _ _, fun R hR => cutC_mem (by rw [h2]; exact hR), fun R hR => cutC_mem (by rw [h3]; exact hR)⟩
/-- Copy of any view that was cut. -/
theorem scopyR_any (v : VwV) (X : Vw) (w : World) (hv : VwAt w v X) (hX : cutVw X = X) :
   Calls Tryz.prog 35 #[.agg v.cells] w fun e w' => ∃ v2 : VwV, e = .returned (.agg v2.cells) ∧ VwAt w' v2 X ∧ Below w.heap.size w w' := by
  obtain ⟨h1, h2, h3, h4, h5⟩ := cutVw_bounds hX
  refine (scopy_any v X [] [] w hv (by omega) (by omega) (by omega) (fun R hR => ⟨by have := (h4 R hR).1; omega, fun t ht => by have := (h4 R hR).2.1 t; omega⟩) (fun R hR => ⟨by have := (h5 R hR).1; omega, fun t ht => by have := (h5 R hR).2.1 t; omega⟩)).mono ?_
  rintro e w' ⟨tv, gk, gv, rfl, O, K1, K2, _, _, _, B⟩
  obtain ⟨ao, c, rfl, A⟩ := IOwn.arg O hv.t.row.small
  exact ⟨⟨⟨ao, X.T.length, c⟩, ⟨some ⟨gk, 0, none⟩, X.K.length, X.K.length⟩, ⟨some ⟨gv, 0, none⟩, X.V.length, X.V.length⟩⟩, rfl, ⟨A, K1.cubeR rfl (by omega) (fun R hR => by have := (h4 R hR).1; omega), K2.cubeR rfl (by omega) (fun R hR => by have := (h5 R hR).1; omega)⟩, B⟩
/-- Told of a view that was cut: the same again. -/
theorem told9C_any (vv : VwV) (X : Vw) (w : World) (hv : VwAt w vv X) (hX : cutVw X = X) :
   Calls Tryz.prog 5 #[.agg vv.cells] w fun e w' => ∃ t k v : Sl, e = .returned (.agg #[t.v, k.v, v.v]) ∧ ToldAt w' t k v X ∧ Below w.heap.size w w' := by
  have := told9R_any vv X w hv.raw
  rw [hX] at this
  exact this
end Go.Proofs.YtmdjlaileakbeaaGreatDoor

/- The document's Fits of layer 9, of any view that was cut and any configuration. -/
namespace Go.Proofs.YtmdjlaileakbeaaGreatDoor
open Go.ChangeShapes Go.WideShapes Go.ChangeAt Go.RowKit
theorem rfB_snoc {C : List (List (List Int))} {k : Nat} {R : List (List Int)} {p d : Int} (h : C[k]? = some R) : rfB (C.take (k + 1)) p d = (rfB (C.take k) p d && rfR R p d) := by
  unfold rfB
  rw [List.take_add_one, h, List.all_append]
  simp
theorem rrows9_q (ao : Option Addr) (n ca : Nat) (R : List (List Int)) (places dim : Int) (w : World) (hR : GridAt w ao n R) :
   Calls Tryz.prog 28 #[.slice ao n ca, .int .i64 places, .int .i64 dim] w fun e w' => e = .returned (.bool (rfR R places dim)) ∧ ∃ m, w' = w.drewN m := by
  refine (rrows9_any ao n ca R places dim w hR).mono ?_
  rintro e w' ⟨rfl, rfl⟩
  exact ⟨rfl, 0, rfl⟩
set_option maxRecDepth 100000 in
set_option maxHeartbeats 3200000 in
theorem rfits9_any (Vo D Hd H L : Int) (t k v : Sl) (X : Vw) (w : World) (h : ToldAt w t k v X) (hX : cutVw X = X) :
   Calls Tryz.prog 12 #[.agg (cfgC Vo D Hd H L), .agg #[t.v, k.v, v.v]] w fun e w' => e = .returned (.bool (vwB Vo D L X)) ∧ Below w.heap.size w w' := by
  obtain ⟨hb1, hb2, hb3, _, _⟩ := cutVw_bounds hX
  obtain ⟨ta, tn, tz⟩ := t
  obtain ⟨ka, kn, kz⟩ := k
  obtain ⟨va, vn, vz⟩ := v
  have hT : IArg w ta tn tz X.T := h.t
  have hK : CubeAt w ka kn X.K := h.k
  have hV : CubeAt w va vn X.V := h.v
  clear h
  have hl := hT.row.len
  have kl := hK.len
  have vl := hV.len
  rw [hl] at hb1
  rw [kl] at hb2
  rw [vl] at hb3
  have HT : Hid (∀ wv, Below w.heap.size w wv → IRowAt wv ta tn X.T) := fun wv hb => hT.row.below hb
  have HK : Hid (∀ wv, Below w.heap.size w wv → CubeAt wv ka kn X.K) := fun wv hb => hK.below hb
  have HV : Hid (∀ wv, Below w.heap.size w wv → CubeAt wv va vn X.V) := fun wv hb => hV.below hb
  unfold cfgC Sl.v
  simp only
  have X0 := blk_new w 23 #[.int .i64 Vo, .int .i64 D, .int .i64 Hd, .int .i64 H, .int .i64 L]
  have B0 : Below w.heap.size w (w.alloc (.cells #[.int .i64 Vo, .int .i64 D, .int .i64 Hd, .int .i64 H, .int .i64 L] 23)) := (Below.refl _ _).alloc (Nat.le_refl _) _
  have s0 : (w.alloc (.cells #[.int .i64 Vo, .int .i64 D, .int .i64 Hd, .int .i64 H, .int .i64 L] 23)).heap.size = w.heap.size + 1 := by simp
  generalize hw0 : w.alloc (.cells #[.int .i64 Vo, .int .i64 D, .int .i64 Hd, .int .i64 H, .int .i64 L] 23) = w0 at *
  have X1 := blk_new w0 41 #[.slice ta tn tz, .slice ka kn kz, .slice va vn vz]
  have B1 : Below w0.heap.size w0 (w0.alloc (.cells #[.slice ta tn tz, .slice ka kn kz, .slice va vn vz] 41)) := (Below.refl _ _).alloc (Nat.le_refl _) _
  rw [s0] at X1
  generalize hw1 : w0.alloc (.cells #[.slice ta tn tz, .slice ka kn kz, .slice va vn vz] 41) = w1 at *
  replace X0 := X0.below B1
  replace B1 := below_then B0 B1
  clear B0
  have a0 : w1.cell? ⟨w.heap.size, 0, none⟩ = some (.int .i64 Vo) := X0.cell 0 rfl
  have b0 : w1.cell? ⟨w.heap.size + 1, 0, none⟩ = some (.slice ta tn tz) := X1.cell 0 rfl
  obtain ⟨q, hq⟩ : ∃ q, vwB Vo D L X = q := ⟨_, rfl⟩
  rw [hq]
  have HQ : Hid (q = if tn = 0 then decide (kn = 0) && decide (vn = 0) else decide (tn ≤ 128) && X.T.all (tokB Vo) && (lfB X.K tn D L && lfB X.V tn D L)) := by
    show _ = _
    rw [← hq]; unfold vwB; rw [hl, kl, vl]
  clear hq hT hK hV
  go_enter Tryz.func12, Tryz.ntmps12
  go_wp2_with fail
  clear hw0 hw1
  go_loopg [16] tn (fun r i wr => ∃ k : Nat, k ≤ tn ∧ r = tn - k ∧ i = .int .i64 k ∧ wr = w1 ∧ (X.T.take k).all (tokB Vo) = true)
  case atStart => exact ⟨0, by omega, by omega, rfl, rfl, by simp⟩
  case round =>
    obtain ⟨k, hk, rfl, rfl, hwr, HA⟩ := hrel
    obtain rfl : w1 = wr := hwr.symm
    by_cases hlt : k < tn
    · obtain ⟨b, o, rfl, hc⟩ := (HT.out w1 B1).cells (by omega)
      have ck := hc k hlt
      have HX : Hid ((X.T.take (k + 1)).all (tokB Vo) = ((X.T.take k).all (tokB Vo) && tokB Vo (el X.T k))) := by
        show _ = _
        rw [List.take_add_one, List.getElem?_eq_getElem (show k < X.T.length by omega), List.all_append]
        unfold el
        rw [List.getD_eq_getElem?_getD, List.getElem?_eq_getElem (show k < X.T.length by omega)]
        simp
      have HM : Hid (tokB Vo (el X.T k) = false → X.T.all (tokB Vo) = false) := fun hf => by
        cases e : X.T.all (tokB Vo) with
        | false => rfl
        | true =>
          rw [List.all_eq_true] at e
          have := e _ (List.getElem_mem (show k < X.T.length by omega))
          unfold el at hf
          rw [List.getD_eq_getElem?_getD, List.getElem?_eq_getElem (show k < X.T.length by omega), Option.getD_some, this] at hf
          exact hf
      generalize el X.T k = x at *
      clear hc
      have HF : Hid (tokB Vo x = false → Ending.returned (Value.bool false) = Ending.returned (Value.bool q)) := fun hf => by
        rw [HQ.out, if_neg (by omega), HM.out hf, Bool.and_false, Bool.false_and]
      by_cases hx0 : x < 0
      · have hf : tokB Vo x = false := by unfold tokB; simp; omega
        have E := HF.out hf
        clear hf
        go_wp2
        go_ret
        exact ⟨E, B1⟩
      · by_cases hx1 : Vo ≤ x
        · have hf : tokB Vo x = false := by unfold tokB; simp; omega
          have E := HF.out hf
          clear hf
          go_wp2
          go_ret
          exact ⟨E, B1⟩
        · have ht : tokB Vo x = true := by unfold tokB; simp; omega
          have HT2 : Hid (tokB Vo x = true) := ht
          clear ht
          go_wp2
          go_roundg (tn - (k + 1))
          case measure => omega
          case rel => exact ⟨k + 1, by omega, rfl, by go_num, rfl, by rw [HX.out, HA, HT2.out]; rfl⟩
    · obtain rfl : k = tn := by omega
      have HA2 : Hid (X.T.all (tokB Vo) = true) := by rw [List.take_of_length_le (by omega)] at HA; exact HA
      have b1 : w1.cell? ⟨w.heap.size + 1, 1, none⟩ = some (.slice ka kn kz) := X1.cell 1 rfl
      have b2 : w1.cell? ⟨w.heap.size + 1, 2, none⟩ = some (.slice va vn vz) := X1.cell 2 rfl
      have a1 : w1.cell? ⟨w.heap.size, 1, none⟩ = some (.int .i64 D) := X0.cell 1 rfl
      have a4 : w1.cell? ⟨w.heap.size, 4, none⟩ = some (.int .i64 L) := X0.cell 4 rfl
      clear HA HT
      by_cases hz : k = 0
      · subst hz
        have HR : Hid (q = (decide (kn = 0) && decide (vn = 0))) := by show _ = _; rw [HQ.out, if_pos rfl]
        have hw : IntKind.i64.wrap ((kn : Int) + (vn : Int)) = ((kn + vn : Nat) : Int) := by rw [wrap_in (by omega)]; push_cast; rfl
        clear HK HV HQ
        go_wp2
        go_ret
        refine ⟨?_, B1⟩
        rw [HR.out]
        by_cases h1 : kn = 0
        · by_cases h2 : vn = 0
          · subst h1 h2; rfl
          · subst h1
            rw [show decide (vn = 0) = false from decide_eq_false h2, Bool.and_false]
            simp [h2]
        · rw [show decide (kn = 0) = false from decide_eq_false h1, Bool.false_and]
          have : ((kn + vn : Nat) : Int) ≠ 0 := by omega
          simp
          omega
      · have hz0 : ((k : Int) == 0) = false := by simpa using hz
        by_cases h128 : 128 < k
        · have HR : Hid (q = false) := by show _ = _; rw [HQ.out, if_neg hz, show decide (k ≤ 128) = false from decide_eq_false (by omega)]; rfl
          have h128' : (128 : Int) < k := by omega
          clear HK HV HQ
          go_wp2
          go_ret
          exact ⟨by rw [HR.out]; rfl, B1⟩
        · have h128' : ¬ (128 : Int) < k := by omega
          by_cases hkL : (kn : Int) = L
          rotate_left
          · have hkL2 : ((kn : Int) == L) = false := by simpa using hkL
            have HR : Hid (q = false) := by show _ = _; rw [HQ.out, if_neg hz]; unfold lfB; rw [kl, show decide ((kn : Int) = L) = false from decide_eq_false hkL]; simp
            clear HK HV HQ
            go_wp2
            go_ret
            exact ⟨by rw [HR.out]; rfl, B1⟩
          by_cases hvL : (vn : Int) = L
          rotate_left
          · have hkL2 : ((kn : Int) == L) = true := by simpa using hkL
            have hvL2 : ((vn : Int) == L) = false := by simpa using hvL
            have hkL3 : ((kn : Int) != L) = false := by simp [bne, hkL2]
            have hvL3 : ((vn : Int) != L) = true := by simp [bne, hvL2]
            have HR : Hid (q = false) := by show _ = _; rw [HQ.out, if_neg hz]; unfold lfB; rw [vl, show decide ((vn : Int) = L) = false from decide_eq_false hvL]; simp
            clear HK HV HQ hkL hvL
            go_wp2
            go_ret
            exact ⟨by rw [HR.out]; rfl, B1⟩
          have evk : vn = kn := by omega
          have HR : Hid (q = (rfB X.K k D && rfB X.V k D)) := by
            show _ = _
            rw [HQ.out, if_neg hz, show decide (k ≤ 128) = true from decide_eq_true (by omega), HA2.out]
            unfold lfB
            rw [kl, vl, show decide ((kn : Int) = L) = true from decide_eq_true hkL, show decide ((vn : Int) = L) = true from decide_eq_true hvL]
            rfl
          have hkL2 : ((kn : Int) == L) = true := by simpa using hkL
          have hvL2 : ((vn : Int) == L) = true := by simpa using hvL
          have hkL3 : ((kn : Int) != L) = false := by simp [bne, hkL2]
          have hvL3 : ((vn : Int) != L) = false := by simp [bne, hvL2]
          clear HQ hkL hvL HA2
          subst evk
          have KC := HK.out w1 B1
          have VC := HV.out w1 B1
          clear HK HV
          go_wp2_with fail
          clear hkL2 hvL2 hkL3 hvL3 a0 b0 a4
          go_loopg [8, 60] vn (fun r g2 i wr => ∃ l : Nat, l ≤ vn ∧ r = vn - l ∧ i = .int .i64 l ∧ (∃ m, wr = w1.drewN m) ∧ g2 = .bool (rfB (X.K.take l) k D && rfB (X.V.take l) k D))
          case atStart => exact ⟨0, by omega, by omega, rfl, ⟨0, rfl⟩, by simp [rfB]⟩
          case round =>
            obtain ⟨l, hl2, rfl, rfl, ⟨m0, hw0⟩, rfl⟩ := hrel
            have HW : Hid (wr = w1.drewN m0) := hw0
            clear hw0
            by_cases hlt2 : l < vn
            · obtain ⟨b, o, rfl, hc⟩ := KC.cells (by omega)
              obtain ⟨b', o', rfl, hc'⟩ := VC.cells (by omega)
              obtain ⟨R, hR⟩ : ∃ R, X.K[l]? = some R := ⟨_, List.getElem?_eq_getElem (show l < X.K.length by omega)⟩
              obtain ⟨S, hS⟩ : ∃ S, X.V[l]? = some S := ⟨_, List.getElem?_eq_getElem (show l < X.V.length by omega)⟩
              obtain ⟨r1, n1, c1, q1, -, -, -, G1⟩ := hc l R hR
              obtain ⟨r2, n2, c2, q2, -, -, -, G2⟩ := hc' l S hS
              have HS1 : Hid (rfB (X.K.take (l + 1)) k D = (rfB (X.K.take l) k D && rfR R k D)) := rfB_snoc hR
              have HS2 : Hid (rfB (X.V.take (l + 1)) k D = (rfB (X.V.take l) k D && rfR S k D)) := rfB_snoc hS
              have C1 : wr.cell? ⟨b, o + l, none⟩ = some (.slice r1 n1 c1) := by rw [HW.out]; exact drewN_cell w1 _ q1
              have C2 : wr.cell? ⟨b', o' + l, none⟩ = some (.slice r2 n2 c2) := by rw [HW.out]; exact drewN_cell w1 _ q2
              have D1 : wr.cell? ⟨w.heap.size + 1, 1, none⟩ = some (.slice (some ⟨b, o, none⟩) vn kz) := by rw [HW.out]; exact drewN_cell w1 _ b1
              have D2 : wr.cell? ⟨w.heap.size + 1, 2, none⟩ = some (.slice (some ⟨b', o', none⟩) vn vz) := by rw [HW.out]; exact drewN_cell w1 _ b2
              have D3 : wr.cell? ⟨w.heap.size, 1, none⟩ = some (.int .i64 D) := by rw [HW.out]; exact drewN_cell w1 _ a1
              have S1 := fun m => rrows9_q r1 n1 c1 R k D (wr.drewN m) (by rw [HW.out, World.drewN_drewN]; exact G1.below (below_drewN (Below.refl _ _) _))
              have S2 := fun m => rrows9_q r2 n2 c2 S k D (wr.drewN m) (by rw [HW.out, World.drewN_drewN]; exact G2.below (below_drewN (Below.refl _ _) _))
              generalize rfB (X.K.take l) k D = p1 at *
              generalize rfB (X.V.take l) k D = p2 at *
              generalize rfR R k D = u1 at *
              generalize rfR S k D = u2 at *
              have HP : Hid ((p1 && u1 && (p2 && u2)) = (p1 && p2 && u1 && u2)) := by show _ = _; cases p1 <;> cases p2 <;> cases u1 <;> rfl
              clear hc hc' q1 q2 G1 G2 hR hS b1 b2 a1
              generalize (p1 && p2) = p at *
              cases p with
              | false =>
                clear S1 S2 C1 C2
                go_wp2_with fail
                go_quiet (fail)
                replace HW : Hid (wr.drewN nq = w1.drewN (m0 + nq)) := by show _ = _; rw [HW.out, World.drewN_drewN]
                generalize wr.drewN nq = wq at *
                clear D1 D2 D3
                go_wp2_with fail
                go_roundg (vn - (l + 1))
                case measure => omega
                case rel => exact ⟨l + 1, by omega, rfl, by go_num, ⟨_, HW.out⟩, by rw [HS1.out, HS2.out, HP.out]; rfl⟩
              | true =>
                cases u1 with
                | false =>
                  clear S2 C2
                  go_wp2_with fail
                  go_quiet (first | (go_at_call 28; exact Calls.quiet_of (S1 _)))
                  replace HW : Hid (wr.drewN nq = w1.drewN (m0 + nq)) := by show _ = _; rw [HW.out, World.drewN_drewN]
                  generalize wr.drewN nq = wq at *
                  clear D1 D2 D3 C1
                  go_wp2_with fail
                  go_roundg (vn - (l + 1))
                  case measure => omega
                  case rel => exact ⟨l + 1, by omega, rfl, by go_num, ⟨_, HW.out⟩, by rw [HS1.out, HS2.out, HP.out]; rfl⟩
                | true =>
                  go_wp2_with fail
                  go_quiet (first | (go_at_call_of 28 c1; exact Calls.quiet_of (S1 _)) | (go_at_call_of 28 c2; exact Calls.quiet_of (S2 _)))
                  replace HW : Hid (wr.drewN nq = w1.drewN (m0 + nq)) := by show _ = _; rw [HW.out, World.drewN_drewN]
                  generalize wr.drewN nq = wq at *
                  clear D1 D2 D3 C1 C2 S1 S2
                  go_wp2_with fail
                  go_roundg (vn - (l + 1))
                  case measure => omega
                  case rel => exact ⟨l + 1, by omega, rfl, by go_num, ⟨_, HW.out⟩, by rw [HS1.out, HS2.out, HP.out]; rfl⟩
            · obtain rfl : l = vn := by omega
              have HE : Hid (q = (rfB (X.K.take l) k D && rfB (X.V.take l) k D)) := by
                show _ = _
                rw [HR.out, List.take_of_length_le (by omega), List.take_of_length_le (by omega)]
              generalize (rfB (X.K.take l) k D && rfB (X.V.take l) k D) = z at *
              clear b1 b2 a1
              go_wp2_with fail
              go_ret
              exact ⟨by rw [HE.out]; rfl, by rw [HW.out]; exact below_drewN B1 _⟩
end Go.Proofs.YtmdjlaileakbeaaGreatDoor

/- The document's Error of layer 9, of any numbers and any view. Laid by tools/genrerr9.py. -/
namespace Go.Proofs.YtmdjlaileakbeaaGreatDoor
open Go.ChangeShapes Go.WideShapes Go.ChangeAt Go.RowKit
/-- The error's number of a token that is fed. -/
def errN9 (V D Hd H L : Int) (W : Wt) (bs : List Bk) (X : Vw) (tok : Int) : Int := if checkN V D Hd H L W bs ≠ 0 then checkN V D Hd H L W bs else if vwB V D L X = false then 4 else if 127 < X.T.length then 2 else if tokB V tok = false then 7 else 0
set_option maxRecDepth 100000 in
set_option maxHeartbeats 6400000 in
theorem rerr9_any (V D Hd H L : Int) (W : Wt) (bs : List Bk) (t k v : Sl) (X : Vw) (tok : Int) (w : World) (hW : W.Ok) (hb : BlocksAt w W.b bs) (b1 : I64 V) (b2 : I64 D) (b3 : I64 Hd) (b4 : I64 H) (b5 : I64 L) (h : ToldAt w t k v X) (hX : cutVw X = X) :
   Calls Tryz.prog 9 #[.agg (cfgC V D Hd H L), .agg W.cells, .agg #[t.v, k.v, v.v], .int .i64 tok] w fun e w' => e = .returned (.int .i64 (errN9 V D Hd H L W bs X tok)) ∧ Below w.heap.size w w' := by
  have RK := fun wv (hb : BlocksAt wv W.b bs) => rcheck6_any V D Hd H L W bs wv hW hb b1 b2 b3 b4 b5
  have RFt := fun wv (h : ToldAt wv t k v X) => rfits9_any V D Hd H L t k v X wv h hX
  have htl : X.T.length = t.n := h.t.row.len
  have HE : Hid (errN9 V D Hd H L W bs X tok = if checkN V D Hd H L W bs ≠ 0 then checkN V D Hd H L W bs else if vwB V D L X = false then 4 else if 127 < t.n then 2 else if tokB V tok = false then 7 else 0) := by show _ = _; unfold errN9; rw [htl]
  have HTB : Hid (tokB V tok = decide (0 ≤ tok ∧ tok < V)) := rfl
  clear b1 b2 b3 b4 b5 hX hW htl
  generalize errN9 V D Hd H L W bs X tok = res at *
  generalize checkN V D Hd H L W bs = qc at *
  generalize vwB V D L X = vb at *
  generalize tokB V tok = tb at *
  unfold cfgC at *
  have HB : Hid (∀ wv, Below w.heap.size w wv → BlocksAt wv W.b bs ∧ ToldAt wv t k v X) := fun wv hb' => ⟨hb.below hb', h.below hb'⟩
  clear hb h
  obtain ⟨ta, tn, tz⟩ := t
  obtain ⟨ka, kn, kz⟩ := k
  obtain ⟨va, vn, vz⟩ := v
  show Calls Tryz.prog 9 #[.agg #[.int .i64 V, .int .i64 D, .int .i64 Hd, .int .i64 H, .int .i64 L], .agg W.cells, .agg #[.slice ta tn tz, .slice ka kn kz, .slice va vn vz], .int .i64 tok] w _
  rw [show (#[Sl.v ⟨ta, tn, tz⟩, Sl.v ⟨ka, kn, kz⟩, Sl.v ⟨va, vn, vz⟩] : Array Value) = #[.slice ta tn tz, .slice ka kn kz, .slice va vn vz] from rfl] at RFt
  simp only at HE
  have X0 := blk_new w 23 #[.int .i64 V, .int .i64 D, .int .i64 Hd, .int .i64 H, .int .i64 L]
  have B0 : Below w.heap.size w (w.alloc (.cells #[.int .i64 V, .int .i64 D, .int .i64 Hd, .int .i64 H, .int .i64 L] 23)) := (Below.refl _ _).alloc (Nat.le_refl _) _
  generalize hw0 : w.alloc (.cells #[.int .i64 V, .int .i64 D, .int .i64 Hd, .int .i64 H, .int .i64 L] 23) = w0 at *
  have X1 := blk_new w0 38 W.cells
  have B1 : Below w0.heap.size w0 (w0.alloc (.cells W.cells 38)) := (Below.refl _ _).alloc (Nat.le_refl _) _
  generalize hw1 : w0.alloc (.cells W.cells 38) = w1 at *
  have X2 := blk_new w1 41 #[.slice ta tn tz, .slice ka kn kz, .slice va vn vz]
  have B2 : Below w1.heap.size w1 (w1.alloc (.cells #[.slice ta tn tz, .slice ka kn kz, .slice va vn vz] 41)) := (Below.refl _ _).alloc (Nat.le_refl _) _
  generalize hw2 : w1.alloc (.cells #[.slice ta tn tz, .slice ka kn kz, .slice va vn vz] 41) = w2 at *
  replace X0 := (X0.below B1).below B2
  replace X1 := X1.below B2
  have DB := below_then (below_then B0 B1) B2
  clear B0 B1 B2
  have a0 : w2.cell? ⟨w.heap.size, 0, none⟩ = some (.int .i64 V) := X0.cell 0 rfl
  have a1 : w2.cell? ⟨w.heap.size, 1, none⟩ = some (.int .i64 D) := X0.cell 1 rfl
  have a2 : w2.cell? ⟨w.heap.size, 2, none⟩ = some (.int .i64 Hd) := X0.cell 2 rfl
  have a3 : w2.cell? ⟨w.heap.size, 3, none⟩ = some (.int .i64 H) := X0.cell 3 rfl
  have a4 : w2.cell? ⟨w.heap.size, 4, none⟩ = some (.int .i64 L) := X0.cell 4 rfl
  go_enter Tryz.func9, Tryz.ntmps9
  go_wp2_with (refine wpList_load_row rfl 38 _ rfl w0.heap.size rfl 38 W.cells (0, 0) _ X1 Tryz.underlying38 rfl Tryz.infoRW ?_)
  refine (RK _ (HB.out _ DB).1).mono ?_
  rintro e w3 ⟨rfl, EM⟩
  replace X0 := X0.below EM
  replace X2 := X2.below EM
  replace DB := below_then DB EM
  clear EM RK X1 hw0 hw1 hw2 a0 a1 a2 a3 a4
  by_cases hq : qc = 0
  rotate_left
  · have HR : Hid (res = qc) := by show _ = _; rw [HE.out, if_pos hq]
    have hq2 : (qc != 0) = true := by simpa using hq
    clear HE
    go_wp2_with fail
    go_ret
    exact ⟨by rw [HR.out]; rfl, DB⟩
  subst hq
  have HE2 : Hid (res = if vb = false then 4 else if 127 < tn then 2 else if tb = false then 7 else 0) := by show _ = _; rw [HE.out, if_neg (by simp)]
  clear HE
  have a0 : w3.cell? ⟨w.heap.size, 0, none⟩ = some (.int .i64 V) := X0.cell 0 rfl
  have a1 : w3.cell? ⟨w.heap.size, 1, none⟩ = some (.int .i64 D) := X0.cell 1 rfl
  have a2 : w3.cell? ⟨w.heap.size, 2, none⟩ = some (.int .i64 Hd) := X0.cell 2 rfl
  have a3 : w3.cell? ⟨w.heap.size, 3, none⟩ = some (.int .i64 H) := X0.cell 3 rfl
  have a4 : w3.cell? ⟨w.heap.size, 4, none⟩ = some (.int .i64 L) := X0.cell 4 rfl
  have v0 : w3.cell? ⟨w1.heap.size, 0, none⟩ = some (.slice ta tn tz) := X2.cell 0 rfl
  have v1 : w3.cell? ⟨w1.heap.size, 1, none⟩ = some (.slice ka kn kz) := X2.cell 1 rfl
  have v2 : w3.cell? ⟨w1.heap.size, 2, none⟩ = some (.slice va vn vz) := X2.cell 2 rfl
  go_wp2_with fail
  refine (RFt _ (HB.out _ DB).2).mono ?_
  rintro e w4 ⟨rfl, EM⟩
  replace X0 := X0.below EM
  replace X2 := X2.below EM
  replace DB := below_then DB EM
  clear EM RFt a0 a1 a2 a3 a4 v0 v1 v2 HB
  have a0 : w4.cell? ⟨w.heap.size, 0, none⟩ = some (.int .i64 V) := X0.cell 0 rfl
  have v0 : w4.cell? ⟨w1.heap.size, 0, none⟩ = some (.slice ta tn tz) := X2.cell 0 rfl
  cases vb with
  | false =>
    go_wp2_with fail
    go_ret
    exact ⟨by rw [HE2.out]; rfl, DB⟩
  | true =>
    by_cases h1 : 127 < tn
    · have HR : Hid (res = 2) := by show _ = _; rw [HE2.out, if_neg (by simp), if_pos h1]
      have h2 : (127 : Int) < (tn : Int) := by omega
      clear HE2
      go_wp2_with fail
      go_ret
      exact ⟨by rw [HR.out]; rfl, DB⟩
    · have HR : Hid (res = if tb = false then 7 else 0) := by show _ = _; rw [HE2.out, if_neg (by simp), if_neg h1]
      have h2 : ¬ (127 : Int) < (tn : Int) := by omega
      clear HE2
      by_cases h3 : tok < 0
      · have HR2 : Hid (res = 7) := by show _ = _; rw [HR.out, HTB.out, if_pos (by exact decide_eq_false (by omega))]
        clear HR HTB
        go_wp2_with fail
        go_ret
        exact ⟨by rw [HR2.out]; rfl, DB⟩
      · by_cases h4 : V ≤ tok
        · have HR2 : Hid (res = 7) := by show _ = _; rw [HR.out, HTB.out, if_pos (by exact decide_eq_false (by omega))]
          clear HR HTB
          go_wp2_with fail
          go_ret
          exact ⟨by rw [HR2.out]; rfl, DB⟩
        · have HR2 : Hid (res = 0) := by show _ = _; rw [HR.out, HTB.out, if_neg (by rw [decide_eq_true (by omega)]; simp)]
          clear HR HTB
          go_wp2_with fail
          go_ret
          exact ⟨by rw [HR2.out]; rfl, DB⟩
end Go.Proofs.YtmdjlaileakbeaaGreatDoor

/- step.Feed of any numbers, any view and any token: its error. -/
namespace Go.Proofs.YtmdjlaileakbeaaGreatDoor
open Go.ChangeShapes Go.WideShapes Go.ChangeAt Go.RowKit
theorem rfB_each {C : List (List (List Int))} {n D : Nat} (h : rfB C (n : Int) (D : Int) = true) : ∀ R ∈ C, R.length = n ∧ ∀ t, t < n → (rowOf R t).length = D := fun R hR => by
  unfold rfB at h
  have h1 := List.all_eq_true.1 h R hR
  unfold rfR at h1
  simp only [Bool.and_eq_true, decide_eq_true_eq] at h1
  obtain ⟨h2, h3⟩ := h1
  have h4 : R.length = n := by omega
  refine ⟨h4, fun t ht => ?_⟩
  have h5 := List.all_eq_true.1 h3 (rowOf R t) (by unfold rowOf; rw [List.getD_eq_getElem?_getD, List.getElem?_eq_getElem (by omega)]; exact List.getElem_mem _)
  simp only [decide_eq_true_eq] at h5
  omega
theorem fit_of {V D L : Nat} {X : Vw} (h : vwB (V : Int) (D : Int) (L : Int) X = true) : VwFit (V : Int) D L X := by
  unfold vwB at h
  by_cases h0 : X.T.length = 0
  · rw [if_pos h0, Bool.and_eq_true] at h
    have h1 : X.K = [] := List.length_eq_zero_iff.1 (by simpa using h.1)
    have h2 : X.V = [] := List.length_eq_zero_iff.1 (by simpa using h.2)
    have h3 : X.T = [] := List.length_eq_zero_iff.1 h0
    exact ⟨by omega, by rw [h3]; rfl, by rw [h1, if_pos h0]; rfl, by rw [h2, if_pos h0]; rfl, (by rw [h1]; exact fun R hR => by cases hR), (by rw [h2]; exact fun R hR => by cases hR)⟩
  · rw [if_neg h0] at h
    unfold lfB at h
    simp only [Bool.and_eq_true, decide_eq_true_eq] at h
    obtain ⟨⟨h1, h2⟩, ⟨h3, h4⟩, h5, h6⟩ := h
    exact ⟨h1, h2, by rw [if_neg h0]; omega, by rw [if_neg h0]; omega, rfB_each h4, rfB_each h6⟩
theorem err_zero {V D Hd H L : Int} {W : Wt} {bs : List Bk} {X : Vw} {tok : Int} (h : errN9 V D Hd H L W bs X tok = 0) : checkN V D Hd H L W bs = 0 ∧ vwB V D L X = true ∧ X.T.length ≤ 127 ∧ tokB V tok = true := by
  unfold errN9 at h
  by_cases h1 : checkN V D Hd H L W bs ≠ 0
  · rw [if_pos h1] at h; exact absurd h h1
  · rw [if_neg h1] at h
    by_cases h2 : vwB V D L X = false
    · rw [if_pos h2] at h; omega
    · rw [if_neg h2] at h
      by_cases h3 : 127 < X.T.length
      · rw [if_pos h3] at h; omega
      · rw [if_neg h3] at h
        by_cases h4 : tokB V tok = false
        · rw [if_pos h4] at h; omega
        · exact ⟨by omega, by simpa using h2, by omega, by simpa using h4⟩
theorem feed_err (C : Cfg) (hC : C.Ok) (W : Wt) (bs : List Bk) (M : Mdl) (v : VwV) (X : Vw) (tok : Int) (B : Nat) (w : World) (hO : WOwn w B W bs M) (hl : bs.length = M.Ls.length) (hv : VwAt w v X) (hq : errN9 C.V C.D C.Hd C.H C.L W bs X tok ≠ 0) :
   Calls Tryz.prog 6 #[.agg (cfgC C.V C.D C.Hd C.H C.L), .agg W.cells, .agg v.cells, .int .i64 tok] w fun e w' => e = .returned (.tuple #[.agg noV, .slice none 0 0, .int .i64 (errN9 C.V C.D C.Hd C.H C.L W bs X tok)]) ∧ Below w.heap.size w w' := by
  unfold errN9 at *
  by_cases h1 : checkN C.V C.D C.Hd C.H C.L W bs ≠ 0
  · rw [if_pos h1]; exact feed_no C hC W bs v tok w hO.ok hO.b h1
  · rw [if_neg h1] at hq ⊢
    have h0 : checkN C.V C.D C.Hd C.H C.L W bs = 0 := by omega
    obtain ⟨hsh, -⟩ := check_shape h0
    have hkk := shape_ok hsh
    obtain ⟨CV, CD, CHd, CH, CL⟩ := C
    simp only at *
    obtain ⟨V, rfl⟩ : ∃ n : Nat, CV = n := ⟨CV.toNat, by omega⟩
    obtain ⟨D, rfl⟩ : ∃ n : Nat, CD = n := ⟨CD.toNat, by omega⟩
    obtain ⟨Hd, rfl⟩ : ∃ n : Nat, CHd = n := ⟨CHd.toNat, by omega⟩
    obtain ⟨H, rfl⟩ : ∃ n : Nat, CH = n := ⟨CH.toNat, by omega⟩
    obtain ⟨L, rfl⟩ : ∃ n : Nat, CL = n := ⟨CL.toNat, by omega⟩
    have G := own_good hO hl h0
    by_cases h2 : vwB (V : Int) (D : Int) (L : Int) X = false
    · rw [if_pos h2]; exact feed_form V D Hd H L W bs M v X tok w G hv h2
    · rw [if_neg h2] at hq ⊢
      have hf := fit_of (by simpa using h2)
      by_cases h3 : 127 < X.T.length
      · rw [if_pos h3]; exact feed_big V D Hd H L W bs M v X tok w (by have := hf.most; omega) G hv hf
      · rw [if_neg h3] at hq ⊢
        by_cases h4 : tokB (V : Int) tok = false
        · rw [if_pos h4]; exact feed_tok V D Hd H L W bs M v X tok w (by omega) h4 G hv hf
        · rw [if_neg h4] at hq; exact absurd rfl hq
end Go.Proofs.YtmdjlaileakbeaaGreatDoor
