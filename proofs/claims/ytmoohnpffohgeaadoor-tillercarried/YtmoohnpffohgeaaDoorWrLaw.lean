/- The statements' Few and Told of a message: the same numbers, at most 140 tokens in memory of their own, at most 1000 bytes. -/
import Derived.Test.YtmoohnpffohgeaaDoorWrRead
import Derived.Deep.RegionHeld
import Derived.Deep.RegionHeld3
namespace Go.Proofs.YtmoohnpffohgeaaDoor
open Go.ChangeShapes Go.WideShapes Go.ChangeAt Go.RowKit
theorem owns_mono {w w' : World} {B B' n : Nat} {e : TypeId} {v : Value} {xs : List Value} (h : w.ownsRow B e 1 v n xs) (hB : B' ≤ B) (hb : ∀ b, v.ownBlock = some b → w'.heap[b]? = w.heap[b]?) : w'.ownsRow B' e 1 v n xs := by
  obtain ⟨h1, h2⟩ := h
  refine ⟨h1, ?_⟩
  rcases h2 with h2 | ⟨g, cap, cur, hv, hg, hh, r⟩
  · exact Or.inl h2
  · exact Or.inr ⟨g, cap, cur, hv, Nat.le_trans hB hg, (hb g (by rw [hv]; rfl)).trans hh, r⟩
/-- What a message is cut to. -/
abbrev cutA (A : List Int) : List Int := A.take 140
def cutT (t : ByteArray) : ByteArray := txt (t.data.toList.take 1000)
theorem cutT_size (t : ByteArray) : (cutT t).size ≤ 1000 := by unfold cutT; rw [txt_size, List.length_take]; omega
theorem cutT_cut (t : ByteArray) : cutT (cutT t) = cutT t := by unfold cutT; rw [txt_list, List.take_take]; rfl
theorem cutT_small {t : ByteArray} (h : t.size ≤ 1000) : cutT t = t := by
  unfold cutT
  rw [List.take_of_length_le (by show t.data.toList.length ≤ 1000; exact h), txt_of]
theorem cutA_small {A : List Int} (h : A.length ≤ 140) : A.take 140 = A := List.take_of_length_le h
set_option maxRecDepth 20000 in
set_option maxHeartbeats 1000000 in
theorem fewM_any (g : Nat → Int) (ao : Option Addr) (n ca : Nat) (A : List Int) (t : ByteArray) (w : World) (hA : IArg w ao n ca A) :
   Calls Tryd.prog 5 #[msgV g (.slice ao n ca) t] w fun e w' => ∃ b c, e = .returned (msgV g (.slice (some ⟨b, 0, none⟩) (cutA A).length c) (cutT t)) ∧ IArg w' (some ⟨b, 0, none⟩) (cutA A).length c (cutA A) ∧ w.heap.size ≤ b ∧ Below w.heap.size w w' := by
  have X0 := blk_new w 30 (msgC g (.slice ao n ca) t)
  have B0 : Below w.heap.size w (w.alloc (.cells (msgC g (.slice ao n ca) t) 30)) := below_alloc _ _
  have s0 : (w.alloc (.cells (msgC g (.slice ao n ca) t) 30)).heap.size = w.heap.size + 1 := by simp
  generalize hw0 : w.alloc (.cells (msgC g (.slice ao n ca) t) 30) = w0 at *
  have X1 := blk_new w0 30 #[.int .i64 0, .int .i64 0, .int .i64 0, .int .i64 0, .int .i64 0, .int .i64 0, .int .i64 0, .int .i64 0, .int .i64 0, .int .i64 0, .slice none 0 0, .string ⟨#[]⟩]
  have B1 : Below w0.heap.size w0 (w0.alloc (.cells #[.int .i64 0, .int .i64 0, .int .i64 0, .int .i64 0, .int .i64 0, .int .i64 0, .int .i64 0, .int .i64 0, .int .i64 0, .int .i64 0, .slice none 0 0, .string ⟨#[]⟩] 30)) := below_alloc _ _
  have s1 : (w0.alloc (.cells #[.int .i64 0, .int .i64 0, .int .i64 0, .int .i64 0, .int .i64 0, .int .i64 0, .int .i64 0, .int .i64 0, .int .i64 0, .int .i64 0, .slice none 0 0, .string ⟨#[]⟩] 30)).heap.size = w0.heap.size + 1 := by simp
  generalize hw1 : w0.alloc (.cells #[.int .i64 0, .int .i64 0, .int .i64 0, .int .i64 0, .int .i64 0, .int .i64 0, .int .i64 0, .int .i64 0, .int .i64 0, .int .i64 0, .slice none 0 0, .string ⟨#[]⟩] 30) = w1 at *
  replace X0 := X0.next B1
  have D := below_then B0 B1
  have S0 : Hid (w0.heap.size = w.heap.size + 1 ∧ w1.heap.size = w.heap.size + 2) := ⟨s0, by omega⟩
  clear s0 s1 B0 B1
  have F := few8_any ao n ca A 140 w1 (hA.below D) (by omega)
  have hsm := hA.take_small 140
  have K := fun W => cut_any t 1000 W
  rw [show ((140 : Nat) : Int) = 140 from rfl] at F
  rw [show ((1000 : Nat) : Int) = 1000 from rfl, show txt (t.data.toList.take 1000) = cutT t from rfl] at K
  have c10 : w1.cell? ⟨w.heap.size, 10, none⟩ = some (.slice ao n ca) := X0.cell 10 rfl
  generalize hm : (cutA A).length = m at *
  clear hA
  go_enter Tryd.func5, Tryd.ntmps5
  go_wp2_with (first
    | (go_at_call 19; refine F.mono ?_; rintro e w2 ⟨b, c, rfl, O2, B2⟩; have X2 := X0.next B2; have Y2 := X1.next B2; have nb := (O2.lt b rfl).1; have f2 := X2.frozen 10; have d10 : w2.cell? ⟨w.heap.size, 10, none⟩ = some (.slice ao n ca) := X2.cell 10 rfl; have d11 : w2.cell? ⟨w.heap.size, 11, none⟩ = some (.string t) := X2.cell 11 rfl; have X3 : Blk (w2.setCell ⟨w.heap.size, 10, none⟩ (.slice (some ⟨b, 0, none⟩) m c)) w.heap.size 30 (msgC g (.slice (some ⟨b, 0, none⟩) m c) t) := X2.set 10 _; have f3 := X3.frozen 11; have e11 : (w2.setCell ⟨w.heap.size, 10, none⟩ (.slice (some ⟨b, 0, none⟩) m c)).cell? ⟨w.heap.size, 11, none⟩ = some (.string t) := X3.cell 11 rfl; have X4 : Blk ((w2.setCell ⟨w.heap.size, 10, none⟩ (.slice (some ⟨b, 0, none⟩) m c)).setCell ⟨w.heap.size, 11, none⟩ (.string (cutT t))) w.heap.size 30 (msgC g (.slice (some ⟨b, 0, none⟩) m c) (cutT t)) := X3.set 11 _; have Y4 : Blk ((w2.setCell ⟨w.heap.size, 10, none⟩ (.slice (some ⟨b, 0, none⟩) m c)).setCell ⟨w.heap.size, 11, none⟩ (.string (cutT t))) w0.heap.size 30 #[.int .i64 0, .int .i64 0, .int .i64 0, .int .i64 0, .int .i64 0, .int .i64 0, .int .i64 0, .int .i64 0, .int .i64 0, .int .i64 0, .slice none 0 0, .string ⟨#[]⟩] := (Y2.other (by show w0.heap.size ≠ w.heap.size; have := S0.out; omega) _).other (by show w0.heap.size ≠ w.heap.size; have := S0.out; omega) _; have on := msg_one g (some ⟨b, 0, none⟩) m c (cutT t))
    | (go_at_call 20; refine (K _).mono ?_; rintro e w3 ⟨rfl, rfl⟩)
    | (refine wpList_load_row rfl 30 _ rfl w.heap.size rfl 30 (msgC g (.slice (some ⟨b, 0, none⟩) m c) (cutT t)) (0, 0) _ X4 Tryd.underlying30 rfl Tryd.infoMsg ?_)
    | (refine wpList_store_row rfl 30 _ _ rfl w0.heap.size (msgC g (.slice (some ⟨b, 0, none⟩) m c) (cutT t)) rfl rfl 30 _ Y4 Tryd.infoMsg rfl on ?_))
  refine bodyPost_ret (results_cell_row rfl _ _ w0.heap.size 30 _ _ _ rfl (Y4.row _) Tryd.underlying30 rfl Tryd.infoMsg) rfl ?_
  have hz := S0.out
  have O3 := iown_row (iown_other (iown_other O2 (a := ⟨w.heap.size, 10, none⟩) (fun j hj => by show j ≠ w.heap.size; have := (O2.lt j hj).1; omega) (.slice (some ⟨b, 0, none⟩) m c)) (a := ⟨w.heap.size, 11, none⟩) (fun j hj => by show j ≠ w.heap.size; have := (O2.lt j hj).1; omega) (.string (cutT t))) (b := w0.heap.size) (fun j hj => by have := (O2.lt j hj).1; omega) (msgC g (.slice (some ⟨b, 0, none⟩) m c) (cutT t))
  obtain ⟨a2, c2, e2, AR⟩ := O3.arg hsm
  injection e2 with e3 e4 e5
  subst e3
  subst e5
  exact ⟨b, c, rfl, AR, by omega, below_setRow (((below_then D B2).setCell (by show w.heap.size ≤ w.heap.size; omega) _).setCell (by show w.heap.size ≤ w.heap.size; omega) _) (by omega) _⟩
theorem Tryd.infoRef : (Tryd.prog.info? 40).map (·.size) = some 12 := by kernel_rfl
set_option maxRecDepth 100000 in
set_option maxHeartbeats 1000000 in
theorem told_any (g : Nat → Int) (ao : Option Addr) (n ca : Nat) (A : List Int) (t : ByteArray) (w : World) (hA : IArg w ao n ca A) :
   Calls Tryd.prog 7 #[msgV g (.slice ao n ca) t] w fun e w' => ∃ b c, e = .returned (msgV g (.slice (some ⟨b, 0, none⟩) (cutA A).length c) (cutT t)) ∧ IArg w' (some ⟨b, 0, none⟩) (cutA A).length c (cutA A) ∧ w.heap.size ≤ b ∧ Below w.heap.size w w' := by
  have X0 := blk_new w 30 (msgC g (.slice ao n ca) t)
  have B0 : Below w.heap.size w (w.alloc (.cells (msgC g (.slice ao n ca) t) 30)) := below_alloc _ _
  have s0 : (w.alloc (.cells (msgC g (.slice ao n ca) t) 30)).heap.size = w.heap.size + 1 := by simp
  generalize hw0 : w.alloc (.cells (msgC g (.slice ao n ca) t) 30) = w0 at *
  have X1 := blk_new w0 40 #[.int .i64 0, .int .i64 0, .int .i64 0, .int .i64 0, .int .i64 0, .int .i64 0, .int .i64 0, .int .i64 0, .int .i64 0, .int .i64 0, .slice none 0 0, .string ⟨#[]⟩]
  have B1 : Below w0.heap.size w0 (w0.alloc (.cells #[.int .i64 0, .int .i64 0, .int .i64 0, .int .i64 0, .int .i64 0, .int .i64 0, .int .i64 0, .int .i64 0, .int .i64 0, .int .i64 0, .slice none 0 0, .string ⟨#[]⟩] 40)) := below_alloc _ _
  have s1 : (w0.alloc (.cells #[.int .i64 0, .int .i64 0, .int .i64 0, .int .i64 0, .int .i64 0, .int .i64 0, .int .i64 0, .int .i64 0, .int .i64 0, .int .i64 0, .slice none 0 0, .string ⟨#[]⟩] 40)).heap.size = w0.heap.size + 1 := by simp
  generalize hw1 : w0.alloc (.cells #[.int .i64 0, .int .i64 0, .int .i64 0, .int .i64 0, .int .i64 0, .int .i64 0, .int .i64 0, .int .i64 0, .int .i64 0, .int .i64 0, .slice none 0 0, .string ⟨#[]⟩] 40) = w1 at *
  replace X0 := X0.next B1
  have D := below_then B0 B1
  have S0 : Hid (w0.heap.size = w.heap.size + 1 ∧ w1.heap.size = w.heap.size + 2) := ⟨s0, by omega⟩
  clear s0 s1 B0 B1
  have HA : Hid (∀ W, Below w.heap.size w W → IArg W ao n ca A) := fun W h => hA.below h
  have hsm := hA.take_small 140
  have K := fun W => cut_any t 1000 W
  have F := fun W h => few8_any ao n ca A 140 W h (by omega)
  rw [show ((140 : Nat) : Int) = 140 from rfl] at F
  rw [show ((1000 : Nat) : Int) = 1000 from rfl, show txt (t.data.toList.take 1000) = cutT t from rfl] at K
  generalize hm : (cutA A).length = m at *
  clear hA
  go_enter Tryd.func7, Tryd.ntmps7
  go_wp2_with fail
  clear hw0 hw1
  replace X0 : Blk w1.drew w.heap.size 30 (msgC g (.slice ao n ca) t) := X0
  replace X1 : Blk w1.drew w0.heap.size 40 #[.int .i64 0, .int .i64 0, .int .i64 0, .int .i64 0, .int .i64 0, .int .i64 0, .int .i64 0, .int .i64 0, .int .i64 0, .int .i64 0, .slice none 0 0, .string ⟨#[]⟩] := X1
  replace D := D.drew
  have hz1 : Hid (w1.drew.heap.size = w.heap.size + 2) := S0.out.2
  refine wp_region_held_drew (S := fun w' => Blk w' w.heap.size 30 (msgC g (.slice ao n ca) t)) (by kernel_rfl) (X0) (fun hHeld => ?_)
  generalize hA : w1.drew = wA at *
  clear hA
  refine wpAnyH_take (i := 0) (v := (.pointer (some ⟨w.heap.size, 0, none⟩))) rfl (by kernel_rfl) (by kernel_rfl) (by kernel_rfl) (fun _ _ _ h => h) (Or.inl ⟨by rfl, ?_⟩) (by assumption) ?_
  · intro w' hSw
    go_simp
  simp only [List.getElem_toArray, List.getElem_cons_zero, Act.put, List.setIfInBounds_toArray, List.set_cons_zero, List.set_cons_succ]
  refine wpAnyH_take (i := 1) (v := (.int .i64 (g 0))) rfl (by kernel_rfl) (by kernel_rfl) (by kernel_rfl) (fun _ _ _ h => h) (Or.inl ⟨by rfl, ?_⟩) (by assumption) ?_
  · intro w' hSw
    have cc0 : w'.cell? ⟨w.heap.size, 0, none⟩ = some (.int .i64 (g 0)) := hSw.cell 0 rfl
    go_simp
  simp only [List.getElem_toArray, List.getElem_cons_succ, List.getElem_cons_zero, Act.put, List.setIfInBounds_toArray, List.set_cons_zero, List.set_cons_succ]
  refine wpAnyH_take (i := 2) (v := (.pointer (some ⟨w.heap.size, 1, none⟩))) rfl (by kernel_rfl) (by kernel_rfl) (by kernel_rfl) (fun _ _ _ h => h) (Or.inl ⟨by rfl, ?_⟩) (by assumption) ?_
  · intro w' hSw
    go_simp
  simp only [List.getElem_toArray, List.getElem_cons_succ, List.getElem_cons_zero, Act.put, List.setIfInBounds_toArray, List.set_cons_zero, List.set_cons_succ]
  refine wpAnyH_take (i := 3) (v := (.int .i64 (g 1))) rfl (by kernel_rfl) (by kernel_rfl) (by kernel_rfl) (fun _ _ _ h => h) (Or.inl ⟨by rfl, ?_⟩) (by assumption) ?_
  · intro w' hSw
    have cc1 : w'.cell? ⟨w.heap.size, 1, none⟩ = some (.int .i64 (g 1)) := hSw.cell 1 rfl
    go_simp
  simp only [List.getElem_toArray, List.getElem_cons_succ, List.getElem_cons_zero, Act.put, List.setIfInBounds_toArray, List.set_cons_zero, List.set_cons_succ]
  refine wpAnyH_take (i := 4) (v := (.pointer (some ⟨w.heap.size, 2, none⟩))) rfl (by kernel_rfl) (by kernel_rfl) (by kernel_rfl) (fun _ _ _ h => h) (Or.inl ⟨by rfl, ?_⟩) (by assumption) ?_
  · intro w' hSw
    go_simp
  simp only [List.getElem_toArray, List.getElem_cons_succ, List.getElem_cons_zero, Act.put, List.setIfInBounds_toArray, List.set_cons_zero, List.set_cons_succ]
  refine wpAnyH_take (i := 5) (v := (.int .i64 (g 2))) rfl (by kernel_rfl) (by kernel_rfl) (by kernel_rfl) (fun _ _ _ h => h) (Or.inl ⟨by rfl, ?_⟩) (by assumption) ?_
  · intro w' hSw
    have cc2 : w'.cell? ⟨w.heap.size, 2, none⟩ = some (.int .i64 (g 2)) := hSw.cell 2 rfl
    go_simp
  simp only [List.getElem_toArray, List.getElem_cons_succ, List.getElem_cons_zero, Act.put, List.setIfInBounds_toArray, List.set_cons_zero, List.set_cons_succ]
  refine wpAnyH_take (i := 6) (v := (.pointer (some ⟨w.heap.size, 3, none⟩))) rfl (by kernel_rfl) (by kernel_rfl) (by kernel_rfl) (fun _ _ _ h => h) (Or.inl ⟨by rfl, ?_⟩) (by assumption) ?_
  · intro w' hSw
    go_simp
  simp only [List.getElem_toArray, List.getElem_cons_succ, List.getElem_cons_zero, Act.put, List.setIfInBounds_toArray, List.set_cons_zero, List.set_cons_succ]
  refine wpAnyH_take (i := 7) (v := (.int .i64 (g 3))) rfl (by kernel_rfl) (by kernel_rfl) (by kernel_rfl) (fun _ _ _ h => h) (Or.inl ⟨by rfl, ?_⟩) (by assumption) ?_
  · intro w' hSw
    have cc3 : w'.cell? ⟨w.heap.size, 3, none⟩ = some (.int .i64 (g 3)) := hSw.cell 3 rfl
    go_simp
  simp only [List.getElem_toArray, List.getElem_cons_succ, List.getElem_cons_zero, Act.put, List.setIfInBounds_toArray, List.set_cons_zero, List.set_cons_succ]
  refine wpAnyH_take (i := 8) (v := (.pointer (some ⟨w.heap.size, 4, none⟩))) rfl (by kernel_rfl) (by kernel_rfl) (by kernel_rfl) (fun _ _ _ h => h) (Or.inl ⟨by rfl, ?_⟩) (by assumption) ?_
  · intro w' hSw
    go_simp
  simp only [List.getElem_toArray, List.getElem_cons_succ, List.getElem_cons_zero, Act.put, List.setIfInBounds_toArray, List.set_cons_zero, List.set_cons_succ]
  refine wpAnyH_take (i := 9) (v := (.int .i64 (g 4))) rfl (by kernel_rfl) (by kernel_rfl) (by kernel_rfl) (fun _ _ _ h => h) (Or.inl ⟨by rfl, ?_⟩) (by assumption) ?_
  · intro w' hSw
    have cc4 : w'.cell? ⟨w.heap.size, 4, none⟩ = some (.int .i64 (g 4)) := hSw.cell 4 rfl
    go_simp
  simp only [List.getElem_toArray, List.getElem_cons_succ, List.getElem_cons_zero, Act.put, List.setIfInBounds_toArray, List.set_cons_zero, List.set_cons_succ]
  refine wpAnyH_take (i := 10) (v := (.pointer (some ⟨w.heap.size, 5, none⟩))) rfl (by kernel_rfl) (by kernel_rfl) (by kernel_rfl) (fun _ _ _ h => h) (Or.inl ⟨by rfl, ?_⟩) (by assumption) ?_
  · intro w' hSw
    go_simp
  simp only [List.getElem_toArray, List.getElem_cons_succ, List.getElem_cons_zero, Act.put, List.setIfInBounds_toArray, List.set_cons_zero, List.set_cons_succ]
  refine wpAnyH_take (i := 11) (v := (.int .i64 (g 5))) rfl (by kernel_rfl) (by kernel_rfl) (by kernel_rfl) (fun _ _ _ h => h) (Or.inl ⟨by rfl, ?_⟩) (by assumption) ?_
  · intro w' hSw
    have cc5 : w'.cell? ⟨w.heap.size, 5, none⟩ = some (.int .i64 (g 5)) := hSw.cell 5 rfl
    go_simp
  simp only [List.getElem_toArray, List.getElem_cons_succ, List.getElem_cons_zero, Act.put, List.setIfInBounds_toArray, List.set_cons_zero, List.set_cons_succ]
  refine wpAnyH_take (i := 12) (v := (.pointer (some ⟨w.heap.size, 6, none⟩))) rfl (by kernel_rfl) (by kernel_rfl) (by kernel_rfl) (fun _ _ _ h => h) (Or.inl ⟨by rfl, ?_⟩) (by assumption) ?_
  · intro w' hSw
    go_simp
  simp only [List.getElem_toArray, List.getElem_cons_succ, List.getElem_cons_zero, Act.put, List.setIfInBounds_toArray, List.set_cons_zero, List.set_cons_succ]
  refine wpAnyH_take (i := 13) (v := (.int .i64 (g 6))) rfl (by kernel_rfl) (by kernel_rfl) (by kernel_rfl) (fun _ _ _ h => h) (Or.inl ⟨by rfl, ?_⟩) (by assumption) ?_
  · intro w' hSw
    have cc6 : w'.cell? ⟨w.heap.size, 6, none⟩ = some (.int .i64 (g 6)) := hSw.cell 6 rfl
    go_simp
  simp only [List.getElem_toArray, List.getElem_cons_succ, List.getElem_cons_zero, Act.put, List.setIfInBounds_toArray, List.set_cons_zero, List.set_cons_succ]
  refine wpAnyH_take (i := 14) (v := (.pointer (some ⟨w.heap.size, 7, none⟩))) rfl (by kernel_rfl) (by kernel_rfl) (by kernel_rfl) (fun _ _ _ h => h) (Or.inl ⟨by rfl, ?_⟩) (by assumption) ?_
  · intro w' hSw
    go_simp
  simp only [List.getElem_toArray, List.getElem_cons_succ, List.getElem_cons_zero, Act.put, List.setIfInBounds_toArray, List.set_cons_zero, List.set_cons_succ]
  refine wpAnyH_take (i := 15) (v := (.int .i64 (g 7))) rfl (by kernel_rfl) (by kernel_rfl) (by kernel_rfl) (fun _ _ _ h => h) (Or.inl ⟨by rfl, ?_⟩) (by assumption) ?_
  · intro w' hSw
    have cc7 : w'.cell? ⟨w.heap.size, 7, none⟩ = some (.int .i64 (g 7)) := hSw.cell 7 rfl
    go_simp
  simp only [List.getElem_toArray, List.getElem_cons_succ, List.getElem_cons_zero, Act.put, List.setIfInBounds_toArray, List.set_cons_zero, List.set_cons_succ]
  refine wpAnyH_take (i := 16) (v := (.pointer (some ⟨w.heap.size, 8, none⟩))) rfl (by kernel_rfl) (by kernel_rfl) (by kernel_rfl) (fun _ _ _ h => h) (Or.inl ⟨by rfl, ?_⟩) (by assumption) ?_
  · intro w' hSw
    go_simp
  simp only [List.getElem_toArray, List.getElem_cons_succ, List.getElem_cons_zero, Act.put, List.setIfInBounds_toArray, List.set_cons_zero, List.set_cons_succ]
  refine wpAnyH_take (i := 17) (v := (.int .i64 (g 8))) rfl (by kernel_rfl) (by kernel_rfl) (by kernel_rfl) (fun _ _ _ h => h) (Or.inl ⟨by rfl, ?_⟩) (by assumption) ?_
  · intro w' hSw
    have cc8 : w'.cell? ⟨w.heap.size, 8, none⟩ = some (.int .i64 (g 8)) := hSw.cell 8 rfl
    go_simp
  simp only [List.getElem_toArray, List.getElem_cons_succ, List.getElem_cons_zero, Act.put, List.setIfInBounds_toArray, List.set_cons_zero, List.set_cons_succ]
  refine wpAnyH_take (i := 18) (v := (.pointer (some ⟨w.heap.size, 9, none⟩))) rfl (by kernel_rfl) (by kernel_rfl) (by kernel_rfl) (fun _ _ _ h => h) (Or.inl ⟨by rfl, ?_⟩) (by assumption) ?_
  · intro w' hSw
    go_simp
  simp only [List.getElem_toArray, List.getElem_cons_succ, List.getElem_cons_zero, Act.put, List.setIfInBounds_toArray, List.set_cons_zero, List.set_cons_succ]
  refine wpAnyH_take (i := 19) (v := (.int .i64 (g 9))) rfl (by kernel_rfl) (by kernel_rfl) (by kernel_rfl) (fun _ _ _ h => h) (Or.inl ⟨by rfl, ?_⟩) (by assumption) ?_
  · intro w' hSw
    have cc9 : w'.cell? ⟨w.heap.size, 9, none⟩ = some (.int .i64 (g 9)) := hSw.cell 9 rfl
    go_simp
  simp only [List.getElem_toArray, List.getElem_cons_succ, List.getElem_cons_zero, Act.put, List.setIfInBounds_toArray, List.set_cons_zero, List.set_cons_succ]
  refine wpAnyH_take (i := 20) (v := (.agg #[.int .i64 (g 0), .int .i64 (g 1), .int .i64 (g 2), .int .i64 (g 3), .int .i64 (g 4), .int .i64 (g 5), .int .i64 (g 6), .int .i64 (g 7), .int .i64 (g 8), .int .i64 (g 9)])) rfl (by kernel_rfl) (by kernel_rfl) (by kernel_rfl) (fun _ _ _ h => h) (Or.inl ⟨by rfl, ?_⟩) (by assumption) ?_
  · intro w' hSw
    go_simp
  simp only [List.getElem_toArray, List.getElem_cons_succ, List.getElem_cons_zero, Act.put, List.setIfInBounds_toArray, List.set_cons_zero, List.set_cons_succ]
  refine wpAnyH_take (i := 21) (v := (.pointer (some ⟨w.heap.size, 10, none⟩))) rfl (by kernel_rfl) (by kernel_rfl) (by kernel_rfl) (fun _ _ _ h => h) (Or.inl ⟨by rfl, ?_⟩) (by assumption) ?_
  · intro w' hSw
    go_simp
  simp only [List.getElem_toArray, List.getElem_cons_succ, List.getElem_cons_zero, Act.put, List.setIfInBounds_toArray, List.set_cons_zero, List.set_cons_succ]
  refine wpAnyH_take (i := 22) (v := (.slice ao n ca)) rfl (by kernel_rfl) (by kernel_rfl) (by kernel_rfl) (fun _ _ _ h => h) (Or.inl ⟨by rfl, ?_⟩) (by assumption) ?_
  · intro w' hSw
    have cc10 : w'.cell? ⟨w.heap.size, 10, none⟩ = some (.slice ao n ca) := hSw.cell 10 rfl
    go_simp
  simp only [List.getElem_toArray, List.getElem_cons_succ, List.getElem_cons_zero, Act.put, List.setIfInBounds_toArray, List.set_cons_zero, List.set_cons_succ]
  refine wpAnyH_take (i := 24) (v := (.pointer (some ⟨w.heap.size, 11, none⟩))) rfl (by kernel_rfl) (by kernel_rfl) (by kernel_rfl) (fun _ _ _ h => h) (Or.inl ⟨by rfl, ?_⟩) (by assumption) ?_
  · intro w' hSw
    go_simp
  simp only [List.getElem_toArray, List.getElem_cons_succ, List.getElem_cons_zero, Act.put, List.setIfInBounds_toArray, List.set_cons_zero, List.set_cons_succ]
  refine wpAnyH_take (i := 25) (v := (.string t)) rfl (by kernel_rfl) (by kernel_rfl) (by kernel_rfl) (fun _ _ _ h => h) (Or.inl ⟨by rfl, ?_⟩) (by assumption) ?_
  · intro w' hSw
    have cc11 : w'.cell? ⟨w.heap.size, 11, none⟩ = some (.string t) := hSw.cell 11 rfl
    go_simp
  simp only [List.getElem_toArray, List.getElem_cons_succ, List.getElem_cons_zero, Act.put, List.setIfInBounds_toArray, List.set_cons_zero, List.set_cons_succ]
  refine wpAnyH_ready (rs := [23]) (by kernel_rfl) (by simp) ?_
  refine AllReadyH.cons rfl (fun Kc hKc => ?_) AllReadyH.nil
  simp only [List.getElem_toArray, List.getElem_cons_succ, List.getElem_cons_zero]
  rw [if_pos (by rfl)]
  go_wp2_with fail
  refine (F _ (HA.out _ D)).mono ?_
  rintro e w2 ⟨b, c, rfl, O2, B2⟩
  have nb := (O2.lt b rfl).1
  replace X0 := X0.next B2
  replace X1 := X1.next B2
  replace D := below_then D B2
  go_wp2_with fail
  refine hKc.out _ _ (X0) (fun hHeld => ?_)
  clear hKc Kc
  refine wpAnyH_ready (rs := [26]) (by kernel_rfl) (by simp) ?_
  refine AllReadyH.cons rfl (fun Kc hKc => ?_) AllReadyH.nil
  simp only [List.getElem_toArray, List.getElem_cons_succ, List.getElem_cons_zero]
  rw [if_pos (by rfl)]
  go_wp2_with fail
  refine (K _).mono ?_
  rintro e w3 ⟨rfl, rfl⟩
  go_wp2_with fail
  refine hKc.out _ _ (X0) (fun hHeld => ?_)
  clear hKc Kc
  refine wpAnyH_take (i := 27) (v := (.agg (msgC g (.slice (some ⟨b, 0, none⟩) m c) (cutT t)))) rfl (by kernel_rfl) (by kernel_rfl) (by kernel_rfl) (fun _ _ _ h => h) (Or.inl ⟨by rfl, ?_⟩) (by assumption) ?_
  · intro w' hSw
    go_simp
  simp only [List.getElem_toArray, List.getElem_cons_succ, List.getElem_cons_zero, Act.put, List.setIfInBounds_toArray, List.set_cons_zero, List.set_cons_succ]
  refine wpAnyH_ready (rs := [28]) (by kernel_rfl) (by simp) ?_
  refine AllReadyH.cons rfl (fun Kc hKc => ?_) AllReadyH.nil
  simp only [List.getElem_toArray, List.getElem_cons_succ, List.getElem_cons_zero]
  rw [if_pos (by rfl)]
  have hall := msg_one g (some ⟨b, 0, none⟩) m c (cutT t)
  refine wp_store_row 40 _ _ rfl w0.heap.size (msgC g (.slice (some ⟨b, 0, none⟩) m c) (cutT t)) rfl rfl 40 _ X1 Tryd.infoRef rfl hall ?_
  refine hKc.out _ _ (Blk.of_block X0 (setRow_other _ _ _ _ (by have := S0.out; omega))) (fun hHeld => ?_)
  clear hKc Kc
  refine wpAnyH_done (by kernel_rfl) ?_ _
  clear hHeld
  go_wp2
  refine bodyPost_ret (results_cell_row rfl _ _ w0.heap.size 40 _ _ _ rfl (X1.row _) Tryd.underlying40 rfl Tryd.infoRef) rfl ?_
  have hz := S0.out
  have hy := hz1.out
  have O3 := iown_row O2 (b := w0.heap.size) (fun j hj => by have := (O2.lt j hj).1; omega) (msgC g (.slice (some ⟨b, 0, none⟩) m c) (cutT t))
  obtain ⟨a2, c2, e2, AR⟩ := O3.arg hsm
  injection e2 with e3 e4 e5
  subst e3
  subst e5
  exact ⟨b, c, rfl, AR, by omega, below_setRow D (by omega) _⟩
end Go.Proofs.YtmoohnpffohgeaaDoor
