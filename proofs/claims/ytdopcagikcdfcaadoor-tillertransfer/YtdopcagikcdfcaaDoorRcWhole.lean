/- recv's Begin and Whole. -/
import Derived.Test.YtdopcagikcdfcaaDoorRcTake2
import Derived.Test.YtdopcagikcdfcaaDoorSdMath
namespace Go.Proofs.YtdopcagikcdfcaaDoor
open Go.ChangeShapes Go.WideShapes Go.ChangeAt Go.RowKit
theorem set3r_blk {W : World} {b : Nat} {T : TypeId} {x y z : Value} (h : Blk W b T #[x, y, z]) (x' y' z' : Value) : Blk (((W.setCell ⟨b, 0, none⟩ x').setCell ⟨b, 1, none⟩ y').setCell ⟨b, 2, none⟩ z') b T #[x', y', z'] := ((h.set 0 x').set 1 y').set 2 z'
theorem set3r_other (W : World) (b g : Nat) (x y z : Value) (h : g ≠ b) : (((W.setCell ⟨b, 0, none⟩ x).setCell ⟨b, 1, none⟩ y).setCell ⟨b, 2, none⟩ z).heap[g]? = W.heap[g]? := by
  rw [Below.heap_setCell _ _ _ _ (show g ≠ b from h), Below.heap_setCell _ _ _ _ (show g ≠ b from h), Below.heap_setCell _ _ _ _ (show g ≠ b from h)]
theorem vown_madeS (w : World) (n : Nat) (h : n ≤ 140737488355328) : VOwn (w.alloc (.cells (madeCells #[.string ⟨#[]⟩] n) 9)) w.heap.size 9 (.slice (some ⟨w.heap.size, 0, none⟩) n n) n (strs (List.replicate n ⟨#[]⟩)) := by
  have h1 := World.ownsRow_lit (base := w.heap.size) (e := 9) (size := 1) w (madeCells #[.string ⟨#[]⟩] n) n (Nat.le_refl _) (by unfold maxLen; omega) (by simp [madeCells])
  rw [toList_madeCells_one] at h1
  have e : strs (List.replicate n ⟨#[]⟩) = List.replicate n (.string ⟨#[]⟩) := by simp [strs]
  unfold VOwn
  rw [e]
  exact h1
set_option maxHeartbeats 4000000 in
theorem rbegin_bad (num I : Int) (w : World) (h : I < 1 ∨ 512 < I) :
   Calls Tryd.prog 7 #[.int .i64 num, .int .i64 I] w fun e w' => e = .returned (.tuple #[stV 0 (.slice none 0 0) (.slice none 0 0), .int .i64 (if I < 1 then 1 else 2)]) ∧ Below w.heap.size w w' := by
  have X0 := blk_new w 33 #[.int .i64 0, .slice none 0 0, .slice none 0 0]
  have B0 := belowA w (.cells #[.int .i64 0, .slice none 0 0, .slice none 0 0] 33)
  generalize hw0 : w.alloc (.cells #[.int .i64 0, .slice none 0 0, .slice none 0 0] 33) = w0 at *
  unfold stV
  by_cases d1 : I < 1
  · rw [if_pos d1]
    clear h
    go_enter Tryd.func7, Tryd.ntmps7
    go_wp2_with (refine wpList_store_row rfl 33 _ _ rfl w.heap.size _ rfl rfl 33 _ X0 Tryd.infoRs rfl (stall _ _ _ _ _ _ _) ?_)
    refine bodyPost_ret (results_s2 rfl _ _ w.heap.size _ rfl (load_rs (X0.row _))) rfl ?_
    exact ⟨rfl, belowR B0 (Nat.le_refl _) _⟩
  · rw [if_neg d1]
    have d2 : 512 < I := by omega
    clear h
    go_enter Tryd.func7, Tryd.ntmps7
    go_wp2_with (refine wpList_store_row rfl 33 _ _ rfl w.heap.size _ rfl rfl 33 _ X0 Tryd.infoRs rfl (stall _ _ _ _ _ _ _) ?_)
    refine bodyPost_ret (results_s2 rfl _ _ w.heap.size _ rfl (load_rs (X0.row _))) rfl ?_
    exact ⟨rfl, belowR B0 (Nat.le_refl _) _⟩
set_option maxRecDepth 100000 in
set_option maxHeartbeats 8000000 in
theorem rbegin_ok (num : Int) (n : Nat) (w : World) (h1 : 1 ≤ n) (h2 : n ≤ 512) :
   Calls Tryd.prog 7 #[.int .i64 num, .int .i64 (n : Int)] w fun e w' => ∃ a c a2 c2, e = .returned (.tuple #[stV num (.slice a n c) (.slice a2 n c2), .int .i64 0]) ∧ VOwn w' w.heap.size 9 (.slice a n c) n (strs (List.replicate n ⟨#[]⟩)) ∧ VOwn w' w.heap.size 4 (.slice a2 n c2) n (bools (List.replicate n false)) ∧ Below w.heap.size w w' := by
  have X0 := blk_new w 33 #[.int .i64 0, .slice none 0 0, .slice none 0 0]
  have B0 := belowA w (.cells #[.int .i64 0, .slice none 0 0, .slice none 0 0] 33)
  have s0 : (w.alloc (.cells #[.int .i64 0, .slice none 0 0, .slice none 0 0] 33)).heap.size = w.heap.size + 1 := by simp
  generalize hw0 : w.alloc (.cells #[.int .i64 0, .slice none 0 0, .slice none 0 0] 33) = w0 at *
  have m1 := fun W => run_make_row' (P := Tryd.prog) 28 4 (.bool false) 1 Tryd.underlying28 Tryd.infoBool rfl .i64 .i64 n (by omega) (by omega) W
  have m2 := fun W => run_make_row' (P := Tryd.prog) 23 9 (.string ⟨#[]⟩) 16 Tryd.underlying23 Tryd.infoStr rfl .i64 .i64 n (by omega) (by omega) W
  have d1 : ¬ (n : Int) < 1 := by omega
  have d2 : ¬ (512 : Int) < (n : Int) := by omega
  have d9 : True := trivial
  unfold stV
  clear d9
  go_enter Tryd.func7, Tryd.ntmps7
  go_upto_region 5 with fail
  refine wp_region_held_drew (S := fun _ => True) (by kernel_rfl) (trivial) (fun hHeld => ?_)
  have XD : Blk w0.drew w.heap.size 33 #[.int .i64 0, .slice none 0 0, .slice none 0 0] := X0
  have BD : Below w.heap.size w w0.drew := B0.drew
  have sd : w.heap.size + 1 ≤ w0.drew.heap.size := Nat.le_of_eq s0.symm
  generalize hwd : w0.drew = wd at *
  refine wpAnyH_take (i := 0) (v := (.int .i64 num)) rfl (by kernel_rfl) (by kernel_rfl) (by kernel_rfl) (fun _ _ _ h => h) (Or.inl ⟨by rfl, ?_⟩) (by assumption) ?_
  · intro w' hSw
    go_simp
  simp only [List.getElem_toArray, List.getElem_cons_zero, Act.put, List.setIfInBounds_toArray, List.set_cons_zero, List.set_cons_succ]
  refine wpAnyH_take (i := 1) (v := (.int .i64 (n : Int))) rfl (by kernel_rfl) (by kernel_rfl) (by kernel_rfl) (fun _ _ _ h => h) (Or.inl ⟨by rfl, ?_⟩) (by assumption) ?_
  · intro w' hSw
    go_simp
  simp only [List.getElem_toArray, List.getElem_cons_succ, List.getElem_cons_zero, Act.put, List.setIfInBounds_toArray, List.set_cons_zero, List.set_cons_succ]
  refine wpAnyH_take (i := 3) (v := (.int .i64 (n : Int))) rfl (by kernel_rfl) (by kernel_rfl) (by kernel_rfl) (fun _ _ _ h => h) (Or.inl ⟨by rfl, ?_⟩) (by assumption) ?_
  · intro w' hSw
    go_simp
  simp only [List.getElem_toArray, List.getElem_cons_succ, List.getElem_cons_zero, Act.put, List.setIfInBounds_toArray, List.set_cons_zero, List.set_cons_succ]
  refine wpAnyH_ready (rs := [2, 4]) (by kernel_rfl) (by simp) ?_
  refine AllReadyH.cons rfl (fun Kc hKc => ?_) (AllReadyH.cons rfl (fun Kc hKc => ?_) AllReadyH.nil)
  · have Oa := vown_madeS wd n (by omega)
    have Xa := XD.below (belowA wd (.cells (madeCells #[.string ⟨#[]⟩] n) 9))
    have Ba := below_then BD (belowA wd (.cells (madeCells #[.string ⟨#[]⟩] n) 9))
    have sa : wd.heap.size ≤ (wd.alloc (.cells (madeCells #[.string ⟨#[]⟩] n) 9)).heap.size := by simp
    generalize hwa : wd.alloc (.cells (madeCells #[.string ⟨#[]⟩] n) 9) = wa at *
    simp only [List.getElem_toArray, List.getElem_cons_succ, List.getElem_cons_zero]
    rw [if_pos (by rfl)]
    go_wp2_with fail
    refine hKc.out _ _ (trivial) (fun hHeld => ?_)
    clear hKc Kc
    have Ob := vown_made wa n (by omega)
    have Xb := Xa.below (belowA wa (.cells (madeCells #[.bool false] n) 4))
    have Bb := below_then Ba (belowA wa (.cells (madeCells #[.bool false] n) 4))
    have sb : wa.heap.size ≤ (wa.alloc (.cells (madeCells #[.bool false] n) 4)).heap.size := by simp
    have Oc := VOwn.below Oa (belowA wa (.cells (madeCells #[.bool false] n) 4))
    generalize hwb : wa.alloc (.cells (madeCells #[.bool false] n) 4) = wb at *
    refine wpAnyH_ready (rs := [4]) (by kernel_rfl) (by simp) ?_
    refine AllReadyH.cons rfl (fun Kc hKc => ?_) AllReadyH.nil
    simp only [List.getElem_toArray, List.getElem_cons_succ, List.getElem_cons_zero]
    rw [if_pos (by rfl)]
    go_wp2_with fail
    refine hKc.out _ _ (trivial) (fun hHeld => ?_)
    clear hKc Kc
    refine wpAnyH_take (i := 5) (v := (.agg #[.int .i64 num, .slice (some ⟨wd.heap.size, 0, none⟩) n n, .slice (some ⟨wa.heap.size, 0, none⟩) n n])) rfl (by kernel_rfl) (by kernel_rfl) (by kernel_rfl) (fun _ _ _ h => h) (Or.inl ⟨by rfl, ?_⟩) (by assumption) ?_
    · intro w' hSw
      go_simp
    simp only [List.getElem_toArray, List.getElem_cons_succ, List.getElem_cons_zero, Act.put, List.setIfInBounds_toArray, List.set_cons_zero, List.set_cons_succ]
    have i0 : wb.cell? ⟨w.heap.size, 0, none⟩ = some (.int .i64 0) := Xb.cell 0 rfl
    have i1 : wb.cell? ⟨w.heap.size, 1, none⟩ = some (.slice none 0 0) := Xb.cell 1 rfl
    have i2 : wb.cell? ⟨w.heap.size, 2, none⟩ = some (.slice none 0 0) := Xb.cell 2 rfl
    have f0 := Xb.frozen 0
    have f1 := Xb.frozen 1
    have f2 := Xb.frozen 2
    have Q8 := set3r_blk Xb (.int .i64 num) (.slice (some ⟨wd.heap.size, 0, none⟩) n n) (.slice (some ⟨wa.heap.size, 0, none⟩) n n)
    have o8 := fun g hg => set3r_other wb w.heap.size g (.int .i64 num) (.slice (some ⟨wd.heap.size, 0, none⟩) n n) (.slice (some ⟨wa.heap.size, 0, none⟩) n n) hg
    have B8 := belowS (belowS (belowS Bb (a := ⟨w.heap.size, 0, none⟩) (Nat.le_refl _) (.int .i64 num)) (a := ⟨w.heap.size, 1, none⟩) (Nat.le_refl _) (.slice (some ⟨wd.heap.size, 0, none⟩) n n)) (a := ⟨w.heap.size, 2, none⟩) (Nat.le_refl _) (.slice (some ⟨wa.heap.size, 0, none⟩) n n)
    refine wpAnyH_ready (rs := [6]) (by kernel_rfl) (by simp) ?_
    refine AllReadyH.cons rfl (fun Kc hKc => ?_) AllReadyH.nil
    simp only [List.getElem_toArray, List.getElem_cons_succ, List.getElem_cons_zero]
    rw [if_pos (by rfl)]
    go_wp2_with fail
    refine hKc.out _ _ (trivial) (fun hHeld => ?_)
    clear hKc Kc
    refine wpAnyH_take (i := 7) (v := (.int .i64 0)) rfl (by kernel_rfl) (by kernel_rfl) (by kernel_rfl) (fun _ _ _ h => h) (Or.inl ⟨by rfl, ?_⟩) (by assumption) ?_
    · intro w' hSw
      go_simp
    simp only [List.getElem_toArray, List.getElem_cons_succ, List.getElem_cons_zero, Act.put, List.setIfInBounds_toArray, List.set_cons_zero, List.set_cons_succ]
    refine wpAnyH_done (by kernel_rfl) ?_ _
    go_wp2_with fail
    refine bodyPost_ret (results_s2 rfl _ _ w.heap.size _ rfl (load_rs Q8)) rfl ?_
    exact ⟨_, _, _, _, rfl, (Oc.of_block (fun g _ hg _ => o8 g (by omega))).base (by omega), (Ob.of_block (fun g _ hg _ => o8 g (by omega))).base (by omega), B8⟩
  · have Oa := vown_made wd n (by omega)
    have Xa := XD.below (belowA wd (.cells (madeCells #[.bool false] n) 4))
    have Ba := below_then BD (belowA wd (.cells (madeCells #[.bool false] n) 4))
    have sa : wd.heap.size ≤ (wd.alloc (.cells (madeCells #[.bool false] n) 4)).heap.size := by simp
    generalize hwa : wd.alloc (.cells (madeCells #[.bool false] n) 4) = wa at *
    simp only [List.getElem_toArray, List.getElem_cons_succ, List.getElem_cons_zero]
    rw [if_pos (by rfl)]
    go_wp2_with fail
    refine hKc.out _ _ (trivial) (fun hHeld => ?_)
    clear hKc Kc
    have Ob := vown_madeS wa n (by omega)
    have Xb := Xa.below (belowA wa (.cells (madeCells #[.string ⟨#[]⟩] n) 9))
    have Bb := below_then Ba (belowA wa (.cells (madeCells #[.string ⟨#[]⟩] n) 9))
    have sb : wa.heap.size ≤ (wa.alloc (.cells (madeCells #[.string ⟨#[]⟩] n) 9)).heap.size := by simp
    have Oc := VOwn.below Oa (belowA wa (.cells (madeCells #[.string ⟨#[]⟩] n) 9))
    generalize hwb : wa.alloc (.cells (madeCells #[.string ⟨#[]⟩] n) 9) = wb at *
    refine wpAnyH_ready (rs := [2]) (by kernel_rfl) (by simp) ?_
    refine AllReadyH.cons rfl (fun Kc hKc => ?_) AllReadyH.nil
    simp only [List.getElem_toArray, List.getElem_cons_succ, List.getElem_cons_zero]
    rw [if_pos (by rfl)]
    go_wp2_with fail
    refine hKc.out _ _ (trivial) (fun hHeld => ?_)
    clear hKc Kc
    refine wpAnyH_take (i := 5) (v := (.agg #[.int .i64 num, .slice (some ⟨wa.heap.size, 0, none⟩) n n, .slice (some ⟨wd.heap.size, 0, none⟩) n n])) rfl (by kernel_rfl) (by kernel_rfl) (by kernel_rfl) (fun _ _ _ h => h) (Or.inl ⟨by rfl, ?_⟩) (by assumption) ?_
    · intro w' hSw
      go_simp
    simp only [List.getElem_toArray, List.getElem_cons_succ, List.getElem_cons_zero, Act.put, List.setIfInBounds_toArray, List.set_cons_zero, List.set_cons_succ]
    have i0 : wb.cell? ⟨w.heap.size, 0, none⟩ = some (.int .i64 0) := Xb.cell 0 rfl
    have i1 : wb.cell? ⟨w.heap.size, 1, none⟩ = some (.slice none 0 0) := Xb.cell 1 rfl
    have i2 : wb.cell? ⟨w.heap.size, 2, none⟩ = some (.slice none 0 0) := Xb.cell 2 rfl
    have f0 := Xb.frozen 0
    have f1 := Xb.frozen 1
    have f2 := Xb.frozen 2
    have Q8 := set3r_blk Xb (.int .i64 num) (.slice (some ⟨wa.heap.size, 0, none⟩) n n) (.slice (some ⟨wd.heap.size, 0, none⟩) n n)
    have o8 := fun g hg => set3r_other wb w.heap.size g (.int .i64 num) (.slice (some ⟨wa.heap.size, 0, none⟩) n n) (.slice (some ⟨wd.heap.size, 0, none⟩) n n) hg
    have B8 := belowS (belowS (belowS Bb (a := ⟨w.heap.size, 0, none⟩) (Nat.le_refl _) (.int .i64 num)) (a := ⟨w.heap.size, 1, none⟩) (Nat.le_refl _) (.slice (some ⟨wa.heap.size, 0, none⟩) n n)) (a := ⟨w.heap.size, 2, none⟩) (Nat.le_refl _) (.slice (some ⟨wd.heap.size, 0, none⟩) n n)
    refine wpAnyH_ready (rs := [6]) (by kernel_rfl) (by simp) ?_
    refine AllReadyH.cons rfl (fun Kc hKc => ?_) AllReadyH.nil
    simp only [List.getElem_toArray, List.getElem_cons_succ, List.getElem_cons_zero]
    rw [if_pos (by rfl)]
    go_wp2_with fail
    refine hKc.out _ _ (trivial) (fun hHeld => ?_)
    clear hKc Kc
    refine wpAnyH_take (i := 7) (v := (.int .i64 0)) rfl (by kernel_rfl) (by kernel_rfl) (by kernel_rfl) (fun _ _ _ h => h) (Or.inl ⟨by rfl, ?_⟩) (by assumption) ?_
    · intro w' hSw
      go_simp
    simp only [List.getElem_toArray, List.getElem_cons_succ, List.getElem_cons_zero, Act.put, List.setIfInBounds_toArray, List.set_cons_zero, List.set_cons_succ]
    refine wpAnyH_done (by kernel_rfl) ?_ _
    go_wp2_with fail
    refine bodyPost_ret (results_s2 rfl _ _ w.heap.size _ rfl (load_rs Q8)) rfl ?_
    exact ⟨_, _, _, _, rfl, (Ob.of_block (fun g _ hg _ => o8 g (by omega))).base (by omega), (Oc.of_block (fun g _ hg _ => o8 g (by omega))).base (by omega), B8⟩
/-- All texts, one behind the other. -/
def catS (S : List ByteArray) : List UInt8 := (S.map (fun s => s.data.toList)).flatten
theorem catS_snoc (S : List ByteArray) (t : Nat) (h : t < S.length) : catS (S.take (t + 1)) = catS (S.take t) ++ (se S t).data.toList := by
  unfold catS se
  rw [List.take_succ_eq_append_getElem h, List.map_append, List.flatten_append]
  simp [List.getD_eq_getElem?_getD, List.getElem?_eq_getElem h]
theorem catS_le (S : List ByteArray) (t : Nat) : (catS (S.take t)).length ≤ (catS S).length := by
  have h : catS (S.take t) ++ catS (S.drop t) = catS S := by
    unfold catS
    rw [← List.flatten_append, ← List.map_append, List.take_append_drop]
  have := congrArg List.length h
  rw [List.length_append] at this
  omega
set_option maxHeartbeats 8000000 in
theorem whole_no (num : Int) (ap ac : Option Addr) (n cp m cc : Nat) (C : List Bool) (w : World) (hC : VArg w ac m cc (bools C)) (hn : n ≤ 8796093022208) (h : ¬ (0 < n ∧ m = n) ∨ 0 < (leftL C n).length) :
   Calls Tryd.prog 14 #[stV num (.slice ap n cp) (.slice ac m cc)] w fun e w' => e = .returned (.tuple #[.string ⟨#[]⟩, .bool false]) ∧ Below w.heap.size w w' := by
  have X0 := blk_new w 33 #[.int .i64 num, .slice ap n cp, .slice ac m cc]
  have B0 := belowA w (.cells #[.int .i64 num, .slice ap n cp, .slice ac m cc] 33)
  unfold stV
  generalize hw0 : w.alloc (.cells #[.int .i64 num, .slice ap n cp, .slice ac m cc] 33) = w0 at *
  have RI := fun W => right_any num ap ac n cp m cc W
  have MS : Hid (∀ W, Below w0.heap.size w0 W → _) := fun W hW => missing_any num ap ac n cp m cc C W ((hC.below B0).below hW) hn
  unfold stV at RI MS
  clear hC
  by_cases q1 : 0 < n ∧ m = n
  · have h1 : 0 < (leftL C n).length := by rcases h with h | h; exact absurd q1 h; exact h
    rw [decide_eq_true q1] at RI
    generalize (leftL C n).length = k at *
    have h1' : (0 : Int) < (k : Int) := by omega
    clear h q1
    go_enter Tryd.func14, Tryd.ntmps14
    go_wp2_with (first
      | (go_at_call 26; refine (RI _).mono ?_; rintro e w2 ⟨rfl, B2⟩; have X2 := X0.below B2; have u0 : w2.cell? ⟨w.heap.size, 0, none⟩ = some (.int .i64 num) := X2.cell 0 rfl; have u1 : w2.cell? ⟨w.heap.size, 1, none⟩ = some (.slice ap n cp) := X2.cell 1 rfl; have u2 : w2.cell? ⟨w.heap.size, 2, none⟩ = some (.slice ac m cc) := X2.cell 2 rfl)
      | (go_at_call 27; refine (MS.out _ B2).mono ?_; rintro e w3 ⟨rfl, B3⟩)
      | (refine wpList_load_row rfl 33 _ rfl w.heap.size rfl 33 _ (0, 0) _ X0 Tryd.underlying33 rfl Tryd.infoRs ?_))
    go_ret2
    exact ⟨rfl, below_then B0 (below_then B2 B3)⟩
  · rw [decide_eq_false q1] at RI
    clear h q1
    go_enter Tryd.func14, Tryd.ntmps14
    go_wp2_with (first
      | (go_at_call 26; refine (RI _).mono ?_; rintro e w2 ⟨rfl, B2⟩)
      | (refine wpList_load_row rfl 33 _ rfl w.heap.size rfl 33 _ (0, 0) _ X0 Tryd.underlying33 rfl Tryd.infoRs ?_))
    go_ret2
    exact ⟨rfl, below_then B0 B2⟩
set_option maxHeartbeats 16000000 in
theorem whole_yes (num : Int) (ap ac : Option Addr) (n cp cc : Nat) (S : List ByteArray) (C : List Bool) (w : World) (hS : VArg w ap n cp (strs S)) (hC : VArg w ac n cc (bools C)) (h0 : 0 < n) (hn : n ≤ 8796093022208) (h : (leftL C n).length = 0) (hl : (catS S).length ≤ 140737488355328) :
   Calls Tryd.prog 14 #[stV num (.slice ap n cp) (.slice ac n cc)] w fun e w' => e = .returned (.tuple #[.string (txt (catS S)), .bool true]) ∧ Below w.heap.size w w' := by
  have hlS : S.length = n := by rw [← strs_len]; exact hS.len
  have hfS := hS.fit
  have hmS := hS.max
  have X0 := blk_new w 33 #[.int .i64 num, .slice ap n cp, .slice ac n cc]
  have B0 := belowA w (.cells #[.int .i64 num, .slice ap n cp, .slice ac n cc] 33)
  have s0 : (w.alloc (.cells #[.int .i64 num, .slice ap n cp, .slice ac n cc] 33)).heap.size = w.heap.size + 1 := by simp
  unfold stV
  generalize hw0 : w.alloc (.cells #[.int .i64 num, .slice ap n cp, .slice ac n cc] 33) = w0 at *
  have RI := fun W => right_any num ap ac n cp n cc W
  have MS : Hid (∀ W, Below w0.heap.size w0 W → _) := fun W hW => missing_any num ap ac n cp n cc C W ((hC.below B0).below hW) hn
  rw [h] at MS
  rw [decide_eq_true ⟨h0, rfl⟩] at RI
  unfold stV at RI MS
  have HS : Hid (VArg w ap n cp (strs S)) := hS
  clear hC hS h
  go_enter Tryd.func14, Tryd.ntmps14
  go_wp2_with (first
      | (go_at_call 26; refine (RI _).mono ?_; rintro e w2 ⟨rfl, B2⟩; have X2 := X0.below B2; have u0 : w2.cell? ⟨w.heap.size, 0, none⟩ = some (.int .i64 num) := X2.cell 0 rfl; have u1 : w2.cell? ⟨w.heap.size, 1, none⟩ = some (.slice ap n cp) := X2.cell 1 rfl; have u2 : w2.cell? ⟨w.heap.size, 2, none⟩ = some (.slice ac n cc) := X2.cell 2 rfl)
      | (go_at_call 27; refine (MS.out _ B2).mono ?_; rintro e w3 ⟨rfl, B3⟩; have z2 := B2.size; have z3 := B3.size; have X3 := (X2.below B3).below (belowA w3 (.cells #[.pointer none, .slice none 0 0] 76)); have Y3 := blk_new w3 76 #[.pointer none, .slice none 0 0]; have BB := below_then B0 (below_then B2 (below_then B3 (belowA w3 (.cells #[.pointer none, .slice none 0 0] 76)))); have z4 : (w3.alloc (.cells #[.pointer none, .slice none 0 0] 76)).heap.size = w3.heap.size + 1 := (by simp); generalize hw4 : w3.alloc (.cells #[.pointer none, .slice none 0 0] 76) = w4 at *; have v1 : w4.cell? ⟨w.heap.size, 1, none⟩ = some (.slice ap n cp) := X3.cell 1 rfl)
      | (refine wpList_load_row rfl 33 _ rfl w.heap.size rfl 33 _ (0, 0) _ X0 Tryd.underlying33 rfl Tryd.infoRs ?_))
  have I0 : Lib.IsBuilder 76 5 w3.heap.size w3.heap.size (Lib.byteCells []) w4 := Or.inl ⟨Nat.le_refl _, .slice none 0 0, Y3, World.ownsRow_nil _ _ _ _, by intro e; cases e⟩
  go_loopg [18] n (fun r s18 wr => ∃ t : Nat, r = n - t ∧ t ≤ n ∧ s18 = .int .i64 (t : Int) ∧ Lib.IsBuilder 76 5 w3.heap.size w3.heap.size (Lib.byteCells (catS (S.take t))) wr ∧ Below w3.heap.size w4 wr)
  case atStart => exact ⟨0, rfl, by omega, rfl, I0, Below.refl _ _⟩
  case round =>
  obtain ⟨t, rfl, ht, rfl, IB, BR⟩ := hrel
  have zr := BR.size
  by_cases d1 : t < n
  case neg =>
    obtain rfl : t = n := by omega
    rw [List.take_of_length_le (by omega)] at IB
    have ST := Tryd.Builder_String_any w3.heap.size w3.heap.size (catS S) wr IB (by omega)
    obtain ⟨AS, hAS⟩ : ∃ AS, AS = (catS S).toArray := ⟨_, rfl⟩
    have HAS : Hid (AS = (catS S).toArray) := hAS
    rw [← hAS] at ST
    clear hAS
    go_wp2_with (go_at_call 29; refine ST.mono ?_; rintro e w5 ⟨rfl, B5⟩)
    go_ret2
    exact ⟨by rw [HAS.out]; rfl, (BB.trans (BR.mono (by omega))).trans (B5.mono (by omega))⟩
  have d1' : (t : Int) < (n : Int) := by omega
  have PA := HS.out.below (BB.trans (BR.mono (by omega)))
  obtain ⟨b, o, rfl, kc⟩ := PA.cells (by omega)
  have kt := kc t d1
  rw [strs_get (by omega)] at kt
  have hsn := catS_snoc S t (by omega)
  have hle := catS_le S (t + 1)
  have hle2 := congrArg List.length hsn
  rw [List.length_append] at hle2
  have hsz : (se S t).data.toList.length = (se S t).size := rfl
  have WR := bwrite_any w3.heap.size w3.heap.size (Lib.byteCells (catS (S.take t))) (se S t) wr IB (by rw [Lib.byteCells_length]; omega) (by omega)
  have ec : Lib.byteCells (catS (S.take t)) ++ Lib.strCells (se S t) = Lib.byteCells (catS (S.take (t + 1))) := by rw [hsn]; unfold Lib.byteCells Lib.strCells; rw [List.map_append]
  rw [ec] at WR
  clear kc PA ec hsn hle hle2 hsz IB
  generalize se S t = x at *
  go_wp2_with (go_at_call 28; refine WR.mono ?_; rintro e w6 ⟨rfl, IB6, B6⟩)
  go_roundg (n - (t + 1))
  case measure => omega
  case rel => exact ⟨t + 1, rfl, by omega, by go_num, Or.inr IB6, BR.trans B6⟩
end Go.Proofs.YtdopcagikcdfcaaDoor
