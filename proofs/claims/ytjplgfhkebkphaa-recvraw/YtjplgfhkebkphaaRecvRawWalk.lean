/- RecvRaw. -/
import Derived.Test.YtjplgfhkebkphaaRcMath
import Derived.Deep.RegionHeld3
namespace Go.Proofs.Ytjplgfhkebkphaa
open Go.ChangeShapes Go.WideShapes Go.ChangeAt Go.RowKit
set_option maxRecDepth 100000 in
set_option maxHeartbeats 32000000 in
theorem recvRaw_walk (num : Int) (ap ac : Option Addr) (n cp m cc : Nat) (S : List ByteArray) (C : List Bool) (pn pa po : Int) (pt : ByteArray) (w : World) (hS : VArg w ap n cp (strs S)) (hC : VArg w ac m cc (bools C)) (hn : n * 16 ≤ 140737488351232) (hm : m ≤ 140737488351232) (hz : ∀ s ∈ S, s.size ≤ 140737488351232) :
    Calls Try.prog 5 #[stV num (.slice ap n cp) (.slice ac m cc), ptV pn pa po pt] w fun e w' => e = .returned (.bool true) ∧ Below w.heap.size w w' := by
  have AW := rawake_any
  have X0 := blk_new w 26 #[.int .i64 num, .slice ap n cp, .slice ac m cc]
  have B0 := belowA w (.cells #[.int .i64 num, .slice ap n cp, .slice ac m cc] 26)
  have s0 : (w.alloc (.cells #[.int .i64 num, .slice ap n cp, .slice ac m cc] 26)).heap.size = w.heap.size + 1 := by simp
  generalize hw0 : w.alloc (.cells #[.int .i64 num, .slice ap n cp, .slice ac m cc] 26) = w0 at *
  have X1 := blk_new w0 35 #[.int .i64 pn, .int .i64 pa, .int .i64 po, .string pt]
  have B1 := belowA w0 (.cells #[.int .i64 pn, .int .i64 pa, .int .i64 po, .string pt] 35)
  have X01 := X0.below B1
  rw [s0] at X1
  generalize hw1 : w0.alloc (.cells #[.int .i64 pn, .int .i64 pa, .int .i64 po, .string pt] 35) = w1 at *
  have hS1 := (hS.below B0).below B1
  have hC1 := (hC.below B0).below B1
  have HB : Hid (Below w.heap.size w w1) := below_then B0 B1
  have c1 : w1.cell? ⟨w.heap.size, 1, none⟩ = some (.slice ap n cp) := X01.cell 1 rfl
  have c2 : w1.cell? ⟨w.heap.size, 2, none⟩ = some (.slice ac m cc) := X01.cell 2 rfl
  by_cases q1 : 0 < n ∧ m = n
  · obtain ⟨q0, rfl⟩ := q1
    have q0' : (0 : Int) < (m : Int) := by omega
    unfold stV ptV
    go_enter Try.func5, Try.ntmps5
    go_wp2_with (go_at_call 8; refine (AW _).mono ?_; rintro e w9 ⟨rfl, B9⟩)
    go_ret
    exact ⟨rfl, below_then HB.out B9⟩
  have t4 : takeN num n m S C pn pa po pt = 4 := by unfold takeN; rw [if_pos q1]
  have TK : Hid (∀ W, Below w1.heap.size w1 W → _) := fun W hW => take_bad num pn pa po pt ap ac n cp m cc S C W (hS1.below hW) (hC1.below hW) (by omega) (by omega) (fun s hs => by have := hz s hs; omega) (by rw [t4]; decide)
  rw [t4] at TK
  have WH : Hid (∀ W, Below w1.heap.size w1 W → _) := fun W hW => whole_no num ap ac n cp m cc C W (hC1.below hW) (by omega) (Or.inl q1)
  have MS : Hid (∀ W, Below w1.heap.size w1 W → _) := fun W hW => missing_any num ap ac n cp m cc C W (hC1.below hW) (by omega)
  have hk := leftL_len C n
  generalize (leftL C n).length = k at *
  have k0 : ¬ (k : Int) < 0 := by omega
  have k1 : (k : Int) ≤ (n : Int) := by omega
  have k2 : (0 : Int) ≤ (k : Int) := by omega
  unfold stV ptV at *
  have q2 : Hid (¬ (0 < n ∧ m = n)) := q1
  clear hS hC hS1 hC1 t4 q1 B0 B1 X0
  go_enter Try.func5, Try.ntmps5
  go_upto_region 1 with fail
  go_cut [22] from 10 (fun s22 wc => s22 = .bool false ∧ wc = w1)
  case first =>
    by_cases q3 : 0 < n
    · have q3' : (0 : Int) < (n : Int) := by omega
      have q4 : ¬ (n : Int) = (m : Int) := by have := q2.out; omega
      go_wp2_with fail
      go_meet
      case rel => exact ⟨by simp; omega, rfl⟩
    · have q3' : ¬ (0 : Int) < (n : Int) := by omega
      go_wp2_with fail
      go_meet
      case rel => exact ⟨rfl, rfl⟩
  case rest =>
  obtain ⟨rfl, h8⟩ := hcut
  obtain rfl := h8.symm
  go_upto_region 5 with (first
    | (go_at_call 10; refine (TK.out _ (Below.refl _ _)).mono ?_; clear TK; rintro e w2 ⟨x, y, u, v, rfl, _, _, B2⟩; obtain ⟨XA5, XB5, VB5, vz5⟩ := var3 w2 26 #[.int .i64 0, .slice none 0 0, .slice none 0 0] #[.int .i64 num, .slice x n y, .slice u m v]; generalize hwA5 : w2.alloc (.cells #[.int .i64 0, .slice none 0 0, .slice none 0 0] 26) = wA5 at *; generalize hwB5 : wA5.setRow w2.heap.size #[.int .i64 num, .slice x n y, .slice u m v] = w3 at *; have B3 := below_then B2 VB5; have X03 := X01.below B3)
    | (refine wpList_store_row rfl 26 _ _ rfl w2.heap.size _ rfl rfl 26 _ XA5 Try.infoRs rfl (stall _ _ _ _ _ _ _) ?_; rw [hwB5])
    | (refine wpList_load_row rfl 26 _ rfl w.heap.size rfl 26 _ (0, 0) _ X01 Try.underlying26 rfl Try.infoRs ?_)
    | (refine wpList_load_row rfl 35 _ rfl (w.heap.size + 1) rfl 35 _ (0, 0) _ X1 Try.underlying35 rfl Try.infoPt ?_)
    | (refine wpList_load_row rfl 26 _ rfl w.heap.size rfl 26 _ (0, 0) _ X03 Try.underlying26 rfl Try.infoRs ?_)
    | (go_at_call 12; refine (WH.out _ B3).mono ?_; clear WH; rintro e w4 ⟨rfl, B4⟩; have B14 := below_then B3 B4; have X04 := X01.below B14))
  refine wp_region_held_drew (S := fun w' => Blk w' w.heap.size 26 #[.int .i64 num, .slice ap n cp, .slice ac m cc]) (by kernel_rfl) (X04) (fun hHeld => ?_)
  refine wpAnyH_ready (rs := [0]) (by kernel_rfl) (by simp) ?_
  refine AllReadyH.cons rfl (fun Kc hKc => ?_) AllReadyH.nil
  simp only [List.getElem_toArray, List.getElem_cons_zero]
  rw [if_pos (by rfl)]
  go_wp2_with fail
  refine (AW _).mono ?_
  rintro e w5 ⟨rfl, B5⟩
  have B15 := below_then B14 (below_then (Below.refl w4.heap.size w4).drew B5)
  have X05 := X01.below B15
  go_wp2_with fail
  refine hKc.out _ _ (X05) (fun hHeld => ?_)
  clear hKc Kc
  refine wpAnyH_take (i := 1) (v := (.bool true)) rfl (by kernel_rfl) (by kernel_rfl) (by kernel_rfl) (fun _ _ _ h => h) (Or.inl ⟨by rfl, ?_⟩) (by assumption) ?_
  · intro w' hSw
    go_simp
  simp only [List.getElem_toArray, List.getElem_cons_succ, List.getElem_cons_zero, Act.put, List.setIfInBounds_toArray, List.set_cons_zero, List.set_cons_succ]
  refine wpAnyH_take (i := 2) (v := (.bool false)) rfl (by kernel_rfl) (by kernel_rfl) (by kernel_rfl) (fun _ _ _ h => h) (Or.inl ⟨by rfl, ?_⟩) (by assumption) ?_
  · intro w' hSw
    go_simp
  simp only [List.getElem_toArray, List.getElem_cons_succ, List.getElem_cons_zero, Act.put, List.setIfInBounds_toArray, List.set_cons_zero, List.set_cons_succ]
  refine wpAnyH_take (i := 3) (v := (.bool true)) rfl (by kernel_rfl) (by kernel_rfl) (by kernel_rfl) (fun _ _ _ h => h) (Or.inl ⟨by rfl, ?_⟩) (by assumption) ?_
  · intro w' hSw
    go_simp
  simp only [List.getElem_toArray, List.getElem_cons_succ, List.getElem_cons_zero, Act.put, List.setIfInBounds_toArray, List.set_cons_zero, List.set_cons_succ]
  refine wpAnyH_take (i := 4) (v := (.bool true)) rfl (by kernel_rfl) (by kernel_rfl) (by kernel_rfl) (fun _ _ _ h => h) (Or.inl ⟨by rfl, ?_⟩) (by assumption) ?_
  · intro w' hSw
    go_simp
  simp only [List.getElem_toArray, List.getElem_cons_succ, List.getElem_cons_zero, Act.put, List.setIfInBounds_toArray, List.set_cons_zero, List.set_cons_succ]
  refine wpAnyH_take (i := 5) (v := (.bool true)) rfl (by kernel_rfl) (by kernel_rfl) (by kernel_rfl) (fun _ _ _ h => h) (Or.inl ⟨by rfl, ?_⟩) (by assumption) ?_
  · intro w' hSw
    go_simp
  simp only [List.getElem_toArray, List.getElem_cons_succ, List.getElem_cons_zero, Act.put, List.setIfInBounds_toArray, List.set_cons_zero, List.set_cons_succ]
  refine wpAnyH_take (i := 6) (v := (.int .i64 4)) rfl (by kernel_rfl) (by kernel_rfl) (by kernel_rfl) (fun _ _ _ h => h) (Or.inl ⟨by rfl, ?_⟩) (by assumption) ?_
  · intro w' hSw
    go_simp
  simp only [List.getElem_toArray, List.getElem_cons_succ, List.getElem_cons_zero, Act.put, List.setIfInBounds_toArray, List.set_cons_zero, List.set_cons_succ]
  refine wpAnyH_take (i := 7) (v := (.bool true)) rfl (by kernel_rfl) (by kernel_rfl) (by kernel_rfl) (fun _ _ _ h => h) (Or.inl ⟨by rfl, ?_⟩) (by assumption) ?_
  · intro w' hSw
    go_simp
  simp only [List.getElem_toArray, List.getElem_cons_succ, List.getElem_cons_zero, Act.put, List.setIfInBounds_toArray, List.set_cons_zero, List.set_cons_succ]
  refine wpAnyH_take (i := 8) (v := (.bool true)) rfl (by kernel_rfl) (by kernel_rfl) (by kernel_rfl) (fun _ _ _ h => h) (Or.inl ⟨by rfl, ?_⟩) (by assumption) ?_
  · intro w' hSw
    go_simp
  simp only [List.getElem_toArray, List.getElem_cons_succ, List.getElem_cons_zero, Act.put, List.setIfInBounds_toArray, List.set_cons_zero, List.set_cons_succ]
  refine wpAnyH_take (i := 9) (v := (.bool true)) rfl (by kernel_rfl) (by kernel_rfl) (by kernel_rfl) (fun _ _ _ h => h) (Or.inl ⟨by rfl, ?_⟩) (by assumption) ?_
  · intro w' hSw
    go_simp
  simp only [List.getElem_toArray, List.getElem_cons_succ, List.getElem_cons_zero, Act.put, List.setIfInBounds_toArray, List.set_cons_zero, List.set_cons_succ]
  refine wpAnyH_take (i := 10) (v := (.bool false)) rfl (by kernel_rfl) (by kernel_rfl) (by kernel_rfl) (fun _ _ _ h => h) (Or.inl ⟨by rfl, ?_⟩) (by assumption) ?_
  · intro w' hSw
    go_simp
  simp only [List.getElem_toArray, List.getElem_cons_succ, List.getElem_cons_zero, Act.put, List.setIfInBounds_toArray, List.set_cons_zero, List.set_cons_succ]
  refine wpAnyH_take (i := 11) (v := (.bool true)) rfl (by kernel_rfl) (by kernel_rfl) (by kernel_rfl) (fun _ _ _ h => h) (Or.inl ⟨by rfl, ?_⟩) (by assumption) ?_
  · intro w' hSw
    go_simp
  simp only [List.getElem_toArray, List.getElem_cons_succ, List.getElem_cons_zero, Act.put, List.setIfInBounds_toArray, List.set_cons_zero, List.set_cons_succ]
  refine wpAnyH_take (i := 12) (v := (.bool true)) rfl (by kernel_rfl) (by kernel_rfl) (by kernel_rfl) (fun _ _ _ h => h) (Or.inl ⟨by rfl, ?_⟩) (by assumption) ?_
  · intro w' hSw
    go_simp
  simp only [List.getElem_toArray, List.getElem_cons_succ, List.getElem_cons_zero, Act.put, List.setIfInBounds_toArray, List.set_cons_zero, List.set_cons_succ]
  refine wpAnyH_take (i := 13) (v := (.bool true)) rfl (by kernel_rfl) (by kernel_rfl) (by kernel_rfl) (fun _ _ _ h => h) (Or.inl ⟨by rfl, ?_⟩) (by assumption) ?_
  · intro w' hSw
    go_simp
  simp only [List.getElem_toArray, List.getElem_cons_succ, List.getElem_cons_zero, Act.put, List.setIfInBounds_toArray, List.set_cons_zero, List.set_cons_succ]
  refine wpAnyH_take (i := 14) (v := (.string ⟨#[]⟩)) rfl (by kernel_rfl) (by kernel_rfl) (by kernel_rfl) (fun _ _ _ h => h) (Or.inl ⟨by rfl, ?_⟩) (by assumption) ?_
  · intro w' hSw
    go_simp
  simp only [List.getElem_toArray, List.getElem_cons_succ, List.getElem_cons_zero, Act.put, List.setIfInBounds_toArray, List.set_cons_zero, List.set_cons_succ]
  refine wpAnyH_take (i := 15) (v := (.bool true)) rfl (by kernel_rfl) (by kernel_rfl) (by kernel_rfl) (fun _ _ _ h => h) (Or.inl ⟨by rfl, ?_⟩) (by assumption) ?_
  · intro w' hSw
    go_simp
  simp only [List.getElem_toArray, List.getElem_cons_succ, List.getElem_cons_zero, Act.put, List.setIfInBounds_toArray, List.set_cons_zero, List.set_cons_succ]
  refine wpAnyH_take (i := 16) (v := (.bool true)) rfl (by kernel_rfl) (by kernel_rfl) (by kernel_rfl) (fun _ _ _ h => h) (Or.inl ⟨by rfl, ?_⟩) (by assumption) ?_
  · intro w' hSw
    go_simp
  simp only [List.getElem_toArray, List.getElem_cons_succ, List.getElem_cons_zero, Act.put, List.setIfInBounds_toArray, List.set_cons_zero, List.set_cons_succ]
  refine wpAnyH_take (i := 17) (v := (.bool true)) rfl (by kernel_rfl) (by kernel_rfl) (by kernel_rfl) (fun _ _ _ h => h) (Or.inl ⟨by rfl, ?_⟩) (by assumption) ?_
  · intro w' hSw
    go_simp
  simp only [List.getElem_toArray, List.getElem_cons_succ, List.getElem_cons_zero, Act.put, List.setIfInBounds_toArray, List.set_cons_zero, List.set_cons_succ]
  refine wpAnyH_take (i := 18) (v := (.agg #[.int .i64 num, .slice ap n cp, .slice ac m cc])) rfl (by kernel_rfl) (by kernel_rfl) (by kernel_rfl) (fun _ _ _ h => h) (Or.inl ⟨by rfl, ?_⟩) (by assumption) ?_
  · intro w' hSw
    have y0 : w'.cell? ⟨w.heap.size, 0, none⟩ = some (.int .i64 num) := hSw.cell 0 rfl
    have y1 : w'.cell? ⟨w.heap.size, 1, none⟩ = some (.slice ap n cp) := hSw.cell 1 rfl
    have y2 : w'.cell? ⟨w.heap.size, 2, none⟩ = some (.slice ac m cc) := hSw.cell 2 rfl
    go_simp
  simp only [List.getElem_toArray, List.getElem_cons_succ, List.getElem_cons_zero, Act.put, List.setIfInBounds_toArray, List.set_cons_zero, List.set_cons_succ]
  refine wpAnyH_ready (rs := [19]) (by kernel_rfl) (by simp) ?_
  refine AllReadyH.cons rfl (fun Kc hKc => ?_) AllReadyH.nil
  simp only [List.getElem_toArray, List.getElem_cons_succ, List.getElem_cons_zero]
  rw [if_pos (by rfl)]
  go_wp2_with fail
  refine (MS.out _ B15).mono ?_
  rintro e w6 ⟨rfl, B6⟩
  have B16 := below_then B15 B6
  have X06 := X01.below B16
  go_wp2_with fail
  refine hKc.out _ _ (X06) (fun hHeld => ?_)
  clear hKc Kc
  refine wpAnyH_take (i := 20) (v := (.bool true)) rfl (by kernel_rfl) (by kernel_rfl) (by kernel_rfl) (fun _ _ _ h => h) (Or.inl ⟨by rfl, ?_⟩) (by assumption) ?_
  · intro w' hSw
    go_simp
  simp only [List.getElem_toArray, List.getElem_cons_succ, List.getElem_cons_zero, Act.put, List.setIfInBounds_toArray, List.set_cons_zero, List.set_cons_succ]
  refine wpAnyH_take (i := 21) (v := (.bool true)) rfl (by kernel_rfl) (by kernel_rfl) (by kernel_rfl) (fun _ _ _ h => h) (Or.inl ⟨by rfl, ?_⟩) (by assumption) ?_
  · intro w' hSw
    go_simp
  simp only [List.getElem_toArray, List.getElem_cons_succ, List.getElem_cons_zero, Act.put, List.setIfInBounds_toArray, List.set_cons_zero, List.set_cons_succ]
  refine wpAnyH_take (i := 22) (v := (.bool true)) rfl (by kernel_rfl) (by kernel_rfl) (by kernel_rfl) (fun _ _ _ h => h) (Or.inl ⟨by rfl, ?_⟩) (by assumption) ?_
  · intro w' hSw
    go_simp
  simp only [List.getElem_toArray, List.getElem_cons_succ, List.getElem_cons_zero, Act.put, List.setIfInBounds_toArray, List.set_cons_zero, List.set_cons_succ]
  refine wpAnyH_take (i := 23) (v := (.agg #[.int .i64 num, .slice ap n cp, .slice ac m cc])) rfl (by kernel_rfl) (by kernel_rfl) (by kernel_rfl) (fun _ _ _ h => h) (Or.inl ⟨by rfl, ?_⟩) (by assumption) ?_
  · intro w' hSw
    have y0 : w'.cell? ⟨w.heap.size, 0, none⟩ = some (.int .i64 num) := hSw.cell 0 rfl
    have y1 : w'.cell? ⟨w.heap.size, 1, none⟩ = some (.slice ap n cp) := hSw.cell 1 rfl
    have y2 : w'.cell? ⟨w.heap.size, 2, none⟩ = some (.slice ac m cc) := hSw.cell 2 rfl
    go_simp
  simp only [List.getElem_toArray, List.getElem_cons_succ, List.getElem_cons_zero, Act.put, List.setIfInBounds_toArray, List.set_cons_zero, List.set_cons_succ]
  refine wpAnyH_take (i := 25) (v := (.pointer (some ⟨w.heap.size, 1, none⟩))) rfl (by kernel_rfl) (by kernel_rfl) (by kernel_rfl) (fun _ _ _ h => h) (Or.inl ⟨by rfl, ?_⟩) (by assumption) ?_
  · intro w' hSw
    go_simp
  simp only [List.getElem_toArray, List.getElem_cons_succ, List.getElem_cons_zero, Act.put, List.setIfInBounds_toArray, List.set_cons_zero, List.set_cons_succ]
  refine wpAnyH_take (i := 26) (v := (.slice ap n cp)) rfl (by kernel_rfl) (by kernel_rfl) (by kernel_rfl) (fun _ _ _ h => h) (Or.inl ⟨by rfl, ?_⟩) (by assumption) ?_
  · intro w' hSw
    have y1 : w'.cell? ⟨w.heap.size, 1, none⟩ = some (.slice ap n cp) := hSw.cell 1 rfl
    go_simp
  simp only [List.getElem_toArray, List.getElem_cons_succ, List.getElem_cons_zero, Act.put, List.setIfInBounds_toArray, List.set_cons_zero, List.set_cons_succ]
  refine wpAnyH_take (i := 27) (v := (.int .i64 (n : Int))) rfl (by kernel_rfl) (by kernel_rfl) (by kernel_rfl) (fun _ _ _ h => h) (Or.inl ⟨by rfl, ?_⟩) (by assumption) ?_
  · intro w' hSw
    go_simp
  simp only [List.getElem_toArray, List.getElem_cons_succ, List.getElem_cons_zero, Act.put, List.setIfInBounds_toArray, List.set_cons_zero, List.set_cons_succ]
  refine wpAnyH_ready (rs := [24]) (by kernel_rfl) (by simp) ?_
  refine AllReadyH.cons rfl (fun Kc hKc => ?_) AllReadyH.nil
  simp only [List.getElem_toArray, List.getElem_cons_succ, List.getElem_cons_zero]
  rw [if_pos (by rfl)]
  go_wp2_with fail
  refine (MS.out _ B16).mono ?_
  rintro e w7 ⟨rfl, B7⟩
  have B17 := below_then B16 B7
  have X07 := X01.below B17
  go_wp2_with fail
  refine hKc.out _ _ (X07) (fun hHeld => ?_)
  clear hKc Kc
  refine wpAnyH_take (i := 28) (v := (.bool true)) rfl (by kernel_rfl) (by kernel_rfl) (by kernel_rfl) (fun _ _ _ h => h) (Or.inl ⟨by rfl, ?_⟩) (by assumption) ?_
  · intro w' hSw
    go_simp
  simp only [List.getElem_toArray, List.getElem_cons_succ, List.getElem_cons_zero, Act.put, List.setIfInBounds_toArray, List.set_cons_zero, List.set_cons_succ]
  refine wpAnyH_take (i := 29) (v := (.bool true)) rfl (by kernel_rfl) (by kernel_rfl) (by kernel_rfl) (fun _ _ _ h => h) (Or.inl ⟨by rfl, ?_⟩) (by assumption) ?_
  · intro w' hSw
    go_simp
  simp only [List.getElem_toArray, List.getElem_cons_succ, List.getElem_cons_zero, Act.put, List.setIfInBounds_toArray, List.set_cons_zero, List.set_cons_succ]
  refine wpAnyH_take (i := 30) (v := (.bool true)) rfl (by kernel_rfl) (by kernel_rfl) (by kernel_rfl) (fun _ _ _ h => h) (Or.inl ⟨by rfl, ?_⟩) (by assumption) ?_
  · intro w' hSw
    go_simp
  simp only [List.getElem_toArray, List.getElem_cons_succ, List.getElem_cons_zero, Act.put, List.setIfInBounds_toArray, List.set_cons_zero, List.set_cons_succ]
  refine wpAnyH_done (by kernel_rfl) ?_ _
  go_wp2_with fail
  go_ret
  exact ⟨rfl, below_then HB.out B17⟩
end Go.Proofs.Ytjplgfhkebkphaa
