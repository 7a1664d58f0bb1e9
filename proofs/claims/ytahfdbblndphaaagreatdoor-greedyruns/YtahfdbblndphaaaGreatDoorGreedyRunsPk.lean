/- The given statement on GreedyRuns: at every input the law returns true and its arguments read as before; the listed table lies as the program's text lays it (the card ties it). -/
import Derived.Test.YtahfdbblndphaaaGreatDoorPk13
import Derived.Test.YtahfdbblndphaaaGreatDoorPk14
import Derived.Test.YtahfdbblndphaaaGreatDoorPk16
import Derived.Test.YtahfdbblndphaaaGreatDoorPk11
import Derived.Test.YtahfdbblndphaaaGreatDoorPk17
import Derived.Test.YtahfdbblndphaaaGreatDoorRows
import Derived.Test.YtahfdbblndphaaaGreatDoorCards
import Derived.Test.YtahfdbblndphaaaGreatDoorTie
import Derived.Test.YtahfdbblndphaaaGreatDoorPk4
import Derived.ProofKit
import Derived.Carry
import Derived.LaidMore
import Derived.OpenShut
import Derived.Stop.Joined
import Derived.SevenTiedAt
/- What a model says, of any numbers: the walk. Laid by tools/genggreedy.py. -/
namespace Go.Proofs.YtahfdbblndphaaaGreatDoor
open Go.ChangeShapes Go.WideShapes Go.ChangeAt Go.RowKit Go.Deep
set_option maxRecDepth 100000 in
set_option maxHeartbeats 3200000 in
theorem grun_no (C : Cfg) (hC : C.Ok) (W : Wt) (bs : List Bk) (ao : Option Addr) (n ca : Nat) (most : Int) (w : World) (hok : W.Ok) (hb0 : BlocksAt w W.b bs) (hq : checkN C.V C.D C.Hd C.H C.L W bs ≠ 0) :
   Calls Tryz.prog 7 #[.agg (cfgC C.V C.D C.Hd C.H C.L), .agg W.cells, .slice ao n ca, .int .i64 most] w fun e w' => e = .returned (.tuple #[.slice none 0 0, .int .i64 (checkN C.V C.D C.Hd C.H C.L W bs)]) ∧ Below w.heap.size w w' := by
  have CK := fun (wv : World) (hb : Below w.heap.size w wv) => mcheck_any C hC W bs wv hok (hb0.below hb)
  have siz : W.cells.size = 8 := rfl
  have hq' : (checkN C.V C.D C.Hd C.H C.L W bs == 0) = false := by simpa using hq
  generalize checkN C.V C.D C.Hd C.H C.L W bs = q at *
  generalize hws : W.cells = ws at *
  unfold Cfg.val cfgC at CK
  unfold cfgC
  have X0 := blk_new w 23 #[.int .i64 C.V, .int .i64 C.D, .int .i64 C.Hd, .int .i64 C.H, .int .i64 C.L]
  have B0 : Below w.heap.size w (w.alloc (.cells #[.int .i64 C.V, .int .i64 C.D, .int .i64 C.Hd, .int .i64 C.H, .int .i64 C.L] 23)) := (Below.refl _ _).alloc (Nat.le_refl _) _
  have s0 : (w.alloc (.cells #[.int .i64 C.V, .int .i64 C.D, .int .i64 C.Hd, .int .i64 C.H, .int .i64 C.L] 23)).heap.size = w.heap.size + 1 := by simp
  generalize hw0 : w.alloc (.cells #[.int .i64 C.V, .int .i64 C.D, .int .i64 C.Hd, .int .i64 C.H, .int .i64 C.L] 23) = w0 at *
  have X1 := blk_new w0 29 ws
  have B1 : Below w0.heap.size w0 (w0.alloc (.cells ws 29)) := (Below.refl _ _).alloc (Nat.le_refl _) _
  have s1 : (w0.alloc (.cells ws 29)).heap.size = w0.heap.size + 1 := by simp
  rw [s0] at X1 s1
  generalize hw1 : w0.alloc (.cells ws 29) = w1 at *
  replace X0 := X0.below B1
  replace B1 := below_then B0 B1
  have a0 : w1.cell? ⟨w.heap.size, 0, none⟩ = some (.int .i64 C.V) := X0.cell 0 rfl
  have a1 : w1.cell? ⟨w.heap.size, 1, none⟩ = some (.int .i64 C.D) := X0.cell 1 rfl
  have a2 : w1.cell? ⟨w.heap.size, 2, none⟩ = some (.int .i64 C.Hd) := X0.cell 2 rfl
  have a3 : w1.cell? ⟨w.heap.size, 3, none⟩ = some (.int .i64 C.H) := X0.cell 3 rfl
  have a4 : w1.cell? ⟨w.heap.size, 4, none⟩ = some (.int .i64 C.L) := X0.cell 4 rfl
  go_enter Tryz.func7, Tryz.ntmps7
  go_wp2_with (refine wpList_load_row rfl 29 _ rfl (w.heap.size + 1) rfl 29 ws (0, 0) _ X1 Tryz.underlying29 rfl (by rw [siz]; exact Tryz.infoW) ?_)
  refine (CK _ B1).mono ?_
  rintro e w2 ⟨rfl, B2⟩
  replace X0 := X0.below B2
  replace X1 := X1.below B2
  have D2 := below_then B1 B2
  clear a0 a1 a2 a3 a4 hw0 hw1 B0 B1 B2 CK
  clear s0 s1
  go_wp2
  go_ret2
  exact ⟨rfl, D2⟩
theorem first_over {M : Mdl} {V D H Hd L : Nat} {P : List Int} {most : Int} {i j : Nat} (h1 : overB (runY M V D H Hd L P i) most = true) (h2 : ∀ k, k < i → overB (runY M V D H Hd L P k) most = false) (h3 : overB (runY M V D H Hd L P j) most = true) (h4 : ∀ k, k < j → overB (runY M V D H Hd L P k) most = false) : i = j := by
  rcases Nat.lt_trichotomy i j with h | h | h
  · rw [h4 i h] at h1; cases h1
  · exact h
  · rw [h2 j h] at h3; cases h3
theorem take_small {w : World} {ao : Option Addr} {n ca : Nat} {A : List Int} (hA : IArg w ao n ca A) (lim : Nat) : ∀ k, -9223372036854775808 ≤ el (A.take lim) k ∧ el (A.take lim) k ≤ 9223372036854775807 := fun k => by
  rcases Nat.lt_or_ge k lim with h | h
  · rw [el_take h]; exact hA.row.small k
  · rw [el_over (by rw [List.length_take]; omega)]; omega
set_option maxRecDepth 100000 in
set_option maxHeartbeats 32000000 in
theorem greedyRuns_walk (C : Cfg) (VV : Wt) (X : List Bk × Mdl) (ao : Option Addr) (n ca : Nat) (A : List Int) (most : Int) (w : World) (h0 : C.Ok) (hV : WtR w VV X.1 X.2) (hA : IArg w ao n ca A) (bm : -9223372036854775808 ≤ most ∧ most ≤ 9223372036854775807) (hT : Tab w) :
    Calls Tryz.prog 3 #[C.val, .agg VV.cells, .slice ao n ca, .int .i64 most] w fun e w' => e = .returned (.bool true) ∧ Below w.heap.size w w' := by
  obtain ⟨bs, MM⟩ := X
  simp only at hV
  have hVok := hV.ok
  have HT : Hid (∀ wv, Below w.heap.size w wv → Tab wv) := fun wv hb => hT.next hb
  have CW := fun (wv : World) (hb : Below w.heap.size w wv) => gawake_any wv (HT.out wv hb)
  have CF1 := fun (lim : Nat) (hl : lim ≤ 4096) (wv : World) (hb : Below w.heap.size w wv) => few8_any ao n ca A lim wv (hA.below hb) hl
  have s1 : ∀ lim k, -9223372036854775808 ≤ el (A.take lim) k ∧ el (A.take lim) k ≤ 9223372036854775807 := fun lim k => by
    rcases Nat.lt_or_ge k lim with h | h
    · rw [el_take h]; exact hA.row.small k
    · rw [el_over (by rw [List.length_take]; omega)]; omega
  have CS := fun wv => small8_any C.V C.D C.Hd C.H C.L wv
  have RK := fun (W : Wt) bs wv hW hb => rcheck6_any C.V C.D C.Hd C.H C.L W bs wv hW hb h0.V h0.D h0.Hd h0.H h0.L
  have FN := fun (W : Wt) bs ao n ca mo wv hok hb hq => grun_no C h0 W bs ao n ca mo wv hok hb hq
  unfold Cfg.val at *
  have hu : ∀ C : Cfg, cfgC C.V C.D C.Hd C.H C.L = #[.int .i64 C.V, .int .i64 C.D, .int .i64 C.Hd, .int .i64 C.H, .int .i64 C.L] := fun _ => rfl
  simp only [hu] at CS RK FN ⊢
  clear hu h0 hT
  have X0 := blk_new w 23 #[.int .i64 C.V, .int .i64 C.D, .int .i64 C.Hd, .int .i64 C.H, .int .i64 C.L]
  have B0 : Below w.heap.size w (w.alloc (.cells #[.int .i64 C.V, .int .i64 C.D, .int .i64 C.Hd, .int .i64 C.H, .int .i64 C.L] 23)) := (Below.refl _ _).alloc (Nat.le_refl _) _
  generalize hw0 : w.alloc (.cells #[.int .i64 C.V, .int .i64 C.D, .int .i64 C.Hd, .int .i64 C.H, .int .i64 C.L] 23) = w0 at *
  have X1 := blk_new w0 29 VV.cells
  have B1 : Below w0.heap.size w0 (w0.alloc (.cells VV.cells 29)) := (Below.refl _ _).alloc (Nat.le_refl _) _
  generalize hw1 : w0.alloc (.cells VV.cells 29) = w1 at *
  replace X0 := X0.below B1
  have DB := below_then B0 B1
  replace hV := hV.below DB
  clear B0 B1 hA
  have T0 := told6_any VV bs MM w1 hV
  go_enter Tryz.func3, Tryz.ntmps3
  go_wp2_with (refine wpList_load_row rfl 29 _ rfl w0.heap.size rfl 29 VV.cells (0, 0) _ X1 Tryz.underlying29 rfl Tryz.infoW ?_)
  refine T0.mono ?_
  rintro e w2 ⟨W3, rfl, ⟨xs, T1⟩, B2⟩
  clear T0 hw0 hw1 X1 hV
  replace X0 := X0.below B2
  replace DB := below_then DB B2
  have R1 := T1.raw hVok
  have hW3 := R1.ok
  have hxl : xs.length ≤ 5 := by have := T1.ls.len; omega
  have hk : W3.b.n = min 5 VV.b.n := by rw [← T1.b.len, T1.ls.len]
  obtain ⟨O3, hl3⟩ := own_told hVok (by omega) T1
  have HK : Hid (W3.b.n = min 5 VV.b.n) := hk
  have HL3 : Hid (xs.length = (cutM 100 (min 5 VV.b.n) MM).Ls.length) := hl3
  have HT1 : Hid (WTold w2 w1.heap.size 100 (min 5 VV.b.n) VV W3 bs xs MM) := T1
  have HXL : Hid (xs.length ≤ 5) := hxl
  clear hk hl3 T1 hxl
  obtain ⟨ZE, X3, B3⟩ := var3e w2 33 #[.int .i64 0, .int .i64 0, .slice none 0 0, .slice none 0 0, .slice none 0 0, .int .i64 0, .int .i64 0, .slice none 0 0] W3.cells
  generalize hz1 : w2.alloc (.cells #[.int .i64 0, .int .i64 0, .slice none 0 0, .slice none 0 0, .slice none 0 0, .int .i64 0, .int .i64 0, .slice none 0 0] 33) = wz at *
  generalize hz2 : wz.setRow w2.heap.size W3.cells = w3 at *
  replace X0 := X0.below B3
  replace R1 := R1.below B3
  replace O3 := O3.below B3
  replace DB := below_then DB B3
  clear B2 B3
  go_wp2_with (refine wpList_store_row rfl 33 _ _ rfl w2.heap.size W3.cells rfl rfl 33 _ ZE Tryz.infoRW rfl (wt_one _) ?_; rw [hz2])
  refine (CF1 8 (by omega) _ DB).mono ?_
  rintro e w8 ⟨b1, kq, rfl, OI, B8⟩
  have s2 := s1 8
  generalize A.take 8 = P at *
  obtain ⟨l1, hl1⟩ : ∃ l1, P.length = l1 := ⟨_, rfl⟩
  have HL1 : Hid (P.length = l1) := hl1
  rw [hl1] at OI ⊢
  clear hl1
  obtain ⟨x1, y1, e1, I1⟩ := IOwn.arg OI s2
  simp only [Value.slice.injEq, true_and] at e1
  obtain ⟨rfl, rfl⟩ := e1
  clear OI s1 s2 CF1 hz1 hz2 ZE
  replace X0 := X0.below B8
  replace X3 := X3.below B8
  replace R1 := R1.below B8
  replace O3 := O3.below B8
  replace DB := below_then DB B8
  clear B8
  by_cases h6 : 6 < most
  · have h6 : 6 < most := h6
    have a0 : w8.cell? ⟨w.heap.size, 0, none⟩ = some (.int .i64 C.V) := X0.cell 0 rfl
    have a1 : w8.cell? ⟨w.heap.size, 1, none⟩ = some (.int .i64 C.D) := X0.cell 1 rfl
    have a2 : w8.cell? ⟨w.heap.size, 2, none⟩ = some (.int .i64 C.Hd) := X0.cell 2 rfl
    have a3 : w8.cell? ⟨w.heap.size, 3, none⟩ = some (.int .i64 C.H) := X0.cell 3 rfl
    have a4 : w8.cell? ⟨w.heap.size, 4, none⟩ = some (.int .i64 C.L) := X0.cell 4 rfl
    go_wp2_with fail
    refine (CS _).mono ?_
    rintro e wk ⟨rfl, EM⟩
    replace X0 := X0.below EM
    replace X3 := X3.below EM
    replace R1 := R1.below EM
    replace O3 := O3.below EM
    replace I1 := I1.below EM
    replace DB := below_then DB EM
    clear EM a0 a1 a2 a3 a4
    by_cases hs : smallN C.D C.H C.L = 0
    · rw [hs]
      go_wp2_with fail
      refine (few8_any (some ⟨b1, 0, none⟩) l1 kq P 2 wk I1 (by omega)).mono ?_
      rintro e w9 ⟨b2, kr, rfl, OI, EM⟩
      have s2 := take_small I1 2
      replace X0 := X0.below EM
      replace X3 := X3.below EM
      replace R1 := R1.below EM
      replace O3 := O3.below EM
      replace DB := below_then DB EM
      clear EM I1 HL1
      generalize P.take 2 = Q at *
      obtain ⟨l2, hl2⟩ : ∃ l2, Q.length = l2 := ⟨_, rfl⟩
      have HL1 : Hid (Q.length = l2) := hl2
      rw [hl2] at OI ⊢
      clear hl2
      obtain ⟨x1, y1, e1, I1⟩ := IOwn.arg OI s2
      simp only [Value.slice.injEq, true_and] at e1
      obtain ⟨rfl, rfl⟩ := e1
      clear OI s2
      go_wp2_with fail
      by_cases hqc : checkN C.V C.D C.Hd C.H C.L W3 xs = 0
      rotate_left
      · have KK := fun wv (hb : BlocksAt wv W3.b xs) => RK W3 xs wv hW3 hb
        generalize hqe : checkN C.V C.D C.Hd C.H C.L W3 xs = qc at *
        have hq1 : (qc == 0) = false := by simpa using hqc
        have hq2 : (qc != 0) = true := by simp [bne, hq1]
        clear RK CS
        have BD : Below w9.heap.size w9 w9.drew := (Below.refl _ w9).drew
        replace X0 := X0.below BD
        replace X3 := X3.below BD
        replace O3 := O3.below BD
        replace I1 := I1.below BD
        replace R1 := R1.below BD
        replace DB := DB.drew
        clear BD
        refine wp_region_held_drew (S := fun w' => Blk w' w.heap.size 23 #[.int .i64 C.V, .int .i64 C.D, .int .i64 C.Hd, .int .i64 C.H, .int .i64 C.L] ∧ Blk w' w2.heap.size 33 W3.cells) (by kernel_rfl) (⟨X0, X3⟩) (fun hHeld => ?_)
        generalize hAA : w9.drew = wA at *
        clear hAA
        refine wpAnyH_take (i := 0) (v := .agg #[.int .i64 C.V, .int .i64 C.D, .int .i64 C.Hd, .int .i64 C.H, .int .i64 C.L]) rfl (by kernel_rfl) (by kernel_rfl) (by kernel_rfl) (fun _ _ _ h => h) (yields_row (by rfl) 23 _ rfl w.heap.size rfl 23 #[.int .i64 C.V, .int .i64 C.D, .int .i64 C.Hd, .int .i64 C.H, .int .i64 C.L] _ (fun w' hS => hS.1) Tryz.underlying23 rfl Tryz.infoCf) (by assumption) ?_
        simp only [List.getElem_toArray, List.getElem_cons_zero, Act.put, List.setIfInBounds_toArray, List.set_cons_zero, List.set_cons_succ]
        refine wpAnyH_take (i := 1) (v := .agg W3.cells) rfl (by kernel_rfl) (by kernel_rfl) (by kernel_rfl) (fun _ _ _ h => h) (yields_row (by rfl) 33 _ rfl w2.heap.size rfl 33 W3.cells _ (fun w' hS => hS.2) Tryz.underlying33 rfl Tryz.infoRW) (by assumption) ?_
        simp only [List.getElem_toArray, List.getElem_cons_succ, List.getElem_cons_zero, Act.put, List.setIfInBounds_toArray, List.set_cons_zero, List.set_cons_succ]
        refine wpAnyH_take (i := 3) (v := (.slice (some ⟨b2, 0, none⟩) l2 kr)) rfl (by kernel_rfl) (by kernel_rfl) (by kernel_rfl) (fun _ _ _ h => h) (Or.inl ⟨by rfl, ?_⟩) (by assumption) ?_
        · intro w' hSw
          go_simp
        simp only [List.getElem_toArray, List.getElem_cons_succ, List.getElem_cons_zero, Act.put, List.setIfInBounds_toArray, List.set_cons_zero, List.set_cons_succ]
        refine wpAnyH_take (i := 4) (v := (.int .i64 1)) rfl (by kernel_rfl) (by kernel_rfl) (by kernel_rfl) (fun _ _ _ h => h) (Or.inl ⟨by rfl, ?_⟩) (by assumption) ?_
        · intro w' hSw
          go_simp
        simp only [List.getElem_toArray, List.getElem_cons_succ, List.getElem_cons_zero, Act.put, List.setIfInBounds_toArray, List.set_cons_zero, List.set_cons_succ]
        have T2 := of6_any W3 xs _ wA R1 (by have := HXL.out; omega)
        refine wpAnyH_ready (rs := [2]) (by kernel_rfl) (by simp) ?_
        refine AllReadyH.cons rfl (fun Kc hKc => ?_) AllReadyH.nil
        simp only [List.getElem_toArray, List.getElem_cons_succ, List.getElem_cons_zero]
        rw [if_pos (by rfl)]
        go_wp2_with fail
        refine (T2).mono ?_
        rintro e wB ⟨W5, rfl, ⟨ys, T3⟩, EM⟩
        replace X0 := X0.below EM
        replace X3 := X3.below EM
        replace O3 := O3.below EM
        replace I1 := I1.below EM
        replace R1 := R1.below EM
        replace DB := below_then DB EM
        clear EM
        clear T2
        have HQ := check_again HT1.out T3 C.V C.D C.Hd C.H C.L
        obtain ⟨O5, hl5⟩ := own_told hW3 (by omega) T3
        rw [HK.out, cutM_twice] at O5 hl5
        have hW5 := O5.ok
        clear T3 R1
        go_wp2_with fail
        refine hKc.out _ _ (⟨X0, X3⟩) (fun hHeld => ?_)
        clear hKc Kc
        have FF := FN W5 ys (some ⟨b2, 0, none⟩) l2 kr (1) wB hW5 O5.b (by rw [HQ, hqe]; exact hqc)
        rw [HQ, hqe] at FF
        refine wpAnyH_ready (rs := [5]) (by kernel_rfl) (by simp) ?_
        refine AllReadyH.cons rfl (fun Kc hKc => ?_) AllReadyH.nil
        simp only [List.getElem_toArray, List.getElem_cons_succ, List.getElem_cons_zero]
        rw [if_pos (by rfl)]
        go_wp2_with fail
        refine (FF).mono ?_
        rintro e wC ⟨rfl, EM⟩
        replace X0 := X0.below EM
        replace X3 := X3.below EM
        replace O3 := O3.below EM
        replace I1 := I1.below EM
        replace DB := below_then DB EM
        clear EM
        clear FF O5 hl5 HQ
        go_wp2_with fail
        refine hKc.out _ _ (⟨X0, X3⟩) (fun hHeld => ?_)
        clear hKc Kc
        refine wpAnyH_take (i := 6) (v := (.tuple #[.slice none 0 0, .int .i64 qc])) rfl (by kernel_rfl) (by kernel_rfl) (by kernel_rfl) (fun _ _ _ h => h) (Or.inl ⟨by rfl, ?_⟩) (by assumption) ?_
        · intro w' hSw
          go_simp
        simp only [List.getElem_toArray, List.getElem_cons_succ, List.getElem_cons_zero, Act.put, List.setIfInBounds_toArray, List.set_cons_zero, List.set_cons_succ]
        refine wpAnyH_take (i := 7) (v := (.slice none 0 0)) rfl (by kernel_rfl) (by kernel_rfl) (by kernel_rfl) (fun _ _ _ h => h) (Or.inl ⟨by rfl, ?_⟩) (by assumption) ?_
        · intro w' hSw
          go_simp
        simp only [List.getElem_toArray, List.getElem_cons_succ, List.getElem_cons_zero, Act.put, List.setIfInBounds_toArray, List.set_cons_zero, List.set_cons_succ]
        refine wpAnyH_take (i := 8) (v := (.int .i64 qc)) rfl (by kernel_rfl) (by kernel_rfl) (by kernel_rfl) (fun _ _ _ h => h) (Or.inl ⟨by rfl, ?_⟩) (by assumption) ?_
        · intro w' hSw
          go_simp
        simp only [List.getElem_toArray, List.getElem_cons_succ, List.getElem_cons_zero, Act.put, List.setIfInBounds_toArray, List.set_cons_zero, List.set_cons_succ]
        refine wpAnyH_take (i := 9) (v := (.slice none 0 0)) rfl (by kernel_rfl) (by kernel_rfl) (by kernel_rfl) (fun _ _ _ h => h) (Or.inl ⟨by rfl, ?_⟩) (by assumption) ?_
        · intro w' hSw
          go_simp
        simp only [List.getElem_toArray, List.getElem_cons_succ, List.getElem_cons_zero, Act.put, List.setIfInBounds_toArray, List.set_cons_zero, List.set_cons_succ]
        refine wpAnyH_take (i := 10) (v := (.int .i64 qc)) rfl (by kernel_rfl) (by kernel_rfl) (by kernel_rfl) (fun _ _ _ h => h) (Or.inl ⟨by rfl, ?_⟩) (by assumption) ?_
        · intro w' hSw
          go_simp
        simp only [List.getElem_toArray, List.getElem_cons_succ, List.getElem_cons_zero, Act.put, List.setIfInBounds_toArray, List.set_cons_zero, List.set_cons_succ]
        refine wpAnyH_done (by kernel_rfl) ?_ _
        clear hHeld
        clear FN
        have a0 : wC.cell? ⟨w.heap.size, 0, none⟩ = some (.int .i64 C.V) := X0.cell 0 rfl
        have a1 : wC.cell? ⟨w.heap.size, 1, none⟩ = some (.int .i64 C.D) := X0.cell 1 rfl
        have a2 : wC.cell? ⟨w.heap.size, 2, none⟩ = some (.int .i64 C.Hd) := X0.cell 2 rfl
        have a3 : wC.cell? ⟨w.heap.size, 3, none⟩ = some (.int .i64 C.H) := X0.cell 3 rfl
        have a4 : wC.cell? ⟨w.heap.size, 4, none⟩ = some (.int .i64 C.L) := X0.cell 4 rfl
        go_wp2_with (refine wpList_load_row rfl 33 _ rfl w2.heap.size rfl 33 W3.cells (0, 0) _ X3 Tryz.underlying33 rfl Tryz.infoRW ?_)
        refine (KK _ O3.b).mono ?_
        rintro e wD ⟨rfl, EM⟩
        replace X0 := X0.below EM
        replace I1 := I1.below EM
        replace DB := below_then DB EM
        clear a0 a1 a2 a3 a4 KK EM X3 O3
        go_wp2_with fail
        refine (CW _ DB).mono ?_
        rintro e wF ⟨rfl, EM⟩
        replace DB := below_then DB EM
        have hne : (qc != qc) = false := by simp
        go_wp2_with fail
        go_ret
        exact ⟨rfl, DB⟩
      have hqc0 := hqc
      obtain ⟨hsh, -⟩ := check_shape hqc
      have hkk := shape_ok hsh
      clear FN CS
      obtain ⟨CV, CD, CHd, CH, CL⟩ := C
      simp only at *
      obtain ⟨V, rfl⟩ : ∃ n : Nat, CV = n := ⟨CV.toNat, by omega⟩
      obtain ⟨D, rfl⟩ : ∃ n : Nat, CD = n := ⟨CD.toNat, by omega⟩
      obtain ⟨Hd, rfl⟩ : ∃ n : Nat, CHd = n := ⟨CHd.toNat, by omega⟩
      obtain ⟨H, rfl⟩ : ∃ n : Nat, CH = n := ⟨CH.toNat, by omega⟩
      obtain ⟨L, rfl⟩ : ∃ n : Nat, CL = n := ⟨CL.toNat, by omega⟩
      obtain ⟨G3, hxL⟩ := own_wt O3 HL3.out hqc
      clear hqc0
      have KK := fun wv (hb : BlocksAt wv W3.b xs) => RK W3 xs wv hW3 hb
      rw [hqc] at KK
      have RA := fun wv (hA : IArg wv (some ⟨b2, 0, none⟩) l2 kr Q) => refAsked_any V D Hd H L (some ⟨b2, 0, none⟩) l2 kr Q (1) wv hA
      unfold cfgC at RA
      clear RK
      by_cases hqp : askedN V Q (1) = 0
      rotate_left
      · obtain ⟨qp, hqe⟩ : ∃ q, askedN V Q (1) = q := ⟨_, rfl⟩
        rw [hqe] at RA
        have hq0 : ¬ qp = 0 := by rw [← hqe]; exact hqp
        have HQE : Hid (askedN V Q (1) = qp) := hqe
        clear hqe
        have hq1 : (qp == 0) = false := by simpa using hq0
        have hq2 : (qp != 0) = true := by simp [bne, hq1]
        have BD : Below w9.heap.size w9 w9.drew := (Below.refl _ w9).drew
        replace X0 := X0.below BD
        replace X3 := X3.below BD
        replace O3 := O3.below BD
        replace I1 := I1.below BD
        replace R1 := R1.below BD
        replace G3 := G3.below BD
        replace DB := DB.drew
        clear BD
        refine wp_region_held_drew (S := fun w' => Blk w' w.heap.size 23 #[.int .i64 (V : Int), .int .i64 (D : Int), .int .i64 (Hd : Int), .int .i64 (H : Int), .int .i64 (L : Int)] ∧ Blk w' w2.heap.size 33 W3.cells) (by kernel_rfl) (⟨X0, X3⟩) (fun hHeld => ?_)
        generalize hAA : w9.drew = wA at *
        clear hAA
        refine wpAnyH_take (i := 0) (v := .agg #[.int .i64 (V : Int), .int .i64 (D : Int), .int .i64 (Hd : Int), .int .i64 (H : Int), .int .i64 (L : Int)]) rfl (by kernel_rfl) (by kernel_rfl) (by kernel_rfl) (fun _ _ _ h => h) (yields_row (by rfl) 23 _ rfl w.heap.size rfl 23 #[.int .i64 (V : Int), .int .i64 (D : Int), .int .i64 (Hd : Int), .int .i64 (H : Int), .int .i64 (L : Int)] _ (fun w' hS => hS.1) Tryz.underlying23 rfl Tryz.infoCf) (by assumption) ?_
        simp only [List.getElem_toArray, List.getElem_cons_zero, Act.put, List.setIfInBounds_toArray, List.set_cons_zero, List.set_cons_succ]
        refine wpAnyH_take (i := 1) (v := .agg W3.cells) rfl (by kernel_rfl) (by kernel_rfl) (by kernel_rfl) (fun _ _ _ h => h) (yields_row (by rfl) 33 _ rfl w2.heap.size rfl 33 W3.cells _ (fun w' hS => hS.2) Tryz.underlying33 rfl Tryz.infoRW) (by assumption) ?_
        simp only [List.getElem_toArray, List.getElem_cons_succ, List.getElem_cons_zero, Act.put, List.setIfInBounds_toArray, List.set_cons_zero, List.set_cons_succ]
        refine wpAnyH_take (i := 3) (v := (.slice (some ⟨b2, 0, none⟩) l2 kr)) rfl (by kernel_rfl) (by kernel_rfl) (by kernel_rfl) (fun _ _ _ h => h) (Or.inl ⟨by rfl, ?_⟩) (by assumption) ?_
        · intro w' hSw
          go_simp
        simp only [List.getElem_toArray, List.getElem_cons_succ, List.getElem_cons_zero, Act.put, List.setIfInBounds_toArray, List.set_cons_zero, List.set_cons_succ]
        refine wpAnyH_take (i := 4) (v := (.int .i64 1)) rfl (by kernel_rfl) (by kernel_rfl) (by kernel_rfl) (fun _ _ _ h => h) (Or.inl ⟨by rfl, ?_⟩) (by assumption) ?_
        · intro w' hSw
          go_simp
        simp only [List.getElem_toArray, List.getElem_cons_succ, List.getElem_cons_zero, Act.put, List.setIfInBounds_toArray, List.set_cons_zero, List.set_cons_succ]
        have T2 := of6_any W3 xs _ wA R1 (by have := HXL.out; omega)
        refine wpAnyH_ready (rs := [2]) (by kernel_rfl) (by simp) ?_
        refine AllReadyH.cons rfl (fun Kc hKc => ?_) AllReadyH.nil
        simp only [List.getElem_toArray, List.getElem_cons_succ, List.getElem_cons_zero]
        rw [if_pos (by rfl)]
        go_wp2_with fail
        refine (T2).mono ?_
        rintro e wB ⟨W5, rfl, ⟨ys, T3⟩, EM⟩
        replace X0 := X0.below EM
        replace X3 := X3.below EM
        replace O3 := O3.below EM
        replace I1 := I1.below EM
        replace R1 := R1.below EM
        replace G3 := G3.below EM
        replace DB := below_then DB EM
        clear EM
        clear T2
        have HQ := check_again HT1.out T3 V D Hd H L
        obtain ⟨O5, hl5⟩ := own_told hW3 (by omega) T3
        rw [HK.out, cutM_twice] at O5 hl5
        have hW5 := O5.ok
        clear T3 R1
        go_wp2_with fail
        refine hKc.out _ _ (⟨X0, X3⟩) (fun hHeld => ?_)
        clear hKc Kc
        rw [hqc] at HQ
        have G5 := own_good O5 hl5 HQ
        have FF := run_bad V D Hd H L W5 ys _ (some ⟨b2, 0, none⟩) l2 kr Q (1) wB G5 I1 hqp
        rw [HQE.out] at FF
        unfold cfgC at FF
        clear G5
        refine wpAnyH_ready (rs := [5]) (by kernel_rfl) (by simp) ?_
        refine AllReadyH.cons rfl (fun Kc hKc => ?_) AllReadyH.nil
        simp only [List.getElem_toArray, List.getElem_cons_succ, List.getElem_cons_zero]
        rw [if_pos (by rfl)]
        go_wp2_with fail
        refine (FF).mono ?_
        rintro e wC ⟨rfl, EM⟩
        replace X0 := X0.below EM
        replace X3 := X3.below EM
        replace O3 := O3.below EM
        replace I1 := I1.below EM
        replace G3 := G3.below EM
        replace DB := below_then DB EM
        clear EM
        clear FF O5 hl5 HQ
        go_wp2_with fail
        refine hKc.out _ _ (⟨X0, X3⟩) (fun hHeld => ?_)
        clear hKc Kc
        refine wpAnyH_take (i := 6) (v := (.tuple #[.slice none 0 0, .int .i64 qp])) rfl (by kernel_rfl) (by kernel_rfl) (by kernel_rfl) (fun _ _ _ h => h) (Or.inl ⟨by rfl, ?_⟩) (by assumption) ?_
        · intro w' hSw
          go_simp
        simp only [List.getElem_toArray, List.getElem_cons_succ, List.getElem_cons_zero, Act.put, List.setIfInBounds_toArray, List.set_cons_zero, List.set_cons_succ]
        refine wpAnyH_take (i := 7) (v := (.slice none 0 0)) rfl (by kernel_rfl) (by kernel_rfl) (by kernel_rfl) (fun _ _ _ h => h) (Or.inl ⟨by rfl, ?_⟩) (by assumption) ?_
        · intro w' hSw
          go_simp
        simp only [List.getElem_toArray, List.getElem_cons_succ, List.getElem_cons_zero, Act.put, List.setIfInBounds_toArray, List.set_cons_zero, List.set_cons_succ]
        refine wpAnyH_take (i := 8) (v := (.int .i64 qp)) rfl (by kernel_rfl) (by kernel_rfl) (by kernel_rfl) (fun _ _ _ h => h) (Or.inl ⟨by rfl, ?_⟩) (by assumption) ?_
        · intro w' hSw
          go_simp
        simp only [List.getElem_toArray, List.getElem_cons_succ, List.getElem_cons_zero, Act.put, List.setIfInBounds_toArray, List.set_cons_zero, List.set_cons_succ]
        refine wpAnyH_take (i := 9) (v := (.slice none 0 0)) rfl (by kernel_rfl) (by kernel_rfl) (by kernel_rfl) (fun _ _ _ h => h) (Or.inl ⟨by rfl, ?_⟩) (by assumption) ?_
        · intro w' hSw
          go_simp
        simp only [List.getElem_toArray, List.getElem_cons_succ, List.getElem_cons_zero, Act.put, List.setIfInBounds_toArray, List.set_cons_zero, List.set_cons_succ]
        refine wpAnyH_take (i := 10) (v := (.int .i64 qp)) rfl (by kernel_rfl) (by kernel_rfl) (by kernel_rfl) (fun _ _ _ h => h) (Or.inl ⟨by rfl, ?_⟩) (by assumption) ?_
        · intro w' hSw
          go_simp
        simp only [List.getElem_toArray, List.getElem_cons_succ, List.getElem_cons_zero, Act.put, List.setIfInBounds_toArray, List.set_cons_zero, List.set_cons_succ]
        refine wpAnyH_done (by kernel_rfl) ?_ _
        clear hHeld
        clear G3
        have a0 : wC.cell? ⟨w.heap.size, 0, none⟩ = some (.int .i64 (V : Int)) := X0.cell 0 rfl
        have a1 : wC.cell? ⟨w.heap.size, 1, none⟩ = some (.int .i64 (D : Int)) := X0.cell 1 rfl
        have a2 : wC.cell? ⟨w.heap.size, 2, none⟩ = some (.int .i64 (Hd : Int)) := X0.cell 2 rfl
        have a3 : wC.cell? ⟨w.heap.size, 3, none⟩ = some (.int .i64 (H : Int)) := X0.cell 3 rfl
        have a4 : wC.cell? ⟨w.heap.size, 4, none⟩ = some (.int .i64 (L : Int)) := X0.cell 4 rfl
        go_wp2_with (refine wpList_load_row rfl 33 _ rfl w2.heap.size rfl 33 W3.cells (0, 0) _ X3 Tryz.underlying33 rfl Tryz.infoRW ?_)
        refine (KK _ O3.b).mono ?_
        rintro e wD ⟨rfl, EM⟩
        replace X0 := X0.below EM
        replace I1 := I1.below EM
        replace DB := below_then DB EM
        clear a0 a1 a2 a3 a4 KK EM X3 O3
        have a0 : wD.cell? ⟨w.heap.size, 0, none⟩ = some (.int .i64 (V : Int)) := X0.cell 0 rfl
        have a1 : wD.cell? ⟨w.heap.size, 1, none⟩ = some (.int .i64 (D : Int)) := X0.cell 1 rfl
        have a2 : wD.cell? ⟨w.heap.size, 2, none⟩ = some (.int .i64 (Hd : Int)) := X0.cell 2 rfl
        have a3 : wD.cell? ⟨w.heap.size, 3, none⟩ = some (.int .i64 (H : Int)) := X0.cell 3 rfl
        have a4 : wD.cell? ⟨w.heap.size, 4, none⟩ = some (.int .i64 (L : Int)) := X0.cell 4 rfl
        go_wp2_with fail
        refine (RA _ I1).mono ?_
        rintro e wE ⟨rfl, EM⟩
        replace X0 := X0.below EM
        replace DB := below_then DB EM
        clear a0 a1 a2 a3 a4 RA EM
        go_wp2_with fail
        refine (CW _ DB).mono ?_
        rintro e wF ⟨rfl, EM⟩
        replace DB := below_then DB EM
        have hne : (qp != qp) = false := by simp
        go_wp2_with fail
        go_ret
        exact ⟨rfl, DB⟩
      rw [hqp] at RA
      have RR := fun wv (hW : WtAt wv V D H W3 xs (cutM 100 (min 5 VV.b.n) MM)) (hA : IArg wv (some ⟨b2, 0, none⟩) l2 kr Q) => rrun_any V D Hd H L l2 kr b2 0 W3 xs _ Q (1) wv hW hxL hA hsh hqp
      obtain ⟨hpp, -, -⟩ := asked_ok hqp
      obtain ⟨pp1, pp2, pp3⟩ := prompt_ok hpp
      have hPn : Q ≠ [] := fun h => by rw [h] at pp1; simp at pp1
      have HSY : Hid (∀ j k, -9223372036854775808 ≤ el (runY (cutM 100 (min 5 VV.b.n) MM) V D H Hd L Q j) k ∧ el (runY (cutM 100 (min 5 VV.b.n) MM) V D H Hd L Q j) k ≤ 9223372036854775807) := fun j k => tok_small' (V := V) (by omega) (runY_toks _ (by omega) Q j) k
      clear pp1 pp2 pp3 hpp
      have BD : Below w9.heap.size w9 w9.drew := (Below.refl _ w9).drew
      replace X0 := X0.below BD
      replace X3 := X3.below BD
      replace O3 := O3.below BD
      replace I1 := I1.below BD
      replace R1 := R1.below BD
      replace G3 := G3.below BD
      replace DB := DB.drew
      clear BD
      refine wp_region_held_drew (S := fun w' => Blk w' w.heap.size 23 #[.int .i64 (V : Int), .int .i64 (D : Int), .int .i64 (Hd : Int), .int .i64 (H : Int), .int .i64 (L : Int)] ∧ Blk w' w2.heap.size 33 W3.cells) (by kernel_rfl) (⟨X0, X3⟩) (fun hHeld => ?_)
      generalize hAA : w9.drew = wA at *
      clear hAA
      refine wpAnyH_take (i := 0) (v := .agg #[.int .i64 (V : Int), .int .i64 (D : Int), .int .i64 (Hd : Int), .int .i64 (H : Int), .int .i64 (L : Int)]) rfl (by kernel_rfl) (by kernel_rfl) (by kernel_rfl) (fun _ _ _ h => h) (yields_row (by rfl) 23 _ rfl w.heap.size rfl 23 #[.int .i64 (V : Int), .int .i64 (D : Int), .int .i64 (Hd : Int), .int .i64 (H : Int), .int .i64 (L : Int)] _ (fun w' hS => hS.1) Tryz.underlying23 rfl Tryz.infoCf) (by assumption) ?_
      simp only [List.getElem_toArray, List.getElem_cons_zero, Act.put, List.setIfInBounds_toArray, List.set_cons_zero, List.set_cons_succ]
      refine wpAnyH_take (i := 1) (v := .agg W3.cells) rfl (by kernel_rfl) (by kernel_rfl) (by kernel_rfl) (fun _ _ _ h => h) (yields_row (by rfl) 33 _ rfl w2.heap.size rfl 33 W3.cells _ (fun w' hS => hS.2) Tryz.underlying33 rfl Tryz.infoRW) (by assumption) ?_
      simp only [List.getElem_toArray, List.getElem_cons_succ, List.getElem_cons_zero, Act.put, List.setIfInBounds_toArray, List.set_cons_zero, List.set_cons_succ]
      refine wpAnyH_take (i := 3) (v := (.slice (some ⟨b2, 0, none⟩) l2 kr)) rfl (by kernel_rfl) (by kernel_rfl) (by kernel_rfl) (fun _ _ _ h => h) (Or.inl ⟨by rfl, ?_⟩) (by assumption) ?_
      · intro w' hSw
        go_simp
      simp only [List.getElem_toArray, List.getElem_cons_succ, List.getElem_cons_zero, Act.put, List.setIfInBounds_toArray, List.set_cons_zero, List.set_cons_succ]
      refine wpAnyH_take (i := 4) (v := (.int .i64 1)) rfl (by kernel_rfl) (by kernel_rfl) (by kernel_rfl) (fun _ _ _ h => h) (Or.inl ⟨by rfl, ?_⟩) (by assumption) ?_
      · intro w' hSw
        go_simp
      simp only [List.getElem_toArray, List.getElem_cons_succ, List.getElem_cons_zero, Act.put, List.setIfInBounds_toArray, List.set_cons_zero, List.set_cons_succ]
      have T2 := of6_any W3 xs _ wA R1 (by have := HXL.out; omega)
      refine wpAnyH_ready (rs := [2]) (by kernel_rfl) (by simp) ?_
      refine AllReadyH.cons rfl (fun Kc hKc => ?_) AllReadyH.nil
      simp only [List.getElem_toArray, List.getElem_cons_succ, List.getElem_cons_zero]
      rw [if_pos (by rfl)]
      go_wp2_with fail
      refine (T2).mono ?_
      rintro e wB ⟨W5, rfl, ⟨ys, T3⟩, EM⟩
      replace X0 := X0.below EM
      replace X3 := X3.below EM
      replace O3 := O3.below EM
      replace I1 := I1.below EM
      replace R1 := R1.below EM
      replace G3 := G3.below EM
      replace DB := below_then DB EM
      clear EM
      clear T2
      have HQ := check_again HT1.out T3 V D Hd H L
      obtain ⟨O5, hl5⟩ := own_told hW3 (by omega) T3
      rw [HK.out, cutM_twice] at O5 hl5
      have hW5 := O5.ok
      clear T3 R1
      go_wp2_with fail
      refine hKc.out _ _ (⟨X0, X3⟩) (fun hHeld => ?_)
      clear hKc Kc
      rw [hqc] at HQ
      have G5 := own_good O5 hl5 HQ
      have FF := run_ok V D Hd H L W5 ys _ (some ⟨b2, 0, none⟩) l2 kr Q (1) wB G5 I1 (HT.out _ DB) hqp
      unfold cfgC at FF
      clear G5
      refine wpAnyH_ready (rs := [5]) (by kernel_rfl) (by simp) ?_
      refine AllReadyH.cons rfl (fun Kc hKc => ?_) AllReadyH.nil
      simp only [List.getElem_toArray, List.getElem_cons_succ, List.getElem_cons_zero]
      rw [if_pos (by rfl)]
      go_wp2_with fail
      refine (FF).mono ?_
      rintro e wC ⟨j, ya, yc, rfl, OY, ho, hall, EM⟩
      replace X0 := X0.below EM
      replace X3 := X3.below EM
      replace O3 := O3.below EM
      replace I1 := I1.below EM
      replace G3 := G3.below EM
      replace DB := below_then DB EM
      clear EM
      clear FF O5 hl5 HQ
      rw [(runS_inv _ V D H Hd L Q hPn j).1] at OY ho
      replace hall := fun i (hi : i < j) => by have := hall i hi; rw [(runS_inv _ V D H Hd L Q hPn i).1] at this; exact this
      obtain ⟨ya', yc', ey, AY⟩ := IOwn.arg OY (HSY.out j)
      simp only [Value.slice.injEq, true_and] at ey
      obtain ⟨rfl, rfl⟩ := ey
      clear OY
      go_wp2_with fail
      refine hKc.out _ _ (⟨X0, X3⟩) (fun hHeld => ?_)
      clear hKc Kc
      refine wpAnyH_take (i := 6) (v := (.tuple #[.slice ya j yc, .int .i64 0])) rfl (by kernel_rfl) (by kernel_rfl) (by kernel_rfl) (fun _ _ _ h => h) (Or.inl ⟨by rfl, ?_⟩) (by assumption) ?_
      · intro w' hSw
        go_simp
      simp only [List.getElem_toArray, List.getElem_cons_succ, List.getElem_cons_zero, Act.put, List.setIfInBounds_toArray, List.set_cons_zero, List.set_cons_succ]
      refine wpAnyH_take (i := 7) (v := (.slice ya j yc)) rfl (by kernel_rfl) (by kernel_rfl) (by kernel_rfl) (fun _ _ _ h => h) (Or.inl ⟨by rfl, ?_⟩) (by assumption) ?_
      · intro w' hSw
        go_simp
      simp only [List.getElem_toArray, List.getElem_cons_succ, List.getElem_cons_zero, Act.put, List.setIfInBounds_toArray, List.set_cons_zero, List.set_cons_succ]
      refine wpAnyH_take (i := 8) (v := (.int .i64 0)) rfl (by kernel_rfl) (by kernel_rfl) (by kernel_rfl) (fun _ _ _ h => h) (Or.inl ⟨by rfl, ?_⟩) (by assumption) ?_
      · intro w' hSw
        go_simp
      simp only [List.getElem_toArray, List.getElem_cons_succ, List.getElem_cons_zero, Act.put, List.setIfInBounds_toArray, List.set_cons_zero, List.set_cons_succ]
      refine wpAnyH_take (i := 9) (v := (.slice ya j yc)) rfl (by kernel_rfl) (by kernel_rfl) (by kernel_rfl) (fun _ _ _ h => h) (Or.inl ⟨by rfl, ?_⟩) (by assumption) ?_
      · intro w' hSw
        go_simp
      simp only [List.getElem_toArray, List.getElem_cons_succ, List.getElem_cons_zero, Act.put, List.setIfInBounds_toArray, List.set_cons_zero, List.set_cons_succ]
      refine wpAnyH_take (i := 10) (v := (.int .i64 0)) rfl (by kernel_rfl) (by kernel_rfl) (by kernel_rfl) (fun _ _ _ h => h) (Or.inl ⟨by rfl, ?_⟩) (by assumption) ?_
      · intro w' hSw
        go_simp
      simp only [List.getElem_toArray, List.getElem_cons_succ, List.getElem_cons_zero, Act.put, List.setIfInBounds_toArray, List.set_cons_zero, List.set_cons_succ]
      refine wpAnyH_done (by kernel_rfl) ?_ _
      clear hHeld
      have a0 : wC.cell? ⟨w.heap.size, 0, none⟩ = some (.int .i64 (V : Int)) := X0.cell 0 rfl
      have a1 : wC.cell? ⟨w.heap.size, 1, none⟩ = some (.int .i64 (D : Int)) := X0.cell 1 rfl
      have a2 : wC.cell? ⟨w.heap.size, 2, none⟩ = some (.int .i64 (Hd : Int)) := X0.cell 2 rfl
      have a3 : wC.cell? ⟨w.heap.size, 3, none⟩ = some (.int .i64 (H : Int)) := X0.cell 3 rfl
      have a4 : wC.cell? ⟨w.heap.size, 4, none⟩ = some (.int .i64 (L : Int)) := X0.cell 4 rfl
      go_wp2_with (refine wpList_load_row rfl 33 _ rfl w2.heap.size rfl 33 W3.cells (0, 0) _ X3 Tryz.underlying33 rfl Tryz.infoRW ?_)
      refine (KK _ O3.b).mono ?_
      rintro e wD ⟨rfl, EM⟩
      replace X0 := X0.below EM
      replace X3 := X3.below EM
      replace I1 := I1.below EM
      replace G3 := G3.below EM
      replace AY := AY.below EM
      replace DB := below_then DB EM
      clear a0 a1 a2 a3 a4 KK EM O3
      have a0 : wD.cell? ⟨w.heap.size, 0, none⟩ = some (.int .i64 (V : Int)) := X0.cell 0 rfl
      have a1 : wD.cell? ⟨w.heap.size, 1, none⟩ = some (.int .i64 (D : Int)) := X0.cell 1 rfl
      have a2 : wD.cell? ⟨w.heap.size, 2, none⟩ = some (.int .i64 (Hd : Int)) := X0.cell 2 rfl
      have a3 : wD.cell? ⟨w.heap.size, 3, none⟩ = some (.int .i64 (H : Int)) := X0.cell 3 rfl
      have a4 : wD.cell? ⟨w.heap.size, 4, none⟩ = some (.int .i64 (L : Int)) := X0.cell 4 rfl
      go_wp2_with fail
      refine (RA _ I1).mono ?_
      rintro e wE ⟨rfl, EM⟩
      replace X0 := X0.below EM
      replace X3 := X3.below EM
      replace I1 := I1.below EM
      replace G3 := G3.below EM
      replace AY := AY.below EM
      replace DB := below_then DB EM
      clear a0 a1 a2 a3 a4 RA EM
      go_wp2_with fail
      refine (CW _ DB).mono ?_
      rintro e wF ⟨rfl, EM⟩
      replace X0 := X0.below EM
      replace X3 := X3.below EM
      replace I1 := I1.below EM
      replace G3 := G3.below EM
      replace AY := AY.below EM
      replace DB := below_then DB EM
      clear EM CW
      have a0 : wF.cell? ⟨w.heap.size, 0, none⟩ = some (.int .i64 (V : Int)) := X0.cell 0 rfl
      have a1 : wF.cell? ⟨w.heap.size, 1, none⟩ = some (.int .i64 (D : Int)) := X0.cell 1 rfl
      have a2 : wF.cell? ⟨w.heap.size, 2, none⟩ = some (.int .i64 (Hd : Int)) := X0.cell 2 rfl
      have a3 : wF.cell? ⟨w.heap.size, 3, none⟩ = some (.int .i64 (H : Int)) := X0.cell 3 rfl
      have a4 : wF.cell? ⟨w.heap.size, 4, none⟩ = some (.int .i64 (L : Int)) := X0.cell 4 rfl
      have e0 : wF.cell? ⟨w2.heap.size, 0, none⟩ = some (.int .i64 W3.e.r) := X3.cell 0 rfl
      have e1 : wF.cell? ⟨w2.heap.size, 1, none⟩ = some (.int .i64 W3.e.c) := X3.cell 1 rfl
      have e2 : wF.cell? ⟨w2.heap.size, 2, none⟩ = some (.slice W3.e.d.ao W3.e.d.n W3.e.d.c) := X3.cell 2 rfl
      have e3 : wF.cell? ⟨w2.heap.size, 3, none⟩ = some (.slice W3.b.ao W3.b.n W3.b.c) := X3.cell 3 rfl
      have e4 : wF.cell? ⟨w2.heap.size, 4, none⟩ = some (.slice W3.l.ao W3.l.n W3.l.c) := X3.cell 4 rfl
      have e5 : wF.cell? ⟨w2.heap.size, 5, none⟩ = some (.int .i64 W3.o.r) := X3.cell 5 rfl
      have e6 : wF.cell? ⟨w2.heap.size, 6, none⟩ = some (.int .i64 W3.o.c) := X3.cell 6 rfl
      have e7 : wF.cell? ⟨w2.heap.size, 7, none⟩ = some (.slice W3.o.d.ao W3.o.d.n W3.o.d.c) := X3.cell 7 rfl
      have RR1 := RR _ G3 I1
      go_wp2_with fail
      refine RR1.mono ?_
      rintro e wG ⟨j', g', c', rfl, OZ, ho', hall', EM⟩
      replace AY := AY.below EM
      replace DB := below_then DB EM
      clear EM RR RR1 a0 a1 a2 a3 a4 e0 e1 e2 e3 e4 e5 e6 e7
      have hjj := first_over ho hall ho' hall'
      subst hjj
      obtain ⟨za, zc, ez, AZ⟩ := IOwn.arg OZ (HSY.out j)
      simp only [Value.slice.injEq, true_and] at ez
      obtain ⟨rfl, rfl⟩ := ez
      go_wp2_with fail
      refine (refSameI_eq _ _ _ _ _ _ _ AY.row AZ.row).mono ?_
      rintro e wH ⟨rfl, m1, rfl⟩
      have EM : Below wG.heap.size wG (wG.drewN m1) := below_drewN (Below.refl _ wG) m1
      replace DB := below_then DB EM
      clear EM AY AZ OZ
      generalize wG.drewN m1 = wI at *
      go_wp2_with fail
      go_ret
      exact ⟨rfl, DB⟩
    · have hs1 : smallN C.D C.H C.L = 1 := by unfold smallN at hs ⊢; split at hs <;> simp_all
      rw [hs1]
      go_wp2_with fail
      by_cases hqc : checkN C.V C.D C.Hd C.H C.L W3 xs = 0
      rotate_left
      · have KK := fun wv (hb : BlocksAt wv W3.b xs) => RK W3 xs wv hW3 hb
        generalize hqe : checkN C.V C.D C.Hd C.H C.L W3 xs = qc at *
        have hq1 : (qc == 0) = false := by simpa using hqc
        have hq2 : (qc != 0) = true := by simp [bne, hq1]
        clear RK CS
        have BD : Below wk.heap.size wk wk.drew := (Below.refl _ wk).drew
        replace X0 := X0.below BD
        replace X3 := X3.below BD
        replace O3 := O3.below BD
        replace I1 := I1.below BD
        replace R1 := R1.below BD
        replace DB := DB.drew
        clear BD
        refine wp_region_held_drew (S := fun w' => Blk w' w.heap.size 23 #[.int .i64 C.V, .int .i64 C.D, .int .i64 C.Hd, .int .i64 C.H, .int .i64 C.L] ∧ Blk w' w2.heap.size 33 W3.cells) (by kernel_rfl) (⟨X0, X3⟩) (fun hHeld => ?_)
        generalize hAA : wk.drew = wA at *
        clear hAA
        refine wpAnyH_take (i := 0) (v := .agg #[.int .i64 C.V, .int .i64 C.D, .int .i64 C.Hd, .int .i64 C.H, .int .i64 C.L]) rfl (by kernel_rfl) (by kernel_rfl) (by kernel_rfl) (fun _ _ _ h => h) (yields_row (by rfl) 23 _ rfl w.heap.size rfl 23 #[.int .i64 C.V, .int .i64 C.D, .int .i64 C.Hd, .int .i64 C.H, .int .i64 C.L] _ (fun w' hS => hS.1) Tryz.underlying23 rfl Tryz.infoCf) (by assumption) ?_
        simp only [List.getElem_toArray, List.getElem_cons_zero, Act.put, List.setIfInBounds_toArray, List.set_cons_zero, List.set_cons_succ]
        refine wpAnyH_take (i := 1) (v := .agg W3.cells) rfl (by kernel_rfl) (by kernel_rfl) (by kernel_rfl) (fun _ _ _ h => h) (yields_row (by rfl) 33 _ rfl w2.heap.size rfl 33 W3.cells _ (fun w' hS => hS.2) Tryz.underlying33 rfl Tryz.infoRW) (by assumption) ?_
        simp only [List.getElem_toArray, List.getElem_cons_succ, List.getElem_cons_zero, Act.put, List.setIfInBounds_toArray, List.set_cons_zero, List.set_cons_succ]
        refine wpAnyH_take (i := 3) (v := (.slice (some ⟨b1, 0, none⟩) l1 kq)) rfl (by kernel_rfl) (by kernel_rfl) (by kernel_rfl) (fun _ _ _ h => h) (Or.inl ⟨by rfl, ?_⟩) (by assumption) ?_
        · intro w' hSw
          go_simp
        simp only [List.getElem_toArray, List.getElem_cons_succ, List.getElem_cons_zero, Act.put, List.setIfInBounds_toArray, List.set_cons_zero, List.set_cons_succ]
        refine wpAnyH_take (i := 4) (v := (.int .i64 6)) rfl (by kernel_rfl) (by kernel_rfl) (by kernel_rfl) (fun _ _ _ h => h) (Or.inl ⟨by rfl, ?_⟩) (by assumption) ?_
        · intro w' hSw
          go_simp
        simp only [List.getElem_toArray, List.getElem_cons_succ, List.getElem_cons_zero, Act.put, List.setIfInBounds_toArray, List.set_cons_zero, List.set_cons_succ]
        have T2 := of6_any W3 xs _ wA R1 (by have := HXL.out; omega)
        refine wpAnyH_ready (rs := [2]) (by kernel_rfl) (by simp) ?_
        refine AllReadyH.cons rfl (fun Kc hKc => ?_) AllReadyH.nil
        simp only [List.getElem_toArray, List.getElem_cons_succ, List.getElem_cons_zero]
        rw [if_pos (by rfl)]
        go_wp2_with fail
        refine (T2).mono ?_
        rintro e wB ⟨W5, rfl, ⟨ys, T3⟩, EM⟩
        replace X0 := X0.below EM
        replace X3 := X3.below EM
        replace O3 := O3.below EM
        replace I1 := I1.below EM
        replace R1 := R1.below EM
        replace DB := below_then DB EM
        clear EM
        clear T2
        have HQ := check_again HT1.out T3 C.V C.D C.Hd C.H C.L
        obtain ⟨O5, hl5⟩ := own_told hW3 (by omega) T3
        rw [HK.out, cutM_twice] at O5 hl5
        have hW5 := O5.ok
        clear T3 R1
        go_wp2_with fail
        refine hKc.out _ _ (⟨X0, X3⟩) (fun hHeld => ?_)
        clear hKc Kc
        have FF := FN W5 ys (some ⟨b1, 0, none⟩) l1 kq (6) wB hW5 O5.b (by rw [HQ, hqe]; exact hqc)
        rw [HQ, hqe] at FF
        refine wpAnyH_ready (rs := [5]) (by kernel_rfl) (by simp) ?_
        refine AllReadyH.cons rfl (fun Kc hKc => ?_) AllReadyH.nil
        simp only [List.getElem_toArray, List.getElem_cons_succ, List.getElem_cons_zero]
        rw [if_pos (by rfl)]
        go_wp2_with fail
        refine (FF).mono ?_
        rintro e wC ⟨rfl, EM⟩
        replace X0 := X0.below EM
        replace X3 := X3.below EM
        replace O3 := O3.below EM
        replace I1 := I1.below EM
        replace DB := below_then DB EM
        clear EM
        clear FF O5 hl5 HQ
        go_wp2_with fail
        refine hKc.out _ _ (⟨X0, X3⟩) (fun hHeld => ?_)
        clear hKc Kc
        refine wpAnyH_take (i := 6) (v := (.tuple #[.slice none 0 0, .int .i64 qc])) rfl (by kernel_rfl) (by kernel_rfl) (by kernel_rfl) (fun _ _ _ h => h) (Or.inl ⟨by rfl, ?_⟩) (by assumption) ?_
        · intro w' hSw
          go_simp
        simp only [List.getElem_toArray, List.getElem_cons_succ, List.getElem_cons_zero, Act.put, List.setIfInBounds_toArray, List.set_cons_zero, List.set_cons_succ]
        refine wpAnyH_take (i := 7) (v := (.slice none 0 0)) rfl (by kernel_rfl) (by kernel_rfl) (by kernel_rfl) (fun _ _ _ h => h) (Or.inl ⟨by rfl, ?_⟩) (by assumption) ?_
        · intro w' hSw
          go_simp
        simp only [List.getElem_toArray, List.getElem_cons_succ, List.getElem_cons_zero, Act.put, List.setIfInBounds_toArray, List.set_cons_zero, List.set_cons_succ]
        refine wpAnyH_take (i := 8) (v := (.int .i64 qc)) rfl (by kernel_rfl) (by kernel_rfl) (by kernel_rfl) (fun _ _ _ h => h) (Or.inl ⟨by rfl, ?_⟩) (by assumption) ?_
        · intro w' hSw
          go_simp
        simp only [List.getElem_toArray, List.getElem_cons_succ, List.getElem_cons_zero, Act.put, List.setIfInBounds_toArray, List.set_cons_zero, List.set_cons_succ]
        refine wpAnyH_take (i := 9) (v := (.slice none 0 0)) rfl (by kernel_rfl) (by kernel_rfl) (by kernel_rfl) (fun _ _ _ h => h) (Or.inl ⟨by rfl, ?_⟩) (by assumption) ?_
        · intro w' hSw
          go_simp
        simp only [List.getElem_toArray, List.getElem_cons_succ, List.getElem_cons_zero, Act.put, List.setIfInBounds_toArray, List.set_cons_zero, List.set_cons_succ]
        refine wpAnyH_take (i := 10) (v := (.int .i64 qc)) rfl (by kernel_rfl) (by kernel_rfl) (by kernel_rfl) (fun _ _ _ h => h) (Or.inl ⟨by rfl, ?_⟩) (by assumption) ?_
        · intro w' hSw
          go_simp
        simp only [List.getElem_toArray, List.getElem_cons_succ, List.getElem_cons_zero, Act.put, List.setIfInBounds_toArray, List.set_cons_zero, List.set_cons_succ]
        refine wpAnyH_done (by kernel_rfl) ?_ _
        clear hHeld
        clear FN
        have a0 : wC.cell? ⟨w.heap.size, 0, none⟩ = some (.int .i64 C.V) := X0.cell 0 rfl
        have a1 : wC.cell? ⟨w.heap.size, 1, none⟩ = some (.int .i64 C.D) := X0.cell 1 rfl
        have a2 : wC.cell? ⟨w.heap.size, 2, none⟩ = some (.int .i64 C.Hd) := X0.cell 2 rfl
        have a3 : wC.cell? ⟨w.heap.size, 3, none⟩ = some (.int .i64 C.H) := X0.cell 3 rfl
        have a4 : wC.cell? ⟨w.heap.size, 4, none⟩ = some (.int .i64 C.L) := X0.cell 4 rfl
        go_wp2_with (refine wpList_load_row rfl 33 _ rfl w2.heap.size rfl 33 W3.cells (0, 0) _ X3 Tryz.underlying33 rfl Tryz.infoRW ?_)
        refine (KK _ O3.b).mono ?_
        rintro e wD ⟨rfl, EM⟩
        replace X0 := X0.below EM
        replace I1 := I1.below EM
        replace DB := below_then DB EM
        clear a0 a1 a2 a3 a4 KK EM X3 O3
        go_wp2_with fail
        refine (CW _ DB).mono ?_
        rintro e wF ⟨rfl, EM⟩
        replace DB := below_then DB EM
        have hne : (qc != qc) = false := by simp
        go_wp2_with fail
        go_ret
        exact ⟨rfl, DB⟩
      have hqc0 := hqc
      obtain ⟨hsh, -⟩ := check_shape hqc
      have hkk := shape_ok hsh
      clear FN CS
      obtain ⟨CV, CD, CHd, CH, CL⟩ := C
      simp only at *
      obtain ⟨V, rfl⟩ : ∃ n : Nat, CV = n := ⟨CV.toNat, by omega⟩
      obtain ⟨D, rfl⟩ : ∃ n : Nat, CD = n := ⟨CD.toNat, by omega⟩
      obtain ⟨Hd, rfl⟩ : ∃ n : Nat, CHd = n := ⟨CHd.toNat, by omega⟩
      obtain ⟨H, rfl⟩ : ∃ n : Nat, CH = n := ⟨CH.toNat, by omega⟩
      obtain ⟨L, rfl⟩ : ∃ n : Nat, CL = n := ⟨CL.toNat, by omega⟩
      obtain ⟨G3, hxL⟩ := own_wt O3 HL3.out hqc
      clear hqc0
      have KK := fun wv (hb : BlocksAt wv W3.b xs) => RK W3 xs wv hW3 hb
      rw [hqc] at KK
      have RA := fun wv (hA : IArg wv (some ⟨b1, 0, none⟩) l1 kq P) => refAsked_any V D Hd H L (some ⟨b1, 0, none⟩) l1 kq P (6) wv hA
      unfold cfgC at RA
      clear RK
      by_cases hqp : askedN V P (6) = 0
      rotate_left
      · obtain ⟨qp, hqe⟩ : ∃ q, askedN V P (6) = q := ⟨_, rfl⟩
        rw [hqe] at RA
        have hq0 : ¬ qp = 0 := by rw [← hqe]; exact hqp
        have HQE : Hid (askedN V P (6) = qp) := hqe
        clear hqe
        have hq1 : (qp == 0) = false := by simpa using hq0
        have hq2 : (qp != 0) = true := by simp [bne, hq1]
        have BD : Below wk.heap.size wk wk.drew := (Below.refl _ wk).drew
        replace X0 := X0.below BD
        replace X3 := X3.below BD
        replace O3 := O3.below BD
        replace I1 := I1.below BD
        replace R1 := R1.below BD
        replace G3 := G3.below BD
        replace DB := DB.drew
        clear BD
        refine wp_region_held_drew (S := fun w' => Blk w' w.heap.size 23 #[.int .i64 (V : Int), .int .i64 (D : Int), .int .i64 (Hd : Int), .int .i64 (H : Int), .int .i64 (L : Int)] ∧ Blk w' w2.heap.size 33 W3.cells) (by kernel_rfl) (⟨X0, X3⟩) (fun hHeld => ?_)
        generalize hAA : wk.drew = wA at *
        clear hAA
        refine wpAnyH_take (i := 0) (v := .agg #[.int .i64 (V : Int), .int .i64 (D : Int), .int .i64 (Hd : Int), .int .i64 (H : Int), .int .i64 (L : Int)]) rfl (by kernel_rfl) (by kernel_rfl) (by kernel_rfl) (fun _ _ _ h => h) (yields_row (by rfl) 23 _ rfl w.heap.size rfl 23 #[.int .i64 (V : Int), .int .i64 (D : Int), .int .i64 (Hd : Int), .int .i64 (H : Int), .int .i64 (L : Int)] _ (fun w' hS => hS.1) Tryz.underlying23 rfl Tryz.infoCf) (by assumption) ?_
        simp only [List.getElem_toArray, List.getElem_cons_zero, Act.put, List.setIfInBounds_toArray, List.set_cons_zero, List.set_cons_succ]
        refine wpAnyH_take (i := 1) (v := .agg W3.cells) rfl (by kernel_rfl) (by kernel_rfl) (by kernel_rfl) (fun _ _ _ h => h) (yields_row (by rfl) 33 _ rfl w2.heap.size rfl 33 W3.cells _ (fun w' hS => hS.2) Tryz.underlying33 rfl Tryz.infoRW) (by assumption) ?_
        simp only [List.getElem_toArray, List.getElem_cons_succ, List.getElem_cons_zero, Act.put, List.setIfInBounds_toArray, List.set_cons_zero, List.set_cons_succ]
        refine wpAnyH_take (i := 3) (v := (.slice (some ⟨b1, 0, none⟩) l1 kq)) rfl (by kernel_rfl) (by kernel_rfl) (by kernel_rfl) (fun _ _ _ h => h) (Or.inl ⟨by rfl, ?_⟩) (by assumption) ?_
        · intro w' hSw
          go_simp
        simp only [List.getElem_toArray, List.getElem_cons_succ, List.getElem_cons_zero, Act.put, List.setIfInBounds_toArray, List.set_cons_zero, List.set_cons_succ]
        refine wpAnyH_take (i := 4) (v := (.int .i64 6)) rfl (by kernel_rfl) (by kernel_rfl) (by kernel_rfl) (fun _ _ _ h => h) (Or.inl ⟨by rfl, ?_⟩) (by assumption) ?_
        · intro w' hSw
          go_simp
        simp only [List.getElem_toArray, List.getElem_cons_succ, List.getElem_cons_zero, Act.put, List.setIfInBounds_toArray, List.set_cons_zero, List.set_cons_succ]
        have T2 := of6_any W3 xs _ wA R1 (by have := HXL.out; omega)
        refine wpAnyH_ready (rs := [2]) (by kernel_rfl) (by simp) ?_
        refine AllReadyH.cons rfl (fun Kc hKc => ?_) AllReadyH.nil
        simp only [List.getElem_toArray, List.getElem_cons_succ, List.getElem_cons_zero]
        rw [if_pos (by rfl)]
        go_wp2_with fail
        refine (T2).mono ?_
        rintro e wB ⟨W5, rfl, ⟨ys, T3⟩, EM⟩
        replace X0 := X0.below EM
        replace X3 := X3.below EM
        replace O3 := O3.below EM
        replace I1 := I1.below EM
        replace R1 := R1.below EM
        replace G3 := G3.below EM
        replace DB := below_then DB EM
        clear EM
        clear T2
        have HQ := check_again HT1.out T3 V D Hd H L
        obtain ⟨O5, hl5⟩ := own_told hW3 (by omega) T3
        rw [HK.out, cutM_twice] at O5 hl5
        have hW5 := O5.ok
        clear T3 R1
        go_wp2_with fail
        refine hKc.out _ _ (⟨X0, X3⟩) (fun hHeld => ?_)
        clear hKc Kc
        rw [hqc] at HQ
        have G5 := own_good O5 hl5 HQ
        have FF := run_bad V D Hd H L W5 ys _ (some ⟨b1, 0, none⟩) l1 kq P (6) wB G5 I1 hqp
        rw [HQE.out] at FF
        unfold cfgC at FF
        clear G5
        refine wpAnyH_ready (rs := [5]) (by kernel_rfl) (by simp) ?_
        refine AllReadyH.cons rfl (fun Kc hKc => ?_) AllReadyH.nil
        simp only [List.getElem_toArray, List.getElem_cons_succ, List.getElem_cons_zero]
        rw [if_pos (by rfl)]
        go_wp2_with fail
        refine (FF).mono ?_
        rintro e wC ⟨rfl, EM⟩
        replace X0 := X0.below EM
        replace X3 := X3.below EM
        replace O3 := O3.below EM
        replace I1 := I1.below EM
        replace G3 := G3.below EM
        replace DB := below_then DB EM
        clear EM
        clear FF O5 hl5 HQ
        go_wp2_with fail
        refine hKc.out _ _ (⟨X0, X3⟩) (fun hHeld => ?_)
        clear hKc Kc
        refine wpAnyH_take (i := 6) (v := (.tuple #[.slice none 0 0, .int .i64 qp])) rfl (by kernel_rfl) (by kernel_rfl) (by kernel_rfl) (fun _ _ _ h => h) (Or.inl ⟨by rfl, ?_⟩) (by assumption) ?_
        · intro w' hSw
          go_simp
        simp only [List.getElem_toArray, List.getElem_cons_succ, List.getElem_cons_zero, Act.put, List.setIfInBounds_toArray, List.set_cons_zero, List.set_cons_succ]
        refine wpAnyH_take (i := 7) (v := (.slice none 0 0)) rfl (by kernel_rfl) (by kernel_rfl) (by kernel_rfl) (fun _ _ _ h => h) (Or.inl ⟨by rfl, ?_⟩) (by assumption) ?_
        · intro w' hSw
          go_simp
        simp only [List.getElem_toArray, List.getElem_cons_succ, List.getElem_cons_zero, Act.put, List.setIfInBounds_toArray, List.set_cons_zero, List.set_cons_succ]
        refine wpAnyH_take (i := 8) (v := (.int .i64 qp)) rfl (by kernel_rfl) (by kernel_rfl) (by kernel_rfl) (fun _ _ _ h => h) (Or.inl ⟨by rfl, ?_⟩) (by assumption) ?_
        · intro w' hSw
          go_simp
        simp only [List.getElem_toArray, List.getElem_cons_succ, List.getElem_cons_zero, Act.put, List.setIfInBounds_toArray, List.set_cons_zero, List.set_cons_succ]
        refine wpAnyH_take (i := 9) (v := (.slice none 0 0)) rfl (by kernel_rfl) (by kernel_rfl) (by kernel_rfl) (fun _ _ _ h => h) (Or.inl ⟨by rfl, ?_⟩) (by assumption) ?_
        · intro w' hSw
          go_simp
        simp only [List.getElem_toArray, List.getElem_cons_succ, List.getElem_cons_zero, Act.put, List.setIfInBounds_toArray, List.set_cons_zero, List.set_cons_succ]
        refine wpAnyH_take (i := 10) (v := (.int .i64 qp)) rfl (by kernel_rfl) (by kernel_rfl) (by kernel_rfl) (fun _ _ _ h => h) (Or.inl ⟨by rfl, ?_⟩) (by assumption) ?_
        · intro w' hSw
          go_simp
        simp only [List.getElem_toArray, List.getElem_cons_succ, List.getElem_cons_zero, Act.put, List.setIfInBounds_toArray, List.set_cons_zero, List.set_cons_succ]
        refine wpAnyH_done (by kernel_rfl) ?_ _
        clear hHeld
        clear G3
        have a0 : wC.cell? ⟨w.heap.size, 0, none⟩ = some (.int .i64 (V : Int)) := X0.cell 0 rfl
        have a1 : wC.cell? ⟨w.heap.size, 1, none⟩ = some (.int .i64 (D : Int)) := X0.cell 1 rfl
        have a2 : wC.cell? ⟨w.heap.size, 2, none⟩ = some (.int .i64 (Hd : Int)) := X0.cell 2 rfl
        have a3 : wC.cell? ⟨w.heap.size, 3, none⟩ = some (.int .i64 (H : Int)) := X0.cell 3 rfl
        have a4 : wC.cell? ⟨w.heap.size, 4, none⟩ = some (.int .i64 (L : Int)) := X0.cell 4 rfl
        go_wp2_with (refine wpList_load_row rfl 33 _ rfl w2.heap.size rfl 33 W3.cells (0, 0) _ X3 Tryz.underlying33 rfl Tryz.infoRW ?_)
        refine (KK _ O3.b).mono ?_
        rintro e wD ⟨rfl, EM⟩
        replace X0 := X0.below EM
        replace I1 := I1.below EM
        replace DB := below_then DB EM
        clear a0 a1 a2 a3 a4 KK EM X3 O3
        have a0 : wD.cell? ⟨w.heap.size, 0, none⟩ = some (.int .i64 (V : Int)) := X0.cell 0 rfl
        have a1 : wD.cell? ⟨w.heap.size, 1, none⟩ = some (.int .i64 (D : Int)) := X0.cell 1 rfl
        have a2 : wD.cell? ⟨w.heap.size, 2, none⟩ = some (.int .i64 (Hd : Int)) := X0.cell 2 rfl
        have a3 : wD.cell? ⟨w.heap.size, 3, none⟩ = some (.int .i64 (H : Int)) := X0.cell 3 rfl
        have a4 : wD.cell? ⟨w.heap.size, 4, none⟩ = some (.int .i64 (L : Int)) := X0.cell 4 rfl
        go_wp2_with fail
        refine (RA _ I1).mono ?_
        rintro e wE ⟨rfl, EM⟩
        replace X0 := X0.below EM
        replace DB := below_then DB EM
        clear a0 a1 a2 a3 a4 RA EM
        go_wp2_with fail
        refine (CW _ DB).mono ?_
        rintro e wF ⟨rfl, EM⟩
        replace DB := below_then DB EM
        have hne : (qp != qp) = false := by simp
        go_wp2_with fail
        go_ret
        exact ⟨rfl, DB⟩
      rw [hqp] at RA
      have RR := fun wv (hW : WtAt wv V D H W3 xs (cutM 100 (min 5 VV.b.n) MM)) (hA : IArg wv (some ⟨b1, 0, none⟩) l1 kq P) => rrun_any V D Hd H L l1 kq b1 0 W3 xs _ P (6) wv hW hxL hA hsh hqp
      obtain ⟨hpp, -, -⟩ := asked_ok hqp
      obtain ⟨pp1, pp2, pp3⟩ := prompt_ok hpp
      have hPn : P ≠ [] := fun h => by rw [h] at pp1; simp at pp1
      have HSY : Hid (∀ j k, -9223372036854775808 ≤ el (runY (cutM 100 (min 5 VV.b.n) MM) V D H Hd L P j) k ∧ el (runY (cutM 100 (min 5 VV.b.n) MM) V D H Hd L P j) k ≤ 9223372036854775807) := fun j k => tok_small' (V := V) (by omega) (runY_toks _ (by omega) P j) k
      clear pp1 pp2 pp3 hpp
      have BD : Below wk.heap.size wk wk.drew := (Below.refl _ wk).drew
      replace X0 := X0.below BD
      replace X3 := X3.below BD
      replace O3 := O3.below BD
      replace I1 := I1.below BD
      replace R1 := R1.below BD
      replace G3 := G3.below BD
      replace DB := DB.drew
      clear BD
      refine wp_region_held_drew (S := fun w' => Blk w' w.heap.size 23 #[.int .i64 (V : Int), .int .i64 (D : Int), .int .i64 (Hd : Int), .int .i64 (H : Int), .int .i64 (L : Int)] ∧ Blk w' w2.heap.size 33 W3.cells) (by kernel_rfl) (⟨X0, X3⟩) (fun hHeld => ?_)
      generalize hAA : wk.drew = wA at *
      clear hAA
      refine wpAnyH_take (i := 0) (v := .agg #[.int .i64 (V : Int), .int .i64 (D : Int), .int .i64 (Hd : Int), .int .i64 (H : Int), .int .i64 (L : Int)]) rfl (by kernel_rfl) (by kernel_rfl) (by kernel_rfl) (fun _ _ _ h => h) (yields_row (by rfl) 23 _ rfl w.heap.size rfl 23 #[.int .i64 (V : Int), .int .i64 (D : Int), .int .i64 (Hd : Int), .int .i64 (H : Int), .int .i64 (L : Int)] _ (fun w' hS => hS.1) Tryz.underlying23 rfl Tryz.infoCf) (by assumption) ?_
      simp only [List.getElem_toArray, List.getElem_cons_zero, Act.put, List.setIfInBounds_toArray, List.set_cons_zero, List.set_cons_succ]
      refine wpAnyH_take (i := 1) (v := .agg W3.cells) rfl (by kernel_rfl) (by kernel_rfl) (by kernel_rfl) (fun _ _ _ h => h) (yields_row (by rfl) 33 _ rfl w2.heap.size rfl 33 W3.cells _ (fun w' hS => hS.2) Tryz.underlying33 rfl Tryz.infoRW) (by assumption) ?_
      simp only [List.getElem_toArray, List.getElem_cons_succ, List.getElem_cons_zero, Act.put, List.setIfInBounds_toArray, List.set_cons_zero, List.set_cons_succ]
      refine wpAnyH_take (i := 3) (v := (.slice (some ⟨b1, 0, none⟩) l1 kq)) rfl (by kernel_rfl) (by kernel_rfl) (by kernel_rfl) (fun _ _ _ h => h) (Or.inl ⟨by rfl, ?_⟩) (by assumption) ?_
      · intro w' hSw
        go_simp
      simp only [List.getElem_toArray, List.getElem_cons_succ, List.getElem_cons_zero, Act.put, List.setIfInBounds_toArray, List.set_cons_zero, List.set_cons_succ]
      refine wpAnyH_take (i := 4) (v := (.int .i64 6)) rfl (by kernel_rfl) (by kernel_rfl) (by kernel_rfl) (fun _ _ _ h => h) (Or.inl ⟨by rfl, ?_⟩) (by assumption) ?_
      · intro w' hSw
        go_simp
      simp only [List.getElem_toArray, List.getElem_cons_succ, List.getElem_cons_zero, Act.put, List.setIfInBounds_toArray, List.set_cons_zero, List.set_cons_succ]
      have T2 := of6_any W3 xs _ wA R1 (by have := HXL.out; omega)
      refine wpAnyH_ready (rs := [2]) (by kernel_rfl) (by simp) ?_
      refine AllReadyH.cons rfl (fun Kc hKc => ?_) AllReadyH.nil
      simp only [List.getElem_toArray, List.getElem_cons_succ, List.getElem_cons_zero]
      rw [if_pos (by rfl)]
      go_wp2_with fail
      refine (T2).mono ?_
      rintro e wB ⟨W5, rfl, ⟨ys, T3⟩, EM⟩
      replace X0 := X0.below EM
      replace X3 := X3.below EM
      replace O3 := O3.below EM
      replace I1 := I1.below EM
      replace R1 := R1.below EM
      replace G3 := G3.below EM
      replace DB := below_then DB EM
      clear EM
      clear T2
      have HQ := check_again HT1.out T3 V D Hd H L
      obtain ⟨O5, hl5⟩ := own_told hW3 (by omega) T3
      rw [HK.out, cutM_twice] at O5 hl5
      have hW5 := O5.ok
      clear T3 R1
      go_wp2_with fail
      refine hKc.out _ _ (⟨X0, X3⟩) (fun hHeld => ?_)
      clear hKc Kc
      rw [hqc] at HQ
      have G5 := own_good O5 hl5 HQ
      have FF := run_ok V D Hd H L W5 ys _ (some ⟨b1, 0, none⟩) l1 kq P (6) wB G5 I1 (HT.out _ DB) hqp
      unfold cfgC at FF
      clear G5
      refine wpAnyH_ready (rs := [5]) (by kernel_rfl) (by simp) ?_
      refine AllReadyH.cons rfl (fun Kc hKc => ?_) AllReadyH.nil
      simp only [List.getElem_toArray, List.getElem_cons_succ, List.getElem_cons_zero]
      rw [if_pos (by rfl)]
      go_wp2_with fail
      refine (FF).mono ?_
      rintro e wC ⟨j, ya, yc, rfl, OY, ho, hall, EM⟩
      replace X0 := X0.below EM
      replace X3 := X3.below EM
      replace O3 := O3.below EM
      replace I1 := I1.below EM
      replace G3 := G3.below EM
      replace DB := below_then DB EM
      clear EM
      clear FF O5 hl5 HQ
      rw [(runS_inv _ V D H Hd L P hPn j).1] at OY ho
      replace hall := fun i (hi : i < j) => by have := hall i hi; rw [(runS_inv _ V D H Hd L P hPn i).1] at this; exact this
      obtain ⟨ya', yc', ey, AY⟩ := IOwn.arg OY (HSY.out j)
      simp only [Value.slice.injEq, true_and] at ey
      obtain ⟨rfl, rfl⟩ := ey
      clear OY
      go_wp2_with fail
      refine hKc.out _ _ (⟨X0, X3⟩) (fun hHeld => ?_)
      clear hKc Kc
      refine wpAnyH_take (i := 6) (v := (.tuple #[.slice ya j yc, .int .i64 0])) rfl (by kernel_rfl) (by kernel_rfl) (by kernel_rfl) (fun _ _ _ h => h) (Or.inl ⟨by rfl, ?_⟩) (by assumption) ?_
      · intro w' hSw
        go_simp
      simp only [List.getElem_toArray, List.getElem_cons_succ, List.getElem_cons_zero, Act.put, List.setIfInBounds_toArray, List.set_cons_zero, List.set_cons_succ]
      refine wpAnyH_take (i := 7) (v := (.slice ya j yc)) rfl (by kernel_rfl) (by kernel_rfl) (by kernel_rfl) (fun _ _ _ h => h) (Or.inl ⟨by rfl, ?_⟩) (by assumption) ?_
      · intro w' hSw
        go_simp
      simp only [List.getElem_toArray, List.getElem_cons_succ, List.getElem_cons_zero, Act.put, List.setIfInBounds_toArray, List.set_cons_zero, List.set_cons_succ]
      refine wpAnyH_take (i := 8) (v := (.int .i64 0)) rfl (by kernel_rfl) (by kernel_rfl) (by kernel_rfl) (fun _ _ _ h => h) (Or.inl ⟨by rfl, ?_⟩) (by assumption) ?_
      · intro w' hSw
        go_simp
      simp only [List.getElem_toArray, List.getElem_cons_succ, List.getElem_cons_zero, Act.put, List.setIfInBounds_toArray, List.set_cons_zero, List.set_cons_succ]
      refine wpAnyH_take (i := 9) (v := (.slice ya j yc)) rfl (by kernel_rfl) (by kernel_rfl) (by kernel_rfl) (fun _ _ _ h => h) (Or.inl ⟨by rfl, ?_⟩) (by assumption) ?_
      · intro w' hSw
        go_simp
      simp only [List.getElem_toArray, List.getElem_cons_succ, List.getElem_cons_zero, Act.put, List.setIfInBounds_toArray, List.set_cons_zero, List.set_cons_succ]
      refine wpAnyH_take (i := 10) (v := (.int .i64 0)) rfl (by kernel_rfl) (by kernel_rfl) (by kernel_rfl) (fun _ _ _ h => h) (Or.inl ⟨by rfl, ?_⟩) (by assumption) ?_
      · intro w' hSw
        go_simp
      simp only [List.getElem_toArray, List.getElem_cons_succ, List.getElem_cons_zero, Act.put, List.setIfInBounds_toArray, List.set_cons_zero, List.set_cons_succ]
      refine wpAnyH_done (by kernel_rfl) ?_ _
      clear hHeld
      have a0 : wC.cell? ⟨w.heap.size, 0, none⟩ = some (.int .i64 (V : Int)) := X0.cell 0 rfl
      have a1 : wC.cell? ⟨w.heap.size, 1, none⟩ = some (.int .i64 (D : Int)) := X0.cell 1 rfl
      have a2 : wC.cell? ⟨w.heap.size, 2, none⟩ = some (.int .i64 (Hd : Int)) := X0.cell 2 rfl
      have a3 : wC.cell? ⟨w.heap.size, 3, none⟩ = some (.int .i64 (H : Int)) := X0.cell 3 rfl
      have a4 : wC.cell? ⟨w.heap.size, 4, none⟩ = some (.int .i64 (L : Int)) := X0.cell 4 rfl
      go_wp2_with (refine wpList_load_row rfl 33 _ rfl w2.heap.size rfl 33 W3.cells (0, 0) _ X3 Tryz.underlying33 rfl Tryz.infoRW ?_)
      refine (KK _ O3.b).mono ?_
      rintro e wD ⟨rfl, EM⟩
      replace X0 := X0.below EM
      replace X3 := X3.below EM
      replace I1 := I1.below EM
      replace G3 := G3.below EM
      replace AY := AY.below EM
      replace DB := below_then DB EM
      clear a0 a1 a2 a3 a4 KK EM O3
      have a0 : wD.cell? ⟨w.heap.size, 0, none⟩ = some (.int .i64 (V : Int)) := X0.cell 0 rfl
      have a1 : wD.cell? ⟨w.heap.size, 1, none⟩ = some (.int .i64 (D : Int)) := X0.cell 1 rfl
      have a2 : wD.cell? ⟨w.heap.size, 2, none⟩ = some (.int .i64 (Hd : Int)) := X0.cell 2 rfl
      have a3 : wD.cell? ⟨w.heap.size, 3, none⟩ = some (.int .i64 (H : Int)) := X0.cell 3 rfl
      have a4 : wD.cell? ⟨w.heap.size, 4, none⟩ = some (.int .i64 (L : Int)) := X0.cell 4 rfl
      go_wp2_with fail
      refine (RA _ I1).mono ?_
      rintro e wE ⟨rfl, EM⟩
      replace X0 := X0.below EM
      replace X3 := X3.below EM
      replace I1 := I1.below EM
      replace G3 := G3.below EM
      replace AY := AY.below EM
      replace DB := below_then DB EM
      clear a0 a1 a2 a3 a4 RA EM
      go_wp2_with fail
      refine (CW _ DB).mono ?_
      rintro e wF ⟨rfl, EM⟩
      replace X0 := X0.below EM
      replace X3 := X3.below EM
      replace I1 := I1.below EM
      replace G3 := G3.below EM
      replace AY := AY.below EM
      replace DB := below_then DB EM
      clear EM CW
      have a0 : wF.cell? ⟨w.heap.size, 0, none⟩ = some (.int .i64 (V : Int)) := X0.cell 0 rfl
      have a1 : wF.cell? ⟨w.heap.size, 1, none⟩ = some (.int .i64 (D : Int)) := X0.cell 1 rfl
      have a2 : wF.cell? ⟨w.heap.size, 2, none⟩ = some (.int .i64 (Hd : Int)) := X0.cell 2 rfl
      have a3 : wF.cell? ⟨w.heap.size, 3, none⟩ = some (.int .i64 (H : Int)) := X0.cell 3 rfl
      have a4 : wF.cell? ⟨w.heap.size, 4, none⟩ = some (.int .i64 (L : Int)) := X0.cell 4 rfl
      have e0 : wF.cell? ⟨w2.heap.size, 0, none⟩ = some (.int .i64 W3.e.r) := X3.cell 0 rfl
      have e1 : wF.cell? ⟨w2.heap.size, 1, none⟩ = some (.int .i64 W3.e.c) := X3.cell 1 rfl
      have e2 : wF.cell? ⟨w2.heap.size, 2, none⟩ = some (.slice W3.e.d.ao W3.e.d.n W3.e.d.c) := X3.cell 2 rfl
      have e3 : wF.cell? ⟨w2.heap.size, 3, none⟩ = some (.slice W3.b.ao W3.b.n W3.b.c) := X3.cell 3 rfl
      have e4 : wF.cell? ⟨w2.heap.size, 4, none⟩ = some (.slice W3.l.ao W3.l.n W3.l.c) := X3.cell 4 rfl
      have e5 : wF.cell? ⟨w2.heap.size, 5, none⟩ = some (.int .i64 W3.o.r) := X3.cell 5 rfl
      have e6 : wF.cell? ⟨w2.heap.size, 6, none⟩ = some (.int .i64 W3.o.c) := X3.cell 6 rfl
      have e7 : wF.cell? ⟨w2.heap.size, 7, none⟩ = some (.slice W3.o.d.ao W3.o.d.n W3.o.d.c) := X3.cell 7 rfl
      have RR1 := RR _ G3 I1
      go_wp2_with fail
      refine RR1.mono ?_
      rintro e wG ⟨j', g', c', rfl, OZ, ho', hall', EM⟩
      replace AY := AY.below EM
      replace DB := below_then DB EM
      clear EM RR RR1 a0 a1 a2 a3 a4 e0 e1 e2 e3 e4 e5 e6 e7
      have hjj := first_over ho hall ho' hall'
      subst hjj
      obtain ⟨za, zc, ez, AZ⟩ := IOwn.arg OZ (HSY.out j)
      simp only [Value.slice.injEq, true_and] at ez
      obtain ⟨rfl, rfl⟩ := ez
      go_wp2_with fail
      refine (refSameI_eq _ _ _ _ _ _ _ AY.row AZ.row).mono ?_
      rintro e wH ⟨rfl, m1, rfl⟩
      have EM : Below wG.heap.size wG (wG.drewN m1) := below_drewN (Below.refl _ wG) m1
      replace DB := below_then DB EM
      clear EM AY AZ OZ
      generalize wG.drewN m1 = wI at *
      go_wp2_with fail
      go_ret
      exact ⟨rfl, DB⟩
  · have a0 : w8.cell? ⟨w.heap.size, 0, none⟩ = some (.int .i64 C.V) := X0.cell 0 rfl
    have a1 : w8.cell? ⟨w.heap.size, 1, none⟩ = some (.int .i64 C.D) := X0.cell 1 rfl
    have a2 : w8.cell? ⟨w.heap.size, 2, none⟩ = some (.int .i64 C.Hd) := X0.cell 2 rfl
    have a3 : w8.cell? ⟨w.heap.size, 3, none⟩ = some (.int .i64 C.H) := X0.cell 3 rfl
    have a4 : w8.cell? ⟨w.heap.size, 4, none⟩ = some (.int .i64 C.L) := X0.cell 4 rfl
    go_wp2_with fail
    refine (CS _).mono ?_
    rintro e wk ⟨rfl, EM⟩
    replace X0 := X0.below EM
    replace X3 := X3.below EM
    replace R1 := R1.below EM
    replace O3 := O3.below EM
    replace I1 := I1.below EM
    replace DB := below_then DB EM
    clear EM a0 a1 a2 a3 a4
    by_cases hs : smallN C.D C.H C.L = 0
    · rw [hs]
      go_wp2_with fail
      refine (few8_any (some ⟨b1, 0, none⟩) l1 kq P 2 wk I1 (by omega)).mono ?_
      rintro e w9 ⟨b2, kr, rfl, OI, EM⟩
      have s2 := take_small I1 2
      replace X0 := X0.below EM
      replace X3 := X3.below EM
      replace R1 := R1.below EM
      replace O3 := O3.below EM
      replace DB := below_then DB EM
      clear EM I1 HL1
      generalize P.take 2 = Q at *
      obtain ⟨l2, hl2⟩ : ∃ l2, Q.length = l2 := ⟨_, rfl⟩
      have HL1 : Hid (Q.length = l2) := hl2
      rw [hl2] at OI ⊢
      clear hl2
      obtain ⟨x1, y1, e1, I1⟩ := IOwn.arg OI s2
      simp only [Value.slice.injEq, true_and] at e1
      obtain ⟨rfl, rfl⟩ := e1
      clear OI s2
      by_cases hm1 : most ≤ 1
      · have hmn : min most 1 = most := by omega
        go_wp2_with fail
        by_cases hqc : checkN C.V C.D C.Hd C.H C.L W3 xs = 0
        rotate_left
        · have KK := fun wv (hb : BlocksAt wv W3.b xs) => RK W3 xs wv hW3 hb
          generalize hqe : checkN C.V C.D C.Hd C.H C.L W3 xs = qc at *
          have hq1 : (qc == 0) = false := by simpa using hqc
          have hq2 : (qc != 0) = true := by simp [bne, hq1]
          clear RK CS
          have BD : Below w9.heap.size w9 w9.drew := (Below.refl _ w9).drew
          replace X0 := X0.below BD
          replace X3 := X3.below BD
          replace O3 := O3.below BD
          replace I1 := I1.below BD
          replace R1 := R1.below BD
          replace DB := DB.drew
          clear BD
          refine wp_region_held_drew (S := fun w' => Blk w' w.heap.size 23 #[.int .i64 C.V, .int .i64 C.D, .int .i64 C.Hd, .int .i64 C.H, .int .i64 C.L] ∧ Blk w' w2.heap.size 33 W3.cells) (by kernel_rfl) (⟨X0, X3⟩) (fun hHeld => ?_)
          generalize hAA : w9.drew = wA at *
          clear hAA
          refine wpAnyH_take (i := 0) (v := .agg #[.int .i64 C.V, .int .i64 C.D, .int .i64 C.Hd, .int .i64 C.H, .int .i64 C.L]) rfl (by kernel_rfl) (by kernel_rfl) (by kernel_rfl) (fun _ _ _ h => h) (yields_row (by rfl) 23 _ rfl w.heap.size rfl 23 #[.int .i64 C.V, .int .i64 C.D, .int .i64 C.Hd, .int .i64 C.H, .int .i64 C.L] _ (fun w' hS => hS.1) Tryz.underlying23 rfl Tryz.infoCf) (by assumption) ?_
          simp only [List.getElem_toArray, List.getElem_cons_zero, Act.put, List.setIfInBounds_toArray, List.set_cons_zero, List.set_cons_succ]
          refine wpAnyH_take (i := 1) (v := .agg W3.cells) rfl (by kernel_rfl) (by kernel_rfl) (by kernel_rfl) (fun _ _ _ h => h) (yields_row (by rfl) 33 _ rfl w2.heap.size rfl 33 W3.cells _ (fun w' hS => hS.2) Tryz.underlying33 rfl Tryz.infoRW) (by assumption) ?_
          simp only [List.getElem_toArray, List.getElem_cons_succ, List.getElem_cons_zero, Act.put, List.setIfInBounds_toArray, List.set_cons_zero, List.set_cons_succ]
          refine wpAnyH_take (i := 3) (v := (.slice (some ⟨b2, 0, none⟩) l2 kr)) rfl (by kernel_rfl) (by kernel_rfl) (by kernel_rfl) (fun _ _ _ h => h) (Or.inl ⟨by rfl, ?_⟩) (by assumption) ?_
          · intro w' hSw
            go_simp
          simp only [List.getElem_toArray, List.getElem_cons_succ, List.getElem_cons_zero, Act.put, List.setIfInBounds_toArray, List.set_cons_zero, List.set_cons_succ]
          refine wpAnyH_take (i := 4) (v := (.int .i64 most)) rfl (by kernel_rfl) (by kernel_rfl) (by kernel_rfl) (fun _ _ _ h => h) (Or.inl ⟨by rfl, ?_⟩) (by assumption) ?_
          · intro w' hSw
            go_simp
          simp only [List.getElem_toArray, List.getElem_cons_succ, List.getElem_cons_zero, Act.put, List.setIfInBounds_toArray, List.set_cons_zero, List.set_cons_succ]
          have T2 := of6_any W3 xs _ wA R1 (by have := HXL.out; omega)
          refine wpAnyH_ready (rs := [2]) (by kernel_rfl) (by simp) ?_
          refine AllReadyH.cons rfl (fun Kc hKc => ?_) AllReadyH.nil
          simp only [List.getElem_toArray, List.getElem_cons_succ, List.getElem_cons_zero]
          rw [if_pos (by rfl)]
          go_wp2_with fail
          refine (T2).mono ?_
          rintro e wB ⟨W5, rfl, ⟨ys, T3⟩, EM⟩
          replace X0 := X0.below EM
          replace X3 := X3.below EM
          replace O3 := O3.below EM
          replace I1 := I1.below EM
          replace R1 := R1.below EM
          replace DB := below_then DB EM
          clear EM
          clear T2
          have HQ := check_again HT1.out T3 C.V C.D C.Hd C.H C.L
          obtain ⟨O5, hl5⟩ := own_told hW3 (by omega) T3
          rw [HK.out, cutM_twice] at O5 hl5
          have hW5 := O5.ok
          clear T3 R1
          go_wp2_with fail
          refine hKc.out _ _ (⟨X0, X3⟩) (fun hHeld => ?_)
          clear hKc Kc
          have FF := FN W5 ys (some ⟨b2, 0, none⟩) l2 kr (most) wB hW5 O5.b (by rw [HQ, hqe]; exact hqc)
          rw [HQ, hqe] at FF
          refine wpAnyH_ready (rs := [5]) (by kernel_rfl) (by simp) ?_
          refine AllReadyH.cons rfl (fun Kc hKc => ?_) AllReadyH.nil
          simp only [List.getElem_toArray, List.getElem_cons_succ, List.getElem_cons_zero]
          rw [if_pos (by rfl)]
          go_wp2_with fail
          refine (FF).mono ?_
          rintro e wC ⟨rfl, EM⟩
          replace X0 := X0.below EM
          replace X3 := X3.below EM
          replace O3 := O3.below EM
          replace I1 := I1.below EM
          replace DB := below_then DB EM
          clear EM
          clear FF O5 hl5 HQ
          go_wp2_with fail
          refine hKc.out _ _ (⟨X0, X3⟩) (fun hHeld => ?_)
          clear hKc Kc
          refine wpAnyH_take (i := 6) (v := (.tuple #[.slice none 0 0, .int .i64 qc])) rfl (by kernel_rfl) (by kernel_rfl) (by kernel_rfl) (fun _ _ _ h => h) (Or.inl ⟨by rfl, ?_⟩) (by assumption) ?_
          · intro w' hSw
            go_simp
          simp only [List.getElem_toArray, List.getElem_cons_succ, List.getElem_cons_zero, Act.put, List.setIfInBounds_toArray, List.set_cons_zero, List.set_cons_succ]
          refine wpAnyH_take (i := 7) (v := (.slice none 0 0)) rfl (by kernel_rfl) (by kernel_rfl) (by kernel_rfl) (fun _ _ _ h => h) (Or.inl ⟨by rfl, ?_⟩) (by assumption) ?_
          · intro w' hSw
            go_simp
          simp only [List.getElem_toArray, List.getElem_cons_succ, List.getElem_cons_zero, Act.put, List.setIfInBounds_toArray, List.set_cons_zero, List.set_cons_succ]
          refine wpAnyH_take (i := 8) (v := (.int .i64 qc)) rfl (by kernel_rfl) (by kernel_rfl) (by kernel_rfl) (fun _ _ _ h => h) (Or.inl ⟨by rfl, ?_⟩) (by assumption) ?_
          · intro w' hSw
            go_simp
          simp only [List.getElem_toArray, List.getElem_cons_succ, List.getElem_cons_zero, Act.put, List.setIfInBounds_toArray, List.set_cons_zero, List.set_cons_succ]
          refine wpAnyH_take (i := 9) (v := (.slice none 0 0)) rfl (by kernel_rfl) (by kernel_rfl) (by kernel_rfl) (fun _ _ _ h => h) (Or.inl ⟨by rfl, ?_⟩) (by assumption) ?_
          · intro w' hSw
            go_simp
          simp only [List.getElem_toArray, List.getElem_cons_succ, List.getElem_cons_zero, Act.put, List.setIfInBounds_toArray, List.set_cons_zero, List.set_cons_succ]
          refine wpAnyH_take (i := 10) (v := (.int .i64 qc)) rfl (by kernel_rfl) (by kernel_rfl) (by kernel_rfl) (fun _ _ _ h => h) (Or.inl ⟨by rfl, ?_⟩) (by assumption) ?_
          · intro w' hSw
            go_simp
          simp only [List.getElem_toArray, List.getElem_cons_succ, List.getElem_cons_zero, Act.put, List.setIfInBounds_toArray, List.set_cons_zero, List.set_cons_succ]
          refine wpAnyH_done (by kernel_rfl) ?_ _
          clear hHeld
          clear FN
          have a0 : wC.cell? ⟨w.heap.size, 0, none⟩ = some (.int .i64 C.V) := X0.cell 0 rfl
          have a1 : wC.cell? ⟨w.heap.size, 1, none⟩ = some (.int .i64 C.D) := X0.cell 1 rfl
          have a2 : wC.cell? ⟨w.heap.size, 2, none⟩ = some (.int .i64 C.Hd) := X0.cell 2 rfl
          have a3 : wC.cell? ⟨w.heap.size, 3, none⟩ = some (.int .i64 C.H) := X0.cell 3 rfl
          have a4 : wC.cell? ⟨w.heap.size, 4, none⟩ = some (.int .i64 C.L) := X0.cell 4 rfl
          go_wp2_with (refine wpList_load_row rfl 33 _ rfl w2.heap.size rfl 33 W3.cells (0, 0) _ X3 Tryz.underlying33 rfl Tryz.infoRW ?_)
          refine (KK _ O3.b).mono ?_
          rintro e wD ⟨rfl, EM⟩
          replace X0 := X0.below EM
          replace I1 := I1.below EM
          replace DB := below_then DB EM
          clear a0 a1 a2 a3 a4 KK EM X3 O3
          go_wp2_with fail
          refine (CW _ DB).mono ?_
          rintro e wF ⟨rfl, EM⟩
          replace DB := below_then DB EM
          have hne : (qc != qc) = false := by simp
          go_wp2_with fail
          go_ret
          exact ⟨rfl, DB⟩
        have hqc0 := hqc
        obtain ⟨hsh, -⟩ := check_shape hqc
        have hkk := shape_ok hsh
        clear FN CS
        obtain ⟨CV, CD, CHd, CH, CL⟩ := C
        simp only at *
        obtain ⟨V, rfl⟩ : ∃ n : Nat, CV = n := ⟨CV.toNat, by omega⟩
        obtain ⟨D, rfl⟩ : ∃ n : Nat, CD = n := ⟨CD.toNat, by omega⟩
        obtain ⟨Hd, rfl⟩ : ∃ n : Nat, CHd = n := ⟨CHd.toNat, by omega⟩
        obtain ⟨H, rfl⟩ : ∃ n : Nat, CH = n := ⟨CH.toNat, by omega⟩
        obtain ⟨L, rfl⟩ : ∃ n : Nat, CL = n := ⟨CL.toNat, by omega⟩
        obtain ⟨G3, hxL⟩ := own_wt O3 HL3.out hqc
        clear hqc0
        have KK := fun wv (hb : BlocksAt wv W3.b xs) => RK W3 xs wv hW3 hb
        rw [hqc] at KK
        have RA := fun wv (hA : IArg wv (some ⟨b2, 0, none⟩) l2 kr Q) => refAsked_any V D Hd H L (some ⟨b2, 0, none⟩) l2 kr Q (most) wv hA
        unfold cfgC at RA
        clear RK
        by_cases hqp : askedN V Q (most) = 0
        rotate_left
        · obtain ⟨qp, hqe⟩ : ∃ q, askedN V Q (most) = q := ⟨_, rfl⟩
          rw [hqe] at RA
          have hq0 : ¬ qp = 0 := by rw [← hqe]; exact hqp
          have HQE : Hid (askedN V Q (most) = qp) := hqe
          clear hqe
          have hq1 : (qp == 0) = false := by simpa using hq0
          have hq2 : (qp != 0) = true := by simp [bne, hq1]
          have BD : Below w9.heap.size w9 w9.drew := (Below.refl _ w9).drew
          replace X0 := X0.below BD
          replace X3 := X3.below BD
          replace O3 := O3.below BD
          replace I1 := I1.below BD
          replace R1 := R1.below BD
          replace G3 := G3.below BD
          replace DB := DB.drew
          clear BD
          refine wp_region_held_drew (S := fun w' => Blk w' w.heap.size 23 #[.int .i64 (V : Int), .int .i64 (D : Int), .int .i64 (Hd : Int), .int .i64 (H : Int), .int .i64 (L : Int)] ∧ Blk w' w2.heap.size 33 W3.cells) (by kernel_rfl) (⟨X0, X3⟩) (fun hHeld => ?_)
          generalize hAA : w9.drew = wA at *
          clear hAA
          refine wpAnyH_take (i := 0) (v := .agg #[.int .i64 (V : Int), .int .i64 (D : Int), .int .i64 (Hd : Int), .int .i64 (H : Int), .int .i64 (L : Int)]) rfl (by kernel_rfl) (by kernel_rfl) (by kernel_rfl) (fun _ _ _ h => h) (yields_row (by rfl) 23 _ rfl w.heap.size rfl 23 #[.int .i64 (V : Int), .int .i64 (D : Int), .int .i64 (Hd : Int), .int .i64 (H : Int), .int .i64 (L : Int)] _ (fun w' hS => hS.1) Tryz.underlying23 rfl Tryz.infoCf) (by assumption) ?_
          simp only [List.getElem_toArray, List.getElem_cons_zero, Act.put, List.setIfInBounds_toArray, List.set_cons_zero, List.set_cons_succ]
          refine wpAnyH_take (i := 1) (v := .agg W3.cells) rfl (by kernel_rfl) (by kernel_rfl) (by kernel_rfl) (fun _ _ _ h => h) (yields_row (by rfl) 33 _ rfl w2.heap.size rfl 33 W3.cells _ (fun w' hS => hS.2) Tryz.underlying33 rfl Tryz.infoRW) (by assumption) ?_
          simp only [List.getElem_toArray, List.getElem_cons_succ, List.getElem_cons_zero, Act.put, List.setIfInBounds_toArray, List.set_cons_zero, List.set_cons_succ]
          refine wpAnyH_take (i := 3) (v := (.slice (some ⟨b2, 0, none⟩) l2 kr)) rfl (by kernel_rfl) (by kernel_rfl) (by kernel_rfl) (fun _ _ _ h => h) (Or.inl ⟨by rfl, ?_⟩) (by assumption) ?_
          · intro w' hSw
            go_simp
          simp only [List.getElem_toArray, List.getElem_cons_succ, List.getElem_cons_zero, Act.put, List.setIfInBounds_toArray, List.set_cons_zero, List.set_cons_succ]
          refine wpAnyH_take (i := 4) (v := (.int .i64 most)) rfl (by kernel_rfl) (by kernel_rfl) (by kernel_rfl) (fun _ _ _ h => h) (Or.inl ⟨by rfl, ?_⟩) (by assumption) ?_
          · intro w' hSw
            go_simp
          simp only [List.getElem_toArray, List.getElem_cons_succ, List.getElem_cons_zero, Act.put, List.setIfInBounds_toArray, List.set_cons_zero, List.set_cons_succ]
          have T2 := of6_any W3 xs _ wA R1 (by have := HXL.out; omega)
          refine wpAnyH_ready (rs := [2]) (by kernel_rfl) (by simp) ?_
          refine AllReadyH.cons rfl (fun Kc hKc => ?_) AllReadyH.nil
          simp only [List.getElem_toArray, List.getElem_cons_succ, List.getElem_cons_zero]
          rw [if_pos (by rfl)]
          go_wp2_with fail
          refine (T2).mono ?_
          rintro e wB ⟨W5, rfl, ⟨ys, T3⟩, EM⟩
          replace X0 := X0.below EM
          replace X3 := X3.below EM
          replace O3 := O3.below EM
          replace I1 := I1.below EM
          replace R1 := R1.below EM
          replace G3 := G3.below EM
          replace DB := below_then DB EM
          clear EM
          clear T2
          have HQ := check_again HT1.out T3 V D Hd H L
          obtain ⟨O5, hl5⟩ := own_told hW3 (by omega) T3
          rw [HK.out, cutM_twice] at O5 hl5
          have hW5 := O5.ok
          clear T3 R1
          go_wp2_with fail
          refine hKc.out _ _ (⟨X0, X3⟩) (fun hHeld => ?_)
          clear hKc Kc
          rw [hqc] at HQ
          have G5 := own_good O5 hl5 HQ
          have FF := run_bad V D Hd H L W5 ys _ (some ⟨b2, 0, none⟩) l2 kr Q (most) wB G5 I1 hqp
          rw [HQE.out] at FF
          unfold cfgC at FF
          clear G5
          refine wpAnyH_ready (rs := [5]) (by kernel_rfl) (by simp) ?_
          refine AllReadyH.cons rfl (fun Kc hKc => ?_) AllReadyH.nil
          simp only [List.getElem_toArray, List.getElem_cons_succ, List.getElem_cons_zero]
          rw [if_pos (by rfl)]
          go_wp2_with fail
          refine (FF).mono ?_
          rintro e wC ⟨rfl, EM⟩
          replace X0 := X0.below EM
          replace X3 := X3.below EM
          replace O3 := O3.below EM
          replace I1 := I1.below EM
          replace G3 := G3.below EM
          replace DB := below_then DB EM
          clear EM
          clear FF O5 hl5 HQ
          go_wp2_with fail
          refine hKc.out _ _ (⟨X0, X3⟩) (fun hHeld => ?_)
          clear hKc Kc
          refine wpAnyH_take (i := 6) (v := (.tuple #[.slice none 0 0, .int .i64 qp])) rfl (by kernel_rfl) (by kernel_rfl) (by kernel_rfl) (fun _ _ _ h => h) (Or.inl ⟨by rfl, ?_⟩) (by assumption) ?_
          · intro w' hSw
            go_simp
          simp only [List.getElem_toArray, List.getElem_cons_succ, List.getElem_cons_zero, Act.put, List.setIfInBounds_toArray, List.set_cons_zero, List.set_cons_succ]
          refine wpAnyH_take (i := 7) (v := (.slice none 0 0)) rfl (by kernel_rfl) (by kernel_rfl) (by kernel_rfl) (fun _ _ _ h => h) (Or.inl ⟨by rfl, ?_⟩) (by assumption) ?_
          · intro w' hSw
            go_simp
          simp only [List.getElem_toArray, List.getElem_cons_succ, List.getElem_cons_zero, Act.put, List.setIfInBounds_toArray, List.set_cons_zero, List.set_cons_succ]
          refine wpAnyH_take (i := 8) (v := (.int .i64 qp)) rfl (by kernel_rfl) (by kernel_rfl) (by kernel_rfl) (fun _ _ _ h => h) (Or.inl ⟨by rfl, ?_⟩) (by assumption) ?_
          · intro w' hSw
            go_simp
          simp only [List.getElem_toArray, List.getElem_cons_succ, List.getElem_cons_zero, Act.put, List.setIfInBounds_toArray, List.set_cons_zero, List.set_cons_succ]
          refine wpAnyH_take (i := 9) (v := (.slice none 0 0)) rfl (by kernel_rfl) (by kernel_rfl) (by kernel_rfl) (fun _ _ _ h => h) (Or.inl ⟨by rfl, ?_⟩) (by assumption) ?_
          · intro w' hSw
            go_simp
          simp only [List.getElem_toArray, List.getElem_cons_succ, List.getElem_cons_zero, Act.put, List.setIfInBounds_toArray, List.set_cons_zero, List.set_cons_succ]
          refine wpAnyH_take (i := 10) (v := (.int .i64 qp)) rfl (by kernel_rfl) (by kernel_rfl) (by kernel_rfl) (fun _ _ _ h => h) (Or.inl ⟨by rfl, ?_⟩) (by assumption) ?_
          · intro w' hSw
            go_simp
          simp only [List.getElem_toArray, List.getElem_cons_succ, List.getElem_cons_zero, Act.put, List.setIfInBounds_toArray, List.set_cons_zero, List.set_cons_succ]
          refine wpAnyH_done (by kernel_rfl) ?_ _
          clear hHeld
          clear G3
          have a0 : wC.cell? ⟨w.heap.size, 0, none⟩ = some (.int .i64 (V : Int)) := X0.cell 0 rfl
          have a1 : wC.cell? ⟨w.heap.size, 1, none⟩ = some (.int .i64 (D : Int)) := X0.cell 1 rfl
          have a2 : wC.cell? ⟨w.heap.size, 2, none⟩ = some (.int .i64 (Hd : Int)) := X0.cell 2 rfl
          have a3 : wC.cell? ⟨w.heap.size, 3, none⟩ = some (.int .i64 (H : Int)) := X0.cell 3 rfl
          have a4 : wC.cell? ⟨w.heap.size, 4, none⟩ = some (.int .i64 (L : Int)) := X0.cell 4 rfl
          go_wp2_with (refine wpList_load_row rfl 33 _ rfl w2.heap.size rfl 33 W3.cells (0, 0) _ X3 Tryz.underlying33 rfl Tryz.infoRW ?_)
          refine (KK _ O3.b).mono ?_
          rintro e wD ⟨rfl, EM⟩
          replace X0 := X0.below EM
          replace I1 := I1.below EM
          replace DB := below_then DB EM
          clear a0 a1 a2 a3 a4 KK EM X3 O3
          have a0 : wD.cell? ⟨w.heap.size, 0, none⟩ = some (.int .i64 (V : Int)) := X0.cell 0 rfl
          have a1 : wD.cell? ⟨w.heap.size, 1, none⟩ = some (.int .i64 (D : Int)) := X0.cell 1 rfl
          have a2 : wD.cell? ⟨w.heap.size, 2, none⟩ = some (.int .i64 (Hd : Int)) := X0.cell 2 rfl
          have a3 : wD.cell? ⟨w.heap.size, 3, none⟩ = some (.int .i64 (H : Int)) := X0.cell 3 rfl
          have a4 : wD.cell? ⟨w.heap.size, 4, none⟩ = some (.int .i64 (L : Int)) := X0.cell 4 rfl
          go_wp2_with fail
          refine (RA _ I1).mono ?_
          rintro e wE ⟨rfl, EM⟩
          replace X0 := X0.below EM
          replace DB := below_then DB EM
          clear a0 a1 a2 a3 a4 RA EM
          go_wp2_with fail
          refine (CW _ DB).mono ?_
          rintro e wF ⟨rfl, EM⟩
          replace DB := below_then DB EM
          have hne : (qp != qp) = false := by simp
          go_wp2_with fail
          go_ret
          exact ⟨rfl, DB⟩
        rw [hqp] at RA
        have RR := fun wv (hW : WtAt wv V D H W3 xs (cutM 100 (min 5 VV.b.n) MM)) (hA : IArg wv (some ⟨b2, 0, none⟩) l2 kr Q) => rrun_any V D Hd H L l2 kr b2 0 W3 xs _ Q (most) wv hW hxL hA hsh hqp
        obtain ⟨hpp, -, -⟩ := asked_ok hqp
        obtain ⟨pp1, pp2, pp3⟩ := prompt_ok hpp
        have hPn : Q ≠ [] := fun h => by rw [h] at pp1; simp at pp1
        have HSY : Hid (∀ j k, -9223372036854775808 ≤ el (runY (cutM 100 (min 5 VV.b.n) MM) V D H Hd L Q j) k ∧ el (runY (cutM 100 (min 5 VV.b.n) MM) V D H Hd L Q j) k ≤ 9223372036854775807) := fun j k => tok_small' (V := V) (by omega) (runY_toks _ (by omega) Q j) k
        clear pp1 pp2 pp3 hpp
        have BD : Below w9.heap.size w9 w9.drew := (Below.refl _ w9).drew
        replace X0 := X0.below BD
        replace X3 := X3.below BD
        replace O3 := O3.below BD
        replace I1 := I1.below BD
        replace R1 := R1.below BD
        replace G3 := G3.below BD
        replace DB := DB.drew
        clear BD
        refine wp_region_held_drew (S := fun w' => Blk w' w.heap.size 23 #[.int .i64 (V : Int), .int .i64 (D : Int), .int .i64 (Hd : Int), .int .i64 (H : Int), .int .i64 (L : Int)] ∧ Blk w' w2.heap.size 33 W3.cells) (by kernel_rfl) (⟨X0, X3⟩) (fun hHeld => ?_)
        generalize hAA : w9.drew = wA at *
        clear hAA
        refine wpAnyH_take (i := 0) (v := .agg #[.int .i64 (V : Int), .int .i64 (D : Int), .int .i64 (Hd : Int), .int .i64 (H : Int), .int .i64 (L : Int)]) rfl (by kernel_rfl) (by kernel_rfl) (by kernel_rfl) (fun _ _ _ h => h) (yields_row (by rfl) 23 _ rfl w.heap.size rfl 23 #[.int .i64 (V : Int), .int .i64 (D : Int), .int .i64 (Hd : Int), .int .i64 (H : Int), .int .i64 (L : Int)] _ (fun w' hS => hS.1) Tryz.underlying23 rfl Tryz.infoCf) (by assumption) ?_
        simp only [List.getElem_toArray, List.getElem_cons_zero, Act.put, List.setIfInBounds_toArray, List.set_cons_zero, List.set_cons_succ]
        refine wpAnyH_take (i := 1) (v := .agg W3.cells) rfl (by kernel_rfl) (by kernel_rfl) (by kernel_rfl) (fun _ _ _ h => h) (yields_row (by rfl) 33 _ rfl w2.heap.size rfl 33 W3.cells _ (fun w' hS => hS.2) Tryz.underlying33 rfl Tryz.infoRW) (by assumption) ?_
        simp only [List.getElem_toArray, List.getElem_cons_succ, List.getElem_cons_zero, Act.put, List.setIfInBounds_toArray, List.set_cons_zero, List.set_cons_succ]
        refine wpAnyH_take (i := 3) (v := (.slice (some ⟨b2, 0, none⟩) l2 kr)) rfl (by kernel_rfl) (by kernel_rfl) (by kernel_rfl) (fun _ _ _ h => h) (Or.inl ⟨by rfl, ?_⟩) (by assumption) ?_
        · intro w' hSw
          go_simp
        simp only [List.getElem_toArray, List.getElem_cons_succ, List.getElem_cons_zero, Act.put, List.setIfInBounds_toArray, List.set_cons_zero, List.set_cons_succ]
        refine wpAnyH_take (i := 4) (v := (.int .i64 most)) rfl (by kernel_rfl) (by kernel_rfl) (by kernel_rfl) (fun _ _ _ h => h) (Or.inl ⟨by rfl, ?_⟩) (by assumption) ?_
        · intro w' hSw
          go_simp
        simp only [List.getElem_toArray, List.getElem_cons_succ, List.getElem_cons_zero, Act.put, List.setIfInBounds_toArray, List.set_cons_zero, List.set_cons_succ]
        have T2 := of6_any W3 xs _ wA R1 (by have := HXL.out; omega)
        refine wpAnyH_ready (rs := [2]) (by kernel_rfl) (by simp) ?_
        refine AllReadyH.cons rfl (fun Kc hKc => ?_) AllReadyH.nil
        simp only [List.getElem_toArray, List.getElem_cons_succ, List.getElem_cons_zero]
        rw [if_pos (by rfl)]
        go_wp2_with fail
        refine (T2).mono ?_
        rintro e wB ⟨W5, rfl, ⟨ys, T3⟩, EM⟩
        replace X0 := X0.below EM
        replace X3 := X3.below EM
        replace O3 := O3.below EM
        replace I1 := I1.below EM
        replace R1 := R1.below EM
        replace G3 := G3.below EM
        replace DB := below_then DB EM
        clear EM
        clear T2
        have HQ := check_again HT1.out T3 V D Hd H L
        obtain ⟨O5, hl5⟩ := own_told hW3 (by omega) T3
        rw [HK.out, cutM_twice] at O5 hl5
        have hW5 := O5.ok
        clear T3 R1
        go_wp2_with fail
        refine hKc.out _ _ (⟨X0, X3⟩) (fun hHeld => ?_)
        clear hKc Kc
        rw [hqc] at HQ
        have G5 := own_good O5 hl5 HQ
        have FF := run_ok V D Hd H L W5 ys _ (some ⟨b2, 0, none⟩) l2 kr Q (most) wB G5 I1 (HT.out _ DB) hqp
        unfold cfgC at FF
        clear G5
        refine wpAnyH_ready (rs := [5]) (by kernel_rfl) (by simp) ?_
        refine AllReadyH.cons rfl (fun Kc hKc => ?_) AllReadyH.nil
        simp only [List.getElem_toArray, List.getElem_cons_succ, List.getElem_cons_zero]
        rw [if_pos (by rfl)]
        go_wp2_with fail
        refine (FF).mono ?_
        rintro e wC ⟨j, ya, yc, rfl, OY, ho, hall, EM⟩
        replace X0 := X0.below EM
        replace X3 := X3.below EM
        replace O3 := O3.below EM
        replace I1 := I1.below EM
        replace G3 := G3.below EM
        replace DB := below_then DB EM
        clear EM
        clear FF O5 hl5 HQ
        rw [(runS_inv _ V D H Hd L Q hPn j).1] at OY ho
        replace hall := fun i (hi : i < j) => by have := hall i hi; rw [(runS_inv _ V D H Hd L Q hPn i).1] at this; exact this
        obtain ⟨ya', yc', ey, AY⟩ := IOwn.arg OY (HSY.out j)
        simp only [Value.slice.injEq, true_and] at ey
        obtain ⟨rfl, rfl⟩ := ey
        clear OY
        go_wp2_with fail
        refine hKc.out _ _ (⟨X0, X3⟩) (fun hHeld => ?_)
        clear hKc Kc
        refine wpAnyH_take (i := 6) (v := (.tuple #[.slice ya j yc, .int .i64 0])) rfl (by kernel_rfl) (by kernel_rfl) (by kernel_rfl) (fun _ _ _ h => h) (Or.inl ⟨by rfl, ?_⟩) (by assumption) ?_
        · intro w' hSw
          go_simp
        simp only [List.getElem_toArray, List.getElem_cons_succ, List.getElem_cons_zero, Act.put, List.setIfInBounds_toArray, List.set_cons_zero, List.set_cons_succ]
        refine wpAnyH_take (i := 7) (v := (.slice ya j yc)) rfl (by kernel_rfl) (by kernel_rfl) (by kernel_rfl) (fun _ _ _ h => h) (Or.inl ⟨by rfl, ?_⟩) (by assumption) ?_
        · intro w' hSw
          go_simp
        simp only [List.getElem_toArray, List.getElem_cons_succ, List.getElem_cons_zero, Act.put, List.setIfInBounds_toArray, List.set_cons_zero, List.set_cons_succ]
        refine wpAnyH_take (i := 8) (v := (.int .i64 0)) rfl (by kernel_rfl) (by kernel_rfl) (by kernel_rfl) (fun _ _ _ h => h) (Or.inl ⟨by rfl, ?_⟩) (by assumption) ?_
        · intro w' hSw
          go_simp
        simp only [List.getElem_toArray, List.getElem_cons_succ, List.getElem_cons_zero, Act.put, List.setIfInBounds_toArray, List.set_cons_zero, List.set_cons_succ]
        refine wpAnyH_take (i := 9) (v := (.slice ya j yc)) rfl (by kernel_rfl) (by kernel_rfl) (by kernel_rfl) (fun _ _ _ h => h) (Or.inl ⟨by rfl, ?_⟩) (by assumption) ?_
        · intro w' hSw
          go_simp
        simp only [List.getElem_toArray, List.getElem_cons_succ, List.getElem_cons_zero, Act.put, List.setIfInBounds_toArray, List.set_cons_zero, List.set_cons_succ]
        refine wpAnyH_take (i := 10) (v := (.int .i64 0)) rfl (by kernel_rfl) (by kernel_rfl) (by kernel_rfl) (fun _ _ _ h => h) (Or.inl ⟨by rfl, ?_⟩) (by assumption) ?_
        · intro w' hSw
          go_simp
        simp only [List.getElem_toArray, List.getElem_cons_succ, List.getElem_cons_zero, Act.put, List.setIfInBounds_toArray, List.set_cons_zero, List.set_cons_succ]
        refine wpAnyH_done (by kernel_rfl) ?_ _
        clear hHeld
        have a0 : wC.cell? ⟨w.heap.size, 0, none⟩ = some (.int .i64 (V : Int)) := X0.cell 0 rfl
        have a1 : wC.cell? ⟨w.heap.size, 1, none⟩ = some (.int .i64 (D : Int)) := X0.cell 1 rfl
        have a2 : wC.cell? ⟨w.heap.size, 2, none⟩ = some (.int .i64 (Hd : Int)) := X0.cell 2 rfl
        have a3 : wC.cell? ⟨w.heap.size, 3, none⟩ = some (.int .i64 (H : Int)) := X0.cell 3 rfl
        have a4 : wC.cell? ⟨w.heap.size, 4, none⟩ = some (.int .i64 (L : Int)) := X0.cell 4 rfl
        go_wp2_with (refine wpList_load_row rfl 33 _ rfl w2.heap.size rfl 33 W3.cells (0, 0) _ X3 Tryz.underlying33 rfl Tryz.infoRW ?_)
        refine (KK _ O3.b).mono ?_
        rintro e wD ⟨rfl, EM⟩
        replace X0 := X0.below EM
        replace X3 := X3.below EM
        replace I1 := I1.below EM
        replace G3 := G3.below EM
        replace AY := AY.below EM
        replace DB := below_then DB EM
        clear a0 a1 a2 a3 a4 KK EM O3
        have a0 : wD.cell? ⟨w.heap.size, 0, none⟩ = some (.int .i64 (V : Int)) := X0.cell 0 rfl
        have a1 : wD.cell? ⟨w.heap.size, 1, none⟩ = some (.int .i64 (D : Int)) := X0.cell 1 rfl
        have a2 : wD.cell? ⟨w.heap.size, 2, none⟩ = some (.int .i64 (Hd : Int)) := X0.cell 2 rfl
        have a3 : wD.cell? ⟨w.heap.size, 3, none⟩ = some (.int .i64 (H : Int)) := X0.cell 3 rfl
        have a4 : wD.cell? ⟨w.heap.size, 4, none⟩ = some (.int .i64 (L : Int)) := X0.cell 4 rfl
        go_wp2_with fail
        refine (RA _ I1).mono ?_
        rintro e wE ⟨rfl, EM⟩
        replace X0 := X0.below EM
        replace X3 := X3.below EM
        replace I1 := I1.below EM
        replace G3 := G3.below EM
        replace AY := AY.below EM
        replace DB := below_then DB EM
        clear a0 a1 a2 a3 a4 RA EM
        go_wp2_with fail
        refine (CW _ DB).mono ?_
        rintro e wF ⟨rfl, EM⟩
        replace X0 := X0.below EM
        replace X3 := X3.below EM
        replace I1 := I1.below EM
        replace G3 := G3.below EM
        replace AY := AY.below EM
        replace DB := below_then DB EM
        clear EM CW
        have a0 : wF.cell? ⟨w.heap.size, 0, none⟩ = some (.int .i64 (V : Int)) := X0.cell 0 rfl
        have a1 : wF.cell? ⟨w.heap.size, 1, none⟩ = some (.int .i64 (D : Int)) := X0.cell 1 rfl
        have a2 : wF.cell? ⟨w.heap.size, 2, none⟩ = some (.int .i64 (Hd : Int)) := X0.cell 2 rfl
        have a3 : wF.cell? ⟨w.heap.size, 3, none⟩ = some (.int .i64 (H : Int)) := X0.cell 3 rfl
        have a4 : wF.cell? ⟨w.heap.size, 4, none⟩ = some (.int .i64 (L : Int)) := X0.cell 4 rfl
        have e0 : wF.cell? ⟨w2.heap.size, 0, none⟩ = some (.int .i64 W3.e.r) := X3.cell 0 rfl
        have e1 : wF.cell? ⟨w2.heap.size, 1, none⟩ = some (.int .i64 W3.e.c) := X3.cell 1 rfl
        have e2 : wF.cell? ⟨w2.heap.size, 2, none⟩ = some (.slice W3.e.d.ao W3.e.d.n W3.e.d.c) := X3.cell 2 rfl
        have e3 : wF.cell? ⟨w2.heap.size, 3, none⟩ = some (.slice W3.b.ao W3.b.n W3.b.c) := X3.cell 3 rfl
        have e4 : wF.cell? ⟨w2.heap.size, 4, none⟩ = some (.slice W3.l.ao W3.l.n W3.l.c) := X3.cell 4 rfl
        have e5 : wF.cell? ⟨w2.heap.size, 5, none⟩ = some (.int .i64 W3.o.r) := X3.cell 5 rfl
        have e6 : wF.cell? ⟨w2.heap.size, 6, none⟩ = some (.int .i64 W3.o.c) := X3.cell 6 rfl
        have e7 : wF.cell? ⟨w2.heap.size, 7, none⟩ = some (.slice W3.o.d.ao W3.o.d.n W3.o.d.c) := X3.cell 7 rfl
        have RR1 := RR _ G3 I1
        go_wp2_with fail
        refine RR1.mono ?_
        rintro e wG ⟨j', g', c', rfl, OZ, ho', hall', EM⟩
        replace AY := AY.below EM
        replace DB := below_then DB EM
        clear EM RR RR1 a0 a1 a2 a3 a4 e0 e1 e2 e3 e4 e5 e6 e7
        have hjj := first_over ho hall ho' hall'
        subst hjj
        obtain ⟨za, zc, ez, AZ⟩ := IOwn.arg OZ (HSY.out j)
        simp only [Value.slice.injEq, true_and] at ez
        obtain ⟨rfl, rfl⟩ := ez
        go_wp2_with fail
        refine (refSameI_eq _ _ _ _ _ _ _ AY.row AZ.row).mono ?_
        rintro e wH ⟨rfl, m1, rfl⟩
        have EM : Below wG.heap.size wG (wG.drewN m1) := below_drewN (Below.refl _ wG) m1
        replace DB := below_then DB EM
        clear EM AY AZ OZ
        generalize wG.drewN m1 = wI at *
        go_wp2_with fail
        go_ret
        exact ⟨rfl, DB⟩
      · have hmn : min most 1 = 1 := by omega
        go_wp2_with fail
        by_cases hqc : checkN C.V C.D C.Hd C.H C.L W3 xs = 0
        rotate_left
        · have KK := fun wv (hb : BlocksAt wv W3.b xs) => RK W3 xs wv hW3 hb
          generalize hqe : checkN C.V C.D C.Hd C.H C.L W3 xs = qc at *
          have hq1 : (qc == 0) = false := by simpa using hqc
          have hq2 : (qc != 0) = true := by simp [bne, hq1]
          clear RK CS
          have BD : Below w9.heap.size w9 w9.drew := (Below.refl _ w9).drew
          replace X0 := X0.below BD
          replace X3 := X3.below BD
          replace O3 := O3.below BD
          replace I1 := I1.below BD
          replace R1 := R1.below BD
          replace DB := DB.drew
          clear BD
          refine wp_region_held_drew (S := fun w' => Blk w' w.heap.size 23 #[.int .i64 C.V, .int .i64 C.D, .int .i64 C.Hd, .int .i64 C.H, .int .i64 C.L] ∧ Blk w' w2.heap.size 33 W3.cells) (by kernel_rfl) (⟨X0, X3⟩) (fun hHeld => ?_)
          generalize hAA : w9.drew = wA at *
          clear hAA
          refine wpAnyH_take (i := 0) (v := .agg #[.int .i64 C.V, .int .i64 C.D, .int .i64 C.Hd, .int .i64 C.H, .int .i64 C.L]) rfl (by kernel_rfl) (by kernel_rfl) (by kernel_rfl) (fun _ _ _ h => h) (yields_row (by rfl) 23 _ rfl w.heap.size rfl 23 #[.int .i64 C.V, .int .i64 C.D, .int .i64 C.Hd, .int .i64 C.H, .int .i64 C.L] _ (fun w' hS => hS.1) Tryz.underlying23 rfl Tryz.infoCf) (by assumption) ?_
          simp only [List.getElem_toArray, List.getElem_cons_zero, Act.put, List.setIfInBounds_toArray, List.set_cons_zero, List.set_cons_succ]
          refine wpAnyH_take (i := 1) (v := .agg W3.cells) rfl (by kernel_rfl) (by kernel_rfl) (by kernel_rfl) (fun _ _ _ h => h) (yields_row (by rfl) 33 _ rfl w2.heap.size rfl 33 W3.cells _ (fun w' hS => hS.2) Tryz.underlying33 rfl Tryz.infoRW) (by assumption) ?_
          simp only [List.getElem_toArray, List.getElem_cons_succ, List.getElem_cons_zero, Act.put, List.setIfInBounds_toArray, List.set_cons_zero, List.set_cons_succ]
          refine wpAnyH_take (i := 3) (v := (.slice (some ⟨b2, 0, none⟩) l2 kr)) rfl (by kernel_rfl) (by kernel_rfl) (by kernel_rfl) (fun _ _ _ h => h) (Or.inl ⟨by rfl, ?_⟩) (by assumption) ?_
          · intro w' hSw
            go_simp
          simp only [List.getElem_toArray, List.getElem_cons_succ, List.getElem_cons_zero, Act.put, List.setIfInBounds_toArray, List.set_cons_zero, List.set_cons_succ]
          refine wpAnyH_take (i := 4) (v := (.int .i64 1)) rfl (by kernel_rfl) (by kernel_rfl) (by kernel_rfl) (fun _ _ _ h => h) (Or.inl ⟨by rfl, ?_⟩) (by assumption) ?_
          · intro w' hSw
            go_simp
          simp only [List.getElem_toArray, List.getElem_cons_succ, List.getElem_cons_zero, Act.put, List.setIfInBounds_toArray, List.set_cons_zero, List.set_cons_succ]
          have T2 := of6_any W3 xs _ wA R1 (by have := HXL.out; omega)
          refine wpAnyH_ready (rs := [2]) (by kernel_rfl) (by simp) ?_
          refine AllReadyH.cons rfl (fun Kc hKc => ?_) AllReadyH.nil
          simp only [List.getElem_toArray, List.getElem_cons_succ, List.getElem_cons_zero]
          rw [if_pos (by rfl)]
          go_wp2_with fail
          refine (T2).mono ?_
          rintro e wB ⟨W5, rfl, ⟨ys, T3⟩, EM⟩
          replace X0 := X0.below EM
          replace X3 := X3.below EM
          replace O3 := O3.below EM
          replace I1 := I1.below EM
          replace R1 := R1.below EM
          replace DB := below_then DB EM
          clear EM
          clear T2
          have HQ := check_again HT1.out T3 C.V C.D C.Hd C.H C.L
          obtain ⟨O5, hl5⟩ := own_told hW3 (by omega) T3
          rw [HK.out, cutM_twice] at O5 hl5
          have hW5 := O5.ok
          clear T3 R1
          go_wp2_with fail
          refine hKc.out _ _ (⟨X0, X3⟩) (fun hHeld => ?_)
          clear hKc Kc
          have FF := FN W5 ys (some ⟨b2, 0, none⟩) l2 kr (1) wB hW5 O5.b (by rw [HQ, hqe]; exact hqc)
          rw [HQ, hqe] at FF
          refine wpAnyH_ready (rs := [5]) (by kernel_rfl) (by simp) ?_
          refine AllReadyH.cons rfl (fun Kc hKc => ?_) AllReadyH.nil
          simp only [List.getElem_toArray, List.getElem_cons_succ, List.getElem_cons_zero]
          rw [if_pos (by rfl)]
          go_wp2_with fail
          refine (FF).mono ?_
          rintro e wC ⟨rfl, EM⟩
          replace X0 := X0.below EM
          replace X3 := X3.below EM
          replace O3 := O3.below EM
          replace I1 := I1.below EM
          replace DB := below_then DB EM
          clear EM
          clear FF O5 hl5 HQ
          go_wp2_with fail
          refine hKc.out _ _ (⟨X0, X3⟩) (fun hHeld => ?_)
          clear hKc Kc
          refine wpAnyH_take (i := 6) (v := (.tuple #[.slice none 0 0, .int .i64 qc])) rfl (by kernel_rfl) (by kernel_rfl) (by kernel_rfl) (fun _ _ _ h => h) (Or.inl ⟨by rfl, ?_⟩) (by assumption) ?_
          · intro w' hSw
            go_simp
          simp only [List.getElem_toArray, List.getElem_cons_succ, List.getElem_cons_zero, Act.put, List.setIfInBounds_toArray, List.set_cons_zero, List.set_cons_succ]
          refine wpAnyH_take (i := 7) (v := (.slice none 0 0)) rfl (by kernel_rfl) (by kernel_rfl) (by kernel_rfl) (fun _ _ _ h => h) (Or.inl ⟨by rfl, ?_⟩) (by assumption) ?_
          · intro w' hSw
            go_simp
          simp only [List.getElem_toArray, List.getElem_cons_succ, List.getElem_cons_zero, Act.put, List.setIfInBounds_toArray, List.set_cons_zero, List.set_cons_succ]
          refine wpAnyH_take (i := 8) (v := (.int .i64 qc)) rfl (by kernel_rfl) (by kernel_rfl) (by kernel_rfl) (fun _ _ _ h => h) (Or.inl ⟨by rfl, ?_⟩) (by assumption) ?_
          · intro w' hSw
            go_simp
          simp only [List.getElem_toArray, List.getElem_cons_succ, List.getElem_cons_zero, Act.put, List.setIfInBounds_toArray, List.set_cons_zero, List.set_cons_succ]
          refine wpAnyH_take (i := 9) (v := (.slice none 0 0)) rfl (by kernel_rfl) (by kernel_rfl) (by kernel_rfl) (fun _ _ _ h => h) (Or.inl ⟨by rfl, ?_⟩) (by assumption) ?_
          · intro w' hSw
            go_simp
          simp only [List.getElem_toArray, List.getElem_cons_succ, List.getElem_cons_zero, Act.put, List.setIfInBounds_toArray, List.set_cons_zero, List.set_cons_succ]
          refine wpAnyH_take (i := 10) (v := (.int .i64 qc)) rfl (by kernel_rfl) (by kernel_rfl) (by kernel_rfl) (fun _ _ _ h => h) (Or.inl ⟨by rfl, ?_⟩) (by assumption) ?_
          · intro w' hSw
            go_simp
          simp only [List.getElem_toArray, List.getElem_cons_succ, List.getElem_cons_zero, Act.put, List.setIfInBounds_toArray, List.set_cons_zero, List.set_cons_succ]
          refine wpAnyH_done (by kernel_rfl) ?_ _
          clear hHeld
          clear FN
          have a0 : wC.cell? ⟨w.heap.size, 0, none⟩ = some (.int .i64 C.V) := X0.cell 0 rfl
          have a1 : wC.cell? ⟨w.heap.size, 1, none⟩ = some (.int .i64 C.D) := X0.cell 1 rfl
          have a2 : wC.cell? ⟨w.heap.size, 2, none⟩ = some (.int .i64 C.Hd) := X0.cell 2 rfl
          have a3 : wC.cell? ⟨w.heap.size, 3, none⟩ = some (.int .i64 C.H) := X0.cell 3 rfl
          have a4 : wC.cell? ⟨w.heap.size, 4, none⟩ = some (.int .i64 C.L) := X0.cell 4 rfl
          go_wp2_with (refine wpList_load_row rfl 33 _ rfl w2.heap.size rfl 33 W3.cells (0, 0) _ X3 Tryz.underlying33 rfl Tryz.infoRW ?_)
          refine (KK _ O3.b).mono ?_
          rintro e wD ⟨rfl, EM⟩
          replace X0 := X0.below EM
          replace I1 := I1.below EM
          replace DB := below_then DB EM
          clear a0 a1 a2 a3 a4 KK EM X3 O3
          go_wp2_with fail
          refine (CW _ DB).mono ?_
          rintro e wF ⟨rfl, EM⟩
          replace DB := below_then DB EM
          have hne : (qc != qc) = false := by simp
          go_wp2_with fail
          go_ret
          exact ⟨rfl, DB⟩
        have hqc0 := hqc
        obtain ⟨hsh, -⟩ := check_shape hqc
        have hkk := shape_ok hsh
        clear FN CS
        obtain ⟨CV, CD, CHd, CH, CL⟩ := C
        simp only at *
        obtain ⟨V, rfl⟩ : ∃ n : Nat, CV = n := ⟨CV.toNat, by omega⟩
        obtain ⟨D, rfl⟩ : ∃ n : Nat, CD = n := ⟨CD.toNat, by omega⟩
        obtain ⟨Hd, rfl⟩ : ∃ n : Nat, CHd = n := ⟨CHd.toNat, by omega⟩
        obtain ⟨H, rfl⟩ : ∃ n : Nat, CH = n := ⟨CH.toNat, by omega⟩
        obtain ⟨L, rfl⟩ : ∃ n : Nat, CL = n := ⟨CL.toNat, by omega⟩
        obtain ⟨G3, hxL⟩ := own_wt O3 HL3.out hqc
        clear hqc0
        have KK := fun wv (hb : BlocksAt wv W3.b xs) => RK W3 xs wv hW3 hb
        rw [hqc] at KK
        have RA := fun wv (hA : IArg wv (some ⟨b2, 0, none⟩) l2 kr Q) => refAsked_any V D Hd H L (some ⟨b2, 0, none⟩) l2 kr Q (1) wv hA
        unfold cfgC at RA
        clear RK
        by_cases hqp : askedN V Q (1) = 0
        rotate_left
        · obtain ⟨qp, hqe⟩ : ∃ q, askedN V Q (1) = q := ⟨_, rfl⟩
          rw [hqe] at RA
          have hq0 : ¬ qp = 0 := by rw [← hqe]; exact hqp
          have HQE : Hid (askedN V Q (1) = qp) := hqe
          clear hqe
          have hq1 : (qp == 0) = false := by simpa using hq0
          have hq2 : (qp != 0) = true := by simp [bne, hq1]
          have BD : Below w9.heap.size w9 w9.drew := (Below.refl _ w9).drew
          replace X0 := X0.below BD
          replace X3 := X3.below BD
          replace O3 := O3.below BD
          replace I1 := I1.below BD
          replace R1 := R1.below BD
          replace G3 := G3.below BD
          replace DB := DB.drew
          clear BD
          refine wp_region_held_drew (S := fun w' => Blk w' w.heap.size 23 #[.int .i64 (V : Int), .int .i64 (D : Int), .int .i64 (Hd : Int), .int .i64 (H : Int), .int .i64 (L : Int)] ∧ Blk w' w2.heap.size 33 W3.cells) (by kernel_rfl) (⟨X0, X3⟩) (fun hHeld => ?_)
          generalize hAA : w9.drew = wA at *
          clear hAA
          refine wpAnyH_take (i := 0) (v := .agg #[.int .i64 (V : Int), .int .i64 (D : Int), .int .i64 (Hd : Int), .int .i64 (H : Int), .int .i64 (L : Int)]) rfl (by kernel_rfl) (by kernel_rfl) (by kernel_rfl) (fun _ _ _ h => h) (yields_row (by rfl) 23 _ rfl w.heap.size rfl 23 #[.int .i64 (V : Int), .int .i64 (D : Int), .int .i64 (Hd : Int), .int .i64 (H : Int), .int .i64 (L : Int)] _ (fun w' hS => hS.1) Tryz.underlying23 rfl Tryz.infoCf) (by assumption) ?_
          simp only [List.getElem_toArray, List.getElem_cons_zero, Act.put, List.setIfInBounds_toArray, List.set_cons_zero, List.set_cons_succ]
          refine wpAnyH_take (i := 1) (v := .agg W3.cells) rfl (by kernel_rfl) (by kernel_rfl) (by kernel_rfl) (fun _ _ _ h => h) (yields_row (by rfl) 33 _ rfl w2.heap.size rfl 33 W3.cells _ (fun w' hS => hS.2) Tryz.underlying33 rfl Tryz.infoRW) (by assumption) ?_
          simp only [List.getElem_toArray, List.getElem_cons_succ, List.getElem_cons_zero, Act.put, List.setIfInBounds_toArray, List.set_cons_zero, List.set_cons_succ]
          refine wpAnyH_take (i := 3) (v := (.slice (some ⟨b2, 0, none⟩) l2 kr)) rfl (by kernel_rfl) (by kernel_rfl) (by kernel_rfl) (fun _ _ _ h => h) (Or.inl ⟨by rfl, ?_⟩) (by assumption) ?_
          · intro w' hSw
            go_simp
          simp only [List.getElem_toArray, List.getElem_cons_succ, List.getElem_cons_zero, Act.put, List.setIfInBounds_toArray, List.set_cons_zero, List.set_cons_succ]
          refine wpAnyH_take (i := 4) (v := (.int .i64 1)) rfl (by kernel_rfl) (by kernel_rfl) (by kernel_rfl) (fun _ _ _ h => h) (Or.inl ⟨by rfl, ?_⟩) (by assumption) ?_
          · intro w' hSw
            go_simp
          simp only [List.getElem_toArray, List.getElem_cons_succ, List.getElem_cons_zero, Act.put, List.setIfInBounds_toArray, List.set_cons_zero, List.set_cons_succ]
          have T2 := of6_any W3 xs _ wA R1 (by have := HXL.out; omega)
          refine wpAnyH_ready (rs := [2]) (by kernel_rfl) (by simp) ?_
          refine AllReadyH.cons rfl (fun Kc hKc => ?_) AllReadyH.nil
          simp only [List.getElem_toArray, List.getElem_cons_succ, List.getElem_cons_zero]
          rw [if_pos (by rfl)]
          go_wp2_with fail
          refine (T2).mono ?_
          rintro e wB ⟨W5, rfl, ⟨ys, T3⟩, EM⟩
          replace X0 := X0.below EM
          replace X3 := X3.below EM
          replace O3 := O3.below EM
          replace I1 := I1.below EM
          replace R1 := R1.below EM
          replace G3 := G3.below EM
          replace DB := below_then DB EM
          clear EM
          clear T2
          have HQ := check_again HT1.out T3 V D Hd H L
          obtain ⟨O5, hl5⟩ := own_told hW3 (by omega) T3
          rw [HK.out, cutM_twice] at O5 hl5
          have hW5 := O5.ok
          clear T3 R1
          go_wp2_with fail
          refine hKc.out _ _ (⟨X0, X3⟩) (fun hHeld => ?_)
          clear hKc Kc
          rw [hqc] at HQ
          have G5 := own_good O5 hl5 HQ
          have FF := run_bad V D Hd H L W5 ys _ (some ⟨b2, 0, none⟩) l2 kr Q (1) wB G5 I1 hqp
          rw [HQE.out] at FF
          unfold cfgC at FF
          clear G5
          refine wpAnyH_ready (rs := [5]) (by kernel_rfl) (by simp) ?_
          refine AllReadyH.cons rfl (fun Kc hKc => ?_) AllReadyH.nil
          simp only [List.getElem_toArray, List.getElem_cons_succ, List.getElem_cons_zero]
          rw [if_pos (by rfl)]
          go_wp2_with fail
          refine (FF).mono ?_
          rintro e wC ⟨rfl, EM⟩
          replace X0 := X0.below EM
          replace X3 := X3.below EM
          replace O3 := O3.below EM
          replace I1 := I1.below EM
          replace G3 := G3.below EM
          replace DB := below_then DB EM
          clear EM
          clear FF O5 hl5 HQ
          go_wp2_with fail
          refine hKc.out _ _ (⟨X0, X3⟩) (fun hHeld => ?_)
          clear hKc Kc
          refine wpAnyH_take (i := 6) (v := (.tuple #[.slice none 0 0, .int .i64 qp])) rfl (by kernel_rfl) (by kernel_rfl) (by kernel_rfl) (fun _ _ _ h => h) (Or.inl ⟨by rfl, ?_⟩) (by assumption) ?_
          · intro w' hSw
            go_simp
          simp only [List.getElem_toArray, List.getElem_cons_succ, List.getElem_cons_zero, Act.put, List.setIfInBounds_toArray, List.set_cons_zero, List.set_cons_succ]
          refine wpAnyH_take (i := 7) (v := (.slice none 0 0)) rfl (by kernel_rfl) (by kernel_rfl) (by kernel_rfl) (fun _ _ _ h => h) (Or.inl ⟨by rfl, ?_⟩) (by assumption) ?_
          · intro w' hSw
            go_simp
          simp only [List.getElem_toArray, List.getElem_cons_succ, List.getElem_cons_zero, Act.put, List.setIfInBounds_toArray, List.set_cons_zero, List.set_cons_succ]
          refine wpAnyH_take (i := 8) (v := (.int .i64 qp)) rfl (by kernel_rfl) (by kernel_rfl) (by kernel_rfl) (fun _ _ _ h => h) (Or.inl ⟨by rfl, ?_⟩) (by assumption) ?_
          · intro w' hSw
            go_simp
          simp only [List.getElem_toArray, List.getElem_cons_succ, List.getElem_cons_zero, Act.put, List.setIfInBounds_toArray, List.set_cons_zero, List.set_cons_succ]
          refine wpAnyH_take (i := 9) (v := (.slice none 0 0)) rfl (by kernel_rfl) (by kernel_rfl) (by kernel_rfl) (fun _ _ _ h => h) (Or.inl ⟨by rfl, ?_⟩) (by assumption) ?_
          · intro w' hSw
            go_simp
          simp only [List.getElem_toArray, List.getElem_cons_succ, List.getElem_cons_zero, Act.put, List.setIfInBounds_toArray, List.set_cons_zero, List.set_cons_succ]
          refine wpAnyH_take (i := 10) (v := (.int .i64 qp)) rfl (by kernel_rfl) (by kernel_rfl) (by kernel_rfl) (fun _ _ _ h => h) (Or.inl ⟨by rfl, ?_⟩) (by assumption) ?_
          · intro w' hSw
            go_simp
          simp only [List.getElem_toArray, List.getElem_cons_succ, List.getElem_cons_zero, Act.put, List.setIfInBounds_toArray, List.set_cons_zero, List.set_cons_succ]
          refine wpAnyH_done (by kernel_rfl) ?_ _
          clear hHeld
          clear G3
          have a0 : wC.cell? ⟨w.heap.size, 0, none⟩ = some (.int .i64 (V : Int)) := X0.cell 0 rfl
          have a1 : wC.cell? ⟨w.heap.size, 1, none⟩ = some (.int .i64 (D : Int)) := X0.cell 1 rfl
          have a2 : wC.cell? ⟨w.heap.size, 2, none⟩ = some (.int .i64 (Hd : Int)) := X0.cell 2 rfl
          have a3 : wC.cell? ⟨w.heap.size, 3, none⟩ = some (.int .i64 (H : Int)) := X0.cell 3 rfl
          have a4 : wC.cell? ⟨w.heap.size, 4, none⟩ = some (.int .i64 (L : Int)) := X0.cell 4 rfl
          go_wp2_with (refine wpList_load_row rfl 33 _ rfl w2.heap.size rfl 33 W3.cells (0, 0) _ X3 Tryz.underlying33 rfl Tryz.infoRW ?_)
          refine (KK _ O3.b).mono ?_
          rintro e wD ⟨rfl, EM⟩
          replace X0 := X0.below EM
          replace I1 := I1.below EM
          replace DB := below_then DB EM
          clear a0 a1 a2 a3 a4 KK EM X3 O3
          have a0 : wD.cell? ⟨w.heap.size, 0, none⟩ = some (.int .i64 (V : Int)) := X0.cell 0 rfl
          have a1 : wD.cell? ⟨w.heap.size, 1, none⟩ = some (.int .i64 (D : Int)) := X0.cell 1 rfl
          have a2 : wD.cell? ⟨w.heap.size, 2, none⟩ = some (.int .i64 (Hd : Int)) := X0.cell 2 rfl
          have a3 : wD.cell? ⟨w.heap.size, 3, none⟩ = some (.int .i64 (H : Int)) := X0.cell 3 rfl
          have a4 : wD.cell? ⟨w.heap.size, 4, none⟩ = some (.int .i64 (L : Int)) := X0.cell 4 rfl
          go_wp2_with fail
          refine (RA _ I1).mono ?_
          rintro e wE ⟨rfl, EM⟩
          replace X0 := X0.below EM
          replace DB := below_then DB EM
          clear a0 a1 a2 a3 a4 RA EM
          go_wp2_with fail
          refine (CW _ DB).mono ?_
          rintro e wF ⟨rfl, EM⟩
          replace DB := below_then DB EM
          have hne : (qp != qp) = false := by simp
          go_wp2_with fail
          go_ret
          exact ⟨rfl, DB⟩
        rw [hqp] at RA
        have RR := fun wv (hW : WtAt wv V D H W3 xs (cutM 100 (min 5 VV.b.n) MM)) (hA : IArg wv (some ⟨b2, 0, none⟩) l2 kr Q) => rrun_any V D Hd H L l2 kr b2 0 W3 xs _ Q (1) wv hW hxL hA hsh hqp
        obtain ⟨hpp, -, -⟩ := asked_ok hqp
        obtain ⟨pp1, pp2, pp3⟩ := prompt_ok hpp
        have hPn : Q ≠ [] := fun h => by rw [h] at pp1; simp at pp1
        have HSY : Hid (∀ j k, -9223372036854775808 ≤ el (runY (cutM 100 (min 5 VV.b.n) MM) V D H Hd L Q j) k ∧ el (runY (cutM 100 (min 5 VV.b.n) MM) V D H Hd L Q j) k ≤ 9223372036854775807) := fun j k => tok_small' (V := V) (by omega) (runY_toks _ (by omega) Q j) k
        clear pp1 pp2 pp3 hpp
        have BD : Below w9.heap.size w9 w9.drew := (Below.refl _ w9).drew
        replace X0 := X0.below BD
        replace X3 := X3.below BD
        replace O3 := O3.below BD
        replace I1 := I1.below BD
        replace R1 := R1.below BD
        replace G3 := G3.below BD
        replace DB := DB.drew
        clear BD
        refine wp_region_held_drew (S := fun w' => Blk w' w.heap.size 23 #[.int .i64 (V : Int), .int .i64 (D : Int), .int .i64 (Hd : Int), .int .i64 (H : Int), .int .i64 (L : Int)] ∧ Blk w' w2.heap.size 33 W3.cells) (by kernel_rfl) (⟨X0, X3⟩) (fun hHeld => ?_)
        generalize hAA : w9.drew = wA at *
        clear hAA
        refine wpAnyH_take (i := 0) (v := .agg #[.int .i64 (V : Int), .int .i64 (D : Int), .int .i64 (Hd : Int), .int .i64 (H : Int), .int .i64 (L : Int)]) rfl (by kernel_rfl) (by kernel_rfl) (by kernel_rfl) (fun _ _ _ h => h) (yields_row (by rfl) 23 _ rfl w.heap.size rfl 23 #[.int .i64 (V : Int), .int .i64 (D : Int), .int .i64 (Hd : Int), .int .i64 (H : Int), .int .i64 (L : Int)] _ (fun w' hS => hS.1) Tryz.underlying23 rfl Tryz.infoCf) (by assumption) ?_
        simp only [List.getElem_toArray, List.getElem_cons_zero, Act.put, List.setIfInBounds_toArray, List.set_cons_zero, List.set_cons_succ]
        refine wpAnyH_take (i := 1) (v := .agg W3.cells) rfl (by kernel_rfl) (by kernel_rfl) (by kernel_rfl) (fun _ _ _ h => h) (yields_row (by rfl) 33 _ rfl w2.heap.size rfl 33 W3.cells _ (fun w' hS => hS.2) Tryz.underlying33 rfl Tryz.infoRW) (by assumption) ?_
        simp only [List.getElem_toArray, List.getElem_cons_succ, List.getElem_cons_zero, Act.put, List.setIfInBounds_toArray, List.set_cons_zero, List.set_cons_succ]
        refine wpAnyH_take (i := 3) (v := (.slice (some ⟨b2, 0, none⟩) l2 kr)) rfl (by kernel_rfl) (by kernel_rfl) (by kernel_rfl) (fun _ _ _ h => h) (Or.inl ⟨by rfl, ?_⟩) (by assumption) ?_
        · intro w' hSw
          go_simp
        simp only [List.getElem_toArray, List.getElem_cons_succ, List.getElem_cons_zero, Act.put, List.setIfInBounds_toArray, List.set_cons_zero, List.set_cons_succ]
        refine wpAnyH_take (i := 4) (v := (.int .i64 1)) rfl (by kernel_rfl) (by kernel_rfl) (by kernel_rfl) (fun _ _ _ h => h) (Or.inl ⟨by rfl, ?_⟩) (by assumption) ?_
        · intro w' hSw
          go_simp
        simp only [List.getElem_toArray, List.getElem_cons_succ, List.getElem_cons_zero, Act.put, List.setIfInBounds_toArray, List.set_cons_zero, List.set_cons_succ]
        have T2 := of6_any W3 xs _ wA R1 (by have := HXL.out; omega)
        refine wpAnyH_ready (rs := [2]) (by kernel_rfl) (by simp) ?_
        refine AllReadyH.cons rfl (fun Kc hKc => ?_) AllReadyH.nil
        simp only [List.getElem_toArray, List.getElem_cons_succ, List.getElem_cons_zero]
        rw [if_pos (by rfl)]
        go_wp2_with fail
        refine (T2).mono ?_
        rintro e wB ⟨W5, rfl, ⟨ys, T3⟩, EM⟩
        replace X0 := X0.below EM
        replace X3 := X3.below EM
        replace O3 := O3.below EM
        replace I1 := I1.below EM
        replace R1 := R1.below EM
        replace G3 := G3.below EM
        replace DB := below_then DB EM
        clear EM
        clear T2
        have HQ := check_again HT1.out T3 V D Hd H L
        obtain ⟨O5, hl5⟩ := own_told hW3 (by omega) T3
        rw [HK.out, cutM_twice] at O5 hl5
        have hW5 := O5.ok
        clear T3 R1
        go_wp2_with fail
        refine hKc.out _ _ (⟨X0, X3⟩) (fun hHeld => ?_)
        clear hKc Kc
        rw [hqc] at HQ
        have G5 := own_good O5 hl5 HQ
        have FF := run_ok V D Hd H L W5 ys _ (some ⟨b2, 0, none⟩) l2 kr Q (1) wB G5 I1 (HT.out _ DB) hqp
        unfold cfgC at FF
        clear G5
        refine wpAnyH_ready (rs := [5]) (by kernel_rfl) (by simp) ?_
        refine AllReadyH.cons rfl (fun Kc hKc => ?_) AllReadyH.nil
        simp only [List.getElem_toArray, List.getElem_cons_succ, List.getElem_cons_zero]
        rw [if_pos (by rfl)]
        go_wp2_with fail
        refine (FF).mono ?_
        rintro e wC ⟨j, ya, yc, rfl, OY, ho, hall, EM⟩
        replace X0 := X0.below EM
        replace X3 := X3.below EM
        replace O3 := O3.below EM
        replace I1 := I1.below EM
        replace G3 := G3.below EM
        replace DB := below_then DB EM
        clear EM
        clear FF O5 hl5 HQ
        rw [(runS_inv _ V D H Hd L Q hPn j).1] at OY ho
        replace hall := fun i (hi : i < j) => by have := hall i hi; rw [(runS_inv _ V D H Hd L Q hPn i).1] at this; exact this
        obtain ⟨ya', yc', ey, AY⟩ := IOwn.arg OY (HSY.out j)
        simp only [Value.slice.injEq, true_and] at ey
        obtain ⟨rfl, rfl⟩ := ey
        clear OY
        go_wp2_with fail
        refine hKc.out _ _ (⟨X0, X3⟩) (fun hHeld => ?_)
        clear hKc Kc
        refine wpAnyH_take (i := 6) (v := (.tuple #[.slice ya j yc, .int .i64 0])) rfl (by kernel_rfl) (by kernel_rfl) (by kernel_rfl) (fun _ _ _ h => h) (Or.inl ⟨by rfl, ?_⟩) (by assumption) ?_
        · intro w' hSw
          go_simp
        simp only [List.getElem_toArray, List.getElem_cons_succ, List.getElem_cons_zero, Act.put, List.setIfInBounds_toArray, List.set_cons_zero, List.set_cons_succ]
        refine wpAnyH_take (i := 7) (v := (.slice ya j yc)) rfl (by kernel_rfl) (by kernel_rfl) (by kernel_rfl) (fun _ _ _ h => h) (Or.inl ⟨by rfl, ?_⟩) (by assumption) ?_
        · intro w' hSw
          go_simp
        simp only [List.getElem_toArray, List.getElem_cons_succ, List.getElem_cons_zero, Act.put, List.setIfInBounds_toArray, List.set_cons_zero, List.set_cons_succ]
        refine wpAnyH_take (i := 8) (v := (.int .i64 0)) rfl (by kernel_rfl) (by kernel_rfl) (by kernel_rfl) (fun _ _ _ h => h) (Or.inl ⟨by rfl, ?_⟩) (by assumption) ?_
        · intro w' hSw
          go_simp
        simp only [List.getElem_toArray, List.getElem_cons_succ, List.getElem_cons_zero, Act.put, List.setIfInBounds_toArray, List.set_cons_zero, List.set_cons_succ]
        refine wpAnyH_take (i := 9) (v := (.slice ya j yc)) rfl (by kernel_rfl) (by kernel_rfl) (by kernel_rfl) (fun _ _ _ h => h) (Or.inl ⟨by rfl, ?_⟩) (by assumption) ?_
        · intro w' hSw
          go_simp
        simp only [List.getElem_toArray, List.getElem_cons_succ, List.getElem_cons_zero, Act.put, List.setIfInBounds_toArray, List.set_cons_zero, List.set_cons_succ]
        refine wpAnyH_take (i := 10) (v := (.int .i64 0)) rfl (by kernel_rfl) (by kernel_rfl) (by kernel_rfl) (fun _ _ _ h => h) (Or.inl ⟨by rfl, ?_⟩) (by assumption) ?_
        · intro w' hSw
          go_simp
        simp only [List.getElem_toArray, List.getElem_cons_succ, List.getElem_cons_zero, Act.put, List.setIfInBounds_toArray, List.set_cons_zero, List.set_cons_succ]
        refine wpAnyH_done (by kernel_rfl) ?_ _
        clear hHeld
        have a0 : wC.cell? ⟨w.heap.size, 0, none⟩ = some (.int .i64 (V : Int)) := X0.cell 0 rfl
        have a1 : wC.cell? ⟨w.heap.size, 1, none⟩ = some (.int .i64 (D : Int)) := X0.cell 1 rfl
        have a2 : wC.cell? ⟨w.heap.size, 2, none⟩ = some (.int .i64 (Hd : Int)) := X0.cell 2 rfl
        have a3 : wC.cell? ⟨w.heap.size, 3, none⟩ = some (.int .i64 (H : Int)) := X0.cell 3 rfl
        have a4 : wC.cell? ⟨w.heap.size, 4, none⟩ = some (.int .i64 (L : Int)) := X0.cell 4 rfl
        go_wp2_with (refine wpList_load_row rfl 33 _ rfl w2.heap.size rfl 33 W3.cells (0, 0) _ X3 Tryz.underlying33 rfl Tryz.infoRW ?_)
        refine (KK _ O3.b).mono ?_
        rintro e wD ⟨rfl, EM⟩
        replace X0 := X0.below EM
        replace X3 := X3.below EM
        replace I1 := I1.below EM
        replace G3 := G3.below EM
        replace AY := AY.below EM
        replace DB := below_then DB EM
        clear a0 a1 a2 a3 a4 KK EM O3
        have a0 : wD.cell? ⟨w.heap.size, 0, none⟩ = some (.int .i64 (V : Int)) := X0.cell 0 rfl
        have a1 : wD.cell? ⟨w.heap.size, 1, none⟩ = some (.int .i64 (D : Int)) := X0.cell 1 rfl
        have a2 : wD.cell? ⟨w.heap.size, 2, none⟩ = some (.int .i64 (Hd : Int)) := X0.cell 2 rfl
        have a3 : wD.cell? ⟨w.heap.size, 3, none⟩ = some (.int .i64 (H : Int)) := X0.cell 3 rfl
        have a4 : wD.cell? ⟨w.heap.size, 4, none⟩ = some (.int .i64 (L : Int)) := X0.cell 4 rfl
        go_wp2_with fail
        refine (RA _ I1).mono ?_
        rintro e wE ⟨rfl, EM⟩
        replace X0 := X0.below EM
        replace X3 := X3.below EM
        replace I1 := I1.below EM
        replace G3 := G3.below EM
        replace AY := AY.below EM
        replace DB := below_then DB EM
        clear a0 a1 a2 a3 a4 RA EM
        go_wp2_with fail
        refine (CW _ DB).mono ?_
        rintro e wF ⟨rfl, EM⟩
        replace X0 := X0.below EM
        replace X3 := X3.below EM
        replace I1 := I1.below EM
        replace G3 := G3.below EM
        replace AY := AY.below EM
        replace DB := below_then DB EM
        clear EM CW
        have a0 : wF.cell? ⟨w.heap.size, 0, none⟩ = some (.int .i64 (V : Int)) := X0.cell 0 rfl
        have a1 : wF.cell? ⟨w.heap.size, 1, none⟩ = some (.int .i64 (D : Int)) := X0.cell 1 rfl
        have a2 : wF.cell? ⟨w.heap.size, 2, none⟩ = some (.int .i64 (Hd : Int)) := X0.cell 2 rfl
        have a3 : wF.cell? ⟨w.heap.size, 3, none⟩ = some (.int .i64 (H : Int)) := X0.cell 3 rfl
        have a4 : wF.cell? ⟨w.heap.size, 4, none⟩ = some (.int .i64 (L : Int)) := X0.cell 4 rfl
        have e0 : wF.cell? ⟨w2.heap.size, 0, none⟩ = some (.int .i64 W3.e.r) := X3.cell 0 rfl
        have e1 : wF.cell? ⟨w2.heap.size, 1, none⟩ = some (.int .i64 W3.e.c) := X3.cell 1 rfl
        have e2 : wF.cell? ⟨w2.heap.size, 2, none⟩ = some (.slice W3.e.d.ao W3.e.d.n W3.e.d.c) := X3.cell 2 rfl
        have e3 : wF.cell? ⟨w2.heap.size, 3, none⟩ = some (.slice W3.b.ao W3.b.n W3.b.c) := X3.cell 3 rfl
        have e4 : wF.cell? ⟨w2.heap.size, 4, none⟩ = some (.slice W3.l.ao W3.l.n W3.l.c) := X3.cell 4 rfl
        have e5 : wF.cell? ⟨w2.heap.size, 5, none⟩ = some (.int .i64 W3.o.r) := X3.cell 5 rfl
        have e6 : wF.cell? ⟨w2.heap.size, 6, none⟩ = some (.int .i64 W3.o.c) := X3.cell 6 rfl
        have e7 : wF.cell? ⟨w2.heap.size, 7, none⟩ = some (.slice W3.o.d.ao W3.o.d.n W3.o.d.c) := X3.cell 7 rfl
        have RR1 := RR _ G3 I1
        go_wp2_with fail
        refine RR1.mono ?_
        rintro e wG ⟨j', g', c', rfl, OZ, ho', hall', EM⟩
        replace AY := AY.below EM
        replace DB := below_then DB EM
        clear EM RR RR1 a0 a1 a2 a3 a4 e0 e1 e2 e3 e4 e5 e6 e7
        have hjj := first_over ho hall ho' hall'
        subst hjj
        obtain ⟨za, zc, ez, AZ⟩ := IOwn.arg OZ (HSY.out j)
        simp only [Value.slice.injEq, true_and] at ez
        obtain ⟨rfl, rfl⟩ := ez
        go_wp2_with fail
        refine (refSameI_eq _ _ _ _ _ _ _ AY.row AZ.row).mono ?_
        rintro e wH ⟨rfl, m1, rfl⟩
        have EM : Below wG.heap.size wG (wG.drewN m1) := below_drewN (Below.refl _ wG) m1
        replace DB := below_then DB EM
        clear EM AY AZ OZ
        generalize wG.drewN m1 = wI at *
        go_wp2_with fail
        go_ret
        exact ⟨rfl, DB⟩
    · have hs1 : smallN C.D C.H C.L = 1 := by unfold smallN at hs ⊢; split at hs <;> simp_all
      rw [hs1]
      go_wp2_with fail
      by_cases hqc : checkN C.V C.D C.Hd C.H C.L W3 xs = 0
      rotate_left
      · have KK := fun wv (hb : BlocksAt wv W3.b xs) => RK W3 xs wv hW3 hb
        generalize hqe : checkN C.V C.D C.Hd C.H C.L W3 xs = qc at *
        have hq1 : (qc == 0) = false := by simpa using hqc
        have hq2 : (qc != 0) = true := by simp [bne, hq1]
        clear RK CS
        have BD : Below wk.heap.size wk wk.drew := (Below.refl _ wk).drew
        replace X0 := X0.below BD
        replace X3 := X3.below BD
        replace O3 := O3.below BD
        replace I1 := I1.below BD
        replace R1 := R1.below BD
        replace DB := DB.drew
        clear BD
        refine wp_region_held_drew (S := fun w' => Blk w' w.heap.size 23 #[.int .i64 C.V, .int .i64 C.D, .int .i64 C.Hd, .int .i64 C.H, .int .i64 C.L] ∧ Blk w' w2.heap.size 33 W3.cells) (by kernel_rfl) (⟨X0, X3⟩) (fun hHeld => ?_)
        generalize hAA : wk.drew = wA at *
        clear hAA
        refine wpAnyH_take (i := 0) (v := .agg #[.int .i64 C.V, .int .i64 C.D, .int .i64 C.Hd, .int .i64 C.H, .int .i64 C.L]) rfl (by kernel_rfl) (by kernel_rfl) (by kernel_rfl) (fun _ _ _ h => h) (yields_row (by rfl) 23 _ rfl w.heap.size rfl 23 #[.int .i64 C.V, .int .i64 C.D, .int .i64 C.Hd, .int .i64 C.H, .int .i64 C.L] _ (fun w' hS => hS.1) Tryz.underlying23 rfl Tryz.infoCf) (by assumption) ?_
        simp only [List.getElem_toArray, List.getElem_cons_zero, Act.put, List.setIfInBounds_toArray, List.set_cons_zero, List.set_cons_succ]
        refine wpAnyH_take (i := 1) (v := .agg W3.cells) rfl (by kernel_rfl) (by kernel_rfl) (by kernel_rfl) (fun _ _ _ h => h) (yields_row (by rfl) 33 _ rfl w2.heap.size rfl 33 W3.cells _ (fun w' hS => hS.2) Tryz.underlying33 rfl Tryz.infoRW) (by assumption) ?_
        simp only [List.getElem_toArray, List.getElem_cons_succ, List.getElem_cons_zero, Act.put, List.setIfInBounds_toArray, List.set_cons_zero, List.set_cons_succ]
        refine wpAnyH_take (i := 3) (v := (.slice (some ⟨b1, 0, none⟩) l1 kq)) rfl (by kernel_rfl) (by kernel_rfl) (by kernel_rfl) (fun _ _ _ h => h) (Or.inl ⟨by rfl, ?_⟩) (by assumption) ?_
        · intro w' hSw
          go_simp
        simp only [List.getElem_toArray, List.getElem_cons_succ, List.getElem_cons_zero, Act.put, List.setIfInBounds_toArray, List.set_cons_zero, List.set_cons_succ]
        refine wpAnyH_take (i := 4) (v := (.int .i64 most)) rfl (by kernel_rfl) (by kernel_rfl) (by kernel_rfl) (fun _ _ _ h => h) (Or.inl ⟨by rfl, ?_⟩) (by assumption) ?_
        · intro w' hSw
          go_simp
        simp only [List.getElem_toArray, List.getElem_cons_succ, List.getElem_cons_zero, Act.put, List.setIfInBounds_toArray, List.set_cons_zero, List.set_cons_succ]
        have T2 := of6_any W3 xs _ wA R1 (by have := HXL.out; omega)
        refine wpAnyH_ready (rs := [2]) (by kernel_rfl) (by simp) ?_
        refine AllReadyH.cons rfl (fun Kc hKc => ?_) AllReadyH.nil
        simp only [List.getElem_toArray, List.getElem_cons_succ, List.getElem_cons_zero]
        rw [if_pos (by rfl)]
        go_wp2_with fail
        refine (T2).mono ?_
        rintro e wB ⟨W5, rfl, ⟨ys, T3⟩, EM⟩
        replace X0 := X0.below EM
        replace X3 := X3.below EM
        replace O3 := O3.below EM
        replace I1 := I1.below EM
        replace R1 := R1.below EM
        replace DB := below_then DB EM
        clear EM
        clear T2
        have HQ := check_again HT1.out T3 C.V C.D C.Hd C.H C.L
        obtain ⟨O5, hl5⟩ := own_told hW3 (by omega) T3
        rw [HK.out, cutM_twice] at O5 hl5
        have hW5 := O5.ok
        clear T3 R1
        go_wp2_with fail
        refine hKc.out _ _ (⟨X0, X3⟩) (fun hHeld => ?_)
        clear hKc Kc
        have FF := FN W5 ys (some ⟨b1, 0, none⟩) l1 kq (most) wB hW5 O5.b (by rw [HQ, hqe]; exact hqc)
        rw [HQ, hqe] at FF
        refine wpAnyH_ready (rs := [5]) (by kernel_rfl) (by simp) ?_
        refine AllReadyH.cons rfl (fun Kc hKc => ?_) AllReadyH.nil
        simp only [List.getElem_toArray, List.getElem_cons_succ, List.getElem_cons_zero]
        rw [if_pos (by rfl)]
        go_wp2_with fail
        refine (FF).mono ?_
        rintro e wC ⟨rfl, EM⟩
        replace X0 := X0.below EM
        replace X3 := X3.below EM
        replace O3 := O3.below EM
        replace I1 := I1.below EM
        replace DB := below_then DB EM
        clear EM
        clear FF O5 hl5 HQ
        go_wp2_with fail
        refine hKc.out _ _ (⟨X0, X3⟩) (fun hHeld => ?_)
        clear hKc Kc
        refine wpAnyH_take (i := 6) (v := (.tuple #[.slice none 0 0, .int .i64 qc])) rfl (by kernel_rfl) (by kernel_rfl) (by kernel_rfl) (fun _ _ _ h => h) (Or.inl ⟨by rfl, ?_⟩) (by assumption) ?_
        · intro w' hSw
          go_simp
        simp only [List.getElem_toArray, List.getElem_cons_succ, List.getElem_cons_zero, Act.put, List.setIfInBounds_toArray, List.set_cons_zero, List.set_cons_succ]
        refine wpAnyH_take (i := 7) (v := (.slice none 0 0)) rfl (by kernel_rfl) (by kernel_rfl) (by kernel_rfl) (fun _ _ _ h => h) (Or.inl ⟨by rfl, ?_⟩) (by assumption) ?_
        · intro w' hSw
          go_simp
        simp only [List.getElem_toArray, List.getElem_cons_succ, List.getElem_cons_zero, Act.put, List.setIfInBounds_toArray, List.set_cons_zero, List.set_cons_succ]
        refine wpAnyH_take (i := 8) (v := (.int .i64 qc)) rfl (by kernel_rfl) (by kernel_rfl) (by kernel_rfl) (fun _ _ _ h => h) (Or.inl ⟨by rfl, ?_⟩) (by assumption) ?_
        · intro w' hSw
          go_simp
        simp only [List.getElem_toArray, List.getElem_cons_succ, List.getElem_cons_zero, Act.put, List.setIfInBounds_toArray, List.set_cons_zero, List.set_cons_succ]
        refine wpAnyH_take (i := 9) (v := (.slice none 0 0)) rfl (by kernel_rfl) (by kernel_rfl) (by kernel_rfl) (fun _ _ _ h => h) (Or.inl ⟨by rfl, ?_⟩) (by assumption) ?_
        · intro w' hSw
          go_simp
        simp only [List.getElem_toArray, List.getElem_cons_succ, List.getElem_cons_zero, Act.put, List.setIfInBounds_toArray, List.set_cons_zero, List.set_cons_succ]
        refine wpAnyH_take (i := 10) (v := (.int .i64 qc)) rfl (by kernel_rfl) (by kernel_rfl) (by kernel_rfl) (fun _ _ _ h => h) (Or.inl ⟨by rfl, ?_⟩) (by assumption) ?_
        · intro w' hSw
          go_simp
        simp only [List.getElem_toArray, List.getElem_cons_succ, List.getElem_cons_zero, Act.put, List.setIfInBounds_toArray, List.set_cons_zero, List.set_cons_succ]
        refine wpAnyH_done (by kernel_rfl) ?_ _
        clear hHeld
        clear FN
        have a0 : wC.cell? ⟨w.heap.size, 0, none⟩ = some (.int .i64 C.V) := X0.cell 0 rfl
        have a1 : wC.cell? ⟨w.heap.size, 1, none⟩ = some (.int .i64 C.D) := X0.cell 1 rfl
        have a2 : wC.cell? ⟨w.heap.size, 2, none⟩ = some (.int .i64 C.Hd) := X0.cell 2 rfl
        have a3 : wC.cell? ⟨w.heap.size, 3, none⟩ = some (.int .i64 C.H) := X0.cell 3 rfl
        have a4 : wC.cell? ⟨w.heap.size, 4, none⟩ = some (.int .i64 C.L) := X0.cell 4 rfl
        go_wp2_with (refine wpList_load_row rfl 33 _ rfl w2.heap.size rfl 33 W3.cells (0, 0) _ X3 Tryz.underlying33 rfl Tryz.infoRW ?_)
        refine (KK _ O3.b).mono ?_
        rintro e wD ⟨rfl, EM⟩
        replace X0 := X0.below EM
        replace I1 := I1.below EM
        replace DB := below_then DB EM
        clear a0 a1 a2 a3 a4 KK EM X3 O3
        go_wp2_with fail
        refine (CW _ DB).mono ?_
        rintro e wF ⟨rfl, EM⟩
        replace DB := below_then DB EM
        have hne : (qc != qc) = false := by simp
        go_wp2_with fail
        go_ret
        exact ⟨rfl, DB⟩
      have hqc0 := hqc
      obtain ⟨hsh, -⟩ := check_shape hqc
      have hkk := shape_ok hsh
      clear FN CS
      obtain ⟨CV, CD, CHd, CH, CL⟩ := C
      simp only at *
      obtain ⟨V, rfl⟩ : ∃ n : Nat, CV = n := ⟨CV.toNat, by omega⟩
      obtain ⟨D, rfl⟩ : ∃ n : Nat, CD = n := ⟨CD.toNat, by omega⟩
      obtain ⟨Hd, rfl⟩ : ∃ n : Nat, CHd = n := ⟨CHd.toNat, by omega⟩
      obtain ⟨H, rfl⟩ : ∃ n : Nat, CH = n := ⟨CH.toNat, by omega⟩
      obtain ⟨L, rfl⟩ : ∃ n : Nat, CL = n := ⟨CL.toNat, by omega⟩
      obtain ⟨G3, hxL⟩ := own_wt O3 HL3.out hqc
      clear hqc0
      have KK := fun wv (hb : BlocksAt wv W3.b xs) => RK W3 xs wv hW3 hb
      rw [hqc] at KK
      have RA := fun wv (hA : IArg wv (some ⟨b1, 0, none⟩) l1 kq P) => refAsked_any V D Hd H L (some ⟨b1, 0, none⟩) l1 kq P (most) wv hA
      unfold cfgC at RA
      clear RK
      by_cases hqp : askedN V P (most) = 0
      rotate_left
      · obtain ⟨qp, hqe⟩ : ∃ q, askedN V P (most) = q := ⟨_, rfl⟩
        rw [hqe] at RA
        have hq0 : ¬ qp = 0 := by rw [← hqe]; exact hqp
        have HQE : Hid (askedN V P (most) = qp) := hqe
        clear hqe
        have hq1 : (qp == 0) = false := by simpa using hq0
        have hq2 : (qp != 0) = true := by simp [bne, hq1]
        have BD : Below wk.heap.size wk wk.drew := (Below.refl _ wk).drew
        replace X0 := X0.below BD
        replace X3 := X3.below BD
        replace O3 := O3.below BD
        replace I1 := I1.below BD
        replace R1 := R1.below BD
        replace G3 := G3.below BD
        replace DB := DB.drew
        clear BD
        refine wp_region_held_drew (S := fun w' => Blk w' w.heap.size 23 #[.int .i64 (V : Int), .int .i64 (D : Int), .int .i64 (Hd : Int), .int .i64 (H : Int), .int .i64 (L : Int)] ∧ Blk w' w2.heap.size 33 W3.cells) (by kernel_rfl) (⟨X0, X3⟩) (fun hHeld => ?_)
        generalize hAA : wk.drew = wA at *
        clear hAA
        refine wpAnyH_take (i := 0) (v := .agg #[.int .i64 (V : Int), .int .i64 (D : Int), .int .i64 (Hd : Int), .int .i64 (H : Int), .int .i64 (L : Int)]) rfl (by kernel_rfl) (by kernel_rfl) (by kernel_rfl) (fun _ _ _ h => h) (yields_row (by rfl) 23 _ rfl w.heap.size rfl 23 #[.int .i64 (V : Int), .int .i64 (D : Int), .int .i64 (Hd : Int), .int .i64 (H : Int), .int .i64 (L : Int)] _ (fun w' hS => hS.1) Tryz.underlying23 rfl Tryz.infoCf) (by assumption) ?_
        simp only [List.getElem_toArray, List.getElem_cons_zero, Act.put, List.setIfInBounds_toArray, List.set_cons_zero, List.set_cons_succ]
        refine wpAnyH_take (i := 1) (v := .agg W3.cells) rfl (by kernel_rfl) (by kernel_rfl) (by kernel_rfl) (fun _ _ _ h => h) (yields_row (by rfl) 33 _ rfl w2.heap.size rfl 33 W3.cells _ (fun w' hS => hS.2) Tryz.underlying33 rfl Tryz.infoRW) (by assumption) ?_
        simp only [List.getElem_toArray, List.getElem_cons_succ, List.getElem_cons_zero, Act.put, List.setIfInBounds_toArray, List.set_cons_zero, List.set_cons_succ]
        refine wpAnyH_take (i := 3) (v := (.slice (some ⟨b1, 0, none⟩) l1 kq)) rfl (by kernel_rfl) (by kernel_rfl) (by kernel_rfl) (fun _ _ _ h => h) (Or.inl ⟨by rfl, ?_⟩) (by assumption) ?_
        · intro w' hSw
          go_simp
        simp only [List.getElem_toArray, List.getElem_cons_succ, List.getElem_cons_zero, Act.put, List.setIfInBounds_toArray, List.set_cons_zero, List.set_cons_succ]
        refine wpAnyH_take (i := 4) (v := (.int .i64 most)) rfl (by kernel_rfl) (by kernel_rfl) (by kernel_rfl) (fun _ _ _ h => h) (Or.inl ⟨by rfl, ?_⟩) (by assumption) ?_
        · intro w' hSw
          go_simp
        simp only [List.getElem_toArray, List.getElem_cons_succ, List.getElem_cons_zero, Act.put, List.setIfInBounds_toArray, List.set_cons_zero, List.set_cons_succ]
        have T2 := of6_any W3 xs _ wA R1 (by have := HXL.out; omega)
        refine wpAnyH_ready (rs := [2]) (by kernel_rfl) (by simp) ?_
        refine AllReadyH.cons rfl (fun Kc hKc => ?_) AllReadyH.nil
        simp only [List.getElem_toArray, List.getElem_cons_succ, List.getElem_cons_zero]
        rw [if_pos (by rfl)]
        go_wp2_with fail
        refine (T2).mono ?_
        rintro e wB ⟨W5, rfl, ⟨ys, T3⟩, EM⟩
        replace X0 := X0.below EM
        replace X3 := X3.below EM
        replace O3 := O3.below EM
        replace I1 := I1.below EM
        replace R1 := R1.below EM
        replace G3 := G3.below EM
        replace DB := below_then DB EM
        clear EM
        clear T2
        have HQ := check_again HT1.out T3 V D Hd H L
        obtain ⟨O5, hl5⟩ := own_told hW3 (by omega) T3
        rw [HK.out, cutM_twice] at O5 hl5
        have hW5 := O5.ok
        clear T3 R1
        go_wp2_with fail
        refine hKc.out _ _ (⟨X0, X3⟩) (fun hHeld => ?_)
        clear hKc Kc
        rw [hqc] at HQ
        have G5 := own_good O5 hl5 HQ
        have FF := run_bad V D Hd H L W5 ys _ (some ⟨b1, 0, none⟩) l1 kq P (most) wB G5 I1 hqp
        rw [HQE.out] at FF
        unfold cfgC at FF
        clear G5
        refine wpAnyH_ready (rs := [5]) (by kernel_rfl) (by simp) ?_
        refine AllReadyH.cons rfl (fun Kc hKc => ?_) AllReadyH.nil
        simp only [List.getElem_toArray, List.getElem_cons_succ, List.getElem_cons_zero]
        rw [if_pos (by rfl)]
        go_wp2_with fail
        refine (FF).mono ?_
        rintro e wC ⟨rfl, EM⟩
        replace X0 := X0.below EM
        replace X3 := X3.below EM
        replace O3 := O3.below EM
        replace I1 := I1.below EM
        replace G3 := G3.below EM
        replace DB := below_then DB EM
        clear EM
        clear FF O5 hl5 HQ
        go_wp2_with fail
        refine hKc.out _ _ (⟨X0, X3⟩) (fun hHeld => ?_)
        clear hKc Kc
        refine wpAnyH_take (i := 6) (v := (.tuple #[.slice none 0 0, .int .i64 qp])) rfl (by kernel_rfl) (by kernel_rfl) (by kernel_rfl) (fun _ _ _ h => h) (Or.inl ⟨by rfl, ?_⟩) (by assumption) ?_
        · intro w' hSw
          go_simp
        simp only [List.getElem_toArray, List.getElem_cons_succ, List.getElem_cons_zero, Act.put, List.setIfInBounds_toArray, List.set_cons_zero, List.set_cons_succ]
        refine wpAnyH_take (i := 7) (v := (.slice none 0 0)) rfl (by kernel_rfl) (by kernel_rfl) (by kernel_rfl) (fun _ _ _ h => h) (Or.inl ⟨by rfl, ?_⟩) (by assumption) ?_
        · intro w' hSw
          go_simp
        simp only [List.getElem_toArray, List.getElem_cons_succ, List.getElem_cons_zero, Act.put, List.setIfInBounds_toArray, List.set_cons_zero, List.set_cons_succ]
        refine wpAnyH_take (i := 8) (v := (.int .i64 qp)) rfl (by kernel_rfl) (by kernel_rfl) (by kernel_rfl) (fun _ _ _ h => h) (Or.inl ⟨by rfl, ?_⟩) (by assumption) ?_
        · intro w' hSw
          go_simp
        simp only [List.getElem_toArray, List.getElem_cons_succ, List.getElem_cons_zero, Act.put, List.setIfInBounds_toArray, List.set_cons_zero, List.set_cons_succ]
        refine wpAnyH_take (i := 9) (v := (.slice none 0 0)) rfl (by kernel_rfl) (by kernel_rfl) (by kernel_rfl) (fun _ _ _ h => h) (Or.inl ⟨by rfl, ?_⟩) (by assumption) ?_
        · intro w' hSw
          go_simp
        simp only [List.getElem_toArray, List.getElem_cons_succ, List.getElem_cons_zero, Act.put, List.setIfInBounds_toArray, List.set_cons_zero, List.set_cons_succ]
        refine wpAnyH_take (i := 10) (v := (.int .i64 qp)) rfl (by kernel_rfl) (by kernel_rfl) (by kernel_rfl) (fun _ _ _ h => h) (Or.inl ⟨by rfl, ?_⟩) (by assumption) ?_
        · intro w' hSw
          go_simp
        simp only [List.getElem_toArray, List.getElem_cons_succ, List.getElem_cons_zero, Act.put, List.setIfInBounds_toArray, List.set_cons_zero, List.set_cons_succ]
        refine wpAnyH_done (by kernel_rfl) ?_ _
        clear hHeld
        clear G3
        have a0 : wC.cell? ⟨w.heap.size, 0, none⟩ = some (.int .i64 (V : Int)) := X0.cell 0 rfl
        have a1 : wC.cell? ⟨w.heap.size, 1, none⟩ = some (.int .i64 (D : Int)) := X0.cell 1 rfl
        have a2 : wC.cell? ⟨w.heap.size, 2, none⟩ = some (.int .i64 (Hd : Int)) := X0.cell 2 rfl
        have a3 : wC.cell? ⟨w.heap.size, 3, none⟩ = some (.int .i64 (H : Int)) := X0.cell 3 rfl
        have a4 : wC.cell? ⟨w.heap.size, 4, none⟩ = some (.int .i64 (L : Int)) := X0.cell 4 rfl
        go_wp2_with (refine wpList_load_row rfl 33 _ rfl w2.heap.size rfl 33 W3.cells (0, 0) _ X3 Tryz.underlying33 rfl Tryz.infoRW ?_)
        refine (KK _ O3.b).mono ?_
        rintro e wD ⟨rfl, EM⟩
        replace X0 := X0.below EM
        replace I1 := I1.below EM
        replace DB := below_then DB EM
        clear a0 a1 a2 a3 a4 KK EM X3 O3
        have a0 : wD.cell? ⟨w.heap.size, 0, none⟩ = some (.int .i64 (V : Int)) := X0.cell 0 rfl
        have a1 : wD.cell? ⟨w.heap.size, 1, none⟩ = some (.int .i64 (D : Int)) := X0.cell 1 rfl
        have a2 : wD.cell? ⟨w.heap.size, 2, none⟩ = some (.int .i64 (Hd : Int)) := X0.cell 2 rfl
        have a3 : wD.cell? ⟨w.heap.size, 3, none⟩ = some (.int .i64 (H : Int)) := X0.cell 3 rfl
        have a4 : wD.cell? ⟨w.heap.size, 4, none⟩ = some (.int .i64 (L : Int)) := X0.cell 4 rfl
        go_wp2_with fail
        refine (RA _ I1).mono ?_
        rintro e wE ⟨rfl, EM⟩
        replace X0 := X0.below EM
        replace DB := below_then DB EM
        clear a0 a1 a2 a3 a4 RA EM
        go_wp2_with fail
        refine (CW _ DB).mono ?_
        rintro e wF ⟨rfl, EM⟩
        replace DB := below_then DB EM
        have hne : (qp != qp) = false := by simp
        go_wp2_with fail
        go_ret
        exact ⟨rfl, DB⟩
      rw [hqp] at RA
      have RR := fun wv (hW : WtAt wv V D H W3 xs (cutM 100 (min 5 VV.b.n) MM)) (hA : IArg wv (some ⟨b1, 0, none⟩) l1 kq P) => rrun_any V D Hd H L l1 kq b1 0 W3 xs _ P (most) wv hW hxL hA hsh hqp
      obtain ⟨hpp, -, -⟩ := asked_ok hqp
      obtain ⟨pp1, pp2, pp3⟩ := prompt_ok hpp
      have hPn : P ≠ [] := fun h => by rw [h] at pp1; simp at pp1
      have HSY : Hid (∀ j k, -9223372036854775808 ≤ el (runY (cutM 100 (min 5 VV.b.n) MM) V D H Hd L P j) k ∧ el (runY (cutM 100 (min 5 VV.b.n) MM) V D H Hd L P j) k ≤ 9223372036854775807) := fun j k => tok_small' (V := V) (by omega) (runY_toks _ (by omega) P j) k
      clear pp1 pp2 pp3 hpp
      have BD : Below wk.heap.size wk wk.drew := (Below.refl _ wk).drew
      replace X0 := X0.below BD
      replace X3 := X3.below BD
      replace O3 := O3.below BD
      replace I1 := I1.below BD
      replace R1 := R1.below BD
      replace G3 := G3.below BD
      replace DB := DB.drew
      clear BD
      refine wp_region_held_drew (S := fun w' => Blk w' w.heap.size 23 #[.int .i64 (V : Int), .int .i64 (D : Int), .int .i64 (Hd : Int), .int .i64 (H : Int), .int .i64 (L : Int)] ∧ Blk w' w2.heap.size 33 W3.cells) (by kernel_rfl) (⟨X0, X3⟩) (fun hHeld => ?_)
      generalize hAA : wk.drew = wA at *
      clear hAA
      refine wpAnyH_take (i := 0) (v := .agg #[.int .i64 (V : Int), .int .i64 (D : Int), .int .i64 (Hd : Int), .int .i64 (H : Int), .int .i64 (L : Int)]) rfl (by kernel_rfl) (by kernel_rfl) (by kernel_rfl) (fun _ _ _ h => h) (yields_row (by rfl) 23 _ rfl w.heap.size rfl 23 #[.int .i64 (V : Int), .int .i64 (D : Int), .int .i64 (Hd : Int), .int .i64 (H : Int), .int .i64 (L : Int)] _ (fun w' hS => hS.1) Tryz.underlying23 rfl Tryz.infoCf) (by assumption) ?_
      simp only [List.getElem_toArray, List.getElem_cons_zero, Act.put, List.setIfInBounds_toArray, List.set_cons_zero, List.set_cons_succ]
      refine wpAnyH_take (i := 1) (v := .agg W3.cells) rfl (by kernel_rfl) (by kernel_rfl) (by kernel_rfl) (fun _ _ _ h => h) (yields_row (by rfl) 33 _ rfl w2.heap.size rfl 33 W3.cells _ (fun w' hS => hS.2) Tryz.underlying33 rfl Tryz.infoRW) (by assumption) ?_
      simp only [List.getElem_toArray, List.getElem_cons_succ, List.getElem_cons_zero, Act.put, List.setIfInBounds_toArray, List.set_cons_zero, List.set_cons_succ]
      refine wpAnyH_take (i := 3) (v := (.slice (some ⟨b1, 0, none⟩) l1 kq)) rfl (by kernel_rfl) (by kernel_rfl) (by kernel_rfl) (fun _ _ _ h => h) (Or.inl ⟨by rfl, ?_⟩) (by assumption) ?_
      · intro w' hSw
        go_simp
      simp only [List.getElem_toArray, List.getElem_cons_succ, List.getElem_cons_zero, Act.put, List.setIfInBounds_toArray, List.set_cons_zero, List.set_cons_succ]
      refine wpAnyH_take (i := 4) (v := (.int .i64 most)) rfl (by kernel_rfl) (by kernel_rfl) (by kernel_rfl) (fun _ _ _ h => h) (Or.inl ⟨by rfl, ?_⟩) (by assumption) ?_
      · intro w' hSw
        go_simp
      simp only [List.getElem_toArray, List.getElem_cons_succ, List.getElem_cons_zero, Act.put, List.setIfInBounds_toArray, List.set_cons_zero, List.set_cons_succ]
      have T2 := of6_any W3 xs _ wA R1 (by have := HXL.out; omega)
      refine wpAnyH_ready (rs := [2]) (by kernel_rfl) (by simp) ?_
      refine AllReadyH.cons rfl (fun Kc hKc => ?_) AllReadyH.nil
      simp only [List.getElem_toArray, List.getElem_cons_succ, List.getElem_cons_zero]
      rw [if_pos (by rfl)]
      go_wp2_with fail
      refine (T2).mono ?_
      rintro e wB ⟨W5, rfl, ⟨ys, T3⟩, EM⟩
      replace X0 := X0.below EM
      replace X3 := X3.below EM
      replace O3 := O3.below EM
      replace I1 := I1.below EM
      replace R1 := R1.below EM
      replace G3 := G3.below EM
      replace DB := below_then DB EM
      clear EM
      clear T2
      have HQ := check_again HT1.out T3 V D Hd H L
      obtain ⟨O5, hl5⟩ := own_told hW3 (by omega) T3
      rw [HK.out, cutM_twice] at O5 hl5
      have hW5 := O5.ok
      clear T3 R1
      go_wp2_with fail
      refine hKc.out _ _ (⟨X0, X3⟩) (fun hHeld => ?_)
      clear hKc Kc
      rw [hqc] at HQ
      have G5 := own_good O5 hl5 HQ
      have FF := run_ok V D Hd H L W5 ys _ (some ⟨b1, 0, none⟩) l1 kq P (most) wB G5 I1 (HT.out _ DB) hqp
      unfold cfgC at FF
      clear G5
      refine wpAnyH_ready (rs := [5]) (by kernel_rfl) (by simp) ?_
      refine AllReadyH.cons rfl (fun Kc hKc => ?_) AllReadyH.nil
      simp only [List.getElem_toArray, List.getElem_cons_succ, List.getElem_cons_zero]
      rw [if_pos (by rfl)]
      go_wp2_with fail
      refine (FF).mono ?_
      rintro e wC ⟨j, ya, yc, rfl, OY, ho, hall, EM⟩
      replace X0 := X0.below EM
      replace X3 := X3.below EM
      replace O3 := O3.below EM
      replace I1 := I1.below EM
      replace G3 := G3.below EM
      replace DB := below_then DB EM
      clear EM
      clear FF O5 hl5 HQ
      rw [(runS_inv _ V D H Hd L P hPn j).1] at OY ho
      replace hall := fun i (hi : i < j) => by have := hall i hi; rw [(runS_inv _ V D H Hd L P hPn i).1] at this; exact this
      obtain ⟨ya', yc', ey, AY⟩ := IOwn.arg OY (HSY.out j)
      simp only [Value.slice.injEq, true_and] at ey
      obtain ⟨rfl, rfl⟩ := ey
      clear OY
      go_wp2_with fail
      refine hKc.out _ _ (⟨X0, X3⟩) (fun hHeld => ?_)
      clear hKc Kc
      refine wpAnyH_take (i := 6) (v := (.tuple #[.slice ya j yc, .int .i64 0])) rfl (by kernel_rfl) (by kernel_rfl) (by kernel_rfl) (fun _ _ _ h => h) (Or.inl ⟨by rfl, ?_⟩) (by assumption) ?_
      · intro w' hSw
        go_simp
      simp only [List.getElem_toArray, List.getElem_cons_succ, List.getElem_cons_zero, Act.put, List.setIfInBounds_toArray, List.set_cons_zero, List.set_cons_succ]
      refine wpAnyH_take (i := 7) (v := (.slice ya j yc)) rfl (by kernel_rfl) (by kernel_rfl) (by kernel_rfl) (fun _ _ _ h => h) (Or.inl ⟨by rfl, ?_⟩) (by assumption) ?_
      · intro w' hSw
        go_simp
      simp only [List.getElem_toArray, List.getElem_cons_succ, List.getElem_cons_zero, Act.put, List.setIfInBounds_toArray, List.set_cons_zero, List.set_cons_succ]
      refine wpAnyH_take (i := 8) (v := (.int .i64 0)) rfl (by kernel_rfl) (by kernel_rfl) (by kernel_rfl) (fun _ _ _ h => h) (Or.inl ⟨by rfl, ?_⟩) (by assumption) ?_
      · intro w' hSw
        go_simp
      simp only [List.getElem_toArray, List.getElem_cons_succ, List.getElem_cons_zero, Act.put, List.setIfInBounds_toArray, List.set_cons_zero, List.set_cons_succ]
      refine wpAnyH_take (i := 9) (v := (.slice ya j yc)) rfl (by kernel_rfl) (by kernel_rfl) (by kernel_rfl) (fun _ _ _ h => h) (Or.inl ⟨by rfl, ?_⟩) (by assumption) ?_
      · intro w' hSw
        go_simp
      simp only [List.getElem_toArray, List.getElem_cons_succ, List.getElem_cons_zero, Act.put, List.setIfInBounds_toArray, List.set_cons_zero, List.set_cons_succ]
      refine wpAnyH_take (i := 10) (v := (.int .i64 0)) rfl (by kernel_rfl) (by kernel_rfl) (by kernel_rfl) (fun _ _ _ h => h) (Or.inl ⟨by rfl, ?_⟩) (by assumption) ?_
      · intro w' hSw
        go_simp
      simp only [List.getElem_toArray, List.getElem_cons_succ, List.getElem_cons_zero, Act.put, List.setIfInBounds_toArray, List.set_cons_zero, List.set_cons_succ]
      refine wpAnyH_done (by kernel_rfl) ?_ _
      clear hHeld
      have a0 : wC.cell? ⟨w.heap.size, 0, none⟩ = some (.int .i64 (V : Int)) := X0.cell 0 rfl
      have a1 : wC.cell? ⟨w.heap.size, 1, none⟩ = some (.int .i64 (D : Int)) := X0.cell 1 rfl
      have a2 : wC.cell? ⟨w.heap.size, 2, none⟩ = some (.int .i64 (Hd : Int)) := X0.cell 2 rfl
      have a3 : wC.cell? ⟨w.heap.size, 3, none⟩ = some (.int .i64 (H : Int)) := X0.cell 3 rfl
      have a4 : wC.cell? ⟨w.heap.size, 4, none⟩ = some (.int .i64 (L : Int)) := X0.cell 4 rfl
      go_wp2_with (refine wpList_load_row rfl 33 _ rfl w2.heap.size rfl 33 W3.cells (0, 0) _ X3 Tryz.underlying33 rfl Tryz.infoRW ?_)
      refine (KK _ O3.b).mono ?_
      rintro e wD ⟨rfl, EM⟩
      replace X0 := X0.below EM
      replace X3 := X3.below EM
      replace I1 := I1.below EM
      replace G3 := G3.below EM
      replace AY := AY.below EM
      replace DB := below_then DB EM
      clear a0 a1 a2 a3 a4 KK EM O3
      have a0 : wD.cell? ⟨w.heap.size, 0, none⟩ = some (.int .i64 (V : Int)) := X0.cell 0 rfl
      have a1 : wD.cell? ⟨w.heap.size, 1, none⟩ = some (.int .i64 (D : Int)) := X0.cell 1 rfl
      have a2 : wD.cell? ⟨w.heap.size, 2, none⟩ = some (.int .i64 (Hd : Int)) := X0.cell 2 rfl
      have a3 : wD.cell? ⟨w.heap.size, 3, none⟩ = some (.int .i64 (H : Int)) := X0.cell 3 rfl
      have a4 : wD.cell? ⟨w.heap.size, 4, none⟩ = some (.int .i64 (L : Int)) := X0.cell 4 rfl
      go_wp2_with fail
      refine (RA _ I1).mono ?_
      rintro e wE ⟨rfl, EM⟩
      replace X0 := X0.below EM
      replace X3 := X3.below EM
      replace I1 := I1.below EM
      replace G3 := G3.below EM
      replace AY := AY.below EM
      replace DB := below_then DB EM
      clear a0 a1 a2 a3 a4 RA EM
      go_wp2_with fail
      refine (CW _ DB).mono ?_
      rintro e wF ⟨rfl, EM⟩
      replace X0 := X0.below EM
      replace X3 := X3.below EM
      replace I1 := I1.below EM
      replace G3 := G3.below EM
      replace AY := AY.below EM
      replace DB := below_then DB EM
      clear EM CW
      have a0 : wF.cell? ⟨w.heap.size, 0, none⟩ = some (.int .i64 (V : Int)) := X0.cell 0 rfl
      have a1 : wF.cell? ⟨w.heap.size, 1, none⟩ = some (.int .i64 (D : Int)) := X0.cell 1 rfl
      have a2 : wF.cell? ⟨w.heap.size, 2, none⟩ = some (.int .i64 (Hd : Int)) := X0.cell 2 rfl
      have a3 : wF.cell? ⟨w.heap.size, 3, none⟩ = some (.int .i64 (H : Int)) := X0.cell 3 rfl
      have a4 : wF.cell? ⟨w.heap.size, 4, none⟩ = some (.int .i64 (L : Int)) := X0.cell 4 rfl
      have e0 : wF.cell? ⟨w2.heap.size, 0, none⟩ = some (.int .i64 W3.e.r) := X3.cell 0 rfl
      have e1 : wF.cell? ⟨w2.heap.size, 1, none⟩ = some (.int .i64 W3.e.c) := X3.cell 1 rfl
      have e2 : wF.cell? ⟨w2.heap.size, 2, none⟩ = some (.slice W3.e.d.ao W3.e.d.n W3.e.d.c) := X3.cell 2 rfl
      have e3 : wF.cell? ⟨w2.heap.size, 3, none⟩ = some (.slice W3.b.ao W3.b.n W3.b.c) := X3.cell 3 rfl
      have e4 : wF.cell? ⟨w2.heap.size, 4, none⟩ = some (.slice W3.l.ao W3.l.n W3.l.c) := X3.cell 4 rfl
      have e5 : wF.cell? ⟨w2.heap.size, 5, none⟩ = some (.int .i64 W3.o.r) := X3.cell 5 rfl
      have e6 : wF.cell? ⟨w2.heap.size, 6, none⟩ = some (.int .i64 W3.o.c) := X3.cell 6 rfl
      have e7 : wF.cell? ⟨w2.heap.size, 7, none⟩ = some (.slice W3.o.d.ao W3.o.d.n W3.o.d.c) := X3.cell 7 rfl
      have RR1 := RR _ G3 I1
      go_wp2_with fail
      refine RR1.mono ?_
      rintro e wG ⟨j', g', c', rfl, OZ, ho', hall', EM⟩
      replace AY := AY.below EM
      replace DB := below_then DB EM
      clear EM RR RR1 a0 a1 a2 a3 a4 e0 e1 e2 e3 e4 e5 e6 e7
      have hjj := first_over ho hall ho' hall'
      subst hjj
      obtain ⟨za, zc, ez, AZ⟩ := IOwn.arg OZ (HSY.out j)
      simp only [Value.slice.injEq, true_and] at ez
      obtain ⟨rfl, rfl⟩ := ez
      go_wp2_with fail
      refine (refSameI_eq _ _ _ _ _ _ _ AY.row AZ.row).mono ?_
      rintro e wH ⟨rfl, m1, rfl⟩
      have EM : Below wG.heap.size wG (wG.drewN m1) := below_drewN (Below.refl _ wG) m1
      replace DB := below_then DB EM
      clear EM AY AZ OZ
      generalize wG.drewN m1 = wI at *
      go_wp2_with fail
      go_ret
      exact ⟨rfl, DB⟩
end Go.Proofs.YtahfdbblndphaaaGreatDoor

/- The given statement on GreedyRuns: at every input the law returns true and its arguments read as before; the listed table lies as the program's text lays it (the card ties it). -/
namespace Go.Proofs.YtahfdbblndphaaaGreatDoor.greedyRuns
open Go.ChangeShapes Go.WideShapes Go.ChangeAt Go.WideMaps Go.WideElems Go.RowKit
set_option linter.unusedVariables false
abbrev lst : List (String × DataW Unit) := Rows.greedyRunsRow.laid
theorem door_met (os : Os) (args : Array Value) : laidMetH Tryz.prog lst ((World.doorLaid Tryz.prog 14 os).forCall (fun _ _ => 0) ⟨#[], args, []⟩).memory :=
  laidMetH_of_parts3 (fuel := 8) (laidMet_of_run' 8 (by kernel_rfl) (by kernel_rfl)) (by kernel_rfl) (by kernel_rfl)
set_option maxRecDepth 100000 in
theorem lifted (os : Os) (started : os.Started) (H : Type) (enc : TypeId × Value → H) :
    ReturnsInHanded {} Tryz.checked os 3 .any (fun w args => (Rows.greedyRunsSpec.pre enc Tryz.prog Tryz.f3 [] false w args ∧ laidMetH Tryz.prog lst w) ∧ sizedMet enc Tryz.prog Tryz.f3 (OpenSpec.ofChange Rows.greedyRunsSpec) false w args)
      (Rows.greedyRunsSpec.post enc Tryz.prog Tryz.f3 false true false false) := by
  refine returnsInHanded_of_change_and (C := Tryz.checked) (X := fun w _ => laidMetH Tryz.prog lst w) (fun _ _ _ hh h => h.of_heap hh) Tryz.own started (by kernel_rfl) Tryz.func3
    (ChangeSpec.witness_shaped (enc := enc) (C := Tryz.checked) (os := os) (X := fun w _ => laidMetH Tryz.prog lst w) false (World.doorLaid Tryz.prog 14 os) #[.agg #[.int .i64 0, .int .i64 0, .int .i64 0, .int .i64 0, .int .i64 0], .agg #[.int .i64 0, .int .i64 0, .slice none 0 0, .slice none 0 0, .slice none 0 0, .int .i64 0, .int .i64 0, .slice none 0 0], .slice none 0 0, .int .i64 0] 8 rfl (World.shaped_of_RefB (by kernel_rfl) (by kernel_rfl)) (by kernel_rfl) (by kernel_rfl) (by kernel_rfl) (door_met os _)) ?_
  intro W base args ds gs before hval0 hW _ _ hL _
  have hval : ∀ (j : Nat) t v, Tryz.f3.params[j]? = some t → args[j]? = some v → Value.okWide Tryz.prog W .any base t v := hval0
  have hW' := hW
  obtain ⟨p, q, hA0, hV, rfl, _, _⟩ := hW
  have hA : DataW.TrodAll enc Tryz.prog W 0 (fun _ => true) true Tryz.f3.params.toList args.toList ds p := hA0
  rw [Tryz.params3] at hA hval
  obtain ⟨v0, vs0, d0, ds0, p0, q0, hargs, rfl, rfl, h0, r0⟩ := trodAll_cons hA
  obtain ⟨v1, vs1, d1, ds1, p1, q1, rfl, rfl, rfl, h1, r1⟩ := trodAll_cons r0
  obtain ⟨v2, vs2, d2, ds2, p2, q2, rfl, rfl, rfl, h2, r2⟩ := trodAll_cons r1
  obtain ⟨v3, vs3, d3, ds3, p3, q3, rfl, rfl, rfl, h3, r3⟩ := trodAll_cons r2
  obtain ⟨rfl, rfl, rfl⟩ := trodAll_nil r3
  obtain rfl : args = #[v0, v1, v2, v3] := by cases args; simp_all
  obtain ⟨rfl, rfl⟩ := trodVars_none hV
  have k0 := h0
  obtain ⟨C0, rfl, g0⟩ := viewCfg (hval 0 _ v0 rfl rfl) h0
  have k1 := h1
  obtain ⟨W1, X1, rfl, g1⟩ := viewWt (hval 1 _ v1 rfl rfl) h1
  have k2 := h2
  obtain ⟨a2, n2, c2, Z2, rfl, g2⟩ := viewI (hval 2 _ v2 rfl rfl) h2
  have k3 := h3
  obtain ⟨a3, rfl, rfl, rfl, w3⟩ := open_int Tryz.underlying3 (hval 3 3 v3 rfl rfl) h3
  have b3 := bounds_i64 w3
  clear hA0 hval0
  simp only [List.append_nil] at hW'
  have hlt : ∀ x ∈ p0 ++ p1 ++ p2, x.block < W.heap.size := fun x hx => by
    have hx2 := hx
    exact hW'.lt x (by grind)
  refine (greedyRuns_walk C0 W1 X1 a2 n2 c2 Z2 a3 W g0 g1 g2 b3 (tab_of_laid hL)).mono fun e W' ⟨he, hb⟩ => ?_
  subst he
  exact ⟨_, rfl, _, _, _, [], _, [], hW', trodAll_mk1 (shut_bool Tryz.underlying4 true), trodAll_cons_mk (Below.trod Tryz.laidOut (by kernel_rfl) (of_decide_eq_true (by kernel_rfl)) k0 hb (fun x hx => hlt x (by simp [hx]))) (trodAll_cons_mk (Below.trod Tryz.laidOut (by kernel_rfl) (of_decide_eq_true (by kernel_rfl)) k1 hb (fun x hx => hlt x (by simp [hx]))) (trodAll_cons_mk (Below.trod Tryz.laidOut (by kernel_rfl) (of_decide_eq_true (by kernel_rfl)) k2 hb (fun x hx => hlt x (by simp [hx]))) (trodAll_cons_mk (shut_int Tryz.underlying3 w3) trodAll_mk0))), rfl, hb.frame _, fun h => by cases h⟩
theorem row_holds : Rows.GreedyRunsSaid :=
  OpenClaim.holds_of_wide 3 Tryz.f3 rfl rfl rfl rfl rfl rfl rfl ⟨rfl, rfl, rfl, rfl, rfl⟩ rfl rfl rfl rfl rfl (by kernel_rfl) Tryz.func3 (by kernel_rfl)
    (of_decide_eq_true (by kernel_rfl)) (by unfold Func.isWrapper; first | (rw [if_pos (by decide +kernel)]; kernel_rfl) | (rw [if_neg (by decide +kernel)]; exact ⟨rfl, rfl⟩))
    (fun os started H enc _ => lifted os started H enc)
/-- The given statement. -/
theorem card_holds : Rows.GreedyRunsCardSaid :=
  Claim7.holds_tied_plain_at .later [] [.data] true (true, "69218e4a36079bef1ab2ea5dbb04939b7453014fb90641a8c252e2a9da3a4c64") false
    row_holds (fun _ h => by cases h) (by kernel_rfl) (fun _ h => by cases h) greedyRuns_row_tie rfl ⟨rfl, rfl⟩ (by kernel_rfl) rfl
    (fun f fn hf hfn => by
      obtain rfl : f = 3 := Option.some.inj ((show Tryz.prog.funcNamed Rows.greedyRunsRow.func = some 3 by kernel_rfl).symm.trans hf) |>.symm
      obtain rfl : fn = Tryz.f3 := (Option.some.inj (Tryz.func3.symm.trans hfn)).symm
      exact ⟨by kernel_rfl, fun j t ht => by
        rw [Tryz.params3] at ht
        have hm : t ∈ [23, 29, 30, 3] := by simpa using Array.mem_of_getElem? ht
        have hall : ([23, 29, 30, 3].all fun u => !Tryz.prog.wantsStandIn u) = true := by kernel_rfl
        exact (show Tryz.prog.wantsStandIn t = false by simpa using List.all_eq_true.1 hall t hm)⟩)
    (by kernel_rfl)
end Go.Proofs.YtahfdbblndphaaaGreatDoor.greedyRuns
namespace Go.Proofs.YtahfdbblndphaaaGreatDoor
theorem greedyRuns_holds : Rows.GreedyRunsCardSaid := greedyRuns.card_holds
#print axioms greedyRuns_holds
end Go.Proofs.YtahfdbblndphaaaGreatDoor
