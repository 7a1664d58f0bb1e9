/- The given statement on BlockSplits: at every input the law returns true and its arguments read as before; no condition. -/
import Derived.Test.YtpplnjmjldhlbaaPk6
import Derived.Test.YtpplnjmjldhlbaaPk8
import Derived.Test.YtpplnjmjldhlbaaPk9
import Derived.Test.YtpplnjmjldhlbaaPk3
import Derived.Test.YtpplnjmjldhlbaaRows
import Derived.ProofKit
import Derived.Carry
import Derived.OpenShut
/- The law BlockSplits: a view is cut into pages, and put together again. -/
namespace Go.Proofs.Ytpplnjmjldhlbaa
open Go.ChangeShapes Go.WideShapes Go.ChangeAt Go.RowKit Go.Deep
theorem var3d (w : World) (T : TypeId) (z row : Array Value) : Blk (w.alloc (.cells z T)) w.heap.size T z ∧ Blk ((w.alloc (.cells z T)).setRow w.heap.size row) w.heap.size T row ∧ Below w.heap.size w ((w.alloc (.cells z T)).setRow w.heap.size row) :=
  ⟨blk_new w T z, (blk_new w T z).row row, below_setRow ((Below.refl _ _).alloc (Nat.le_refl _) _) (Nat.le_refl _) _⟩
theorem pages_mem {X : Vw} {page : Nat} {P : Pg} : ∀ {NP : Nat}, P ∈ pagesOf X page NP → ∃ k, k < NP ∧ P = pgOf X (k * page) (min ((k + 1) * page) X.T.length)
  | 0, h => by cases h
  | n + 1, h => by
    rcases List.mem_append.1 h with h | h
    · obtain ⟨k, hk, e⟩ := pages_mem h
      exact ⟨k, by omega, e⟩
    · exact ⟨n, by omega, List.mem_singleton.1 h⟩
theorem rows_cut {R : List (List Int)} {fr to' : Nat} (h : rowsN R 130 = R) (h2 : to' - fr ≤ 16) : rowsN (partR R fr to') 20 = partR R fr to' := by
  have hl : (partR R fr to').length ≤ 20 := by unfold partR; rw [List.length_take]; omega
  unfold rowsN
  rw [List.take_of_length_le hl]
  have : ∀ r ∈ partR R fr to', List.take 40 r = r := fun r hr => by
    have hr2 : r ∈ rowsN R 130 := by rw [h]; exact partR_mem hr
    obtain ⟨s, _, rfl⟩ := List.mem_map.1 hr2
    rw [List.take_take, Nat.min_self]
  exact (List.map_congr_left this).trans (List.map_id _)
theorem cutPg_pg {X : Vw} {fr to' : Nat} (hX : cutVw X = X) (h2 : to' - fr ≤ 16) : cutPg (pgOf X fr to') = pgOf X fr to' := by
  obtain ⟨b1, b2, b3, b4, b5⟩ := cutVw_bounds hX
  have key : ∀ C : List (List (List Int)), C.length ≤ 5 → (∀ R ∈ C, rowsN R 130 = R) → cutC (C.map fun R => partR R fr to') 20 = C.map fun R => partR R fr to' := fun C h5 hC => by
    unfold cutC
    rw [List.take_of_length_le (by rw [List.length_map]; exact h5), List.map_map]
    exact List.map_congr_left fun R hR => rows_cut (hC R hR) h2
  show Pg.mk _ _ _ _ = Pg.mk _ _ _ _
  rw [show (pgOf X fr to').K = X.K.map fun R => partR R fr to' from rfl, show (pgOf X fr to').V = X.V.map fun R => partR R fr to' from rfl, show (pgOf X fr to').T = X.T.take to' from rfl, key _ b2 (fun R hR => (b4 R hR).2.2), key _ b3 (fun R hR => (b5 R hR).2.2), List.take_of_length_le (by rw [List.length_take]; omega)]
  rfl
theorem vwB_parts {Vo D L : Int} {X : Vw} (h : vwB Vo D L X = true) : (X.T.length = 0 ∧ X.K = [] ∧ X.V = []) ∨ (X.T.length ≠ 0 ∧ X.T.length ≤ 128 ∧ X.T.all (tokB Vo) = true ∧ (X.K.length : Int) = L ∧ (X.V.length : Int) = L ∧ rfB X.K X.T.length D = true ∧ rfB X.V X.T.length D = true) := by
  unfold vwB at h
  by_cases h0 : X.T.length = 0
  · rw [if_pos h0, Bool.and_eq_true] at h
    exact Or.inl ⟨h0, List.length_eq_zero_iff.1 (by simpa using h.1), List.length_eq_zero_iff.1 (by simpa using h.2)⟩
  · rw [if_neg h0] at h
    unfold lfB at h
    simp only [Bool.and_eq_true, decide_eq_true_eq] at h
    obtain ⟨⟨h1, h2⟩, ⟨h3, h4⟩, h5, h6⟩ := h
    exact Or.inr ⟨h0, h1, h2, h3, h5, h4, h6⟩
theorem vwB_rows {Vo D L : Int} {X : Vw} (h : vwB Vo D L X = true) : (∀ R ∈ X.K, R.length = X.T.length) ∧ ∀ R ∈ X.V, R.length = X.T.length := by
  rcases vwB_parts h with ⟨_, h2, h3⟩ | ⟨_, _, _, _, _, h2, h3⟩
  · rw [h2, h3]; exact ⟨(fun R hR => by cases hR), (fun R hR => by cases hR)⟩
  · exact ⟨fun R hR => by have := (rfB_spec h2 R hR).1; omega, fun R hR => by have := (rfB_spec h3 R hR).1; omega⟩
theorem jn_fit {Vo D L : Int} {X : Vw} {page : Nat} (h : vwB Vo D L X = true) (hD : 0 ≤ D) (hp1 : 1 ≤ page) (hp2 : page ≤ 16) : jnS Vo D L noVw (pagesOf X page (pageN X.T.length page)) = (0, X) := by
  rcases vwB_parts h with ⟨h1, h2, h3⟩ | ⟨h0, h1, h2, h3, h4, h5, h6⟩
  · obtain ⟨XT, XK, XV⟩ := X
    simp only at h1 h2 h3
    obtain rfl := List.length_eq_zero_iff.1 h1
    subst h2 h3
    rw [show pageN ([] : List Int).length page = 0 from pageN_zero hp1]
    rfl
  · obtain ⟨d, rfl⟩ : ∃ d : Nat, D = (d : Int) := ⟨D.toNat, by omega⟩
    have hL : L = (X.K.length : Int) := h3.symm
    subst hL
    have row : ∀ C : List (List (List Int)), rfB C X.T.length d = true → ∀ R ∈ C, R.length = X.T.length ∧ ∀ t, t < X.T.length → (rowOf R t).length = d := fun C hC R hR => by
      obtain ⟨e1, e2⟩ := rfB_spec hC R hR
      have e3 : R.length = X.T.length := by omega
      exact ⟨e3, fun t ht => by have := e2 _ (rowOf_mem (R := R) (t := t) (by omega)); omega⟩
    have hf : VwFit Vo d X.K.length X := ⟨h1, h2, by rw [if_neg h0], by rw [if_neg h0]; omega, row _ h5, row _ h6⟩
    exact jn_all hf hp1 hp2
set_option maxRecDepth 100000 in
set_option maxHeartbeats 32000000 in
theorem blockSplits_walk (C : Cfg) (vv : VwV) (X : Vw) (pg : Int) (w : World) (_hC : C.Ok) (hv : VwR w vv X) (bpg : -9223372036854775808 ≤ pg ∧ pg ≤ 9223372036854775807) :
   Calls Try.prog 3 #[C.val, .agg vv.cells, .int .i64 pg] w fun e w' => e = .returned (.bool true) ∧ Below w.heap.size w w' := by
  have A0 := fun (wv : World) (hb : Below w.heap.size w wv) => told9R_any vv X wv (hv.below hb)
  have CW := fun (wv : World) (_ : Below w.heap.size w wv) => awake11_any wv
  have HX : Hid (cutVw (cutVw X) = cutVw X) := cutVw_twice X
  generalize cutVw X = XC at *
  have hbd := cutVw_bounds HX.out
  obtain ⟨hb1, hb2, hb3, hb4, hb5⟩ := hbd
  clear hv
  obtain ⟨⟨ta, tn, tc⟩, ⟨ka, kn, kc⟩, ⟨va, vn, vc⟩⟩ := vv
  obtain ⟨Vo, D, Hd, H, L⟩ := C
  unfold VwV.cells Sl.v at A0 ⊢
  simp only at A0 ⊢
  unfold Cfg.val cfgC
  simp only
  have X0 := blk_new w 23 #[.int .i64 Vo, .int .i64 D, .int .i64 Hd, .int .i64 H, .int .i64 L]
  have B0 : Below w.heap.size w (w.alloc (.cells #[.int .i64 Vo, .int .i64 D, .int .i64 Hd, .int .i64 H, .int .i64 L] 23)) := (Below.refl _ _).alloc (Nat.le_refl _) _
  have s0 : (w.alloc (.cells #[.int .i64 Vo, .int .i64 D, .int .i64 Hd, .int .i64 H, .int .i64 L] 23)).heap.size = w.heap.size + 1 := by simp
  generalize hw0 : w.alloc (.cells #[.int .i64 Vo, .int .i64 D, .int .i64 Hd, .int .i64 H, .int .i64 L] 23) = w0 at *
  have X1 := blk_new w0 29 #[.slice ta tn tc, .slice ka kn kc, .slice va vn vc]
  have B1 : Below w0.heap.size w0 (w0.alloc (.cells #[.slice ta tn tc, .slice ka kn kc, .slice va vn vc] 29)) := (Below.refl _ _).alloc (Nat.le_refl _) _
  generalize hw1 : w0.alloc (.cells #[.slice ta tn tc, .slice ka kn kc, .slice va vn vc] 29) = wi at *
  replace X0 := X0.below B1
  have D1 := below_then B0 B1
  rw [s0] at X1
  have a0 : wi.cell? ⟨w.heap.size + 1, 0, none⟩ = some (.slice ta tn tc) := X1.cell 0 rfl
  have a1 : wi.cell? ⟨w.heap.size + 1, 1, none⟩ = some (.slice ka kn kc) := X1.cell 1 rfl
  have a2 : wi.cell? ⟨w.heap.size + 1, 2, none⟩ = some (.slice va vn vc) := X1.cell 2 rfl
  have A1 := A0 wi D1
  clear A0 B0 B1
  go_enter Try.func3, Try.ntmps3
  go_wp2_with fail
  refine A1.mono ?_
  clear A1 a0 a1 a2 hw0 hw1 X1
  rintro e w1 ⟨⟨sa, sn, sc⟩, ⟨pa, pn, pc⟩, ⟨qa, qn, qc⟩, rfl, TA, B1⟩
  obtain ⟨XE, XF, BF⟩ := var3d w1 31 #[.slice none 0 0, .slice none 0 0, .slice none 0 0] #[.slice sa sn sc, .slice pa pn pc, .slice qa qn qc]
  generalize hwe : w1.alloc (.cells #[.slice none 0 0, .slice none 0 0, .slice none 0 0] 31) = we at *
  generalize hwf : we.setRow w1.heap.size #[.slice sa sn sc, .slice pa pn pc, .slice qa qn qc] = wf at *
  have D_ := below_then (below_then D1 B1) BF
  have HST : Hid (∀ wv, Below wf.heap.size wf wv → Blk wv w.heap.size 23 #[.int .i64 Vo, .int .i64 D, .int .i64 Hd, .int .i64 H, .int .i64 L] ∧ Blk wv w1.heap.size 31 #[.slice sa sn sc, .slice pa pn pc, .slice qa qn qc] ∧ ToldAt wv ⟨sa, sn, sc⟩ ⟨pa, pn, pc⟩ ⟨qa, qn, qc⟩ XC ∧ True) := fun wv hb => ⟨((X0.below B1).below BF).below hb, XF.below hb, (TA.below BF).below hb, trivial⟩
  clear X0 XF TA D1 B1 BF
  go_upto_region 2 with (refine wpList_store_row rfl 31 _ _ rfl w1.heap.size #[.slice sa sn sc, .slice pa pn pc, .slice qa qn qc] rfl rfl 31 _ XE (by exact Try.infoRV) rfl (by simp [Value.oneCell']) ?_; rw [hwf])
  clear hwe hwf XE
  by_cases hpg : pg < 1 ∨ 16 < pg
  · skip
    have DW : Below wf.heap.size wf wf.drew := (Below.refl _ wf).drew
    refine wp_region_held_drew (S := fun w' => Blk w' w.heap.size 23 #[.int .i64 Vo, .int .i64 D, .int .i64 Hd, .int .i64 H, .int .i64 L] ∧ Blk w' w1.heap.size 31 #[.slice sa sn sc, .slice pa pn pc, .slice qa qn qc]) (by kernel_rfl) (⟨(HST.out _ DW).1, (HST.out _ DW).2.1⟩) (fun hHeld => ?_)
    generalize hA : wf.drew = wd at *
    clear hA
    refine wpAnyH_take (i := 0) (v := (.agg #[.int .i64 Vo, .int .i64 D, .int .i64 Hd, .int .i64 H, .int .i64 L])) rfl (by kernel_rfl) (by kernel_rfl) (by kernel_rfl) (fun _ _ _ h => h) (Or.inl ⟨by rfl, ?_⟩) (by assumption) ?_
    · intro w' hSw
      have cc0 : w'.cell? ⟨w.heap.size, 0, none⟩ = some (.int .i64 Vo) := hSw.1.cell 0 rfl
      have cc1 : w'.cell? ⟨w.heap.size, 1, none⟩ = some (.int .i64 D) := hSw.1.cell 1 rfl
      have cc2 : w'.cell? ⟨w.heap.size, 2, none⟩ = some (.int .i64 Hd) := hSw.1.cell 2 rfl
      have cc3 : w'.cell? ⟨w.heap.size, 3, none⟩ = some (.int .i64 H) := hSw.1.cell 3 rfl
      have cc4 : w'.cell? ⟨w.heap.size, 4, none⟩ = some (.int .i64 L) := hSw.1.cell 4 rfl
      go_simp
    simp only [List.getElem_toArray, List.getElem_cons_zero, Act.put, List.setIfInBounds_toArray, List.set_cons_zero, List.set_cons_succ]
    refine wpAnyH_take (i := 1) (v := (.agg #[.slice sa sn sc, .slice pa pn pc, .slice qa qn qc])) rfl (by kernel_rfl) (by kernel_rfl) (by kernel_rfl) (fun _ _ _ h => h) (Or.inl ⟨by rfl, ?_⟩) (by assumption) ?_
    · intro w' hSw
      have cv0 : w'.cell? ⟨w1.heap.size, 0, none⟩ = some (.slice sa sn sc) := hSw.2.cell 0 rfl
      have cv1 : w'.cell? ⟨w1.heap.size, 1, none⟩ = some (.slice pa pn pc) := hSw.2.cell 1 rfl
      have cv2 : w'.cell? ⟨w1.heap.size, 2, none⟩ = some (.slice qa qn qc) := hSw.2.cell 2 rfl
      go_simp
    simp only [List.getElem_toArray, List.getElem_cons_succ, List.getElem_cons_zero, Act.put, List.setIfInBounds_toArray, List.set_cons_zero, List.set_cons_succ]
    refine wpAnyH_take (i := 3) (v := (.int .i64 pg)) rfl (by kernel_rfl) (by kernel_rfl) (by kernel_rfl) (fun _ _ _ h => h) (Or.inl ⟨by rfl, ?_⟩) (by assumption) ?_
    · intro w' hSw
      go_simp
    simp only [List.getElem_toArray, List.getElem_cons_succ, List.getElem_cons_zero, Act.put, List.setIfInBounds_toArray, List.set_cons_zero, List.set_cons_succ]
    refine wpAnyH_ready (rs := [2]) (by kernel_rfl) (by simp) ?_
    refine AllReadyH.cons rfl (fun Kc hKc => ?_) AllReadyH.nil
    simp only [List.getElem_toArray, List.getElem_cons_succ, List.getElem_cons_zero]
    rw [if_pos (by rfl)]
    go_wp2_with fail
    have K3 := of9_any ⟨sa, sn, sc⟩ ⟨pa, pn, pc⟩ ⟨qa, qn, qc⟩ XC _ (HST.out _ DW).2.2.1 HX.out
    unfold Sl.v at K3
    simp only at K3
    refine K3.mono ?_
    clear K3
    rintro e w3 ⟨⟨⟨o1, o2, o3⟩, ⟨o4, o5, o6⟩, ⟨o7, o8, o9⟩⟩, rfl, VA, B3⟩
    simp only [VwV.cells, Sl.v]
    replace DW := below_then DW B3
    go_wp2_with fail
    refine hKc.out _ _ (⟨(HST.out _ DW).1, (HST.out _ DW).2.1⟩) (fun hHeld => ?_)
    clear hKc Kc
    refine wpAnyH_ready (rs := [4]) (by kernel_rfl) (by simp) ?_
    refine AllReadyH.cons rfl (fun Kc hKc => ?_) AllReadyH.nil
    simp only [List.getElem_toArray, List.getElem_cons_succ, List.getElem_cons_zero]
    rw [if_pos (by rfl)]
    go_wp2_with fail
    have K4 := split_bad Vo D Hd H L o1 o2 o3 o4 o5 o6 o7 o8 o9 pg w3 hpg
    unfold cfgC at K4
    refine K4.mono ?_
    clear K4 VA
    rintro e w4 ⟨rfl, B4⟩
    replace DW := below_then DW B4
    go_wp2_with fail
    refine hKc.out _ _ (⟨(HST.out _ DW).1, (HST.out _ DW).2.1⟩) (fun hHeld => ?_)
    clear hKc Kc
    refine wpAnyH_take (i := 5) (v := (.tuple #[(.slice none 0 0), (.int .i64 1)])) rfl (by kernel_rfl) (by kernel_rfl) (by kernel_rfl) (fun _ _ _ h => h) (Or.inl ⟨by rfl, ?_⟩) (by assumption) ?_
    · intro w' hSw
      go_simp
    simp only [List.getElem_toArray, List.getElem_cons_succ, List.getElem_cons_zero, Act.put, List.setIfInBounds_toArray, List.set_cons_zero, List.set_cons_succ]
    refine wpAnyH_take (i := 6) (v := (.slice none 0 0)) rfl (by kernel_rfl) (by kernel_rfl) (by kernel_rfl) (fun _ _ _ h => h) (Or.inl ⟨by rfl, ?_⟩) (by assumption) ?_
    · intro w' hSw
      go_simp
    simp only [List.getElem_toArray, List.getElem_cons_succ, List.getElem_cons_zero, Act.put, List.setIfInBounds_toArray, List.set_cons_zero, List.set_cons_succ]
    refine wpAnyH_take (i := 7) (v := (.int .i64 1)) rfl (by kernel_rfl) (by kernel_rfl) (by kernel_rfl) (fun _ _ _ h => h) (Or.inl ⟨by rfl, ?_⟩) (by assumption) ?_
    · intro w' hSw
      go_simp
    simp only [List.getElem_toArray, List.getElem_cons_succ, List.getElem_cons_zero, Act.put, List.setIfInBounds_toArray, List.set_cons_zero, List.set_cons_succ]
    refine wpAnyH_take (i := 8) (v := (.slice none 0 0)) rfl (by kernel_rfl) (by kernel_rfl) (by kernel_rfl) (fun _ _ _ h => h) (Or.inl ⟨by rfl, ?_⟩) (by assumption) ?_
    · intro w' hSw
      go_simp
    simp only [List.getElem_toArray, List.getElem_cons_succ, List.getElem_cons_zero, Act.put, List.setIfInBounds_toArray, List.set_cons_zero, List.set_cons_succ]
    refine wpAnyH_take (i := 9) (v := (.int .i64 1)) rfl (by kernel_rfl) (by kernel_rfl) (by kernel_rfl) (fun _ _ _ h => h) (Or.inl ⟨by rfl, ?_⟩) (by assumption) ?_
    · intro w' hSw
      go_simp
    simp only [List.getElem_toArray, List.getElem_cons_succ, List.getElem_cons_zero, Act.put, List.setIfInBounds_toArray, List.set_cons_zero, List.set_cons_succ]
    refine wpAnyH_done (by kernel_rfl) ?_ _
    go_wp2_with fail
    refine (CW _ (below_then D_ DW)).mono ?_
    rintro e w5 ⟨rfl, B5⟩
    have D5 := below_then DW B5
    clear DW B5
    by_cases hp1 : pg < 1
    · clear hpg
      go_wp2_with fail
      go_ret
      exact ⟨rfl, below_then D_ D5⟩
    · have hp2 : (16 : Int) < pg := by omega
      clear hpg
      go_wp2_with fail
      go_ret
      exact ⟨rfl, below_then D_ D5⟩
  have hp1 : 1 ≤ pg := by omega
  have hp2 : pg ≤ 16 := by omega
  have CFT := fun (wv : World) (hb : Below wf.heap.size wf wv) => rfits9_any Vo D Hd H L ⟨sa, sn, sc⟩ ⟨pa, pn, pc⟩ ⟨qa, qn, qc⟩ XC wv (HST.out wv hb).2.2.1 HX.out
  unfold cfgC Sl.v at CFT
  simp only at CFT
  cases hvb : vwB Vo D L XC with
  | false =>
    rw [hvb] at CFT
    have DW : Below wf.heap.size wf wf.drew := (Below.refl _ wf).drew
    refine wp_region_held_drew (S := fun w' => Blk w' w.heap.size 23 #[.int .i64 Vo, .int .i64 D, .int .i64 Hd, .int .i64 H, .int .i64 L] ∧ Blk w' w1.heap.size 31 #[.slice sa sn sc, .slice pa pn pc, .slice qa qn qc]) (by kernel_rfl) (⟨(HST.out _ DW).1, (HST.out _ DW).2.1⟩) (fun hHeld => ?_)
    generalize hA : wf.drew = wd at *
    clear hA
    refine wpAnyH_take (i := 0) (v := (.agg #[.int .i64 Vo, .int .i64 D, .int .i64 Hd, .int .i64 H, .int .i64 L])) rfl (by kernel_rfl) (by kernel_rfl) (by kernel_rfl) (fun _ _ _ h => h) (Or.inl ⟨by rfl, ?_⟩) (by assumption) ?_
    · intro w' hSw
      have cc0 : w'.cell? ⟨w.heap.size, 0, none⟩ = some (.int .i64 Vo) := hSw.1.cell 0 rfl
      have cc1 : w'.cell? ⟨w.heap.size, 1, none⟩ = some (.int .i64 D) := hSw.1.cell 1 rfl
      have cc2 : w'.cell? ⟨w.heap.size, 2, none⟩ = some (.int .i64 Hd) := hSw.1.cell 2 rfl
      have cc3 : w'.cell? ⟨w.heap.size, 3, none⟩ = some (.int .i64 H) := hSw.1.cell 3 rfl
      have cc4 : w'.cell? ⟨w.heap.size, 4, none⟩ = some (.int .i64 L) := hSw.1.cell 4 rfl
      go_simp
    simp only [List.getElem_toArray, List.getElem_cons_zero, Act.put, List.setIfInBounds_toArray, List.set_cons_zero, List.set_cons_succ]
    refine wpAnyH_take (i := 1) (v := (.agg #[.slice sa sn sc, .slice pa pn pc, .slice qa qn qc])) rfl (by kernel_rfl) (by kernel_rfl) (by kernel_rfl) (fun _ _ _ h => h) (Or.inl ⟨by rfl, ?_⟩) (by assumption) ?_
    · intro w' hSw
      have cv0 : w'.cell? ⟨w1.heap.size, 0, none⟩ = some (.slice sa sn sc) := hSw.2.cell 0 rfl
      have cv1 : w'.cell? ⟨w1.heap.size, 1, none⟩ = some (.slice pa pn pc) := hSw.2.cell 1 rfl
      have cv2 : w'.cell? ⟨w1.heap.size, 2, none⟩ = some (.slice qa qn qc) := hSw.2.cell 2 rfl
      go_simp
    simp only [List.getElem_toArray, List.getElem_cons_succ, List.getElem_cons_zero, Act.put, List.setIfInBounds_toArray, List.set_cons_zero, List.set_cons_succ]
    refine wpAnyH_take (i := 3) (v := (.int .i64 pg)) rfl (by kernel_rfl) (by kernel_rfl) (by kernel_rfl) (fun _ _ _ h => h) (Or.inl ⟨by rfl, ?_⟩) (by assumption) ?_
    · intro w' hSw
      go_simp
    simp only [List.getElem_toArray, List.getElem_cons_succ, List.getElem_cons_zero, Act.put, List.setIfInBounds_toArray, List.set_cons_zero, List.set_cons_succ]
    refine wpAnyH_ready (rs := [2]) (by kernel_rfl) (by simp) ?_
    refine AllReadyH.cons rfl (fun Kc hKc => ?_) AllReadyH.nil
    simp only [List.getElem_toArray, List.getElem_cons_succ, List.getElem_cons_zero]
    rw [if_pos (by rfl)]
    go_wp2_with fail
    have K3 := of9_any ⟨sa, sn, sc⟩ ⟨pa, pn, pc⟩ ⟨qa, qn, qc⟩ XC _ (HST.out _ DW).2.2.1 HX.out
    unfold Sl.v at K3
    simp only at K3
    refine K3.mono ?_
    clear K3
    rintro e w3 ⟨⟨⟨o1, o2, o3⟩, ⟨o4, o5, o6⟩, ⟨o7, o8, o9⟩⟩, rfl, VA, B3⟩
    simp only [VwV.cells, Sl.v]
    replace DW := below_then DW B3
    go_wp2_with fail
    refine hKc.out _ _ (⟨(HST.out _ DW).1, (HST.out _ DW).2.1⟩) (fun hHeld => ?_)
    clear hKc Kc
    refine wpAnyH_ready (rs := [4]) (by kernel_rfl) (by simp) ?_
    refine AllReadyH.cons rfl (fun Kc hKc => ?_) AllReadyH.nil
    simp only [List.getElem_toArray, List.getElem_cons_succ, List.getElem_cons_zero]
    rw [if_pos (by rfl)]
    go_wp2_with fail
    have K4 := split_no Vo D Hd H L ⟨⟨o1, o2, o3⟩, ⟨o4, o5, o6⟩, ⟨o7, o8, o9⟩⟩ XC pg _ VA hvb (by omega) (by omega)
    unfold VwV.cells Sl.v at K4
    unfold cfgC at K4
    simp only at K4
    refine K4.mono ?_
    clear K4 VA
    rintro e w4 ⟨rfl, B4⟩
    replace DW := below_then DW B4
    go_wp2_with fail
    refine hKc.out _ _ (⟨(HST.out _ DW).1, (HST.out _ DW).2.1⟩) (fun hHeld => ?_)
    clear hKc Kc
    refine wpAnyH_take (i := 5) (v := (.tuple #[(.slice none 0 0), (.int .i64 4)])) rfl (by kernel_rfl) (by kernel_rfl) (by kernel_rfl) (fun _ _ _ h => h) (Or.inl ⟨by rfl, ?_⟩) (by assumption) ?_
    · intro w' hSw
      go_simp
    simp only [List.getElem_toArray, List.getElem_cons_succ, List.getElem_cons_zero, Act.put, List.setIfInBounds_toArray, List.set_cons_zero, List.set_cons_succ]
    refine wpAnyH_take (i := 6) (v := (.slice none 0 0)) rfl (by kernel_rfl) (by kernel_rfl) (by kernel_rfl) (fun _ _ _ h => h) (Or.inl ⟨by rfl, ?_⟩) (by assumption) ?_
    · intro w' hSw
      go_simp
    simp only [List.getElem_toArray, List.getElem_cons_succ, List.getElem_cons_zero, Act.put, List.setIfInBounds_toArray, List.set_cons_zero, List.set_cons_succ]
    refine wpAnyH_take (i := 7) (v := (.int .i64 4)) rfl (by kernel_rfl) (by kernel_rfl) (by kernel_rfl) (fun _ _ _ h => h) (Or.inl ⟨by rfl, ?_⟩) (by assumption) ?_
    · intro w' hSw
      go_simp
    simp only [List.getElem_toArray, List.getElem_cons_succ, List.getElem_cons_zero, Act.put, List.setIfInBounds_toArray, List.set_cons_zero, List.set_cons_succ]
    refine wpAnyH_take (i := 8) (v := (.slice none 0 0)) rfl (by kernel_rfl) (by kernel_rfl) (by kernel_rfl) (fun _ _ _ h => h) (Or.inl ⟨by rfl, ?_⟩) (by assumption) ?_
    · intro w' hSw
      go_simp
    simp only [List.getElem_toArray, List.getElem_cons_succ, List.getElem_cons_zero, Act.put, List.setIfInBounds_toArray, List.set_cons_zero, List.set_cons_succ]
    refine wpAnyH_take (i := 9) (v := (.int .i64 4)) rfl (by kernel_rfl) (by kernel_rfl) (by kernel_rfl) (fun _ _ _ h => h) (Or.inl ⟨by rfl, ?_⟩) (by assumption) ?_
    · intro w' hSw
      go_simp
    simp only [List.getElem_toArray, List.getElem_cons_succ, List.getElem_cons_zero, Act.put, List.setIfInBounds_toArray, List.set_cons_zero, List.set_cons_succ]
    refine wpAnyH_done (by kernel_rfl) ?_ _
    go_wp2_with fail
    refine (CW _ (below_then D_ DW)).mono ?_
    rintro e w5 ⟨rfl, B5⟩
    have D5 := below_then DW B5
    clear DW B5
    have ⟨Y0, Y1, _, _⟩ := HST.out w5 D5
    have a0 : w5.cell? ⟨w.heap.size, 0, none⟩ = some (.int .i64 Vo) := Y0.cell 0 rfl
    have a1 : w5.cell? ⟨w.heap.size, 1, none⟩ = some (.int .i64 D) := Y0.cell 1 rfl
    have a2 : w5.cell? ⟨w.heap.size, 2, none⟩ = some (.int .i64 Hd) := Y0.cell 2 rfl
    have a3 : w5.cell? ⟨w.heap.size, 3, none⟩ = some (.int .i64 H) := Y0.cell 3 rfl
    have a4 : w5.cell? ⟨w.heap.size, 4, none⟩ = some (.int .i64 L) := Y0.cell 4 rfl
    have y0 : w5.cell? ⟨w1.heap.size, 0, none⟩ = some (.slice sa sn sc) := Y1.cell 0 rfl
    have y1 : w5.cell? ⟨w1.heap.size, 1, none⟩ = some (.slice pa pn pc) := Y1.cell 1 rfl
    have y2 : w5.cell? ⟨w1.heap.size, 2, none⟩ = some (.slice qa qn qc) := Y1.cell 2 rfl
    have CF5 := CFT w5 D5
    clear CFT Y0 Y1
    go_wp2_with fail
    refine CF5.mono ?_
    rintro e w6 ⟨rfl, B6⟩
    have D6 := below_then D5 B6
    clear a0 a1 a2 a3 a4 y0 y1 y2 CF5 D5 B6
    go_wp2_with fail
    go_ret
    exact ⟨rfl, below_then D_ D6⟩
  | true =>
    rw [hvb] at CFT
    obtain ⟨pgn, rfl⟩ : ∃ n : Nat, pg = (n : Int) := ⟨pg.toNat, by omega⟩
    obtain ⟨NP, hNP⟩ : ∃ NP, pageN XC.T.length pgn = NP := ⟨_, rfl⟩
    have HNP : Hid (pageN XC.T.length pgn = NP) := hNP
    have hNPl : NP ≤ 130 := by rw [← hNP]; have := pageN_le XC.T.length pgn (by omega); omega
    obtain ⟨hrk, hrv⟩ := vwB_rows hvb
    have HRK : Hid (∀ R ∈ XC.K, R.length = XC.T.length ∧ ∀ t, (rowOf R t).length ≤ 1048576) := fun R hR => ⟨hrk R hR, fun t => by have := (hb4 R hR).2.1 t; omega⟩
    have HRV : Hid (∀ R ∈ XC.V, R.length = XC.T.length ∧ ∀ t, (rowOf R t).length ≤ 1048576) := fun R hR => ⟨hrv R hR, fun t => by have := (hb5 R hR).2.1 t; omega⟩
    have CSP := fun (wv : World) (hb : Below wf.heap.size wf wv) => rsplit11_any ⟨sa, sn, sc⟩ ⟨pa, pn, pc⟩ ⟨qa, qn, qc⟩ XC pgn wv (HST.out wv hb).2.2.1 (by omega) (by omega) (by omega) hrk hrv (by omega) (by omega)
    rw [hNP] at CSP
    unfold Sl.v at CSP
    simp only at CSP
    have HPG : Hid (∀ P ∈ pagesOf XC pgn NP, ∃ fr to', P = pgOf XC fr to' ∧ fr ≤ 2080) := fun P hP => by
      obtain ⟨k, hk, e⟩ := pages_mem hP
      exact ⟨_, _, e, by have := Nat.mul_le_mul (show k ≤ 130 by omega) (show pgn ≤ 16 by omega); omega⟩
    have HJN : Hid (0 ≤ D → jnS Vo D L noVw (pagesOf XC pgn NP) = (0, XC)) := fun hD => by
      rw [← hNP]; exact jn_fit hvb hD (by omega) (by omega)
    have hlt130 := hb1
    clear hNP hrk hrv hpg
    have DW : Below wf.heap.size wf wf.drew := (Below.refl _ wf).drew
    refine wp_region_held_drew (S := fun w' => Blk w' w.heap.size 23 #[.int .i64 Vo, .int .i64 D, .int .i64 Hd, .int .i64 H, .int .i64 L] ∧ Blk w' w1.heap.size 31 #[.slice sa sn sc, .slice pa pn pc, .slice qa qn qc]) (by kernel_rfl) (⟨(HST.out _ DW).1, (HST.out _ DW).2.1⟩) (fun hHeld => ?_)
    generalize hA : wf.drew = wd at *
    clear hA
    refine wpAnyH_take (i := 0) (v := (.agg #[.int .i64 Vo, .int .i64 D, .int .i64 Hd, .int .i64 H, .int .i64 L])) rfl (by kernel_rfl) (by kernel_rfl) (by kernel_rfl) (fun _ _ _ h => h) (Or.inl ⟨by rfl, ?_⟩) (by assumption) ?_
    · intro w' hSw
      have cc0 : w'.cell? ⟨w.heap.size, 0, none⟩ = some (.int .i64 Vo) := hSw.1.cell 0 rfl
      have cc1 : w'.cell? ⟨w.heap.size, 1, none⟩ = some (.int .i64 D) := hSw.1.cell 1 rfl
      have cc2 : w'.cell? ⟨w.heap.size, 2, none⟩ = some (.int .i64 Hd) := hSw.1.cell 2 rfl
      have cc3 : w'.cell? ⟨w.heap.size, 3, none⟩ = some (.int .i64 H) := hSw.1.cell 3 rfl
      have cc4 : w'.cell? ⟨w.heap.size, 4, none⟩ = some (.int .i64 L) := hSw.1.cell 4 rfl
      go_simp
    simp only [List.getElem_toArray, List.getElem_cons_zero, Act.put, List.setIfInBounds_toArray, List.set_cons_zero, List.set_cons_succ]
    refine wpAnyH_take (i := 1) (v := (.agg #[.slice sa sn sc, .slice pa pn pc, .slice qa qn qc])) rfl (by kernel_rfl) (by kernel_rfl) (by kernel_rfl) (fun _ _ _ h => h) (Or.inl ⟨by rfl, ?_⟩) (by assumption) ?_
    · intro w' hSw
      have cv0 : w'.cell? ⟨w1.heap.size, 0, none⟩ = some (.slice sa sn sc) := hSw.2.cell 0 rfl
      have cv1 : w'.cell? ⟨w1.heap.size, 1, none⟩ = some (.slice pa pn pc) := hSw.2.cell 1 rfl
      have cv2 : w'.cell? ⟨w1.heap.size, 2, none⟩ = some (.slice qa qn qc) := hSw.2.cell 2 rfl
      go_simp
    simp only [List.getElem_toArray, List.getElem_cons_succ, List.getElem_cons_zero, Act.put, List.setIfInBounds_toArray, List.set_cons_zero, List.set_cons_succ]
    refine wpAnyH_take (i := 3) (v := (.int .i64 (pgn : Int))) rfl (by kernel_rfl) (by kernel_rfl) (by kernel_rfl) (fun _ _ _ h => h) (Or.inl ⟨by rfl, ?_⟩) (by assumption) ?_
    · intro w' hSw
      go_simp
    simp only [List.getElem_toArray, List.getElem_cons_succ, List.getElem_cons_zero, Act.put, List.setIfInBounds_toArray, List.set_cons_zero, List.set_cons_succ]
    refine wpAnyH_ready (rs := [2]) (by kernel_rfl) (by simp) ?_
    refine AllReadyH.cons rfl (fun Kc hKc => ?_) AllReadyH.nil
    simp only [List.getElem_toArray, List.getElem_cons_succ, List.getElem_cons_zero]
    rw [if_pos (by rfl)]
    go_wp2_with fail
    have K3 := of9_any ⟨sa, sn, sc⟩ ⟨pa, pn, pc⟩ ⟨qa, qn, qc⟩ XC _ (HST.out _ DW).2.2.1 HX.out
    unfold Sl.v at K3
    simp only at K3
    refine K3.mono ?_
    clear K3
    rintro e w3 ⟨⟨⟨o1, o2, o3⟩, ⟨o4, o5, o6⟩, ⟨o7, o8, o9⟩⟩, rfl, VA, B3⟩
    simp only [VwV.cells, Sl.v]
    replace DW := below_then DW B3
    go_wp2_with fail
    refine hKc.out _ _ (⟨(HST.out _ DW).1, (HST.out _ DW).2.1⟩) (fun hHeld => ?_)
    clear hKc Kc
    refine wpAnyH_ready (rs := [4]) (by kernel_rfl) (by simp) ?_
    refine AllReadyH.cons rfl (fun Kc hKc => ?_) AllReadyH.nil
    simp only [List.getElem_toArray, List.getElem_cons_succ, List.getElem_cons_zero]
    rw [if_pos (by rfl)]
    go_wp2_with fail
    have K4 := split_gen Vo D Hd H L ⟨⟨o1, o2, o3⟩, ⟨o4, o5, o6⟩, ⟨o7, o8, o9⟩⟩ XC pgn _ VA hvb (by omega) (by omega) (by omega) HRK.out HRV.out (by omega) (by omega)
    unfold VwV.cells Sl.v at K4
    unfold cfgC at K4
    simp only at K4
    rw [HNP.out] at K4
    refine K4.mono ?_
    clear K4 VA
    rintro e w4 ⟨ga, gc, rfl, N4, B4⟩
    replace DW := below_then DW B4
    go_wp2_with fail
    refine hKc.out _ _ (⟨(HST.out _ DW).1, (HST.out _ DW).2.1⟩) (fun hHeld => ?_)
    clear hKc Kc
    refine wpAnyH_take (i := 5) (v := (.tuple #[(.slice ga NP gc), (.int .i64 0)])) rfl (by kernel_rfl) (by kernel_rfl) (by kernel_rfl) (fun _ _ _ h => h) (Or.inl ⟨by rfl, ?_⟩) (by assumption) ?_
    · intro w' hSw
      go_simp
    simp only [List.getElem_toArray, List.getElem_cons_succ, List.getElem_cons_zero, Act.put, List.setIfInBounds_toArray, List.set_cons_zero, List.set_cons_succ]
    refine wpAnyH_take (i := 6) (v := (.slice ga NP gc)) rfl (by kernel_rfl) (by kernel_rfl) (by kernel_rfl) (fun _ _ _ h => h) (Or.inl ⟨by rfl, ?_⟩) (by assumption) ?_
    · intro w' hSw
      go_simp
    simp only [List.getElem_toArray, List.getElem_cons_succ, List.getElem_cons_zero, Act.put, List.setIfInBounds_toArray, List.set_cons_zero, List.set_cons_succ]
    refine wpAnyH_take (i := 7) (v := (.int .i64 0)) rfl (by kernel_rfl) (by kernel_rfl) (by kernel_rfl) (fun _ _ _ h => h) (Or.inl ⟨by rfl, ?_⟩) (by assumption) ?_
    · intro w' hSw
      go_simp
    simp only [List.getElem_toArray, List.getElem_cons_succ, List.getElem_cons_zero, Act.put, List.setIfInBounds_toArray, List.set_cons_zero, List.set_cons_succ]
    refine wpAnyH_take (i := 8) (v := (.slice ga NP gc)) rfl (by kernel_rfl) (by kernel_rfl) (by kernel_rfl) (fun _ _ _ h => h) (Or.inl ⟨by rfl, ?_⟩) (by assumption) ?_
    · intro w' hSw
      go_simp
    simp only [List.getElem_toArray, List.getElem_cons_succ, List.getElem_cons_zero, Act.put, List.setIfInBounds_toArray, List.set_cons_zero, List.set_cons_succ]
    refine wpAnyH_take (i := 9) (v := (.int .i64 0)) rfl (by kernel_rfl) (by kernel_rfl) (by kernel_rfl) (fun _ _ _ h => h) (Or.inl ⟨by rfl, ?_⟩) (by assumption) ?_
    · intro w' hSw
      go_simp
    simp only [List.getElem_toArray, List.getElem_cons_succ, List.getElem_cons_zero, Act.put, List.setIfInBounds_toArray, List.set_cons_zero, List.set_cons_succ]
    refine wpAnyH_done (by kernel_rfl) ?_ _
    have HPS : Hid (∀ wv, Below w4.heap.size w4 wv → PgsAt wv ⟨ga, NP, gc⟩ (pagesOf XC pgn NP)) := fun wv hb => (N4.below hb).now
    have h40 := DW
    have D4z := DW.size
    clear N4
    go_wp2_with fail
    refine (CW _ (below_then D_ DW)).mono ?_
    rintro e w5 ⟨rfl, B5⟩
    have D5 := below_then DW B5
    have E5 := (Below.refl w4.heap.size w4).trans B5
    clear DW B5
    have ⟨Y0, Y1, _, _⟩ := HST.out w5 D5
    have a0 : w5.cell? ⟨w.heap.size, 0, none⟩ = some (.int .i64 Vo) := Y0.cell 0 rfl
    have a1 : w5.cell? ⟨w.heap.size, 1, none⟩ = some (.int .i64 D) := Y0.cell 1 rfl
    have a2 : w5.cell? ⟨w.heap.size, 2, none⟩ = some (.int .i64 Hd) := Y0.cell 2 rfl
    have a3 : w5.cell? ⟨w.heap.size, 3, none⟩ = some (.int .i64 H) := Y0.cell 3 rfl
    have a4 : w5.cell? ⟨w.heap.size, 4, none⟩ = some (.int .i64 L) := Y0.cell 4 rfl
    have y0 : w5.cell? ⟨w1.heap.size, 0, none⟩ = some (.slice sa sn sc) := Y1.cell 0 rfl
    have y1 : w5.cell? ⟨w1.heap.size, 1, none⟩ = some (.slice pa pn pc) := Y1.cell 1 rfl
    have y2 : w5.cell? ⟨w1.heap.size, 2, none⟩ = some (.slice qa qn qc) := Y1.cell 2 rfl
    have CF5 := CFT w5 D5
    clear CFT Y0 Y1
    go_wp2_with fail
    refine CF5.mono ?_
    rintro e w6 ⟨rfl, B6⟩
    have D6 := below_then D5 B6
    have E6 := below_then E5 B6
    clear a0 a1 a2 a3 a4 y0 y1 y2 CF5 D5 B6
    have ⟨_, Y1, _, _⟩ := HST.out w6 D6
    have y0 : w6.cell? ⟨w1.heap.size, 0, none⟩ = some (.slice sa sn sc) := Y1.cell 0 rfl
    have y1 : w6.cell? ⟨w1.heap.size, 1, none⟩ = some (.slice pa pn pc) := Y1.cell 1 rfl
    have y2 : w6.cell? ⟨w1.heap.size, 2, none⟩ = some (.slice qa qn qc) := Y1.cell 2 rfl
    have CS6 := CSP w6 D6
    clear CSP Y1
    go_wp2_with fail
    refine CS6.mono ?_
    rintro e w7 ⟨wa, wc, rfl, PW, B7⟩
    have D7 := below_then D6 B7
    have E7 := below_then E6 B7
    have HWT : Hid (∀ wv, Below w7.heap.size w7 wv → PgsAt wv ⟨wa, NP, wc⟩ (pagesOf XC pgn NP)) := fun wv hb => PW.below hb
    clear y0 y1 y2 CS6 B7 D6 E6 E5 PW
    go_wp2_with fail
    go_loopg [64] NP (fun r i wr => ∃ k : Nat, k ≤ NP ∧ r = NP - k ∧ i = .int .i64 (k : Int) ∧ Below w7.heap.size w7 wr)
    case atStart => exact ⟨0, by omega, by omega, rfl, Below.refl _ _⟩
    case round =>
      obtain ⟨k, hk, rfl, rfl, BB⟩ := hrel
      by_cases hkn : k < NP
      · obtain ⟨g, o, e5, hc⟩ := (HPS.out wr (below_then E7 BB)).cells (by show 0 < NP; omega)
        have e5' : ga = some ⟨g, o, none⟩ := e5
        subst e5'
        obtain ⟨g2, o2', e6, hc2⟩ := (HWT.out wr BB).cells (by show 0 < NP; omega)
        have e6' : wa = some ⟨g2, o2', none⟩ := e6
        subst e6'
        obtain ⟨⟨⟨p1, p2, p3⟩, pf, ⟨p4, p5, p6⟩, ⟨p7, p8, p9⟩⟩, r0, PA⟩ := hc k _ (pagesOf_at XC pgn NP k hkn)
        obtain ⟨⟨⟨q1, q2, q3⟩, qf, ⟨q4, q5, q6⟩, ⟨q7, q8, q9⟩⟩, r1, QA⟩ := hc2 k _ (pagesOf_at XC pgn NP k hkn)
        have hks : (k + 1) * pgn = k * pgn + pgn := Nat.succ_mul k pgn
        have hw16 : min ((k + 1) * pgn) XC.T.length - k * pgn ≤ 16 := by rw [hks]; omega
        clear hks
        obtain ⟨fr, hfr⟩ : ∃ fr, k * pgn = fr := ⟨_, rfl⟩
        obtain ⟨to2, hto⟩ : ∃ t, min ((k + 1) * pgn) XC.T.length = t := ⟨_, rfl⟩
        rw [hfr, hto] at PA QA hw16
        have HCP : Hid (cutPg (pgOf XC fr to2) = pgOf XC fr to2) := cutPg_pg HX.out hw16
        have HPA : Hid (∀ wv, Below wr.heap.size wr wv → PgAt wv ⟨⟨p1, p2, p3⟩, pf, ⟨p4, p5, p6⟩, ⟨p7, p8, p9⟩⟩ (pgOf XC fr to2)) := fun wv hb => PA.below hb
        have HQA : Hid (∀ wv, Below wr.heap.size wr wv → PgAt wv ⟨⟨q1, q2, q3⟩, qf, ⟨q4, q5, q6⟩, ⟨q7, q8, q9⟩⟩ (pgOf XC fr to2)) := fun wv hb => QA.below hb
        have HR0 : Hid (∀ wv, Below wr.heap.size wr wv → wv.rangeAt g (o + k * 4) (#[.slice p1 p2 p3, .int .i64 pf, .slice p4 p5 p6, .slice p7 p8 p9] : Array Value).toList) := fun wv hb => pg_range (p := ⟨⟨p1, p2, p3⟩, pf, ⟨p4, p5, p6⟩, ⟨p7, p8, p9⟩⟩) r0 hb
        have HR1 : Hid (∀ wv, Below wr.heap.size wr wv → wv.rangeAt g2 (o2' + k * 4) (#[.slice q1 q2 q3, .int .i64 qf, .slice q4 q5 q6, .slice q7 q8 q9] : Array Value).toList) := fun wv hb => pg_range (p := ⟨⟨q1, q2, q3⟩, qf, ⟨q4, q5, q6⟩, ⟨q7, q8, q9⟩⟩) r1 hb
        have hki : (k : Int) < (NP : Int) := by omega
        clear hc hc2 PA QA hfr hto hw16
        go_upto_region 15 with fail
        have DW : Below wr.heap.size wr wr.drew := (Below.refl _ wr).drew
        refine wp_region_held_drew (S := fun w' => w'.rangeAt g (o + k * 4) (#[.slice p1 p2 p3, .int .i64 pf, .slice p4 p5 p6, .slice p7 p8 p9] : Array Value).toList ∧ w'.rangeAt g2 (o2' + k * 4) (#[.slice q1 q2 q3, .int .i64 qf, .slice q4 q5 q6, .slice q7 q8 q9] : Array Value).toList) (by kernel_rfl) (⟨pg_range (p := ⟨⟨p1, p2, p3⟩, pf, ⟨p4, p5, p6⟩, ⟨p7, p8, p9⟩⟩) r0 (Below.refl _ _).drew, pg_range (p := ⟨⟨q1, q2, q3⟩, qf, ⟨q4, q5, q6⟩, ⟨q7, q8, q9⟩⟩) r1 (Below.refl _ _).drew⟩) (fun hHeld => ?_)
        generalize hA : wr.drew = wd at *
        clear hA
        refine wpAnyH_take (i := 0) (v := (.slice (some ⟨g, o, none⟩) NP gc)) rfl (by kernel_rfl) (by kernel_rfl) (by kernel_rfl) (fun _ _ _ h => h) (Or.inl ⟨by rfl, ?_⟩) (by assumption) ?_
        · intro w' hSw
          go_simp
        simp only [List.getElem_toArray, List.getElem_cons_zero, Act.put, List.setIfInBounds_toArray, List.set_cons_zero, List.set_cons_succ]
        refine wpAnyH_take (i := 1) (v := (.int .i64 (k : Int))) rfl (by kernel_rfl) (by kernel_rfl) (by kernel_rfl) (fun _ _ _ h => h) (Or.inl ⟨by rfl, ?_⟩) (by assumption) ?_
        · intro w' hSw
          go_simp
        simp only [List.getElem_toArray, List.getElem_cons_succ, List.getElem_cons_zero, Act.put, List.setIfInBounds_toArray, List.set_cons_zero, List.set_cons_succ]
        refine wpAnyH_take (i := 2) (v := (.pointer (some ⟨g, o + k * 4, none⟩))) rfl (by kernel_rfl) (by kernel_rfl) (by kernel_rfl) (fun _ _ _ h => h) (Or.inl ⟨by rfl, ?_⟩) (by assumption) ?_
        · intro w' hSw
          go_simp
        simp only [List.getElem_toArray, List.getElem_cons_succ, List.getElem_cons_zero, Act.put, List.setIfInBounds_toArray, List.set_cons_zero, List.set_cons_succ]
        refine wpAnyH_take (i := 3) (v := .agg #[.slice p1 p2 p3, .int .i64 pf, .slice p4 p5 p6, .slice p7 p8 p9]) rfl (by kernel_rfl) (by kernel_rfl) (by kernel_rfl) (fun _ _ _ h => h) (yieldsIf_load_mid (by rfl) 47 _ rfl g (o + k * 4) rfl (#[.slice p1 p2 p3, .int .i64 pf, .slice p4 p5 p6, .slice p7 p8 p9] : Array Value).toList _ (fun w' hS => hS.1) Try.underlying47 rfl (by exact Try.infoPg)) (by assumption) ?_
        simp only [List.getElem_toArray, List.getElem_cons_succ, List.getElem_cons_zero, Act.put, List.setIfInBounds_toArray, List.set_cons_zero, List.set_cons_succ]
        refine wpAnyH_take (i := 5) (v := (.slice (some ⟨g2, o2', none⟩) NP wc)) rfl (by kernel_rfl) (by kernel_rfl) (by kernel_rfl) (fun _ _ _ h => h) (Or.inl ⟨by rfl, ?_⟩) (by assumption) ?_
        · intro w' hSw
          go_simp
        simp only [List.getElem_toArray, List.getElem_cons_succ, List.getElem_cons_zero, Act.put, List.setIfInBounds_toArray, List.set_cons_zero, List.set_cons_succ]
        refine wpAnyH_take (i := 6) (v := (.int .i64 (k : Int))) rfl (by kernel_rfl) (by kernel_rfl) (by kernel_rfl) (fun _ _ _ h => h) (Or.inl ⟨by rfl, ?_⟩) (by assumption) ?_
        · intro w' hSw
          go_simp
        simp only [List.getElem_toArray, List.getElem_cons_succ, List.getElem_cons_zero, Act.put, List.setIfInBounds_toArray, List.set_cons_zero, List.set_cons_succ]
        refine wpAnyH_take (i := 7) (v := (.pointer (some ⟨g2, o2' + k * 4, none⟩))) rfl (by kernel_rfl) (by kernel_rfl) (by kernel_rfl) (fun _ _ _ h => h) (Or.inl ⟨by rfl, ?_⟩) (by assumption) ?_
        · intro w' hSw
          go_simp
        simp only [List.getElem_toArray, List.getElem_cons_succ, List.getElem_cons_zero, Act.put, List.setIfInBounds_toArray, List.set_cons_zero, List.set_cons_succ]
        refine wpAnyH_take (i := 8) (v := .agg #[.slice q1 q2 q3, .int .i64 qf, .slice q4 q5 q6, .slice q7 q8 q9]) rfl (by kernel_rfl) (by kernel_rfl) (by kernel_rfl) (fun _ _ _ h => h) (yieldsIf_load_mid (by rfl) 44 _ rfl g2 (o2' + k * 4) rfl (#[.slice q1 q2 q3, .int .i64 qf, .slice q4 q5 q6, .slice q7 q8 q9] : Array Value).toList _ (fun w' hS => hS.2) Try.underlying44 rfl (by exact Try.infoTg)) (by assumption) ?_
        simp only [List.getElem_toArray, List.getElem_cons_succ, List.getElem_cons_zero, Act.put, List.setIfInBounds_toArray, List.set_cons_zero, List.set_cons_succ]
        refine wpAnyH_ready (rs := [4]) (by kernel_rfl) (by simp) ?_
        refine AllReadyH.cons rfl (fun Kc hKc => ?_) AllReadyH.nil
        simp only [List.getElem_toArray, List.getElem_cons_succ, List.getElem_cons_zero]
        rw [if_pos (by rfl)]
        go_wp2_with fail
        have K4 := told11_any ⟨⟨p1, p2, p3⟩, pf, ⟨p4, p5, p6⟩, ⟨p7, p8, p9⟩⟩ (pgOf XC fr to2) _ (PgAt.raw (HPA.out _ DW))
        rw [HCP.out] at K4
        unfold PgV.cells Sl.v at K4
        simp only at K4
        refine K4.mono ?_
        clear K4
        rintro e w6 ⟨⟨⟨t1, t2, t3⟩, tf, ⟨t4, t5, t6⟩, ⟨t7, t8, t9⟩⟩, rfl, NT, B6⟩
        replace DW := below_then DW B6
        go_wp2_with fail
        refine hKc.out _ _ (⟨pg_range (p := ⟨⟨p1, p2, p3⟩, pf, ⟨p4, p5, p6⟩, ⟨p7, p8, p9⟩⟩) (HR0.out _ DW) (Below.refl _ _), pg_range (p := ⟨⟨q1, q2, q3⟩, qf, ⟨q4, q5, q6⟩, ⟨q7, q8, q9⟩⟩) (HR1.out _ DW) (Below.refl _ _)⟩) (fun hHeld => ?_)
        clear hKc Kc
        refine wpAnyH_ready (rs := [9]) (by kernel_rfl) (by simp) ?_
        refine AllReadyH.cons rfl (fun Kc hKc => ?_) AllReadyH.nil
        simp only [List.getElem_toArray, List.getElem_cons_succ, List.getElem_cons_zero]
        rw [if_pos (by rfl)]
        go_wp2_with fail
        have K4 := same11_any ⟨⟨t1, t2, t3⟩, tf, ⟨t4, t5, t6⟩, ⟨t7, t8, t9⟩⟩ ⟨⟨q1, q2, q3⟩, qf, ⟨q4, q5, q6⟩, ⟨q7, q8, q9⟩⟩ (pgOf XC fr to2) _ NT.now (HQA.out _ DW)
        unfold PgV.cells Sl.v at K4
        simp only at K4
        refine K4.mono ?_
        clear K4 NT
        rintro e w7 ⟨rfl, B7⟩
        replace DW := below_then DW B7
        go_wp2_with fail
        refine hKc.out _ _ (⟨pg_range (p := ⟨⟨p1, p2, p3⟩, pf, ⟨p4, p5, p6⟩, ⟨p7, p8, p9⟩⟩) (HR0.out _ DW) (Below.refl _ _), pg_range (p := ⟨⟨q1, q2, q3⟩, qf, ⟨q4, q5, q6⟩, ⟨q7, q8, q9⟩⟩) (HR1.out _ DW) (Below.refl _ _)⟩) (fun hHeld => ?_)
        clear hKc Kc
        refine wpAnyH_take (i := 10) (v := (.bool false)) rfl (by kernel_rfl) (by kernel_rfl) (by kernel_rfl) (fun _ _ _ h => h) (Or.inl ⟨by rfl, ?_⟩) (by assumption) ?_
        · intro w' hSw
          go_simp
        simp only [List.getElem_toArray, List.getElem_cons_succ, List.getElem_cons_zero, Act.put, List.setIfInBounds_toArray, List.set_cons_zero, List.set_cons_succ]
        refine wpAnyH_done (by kernel_rfl) ?_ _
        go_wp2_with fail
        go_roundg (NP - (k + 1))
        case measure => omega
        case rel => exact ⟨k + 1, by omega, rfl, by go_num, BB.trans (DW.mono BB.size)⟩
      · obtain rfl : k = NP := by omega
        have DK := below_then D7 BB
        have EK := below_then E7 BB
        have ⟨Y0, _, _, _⟩ := HST.out wr DK
        have a0 : wr.cell? ⟨w.heap.size, 0, none⟩ = some (.int .i64 Vo) := Y0.cell 0 rfl
        have a1 : wr.cell? ⟨w.heap.size, 1, none⟩ = some (.int .i64 D) := Y0.cell 1 rfl
        have a2 : wr.cell? ⟨w.heap.size, 2, none⟩ = some (.int .i64 Hd) := Y0.cell 2 rfl
        have a3 : wr.cell? ⟨w.heap.size, 3, none⟩ = some (.int .i64 H) := Y0.cell 3 rfl
        have a4 : wr.cell? ⟨w.heap.size, 4, none⟩ = some (.int .i64 L) := Y0.cell 4 rfl
        have CJ := join_gen Vo D Hd H L ⟨ga, k, gc⟩ (pagesOf XC pgn k) wr (HPS.out wr EK) (fun P hP => by
          obtain ⟨fr, to', rfl, hf⟩ := HPG.out P hP
          show -9223372036854775808 ≤ (fr : Int) ∧ (fr : Int) ≤ 9223372036854775807
          omega) (fun P hP _ => by
          obtain ⟨fr, to', rfl, hf⟩ := HPG.out P hP
          refine ⟨by show (XC.K.map _).length ≤ _; rw [List.length_map]; omega, fun R hR r hr => ?_, fun R hR r hr => ?_⟩
          · obtain ⟨S, hS, rfl⟩ := List.mem_map.1 hR
            obtain ⟨t, ht, rfl⟩ := List.getElem_of_mem (partR_mem hr)
            have := (hb4 S hS).2.1 t
            unfold rowOf at this
            rw [List.getD_eq_getElem?_getD, List.getElem?_eq_getElem ht, Option.getD_some] at this
            omega
          · obtain ⟨S, hS, rfl⟩ := List.mem_map.1 hR
            obtain ⟨t, ht, rfl⟩ := List.getElem_of_mem (partR_mem hr)
            have := (hb5 S hS).2.1 t
            unfold rowOf at this
            rw [List.getD_eq_getElem?_getD, List.getElem?_eq_getElem ht, Option.getD_some] at this
            omega)
        unfold cfgC at CJ
        rw [show Sl.v ⟨ga, k, gc⟩ = .slice ga k gc from rfl] at CJ
        clear Y0 BB HPS HWT HPG D7 E7 EK
        go_wp2_with fail
        refine CJ.mono ?_
        rintro e wj ⟨⟨⟨j1, j2, j3⟩, ⟨j4, j5, j6⟩, ⟨j7, j8, j9⟩⟩, rfl, NJ, BJ⟩
        clear a0 a1 a2 a3 a4 CJ
        rw [show VwV.cells ⟨⟨j1, j2, j3⟩, ⟨j4, j5, j6⟩, ⟨j7, j8, j9⟩⟩ = #[.slice j1 j2 j3, .slice j4 j5 j6, .slice j7 j8 j9] from rfl]
        obtain ⟨XE, XJ, BF⟩ := var3d wj 29 #[.slice none 0 0, .slice none 0 0, .slice none 0 0] #[.slice j1 j2 j3, .slice j4 j5 j6, .slice j7 j8 j9]
        generalize hwe : wj.alloc (.cells #[.slice none 0 0, .slice none 0 0, .slice none 0 0] 29) = we at *
        generalize hwf : we.setRow wj.heap.size #[.slice j1 j2 j3, .slice j4 j5 j6, .slice j7 j8 j9] = wk at *
        replace NJ := NJ.now.below BF
        replace DK := below_then (below_then DK BJ) BF
        clear BJ BF
        generalize hjr : jnS Vo D L noVw (pagesOf XC pgn k) = jr at *
        have ⟨Y0, _, _, _⟩ := HST.out wk DK
        have a1 : wk.cell? ⟨w.heap.size, 1, none⟩ = some (.int .i64 D) := Y0.cell 1 rfl
        have a4 : wk.cell? ⟨w.heap.size, 4, none⟩ = some (.int .i64 L) := Y0.cell 4 rfl
        have HJR : Hid (jnS Vo D L noVw (pagesOf XC pgn k) = jr) := hjr
        clear hjr Y0
        go_upto_region 19 with (refine wpList_store_row rfl 29 _ _ rfl wj.heap.size #[.slice j1 j2 j3, .slice j4 j5 j6, .slice j7 j8 j9] rfl rfl 29 _ XE (by exact Try.infoV) rfl (by simp [Value.oneCell']) ?_; rw [hwf])
        clear hwe hwf XE
        by_cases hd1 : (40 : Int) < D
        · go_wp2_with fail
          go_ret
          exact ⟨rfl, below_then D_ DK⟩
        · by_cases hd2 : D < 0
          · go_wp2_with fail
            go_ret
            exact ⟨rfl, below_then D_ DK⟩
          · by_cases hd3 : (5 : Int) < L
            · go_wp2_with fail
              go_ret
              exact ⟨rfl, below_then D_ DK⟩
            · obtain rfl : jr = (0, XC) := HJN.out (by omega)
              simp only at NJ ⊢
              clear HJR HJN
              go_upto_region 21 with fail
              clear a1 a4
              have DX : Below wk.heap.size wk wk.drew := (Below.refl _ wk).drew
              refine wp_region_held_drew (S := fun w' => Blk w' wj.heap.size 29 #[.slice j1 j2 j3, .slice j4 j5 j6, .slice j7 j8 j9] ∧ Blk w' w1.heap.size 31 #[.slice sa sn sc, .slice pa pn pc, .slice qa qn qc]) (by kernel_rfl) (⟨XJ.below DX, (HST.out _ DK).2.1.below DX⟩) (fun hHeld => ?_)
              generalize hA : wk.drew = wd at *
              clear hA
              refine wpAnyH_take (i := 0) (v := (.int .i64 0)) rfl (by kernel_rfl) (by kernel_rfl) (by kernel_rfl) (fun _ _ _ h => h) (Or.inl ⟨by rfl, ?_⟩) (by assumption) ?_
              · intro w' hSw
                go_simp
              simp only [List.getElem_toArray, List.getElem_cons_zero, Act.put, List.setIfInBounds_toArray, List.set_cons_zero, List.set_cons_succ]
              refine wpAnyH_take (i := 1) (v := (.bool true)) rfl (by kernel_rfl) (by kernel_rfl) (by kernel_rfl) (fun _ _ _ h => h) (Or.inl ⟨by rfl, ?_⟩) (by assumption) ?_
              · intro w' hSw
                go_simp
              simp only [List.getElem_toArray, List.getElem_cons_succ, List.getElem_cons_zero, Act.put, List.setIfInBounds_toArray, List.set_cons_zero, List.set_cons_succ]
              refine wpAnyH_take (i := 2) (v := (.bool true)) rfl (by kernel_rfl) (by kernel_rfl) (by kernel_rfl) (fun _ _ _ h => h) (Or.inl ⟨by rfl, ?_⟩) (by assumption) ?_
              · intro w' hSw
                go_simp
              simp only [List.getElem_toArray, List.getElem_cons_succ, List.getElem_cons_zero, Act.put, List.setIfInBounds_toArray, List.set_cons_zero, List.set_cons_succ]
              refine wpAnyH_take (i := 3) (v := (.agg #[.slice j1 j2 j3, .slice j4 j5 j6, .slice j7 j8 j9])) rfl (by kernel_rfl) (by kernel_rfl) (by kernel_rfl) (fun _ _ _ h => h) (Or.inl ⟨by rfl, ?_⟩) (by assumption) ?_
              · intro w' hSw
                have cj0 : w'.cell? ⟨wj.heap.size, 0, none⟩ = some (.slice j1 j2 j3) := hSw.1.cell 0 rfl
                have cj1 : w'.cell? ⟨wj.heap.size, 1, none⟩ = some (.slice j4 j5 j6) := hSw.1.cell 1 rfl
                have cj2 : w'.cell? ⟨wj.heap.size, 2, none⟩ = some (.slice j7 j8 j9) := hSw.1.cell 2 rfl
                go_simp
              simp only [List.getElem_toArray, List.getElem_cons_succ, List.getElem_cons_zero, Act.put, List.setIfInBounds_toArray, List.set_cons_zero, List.set_cons_succ]
              refine wpAnyH_take (i := 5) (v := (.agg #[.slice sa sn sc, .slice pa pn pc, .slice qa qn qc])) rfl (by kernel_rfl) (by kernel_rfl) (by kernel_rfl) (fun _ _ _ h => h) (Or.inl ⟨by rfl, ?_⟩) (by assumption) ?_
              · intro w' hSw
                have cv0 : w'.cell? ⟨w1.heap.size, 0, none⟩ = some (.slice sa sn sc) := hSw.2.cell 0 rfl
                have cv1 : w'.cell? ⟨w1.heap.size, 1, none⟩ = some (.slice pa pn pc) := hSw.2.cell 1 rfl
                have cv2 : w'.cell? ⟨w1.heap.size, 2, none⟩ = some (.slice qa qn qc) := hSw.2.cell 2 rfl
                go_simp
              simp only [List.getElem_toArray, List.getElem_cons_succ, List.getElem_cons_zero, Act.put, List.setIfInBounds_toArray, List.set_cons_zero, List.set_cons_succ]
              refine wpAnyH_ready (rs := [4]) (by kernel_rfl) (by simp) ?_
              refine AllReadyH.cons rfl (fun Kc hKc => ?_) AllReadyH.nil
              simp only [List.getElem_toArray, List.getElem_cons_succ, List.getElem_cons_zero]
              rw [if_pos (by rfl)]
              go_wp2_with fail
              have K4 := told9C_any ⟨⟨j1, j2, j3⟩, ⟨j4, j5, j6⟩, ⟨j7, j8, j9⟩⟩ XC _ (NJ.below DX) HX.out
              unfold VwV.cells Sl.v at K4
              simp only at K4
              refine K4.mono ?_
              clear K4
              rintro e w8 ⟨⟨h1, h2, h3⟩, ⟨h4, h5, h6⟩, ⟨h7, h8, h9⟩, rfl, TH, B8⟩
              replace DX := below_then DX B8
              go_wp2_with fail
              refine hKc.out _ _ (⟨XJ.below DX, (HST.out _ DK).2.1.below DX⟩) (fun hHeld => ?_)
              clear hKc Kc
              refine wpAnyH_ready (rs := [6]) (by kernel_rfl) (by simp) ?_
              refine AllReadyH.cons rfl (fun Kc hKc => ?_) AllReadyH.nil
              simp only [List.getElem_toArray, List.getElem_cons_succ, List.getElem_cons_zero]
              rw [if_pos (by rfl)]
              go_wp2_with fail
              have K4 := viewSame_eq ⟨h1, h2, h3⟩ ⟨h4, h5, h6⟩ ⟨h7, h8, h9⟩ ⟨sa, sn, sc⟩ ⟨pa, pn, pc⟩ ⟨qa, qn, qc⟩ XC _ TH ((HST.out _ DK).2.2.1.below DX)
              unfold Sl.v at K4
              simp only at K4
              refine K4.mono ?_
              clear K4 TH
              rintro e w9 ⟨rfl, B9⟩
              replace DX := below_then DX B9
              go_wp2_with fail
              refine hKc.out _ _ (⟨XJ.below DX, (HST.out _ DK).2.1.below DX⟩) (fun hHeld => ?_)
              clear hKc Kc
              refine wpAnyH_take (i := 7) (v := (.bool true)) rfl (by kernel_rfl) (by kernel_rfl) (by kernel_rfl) (fun _ _ _ h => h) (Or.inl ⟨by rfl, ?_⟩) (by assumption) ?_
              · intro w' hSw
                go_simp
              simp only [List.getElem_toArray, List.getElem_cons_succ, List.getElem_cons_zero, Act.put, List.setIfInBounds_toArray, List.set_cons_zero, List.set_cons_succ]
              refine wpAnyH_take (i := 8) (v := (.bool true)) rfl (by kernel_rfl) (by kernel_rfl) (by kernel_rfl) (fun _ _ _ h => h) (Or.inl ⟨by rfl, ?_⟩) (by assumption) ?_
              · intro w' hSw
                go_simp
              simp only [List.getElem_toArray, List.getElem_cons_succ, List.getElem_cons_zero, Act.put, List.setIfInBounds_toArray, List.set_cons_zero, List.set_cons_succ]
              refine wpAnyH_done (by kernel_rfl) ?_ _
              go_wp2_with fail
              go_ret
              exact ⟨rfl, below_then D_ (below_then DK DX)⟩
end Go.Proofs.Ytpplnjmjldhlbaa

/- The given statement on BlockSplits: at every input the law returns true and its arguments read as before; no condition. -/
namespace Go.Proofs.Ytpplnjmjldhlbaa.blockSplits
open Go.ChangeShapes Go.WideShapes Go.ChangeAt Go.RowKit
set_option linter.unusedVariables false
set_option maxRecDepth 100000 in
theorem lifted (os : Os) (started : os.Started) (H : Type) (enc : TypeId × Value → H) :
    ReturnsInHanded {} Try.checked os 3 .any (Rows.blockSplitsSpec.pre6 enc Try.prog Try.f3 Rows.blockSplitsRow.domain false) (Rows.blockSplitsSpec.post enc Try.prog Try.f3 false true false false) := by
  refine returnsInHanded_of_change (C := Try.checked) Try.own started (by kernel_rfl) Try.func3
    (ChangeSpec.witness6 (enc := enc) (C := Try.checked) false ⟨#[], #[.agg #[.int .i64 0, .int .i64 0, .int .i64 0, .int .i64 0, .int .i64 0], .agg #[.slice none 0 0, .slice none 0 0, .slice none 0 0], .int .i64 0], []⟩ 8 (by kernel_rfl) (by kernel_rfl) (by kernel_rfl) (by kernel_rfl)) ?_
  intro W base args ds gs before hval0 hW _ _
  have hval : ∀ (j : Nat) t v, Try.f3.params[j]? = some t → args[j]? = some v → Value.okWide Try.prog W .any base t v := hval0
  have hW' := hW
  obtain ⟨p, q, hA0, hV, rfl, _, _⟩ := hW
  have hA : DataW.TrodAll enc Try.prog W 0 (fun _ => true) true Try.f3.params.toList args.toList ds p := hA0
  rw [Try.params3] at hA hval
  obtain ⟨v0, vs0, d0, ds0, p0, q0, hargs, rfl, rfl, h0, r0⟩ := trodAll_cons hA
  obtain ⟨v1, vs1, d1, ds1, p1, q1, rfl, rfl, rfl, h1, r1⟩ := trodAll_cons r0
  obtain ⟨v2, vs2, d2, ds2, p2, q2, rfl, rfl, rfl, h2, r2⟩ := trodAll_cons r1
  obtain ⟨rfl, rfl, rfl⟩ := trodAll_nil r2
  obtain rfl : args = #[v0, v1, v2] := by cases args; simp_all
  obtain ⟨rfl, rfl⟩ := trodVars_none hV
  have k0 := h0
  obtain ⟨C0, rfl, g0⟩ := viewCfg (hval 0 _ v0 rfl rfl) h0
  have k1 := h1
  obtain ⟨vv1, X1, rfl, g1⟩ := viewVw (hval 1 _ v1 rfl rfl) h1
  have k2 := h2
  obtain ⟨a2, rfl, rfl, rfl, w2⟩ := open_int Try.underlying3 (hval 2 3 v2 rfl rfl) h2
  have b2 := bounds_i64 w2
  clear hA0 hval0
  simp only [List.append_nil] at hW'
  have hlt : ∀ x ∈ p0 ++ p1, x.block < W.heap.size := fun x hx => by
    have hx2 := hx
    exact hW'.lt x (by grind)
  refine (blockSplits_walk C0 vv1 X1 a2 W g0 g1 b2).mono fun e W' ⟨he, hb⟩ => ?_
  subst he
  exact ⟨_, rfl, _, _, _, [], _, [], hW', trodAll_mk1 (shut_bool Try.underlying4 true), trodAll_cons_mk (Below.trod Try.laidOut (by kernel_rfl) (of_decide_eq_true (by kernel_rfl)) k0 hb (fun x hx => hlt x (by simp [hx]))) (trodAll_cons_mk (Below.trod Try.laidOut (by kernel_rfl) (of_decide_eq_true (by kernel_rfl)) k1 hb (fun x hx => hlt x (by simp [hx]))) (trodAll_cons_mk (shut_int Try.underlying3 w2) trodAll_mk0)), rfl, hb.frame _, fun h => by cases h⟩
end Go.Proofs.Ytpplnjmjldhlbaa.blockSplits
namespace Go.Proofs.Ytpplnjmjldhlbaa
/-- The given statement. -/
theorem blockSplits_holds : Rows.BlockSplitsSaid :=
  OpenClaim.holds_of_wide 3 Try.f3 rfl rfl rfl rfl rfl rfl rfl ⟨rfl, rfl, rfl, rfl, rfl⟩ rfl rfl rfl rfl rfl (by kernel_rfl) Try.func3 (by kernel_rfl)
    (of_decide_eq_true (by kernel_rfl)) (by unfold Func.isWrapper; first | (rw [if_pos (by decide +kernel)]; kernel_rfl) | (rw [if_neg (by decide +kernel)]; exact ⟨rfl, rfl⟩))
    (fun os started H enc _ => blockSplits.lifted os started H enc)
#print axioms blockSplits_holds
end Go.Proofs.Ytpplnjmjldhlbaa
