/- The given statement on ModelChecks: at every input the law returns true and its arguments read as before; no condition. -/
import Derived.Test.YtlghodjiiajapaaPk5
import Derived.Test.YtlghodjiiajapaaPk6
import Derived.Test.YtlghodjiiajapaaPk7
import Derived.Test.YtlghodjiiajapaaPk9
import Derived.Test.YtlghodjiiajapaaPk10
import Derived.Test.YtlghodjiiajapaaPk3
import Derived.Test.YtlghodjiiajapaaRows
import Derived.ProofKit
import Derived.Carry
import Derived.OpenShut
/- Check and Prompt of any numbers: the walk. Laid by tools/genmchecks.py. -/
namespace Go.Proofs.Ytlghodjiiajapaa
open Go.ChangeShapes Go.WideShapes Go.ChangeAt Go.RowKit
theorem yields_row {ops : Array Oper} {S : World → Prop} {op : Oper} {a : Act} (hw : Region.wanted op (yielded ops a.tmps) = true) (ty : TypeId) (x : Operand) (ho : op.op = .load ty x)
    (g : Nat) (hx : a.eval x = .pointer (some ⟨g, 0, none⟩)) (T : TypeId) (cs : Array Value) (d : TypeDesc) (hS : ∀ w, S w → Blk w g T cs) (hu : Try.prog.underlying ty = some d) (hd : d.isRow = true) (hi : (Try.prog.info? ty).map (·.size) = some cs.size) :
    YieldsIf Try.prog ops S op (.agg cs) a := by
  have := yieldsIf_load_mid (P := Try.prog) (S := S) hw ty x ho g 0 hx cs.toList d (fun w h j v hv => by rw [Nat.zero_add]; exact (hS w h).cell j (by simpa using hv)) hu hd (by simpa using hi)
  simpa using this
theorem Try.infoCf : (Try.prog.info? 23).map (·.size) = some 5 := by kernel_rfl
theorem wt_one (W : Wt) : W.cells.all (·.oneCell') = true := by simp [Wt.cells, Sl.v, Value.oneCell']
set_option maxRecDepth 100000 in
set_option maxHeartbeats 6400000 in
theorem modelChecks_walk (C : Cfg) (V : Wt) (X : List Bk × Mdl) (ao : Option Addr) (n ca : Nat) (A : List Int) (w : World) (h0 : C.Ok) (hV : WtR w V X.1 X.2) (hA : IArg w ao n ca A) :
    Calls Try.prog 3 #[C.val, .agg V.cells, .slice ao n ca] w fun e w' => e = .returned (.bool true) ∧ Below w.heap.size w w' := by
  obtain ⟨bs, MM⟩ := X
  simp only at hV
  have hVok := hV.ok
  have SH := fun wv => shape_any C.V C.D C.Hd C.H C.L wv h0.V h0.D h0.Hd h0.H h0.L
  have RS := fun wv => rshape_any C.V C.D C.Hd C.H C.L wv h0.V h0.D h0.Hd h0.H h0.L
  have CK := fun (W : Wt) bs wv hW hb => mcheck_any C h0 W bs wv hW hb
  have RK := fun (W : Wt) bs wv hW hb => rcheck6_any C.V C.D C.Hd C.H C.L W bs wv hW hb h0.V h0.D h0.Hd h0.H h0.L
  have PR := fun ao n ca A wv hA => prompt_any C.V C.D C.Hd C.H C.L ao n ca A wv hA
  have RP := fun ao n ca A wv hA => rprompt_any C.V C.D C.Hd C.H C.L ao n ca A wv hA
  unfold Cfg.val at *
  have hu : ∀ C : Cfg, cfgC C.V C.D C.Hd C.H C.L = #[.int .i64 C.V, .int .i64 C.D, .int .i64 C.Hd, .int .i64 C.H, .int .i64 C.L] := fun _ => rfl
  simp only [hu] at SH RS CK RK PR RP ⊢
  clear hu h0
  generalize shapeN C.V C.D C.Hd C.H C.L = qs at *
  have X0 := blk_new w 23 #[.int .i64 C.V, .int .i64 C.D, .int .i64 C.Hd, .int .i64 C.H, .int .i64 C.L]
  have B0 : Below w.heap.size w (w.alloc (.cells #[.int .i64 C.V, .int .i64 C.D, .int .i64 C.Hd, .int .i64 C.H, .int .i64 C.L] 23)) := (Below.refl _ _).alloc (Nat.le_refl _) _
  generalize hw0 : w.alloc (.cells #[.int .i64 C.V, .int .i64 C.D, .int .i64 C.Hd, .int .i64 C.H, .int .i64 C.L] 23) = w0 at *
  have X1 := blk_new w0 29 V.cells
  have B1 : Below w0.heap.size w0 (w0.alloc (.cells V.cells 29)) := (Below.refl _ _).alloc (Nat.le_refl _) _
  generalize hw1 : w0.alloc (.cells V.cells 29) = w1 at *
  replace X0 := X0.below B1
  have DB := below_then B0 B1
  replace hV := hV.below DB
  replace hA := hA.below DB
  clear B0 B1
  have T0 := told6_any V bs MM w1 hV
  by_cases h2 : 200 < n
  · obtain ⟨b, o, rfl, -⟩ := hA.row.cells (by omega)
    replace hA := hA.take (m := 200) (by omega)
    have hca := hA.fit
    go_enter Try.func3, Try.ntmps3
    go_wp2_with (refine wpList_load_row rfl 29 _ rfl w0.heap.size rfl 29 V.cells (0, 0) _ X1 Try.underlying29 rfl Try.infoW ?_)
    refine T0.mono ?_
    rintro e w2 ⟨W3, rfl, ⟨xs, T1⟩, B2⟩
    clear T0 hw0 hw1 X1 hV
    replace X0 := X0.below B2
    replace hA := hA.below B2
    replace DB := below_then DB B2
    have R1 := T1.raw hVok
    have hW3 := R1.ok
    have hxl : xs.length ≤ 5 := by have := T1.ls.len; omega
    obtain ⟨ZE, X3, B3⟩ := var3f w2 33 #[.int .i64 0, .int .i64 0, .slice none 0 0, .slice none 0 0, .slice none 0 0, .int .i64 0, .int .i64 0, .slice none 0 0] W3.cells
    generalize hz1 : w2.alloc (.cells #[.int .i64 0, .int .i64 0, .slice none 0 0, .slice none 0 0, .slice none 0 0, .int .i64 0, .int .i64 0, .slice none 0 0] 33) = wz at *
    generalize hz2 : wz.setRow w2.heap.size W3.cells = w3 at *
    replace X0 := X0.below B3
    replace hA := hA.below B3
    replace DB := below_then DB B3
    replace R1 := R1.below B3
    have hb3 := R1.b
    have T2 := of6_any W3 xs _ w3 R1 (by omega)
    clear B2 B3 R1
    go_wp2_with (first | (refine wpList_store_row rfl 33 _ _ rfl w2.heap.size W3.cells rfl rfl 33 _ ZE Try.infoRW rfl (wt_one _) ?_; rw [hz2]) | (refine wpList_load_row rfl 33 _ rfl w2.heap.size rfl 33 W3.cells (0, 0) _ X3 Try.underlying33 rfl Try.infoRW ?_))
    refine T2.mono ?_
    rintro e w4 ⟨W5, rfl, ⟨ys, T3⟩, B4⟩
    clear T2 hz1 hz2 ZE
    replace X0 := X0.below B4
    replace X3 := X3.below B4
    replace hA := hA.below B4
    replace hb3 := hb3.below B4
    replace DB := below_then DB B4
    have hW5 := (T3.raw hW3).ok
    have hb5 := T3.b
    have HQ := check_again T1 T3 C.V C.D C.Hd C.H C.L
    have CK1 := fun wv hb => CK W5 ys wv hW5 hb
    have RK1 := fun wv hb => RK W3 xs wv hW3 hb
    rw [HQ] at CK1
    generalize checkN C.V C.D C.Hd C.H C.L W3 xs = qc at *
    clear HQ CK RK T1 T3 hxl
    obtain ⟨ZE, X5, B5⟩ := var3f w4 29 #[.int .i64 0, .int .i64 0, .slice none 0 0, .slice none 0 0, .slice none 0 0, .int .i64 0, .int .i64 0, .slice none 0 0] W5.cells
    generalize hz1 : w4.alloc (.cells #[.int .i64 0, .int .i64 0, .slice none 0 0, .slice none 0 0, .slice none 0 0, .int .i64 0, .int .i64 0, .slice none 0 0] 29) = wz at *
    generalize hz2 : wz.setRow w4.heap.size W5.cells = w6 at *
    replace X0 := X0.below B5
    replace X3 := X3.below B5
    replace hA := hA.below B5
    replace hb3 := hb3.below B5
    replace hb5 := hb5.below B5
    replace DB := below_then DB B5
    clear B4 B5
    go_wp2_with (refine wpList_store_row rfl 29 _ _ rfl w4.heap.size W5.cells rfl rfl 29 _ ZE Try.infoW rfl (wt_one _) ?_; rw [hz2])
    clear hz1 hz2 ZE
    replace X0 := X0.below ((Below.refl _ _).drew)
    replace X3 := X3.below ((Below.refl _ _).drew)
    replace X5 := X5.below ((Below.refl _ _).drew)
    replace hA := hA.below ((Below.refl _ _).drew)
    replace hb3 := hb3.below ((Below.refl _ _).drew)
    replace hb5 := hb5.below ((Below.refl _ _).drew)
    replace DB := DB.drew
    have HB : Hid (∀ wv, Below w6.drew.heap.size w6.drew wv → BlocksAt wv W3.b xs ∧ BlocksAt wv W5.b ys ∧ IArg wv (some ⟨b, o, none⟩) 200 ca (A.take 200)) := fun wv hb => ⟨hb3.below hb, hb5.below hb, hA.below hb⟩
    have KB := Below.refl w6.drew.heap.size w6.drew
    have PR1 := fun wv hA => PR (some ⟨b, o, none⟩) 200 ca (A.take 200) wv hA
    have RP1 := fun wv hA => RP (some ⟨b, o, none⟩) 200 ca (A.take 200) wv hA
    generalize promptN C.V (A.take 200) = qp at *
    clear PR RP hA hb3 hb5 hW3 hW5 hVok
    refine wp_region_held_drew (S := fun w' => Blk w' w.heap.size 23 #[.int .i64 C.V, .int .i64 C.D, .int .i64 C.Hd, .int .i64 C.H, .int .i64 C.L] ∧ Blk w' w2.heap.size 33 W3.cells ∧ Blk w' w4.heap.size 29 W5.cells) (by kernel_rfl) (⟨X0, X3, X5⟩) (fun hHeld => ?_)
    generalize hAA : w6.drew = wA at *
    clear hAA
    refine wpAnyH_ready (rs := [0]) (by kernel_rfl) (by simp) ?_
    refine AllReadyH.cons rfl (fun Kc hKc => ?_) AllReadyH.nil
    simp only [List.getElem_toArray, List.getElem_cons_zero]
    rw [if_pos (by rfl)]
    go_wp2_with fail
    refine (awake6_any _).mono ?_
    rintro e wE ⟨rfl, EM⟩
    replace X0 := X0.below EM
    replace X3 := X3.below EM
    replace X5 := X5.below EM
    replace KB := below_then KB EM
    replace DB := below_then DB EM
    clear EM
    go_wp2_with fail
    refine hKc.out _ _ (⟨X0, X3, X5⟩) (fun hHeld => ?_)
    clear hKc Kc
    refine wpAnyH_take (i := 1) (v := (.bool true)) rfl (by kernel_rfl) (by kernel_rfl) (by kernel_rfl) (fun _ _ _ h => h) (Or.inl ⟨by rfl, ?_⟩) (by assumption) ?_
    · intro w' hSw
      go_simp
    simp only [List.getElem_toArray, List.getElem_cons_succ, List.getElem_cons_zero, Act.put, List.setIfInBounds_toArray, List.set_cons_zero, List.set_cons_succ]
    refine wpAnyH_take (i := 2) (v := .agg #[.int .i64 C.V, .int .i64 C.D, .int .i64 C.Hd, .int .i64 C.H, .int .i64 C.L]) rfl (by kernel_rfl) (by kernel_rfl) (by kernel_rfl) (fun _ _ _ h => h) (yields_row (by rfl) 23 _ rfl w.heap.size rfl 23 #[.int .i64 C.V, .int .i64 C.D, .int .i64 C.Hd, .int .i64 C.H, .int .i64 C.L] _ (fun w' hS => hS.1) Try.underlying23 rfl Try.infoCf) (by assumption) ?_
    simp only [List.getElem_toArray, List.getElem_cons_succ, List.getElem_cons_zero, Act.put, List.setIfInBounds_toArray, List.set_cons_zero, List.set_cons_succ]
    refine wpAnyH_take (i := 4) (v := .agg #[.int .i64 C.V, .int .i64 C.D, .int .i64 C.Hd, .int .i64 C.H, .int .i64 C.L]) rfl (by kernel_rfl) (by kernel_rfl) (by kernel_rfl) (fun _ _ _ h => h) (yields_row (by rfl) 23 _ rfl w.heap.size rfl 23 #[.int .i64 C.V, .int .i64 C.D, .int .i64 C.Hd, .int .i64 C.H, .int .i64 C.L] _ (fun w' hS => hS.1) Try.underlying23 rfl Try.infoCf) (by assumption) ?_
    simp only [List.getElem_toArray, List.getElem_cons_succ, List.getElem_cons_zero, Act.put, List.setIfInBounds_toArray, List.set_cons_zero, List.set_cons_succ]
    refine wpAnyH_ready (rs := [3]) (by kernel_rfl) (by simp) ?_
    refine AllReadyH.cons rfl (fun Kc hKc => ?_) AllReadyH.nil
    simp only [List.getElem_toArray, List.getElem_cons_succ, List.getElem_cons_zero]
    rw [if_pos (by rfl)]
    go_wp2_with fail
    refine (SH _).mono ?_
    rintro e wE ⟨rfl, EM⟩
    replace X0 := X0.below EM
    replace X3 := X3.below EM
    replace X5 := X5.below EM
    replace KB := below_then KB EM
    replace DB := below_then DB EM
    clear EM
    go_wp2_with fail
    refine hKc.out _ _ (⟨X0, X3, X5⟩) (fun hHeld => ?_)
    clear hKc Kc
    refine wpAnyH_ready (rs := [5]) (by kernel_rfl) (by simp) ?_
    refine AllReadyH.cons rfl (fun Kc hKc => ?_) AllReadyH.nil
    simp only [List.getElem_toArray, List.getElem_cons_succ, List.getElem_cons_zero]
    rw [if_pos (by rfl)]
    go_wp2_with fail
    refine (RS _).mono ?_
    rintro e wE ⟨rfl, EM⟩
    replace X0 := X0.below EM
    replace X3 := X3.below EM
    replace X5 := X5.below EM
    replace KB := below_then KB EM
    replace DB := below_then DB EM
    clear EM
    go_wp2_with fail
    refine hKc.out _ _ (⟨X0, X3, X5⟩) (fun hHeld => ?_)
    clear hKc Kc
    refine wpAnyH_take (i := 6) (v := (.bool true)) rfl (by kernel_rfl) (by kernel_rfl) (by kernel_rfl) (fun _ _ _ h => h) (Or.inl ⟨by rfl, ?_⟩) (by assumption) ?_
    · intro w' hSw
      go_simp
    simp only [List.getElem_toArray, List.getElem_cons_succ, List.getElem_cons_zero, Act.put, List.setIfInBounds_toArray, List.set_cons_zero, List.set_cons_succ]
    refine wpAnyH_take (i := 7) (v := (.bool true)) rfl (by kernel_rfl) (by kernel_rfl) (by kernel_rfl) (fun _ _ _ h => h) (Or.inl ⟨by rfl, ?_⟩) (by assumption) ?_
    · intro w' hSw
      go_simp
    simp only [List.getElem_toArray, List.getElem_cons_succ, List.getElem_cons_zero, Act.put, List.setIfInBounds_toArray, List.set_cons_zero, List.set_cons_succ]
    refine wpAnyH_take (i := 8) (v := (.bool true)) rfl (by kernel_rfl) (by kernel_rfl) (by kernel_rfl) (fun _ _ _ h => h) (Or.inl ⟨by rfl, ?_⟩) (by assumption) ?_
    · intro w' hSw
      go_simp
    simp only [List.getElem_toArray, List.getElem_cons_succ, List.getElem_cons_zero, Act.put, List.setIfInBounds_toArray, List.set_cons_zero, List.set_cons_succ]
    refine wpAnyH_take (i := 9) (v := .agg #[.int .i64 C.V, .int .i64 C.D, .int .i64 C.Hd, .int .i64 C.H, .int .i64 C.L]) rfl (by kernel_rfl) (by kernel_rfl) (by kernel_rfl) (fun _ _ _ h => h) (yields_row (by rfl) 23 _ rfl w.heap.size rfl 23 #[.int .i64 C.V, .int .i64 C.D, .int .i64 C.Hd, .int .i64 C.H, .int .i64 C.L] _ (fun w' hS => hS.1) Try.underlying23 rfl Try.infoCf) (by assumption) ?_
    simp only [List.getElem_toArray, List.getElem_cons_succ, List.getElem_cons_zero, Act.put, List.setIfInBounds_toArray, List.set_cons_zero, List.set_cons_succ]
    refine wpAnyH_take (i := 10) (v := .agg W5.cells) rfl (by kernel_rfl) (by kernel_rfl) (by kernel_rfl) (fun _ _ _ h => h) (yields_row (by rfl) 29 _ rfl w4.heap.size rfl 29 W5.cells _ (fun w' hS => hS.2.2) Try.underlying29 rfl Try.infoW) (by assumption) ?_
    simp only [List.getElem_toArray, List.getElem_cons_succ, List.getElem_cons_zero, Act.put, List.setIfInBounds_toArray, List.set_cons_zero, List.set_cons_succ]
    refine wpAnyH_take (i := 12) (v := .agg #[.int .i64 C.V, .int .i64 C.D, .int .i64 C.Hd, .int .i64 C.H, .int .i64 C.L]) rfl (by kernel_rfl) (by kernel_rfl) (by kernel_rfl) (fun _ _ _ h => h) (yields_row (by rfl) 23 _ rfl w.heap.size rfl 23 #[.int .i64 C.V, .int .i64 C.D, .int .i64 C.Hd, .int .i64 C.H, .int .i64 C.L] _ (fun w' hS => hS.1) Try.underlying23 rfl Try.infoCf) (by assumption) ?_
    simp only [List.getElem_toArray, List.getElem_cons_succ, List.getElem_cons_zero, Act.put, List.setIfInBounds_toArray, List.set_cons_zero, List.set_cons_succ]
    refine wpAnyH_take (i := 13) (v := .agg W3.cells) rfl (by kernel_rfl) (by kernel_rfl) (by kernel_rfl) (fun _ _ _ h => h) (yields_row (by rfl) 33 _ rfl w2.heap.size rfl 33 W3.cells _ (fun w' hS => hS.2.1) Try.underlying33 rfl Try.infoRW) (by assumption) ?_
    simp only [List.getElem_toArray, List.getElem_cons_succ, List.getElem_cons_zero, Act.put, List.setIfInBounds_toArray, List.set_cons_zero, List.set_cons_succ]
    refine wpAnyH_ready (rs := [11]) (by kernel_rfl) (by simp) ?_
    refine AllReadyH.cons rfl (fun Kc hKc => ?_) AllReadyH.nil
    simp only [List.getElem_toArray, List.getElem_cons_succ, List.getElem_cons_zero]
    rw [if_pos (by rfl)]
    go_wp2_with fail
    refine (CK1 _ (HB.out _ KB).2.1).mono ?_
    rintro e wE ⟨rfl, EM⟩
    replace X0 := X0.below EM
    replace X3 := X3.below EM
    replace X5 := X5.below EM
    replace KB := below_then KB EM
    replace DB := below_then DB EM
    clear EM
    go_wp2_with fail
    refine hKc.out _ _ (⟨X0, X3, X5⟩) (fun hHeld => ?_)
    clear hKc Kc
    refine wpAnyH_ready (rs := [14]) (by kernel_rfl) (by simp) ?_
    refine AllReadyH.cons rfl (fun Kc hKc => ?_) AllReadyH.nil
    simp only [List.getElem_toArray, List.getElem_cons_succ, List.getElem_cons_zero]
    rw [if_pos (by rfl)]
    go_wp2_with fail
    refine (RK1 _ (HB.out _ KB).1).mono ?_
    rintro e wE ⟨rfl, EM⟩
    replace X0 := X0.below EM
    replace X3 := X3.below EM
    replace X5 := X5.below EM
    replace KB := below_then KB EM
    replace DB := below_then DB EM
    clear EM
    go_wp2_with fail
    refine hKc.out _ _ (⟨X0, X3, X5⟩) (fun hHeld => ?_)
    clear hKc Kc
    refine wpAnyH_take (i := 15) (v := (.bool true)) rfl (by kernel_rfl) (by kernel_rfl) (by kernel_rfl) (fun _ _ _ h => h) (Or.inl ⟨by rfl, ?_⟩) (by assumption) ?_
    · intro w' hSw
      go_simp
    simp only [List.getElem_toArray, List.getElem_cons_succ, List.getElem_cons_zero, Act.put, List.setIfInBounds_toArray, List.set_cons_zero, List.set_cons_succ]
    refine wpAnyH_take (i := 16) (v := (.bool true)) rfl (by kernel_rfl) (by kernel_rfl) (by kernel_rfl) (fun _ _ _ h => h) (Or.inl ⟨by rfl, ?_⟩) (by assumption) ?_
    · intro w' hSw
      go_simp
    simp only [List.getElem_toArray, List.getElem_cons_succ, List.getElem_cons_zero, Act.put, List.setIfInBounds_toArray, List.set_cons_zero, List.set_cons_succ]
    refine wpAnyH_take (i := 17) (v := (.bool true)) rfl (by kernel_rfl) (by kernel_rfl) (by kernel_rfl) (fun _ _ _ h => h) (Or.inl ⟨by rfl, ?_⟩) (by assumption) ?_
    · intro w' hSw
      go_simp
    simp only [List.getElem_toArray, List.getElem_cons_succ, List.getElem_cons_zero, Act.put, List.setIfInBounds_toArray, List.set_cons_zero, List.set_cons_succ]
    refine wpAnyH_take (i := 18) (v := .agg #[.int .i64 C.V, .int .i64 C.D, .int .i64 C.Hd, .int .i64 C.H, .int .i64 C.L]) rfl (by kernel_rfl) (by kernel_rfl) (by kernel_rfl) (fun _ _ _ h => h) (yields_row (by rfl) 23 _ rfl w.heap.size rfl 23 #[.int .i64 C.V, .int .i64 C.D, .int .i64 C.Hd, .int .i64 C.H, .int .i64 C.L] _ (fun w' hS => hS.1) Try.underlying23 rfl Try.infoCf) (by assumption) ?_
    simp only [List.getElem_toArray, List.getElem_cons_succ, List.getElem_cons_zero, Act.put, List.setIfInBounds_toArray, List.set_cons_zero, List.set_cons_succ]
    refine wpAnyH_take (i := 19) (v := (.slice (some ⟨b, o, none⟩) 200 ca)) rfl (by kernel_rfl) (by kernel_rfl) (by kernel_rfl) (fun _ _ _ h => h) (Or.inl ⟨by rfl, ?_⟩) (by assumption) ?_
    · intro w' hSw
      go_simp
    simp only [List.getElem_toArray, List.getElem_cons_succ, List.getElem_cons_zero, Act.put, List.setIfInBounds_toArray, List.set_cons_zero, List.set_cons_succ]
    refine wpAnyH_take (i := 21) (v := .agg #[.int .i64 C.V, .int .i64 C.D, .int .i64 C.Hd, .int .i64 C.H, .int .i64 C.L]) rfl (by kernel_rfl) (by kernel_rfl) (by kernel_rfl) (fun _ _ _ h => h) (yields_row (by rfl) 23 _ rfl w.heap.size rfl 23 #[.int .i64 C.V, .int .i64 C.D, .int .i64 C.Hd, .int .i64 C.H, .int .i64 C.L] _ (fun w' hS => hS.1) Try.underlying23 rfl Try.infoCf) (by assumption) ?_
    simp only [List.getElem_toArray, List.getElem_cons_succ, List.getElem_cons_zero, Act.put, List.setIfInBounds_toArray, List.set_cons_zero, List.set_cons_succ]
    refine wpAnyH_take (i := 22) (v := (.slice (some ⟨b, o, none⟩) 200 ca)) rfl (by kernel_rfl) (by kernel_rfl) (by kernel_rfl) (fun _ _ _ h => h) (Or.inl ⟨by rfl, ?_⟩) (by assumption) ?_
    · intro w' hSw
      go_simp
    simp only [List.getElem_toArray, List.getElem_cons_succ, List.getElem_cons_zero, Act.put, List.setIfInBounds_toArray, List.set_cons_zero, List.set_cons_succ]
    refine wpAnyH_ready (rs := [20]) (by kernel_rfl) (by simp) ?_
    refine AllReadyH.cons rfl (fun Kc hKc => ?_) AllReadyH.nil
    simp only [List.getElem_toArray, List.getElem_cons_succ, List.getElem_cons_zero]
    rw [if_pos (by rfl)]
    go_wp2_with fail
    refine (PR1 _ (HB.out _ KB).2.2).mono ?_
    rintro e wE ⟨rfl, EM⟩
    replace X0 := X0.below EM
    replace X3 := X3.below EM
    replace X5 := X5.below EM
    replace KB := below_then KB EM
    replace DB := below_then DB EM
    clear EM
    go_wp2_with fail
    refine hKc.out _ _ (⟨X0, X3, X5⟩) (fun hHeld => ?_)
    clear hKc Kc
    refine wpAnyH_ready (rs := [23]) (by kernel_rfl) (by simp) ?_
    refine AllReadyH.cons rfl (fun Kc hKc => ?_) AllReadyH.nil
    simp only [List.getElem_toArray, List.getElem_cons_succ, List.getElem_cons_zero]
    rw [if_pos (by rfl)]
    go_wp2_with fail
    refine (RP1 _ (HB.out _ KB).2.2).mono ?_
    rintro e wE ⟨rfl, EM⟩
    replace X0 := X0.below EM
    replace X3 := X3.below EM
    replace X5 := X5.below EM
    replace KB := below_then KB EM
    replace DB := below_then DB EM
    clear EM
    go_wp2_with fail
    refine hKc.out _ _ (⟨X0, X3, X5⟩) (fun hHeld => ?_)
    clear hKc Kc
    refine wpAnyH_take (i := 24) (v := (.bool true)) rfl (by kernel_rfl) (by kernel_rfl) (by kernel_rfl) (fun _ _ _ h => h) (Or.inl ⟨by rfl, ?_⟩) (by assumption) ?_
    · intro w' hSw
      go_simp
    simp only [List.getElem_toArray, List.getElem_cons_succ, List.getElem_cons_zero, Act.put, List.setIfInBounds_toArray, List.set_cons_zero, List.set_cons_succ]
    refine wpAnyH_take (i := 25) (v := (.bool true)) rfl (by kernel_rfl) (by kernel_rfl) (by kernel_rfl) (fun _ _ _ h => h) (Or.inl ⟨by rfl, ?_⟩) (by assumption) ?_
    · intro w' hSw
      go_simp
    simp only [List.getElem_toArray, List.getElem_cons_succ, List.getElem_cons_zero, Act.put, List.setIfInBounds_toArray, List.set_cons_zero, List.set_cons_succ]
    refine wpAnyH_take (i := 26) (v := (.bool true)) rfl (by kernel_rfl) (by kernel_rfl) (by kernel_rfl) (fun _ _ _ h => h) (Or.inl ⟨by rfl, ?_⟩) (by assumption) ?_
    · intro w' hSw
      go_simp
    simp only [List.getElem_toArray, List.getElem_cons_succ, List.getElem_cons_zero, Act.put, List.setIfInBounds_toArray, List.set_cons_zero, List.set_cons_succ]
    refine wpAnyH_done (by kernel_rfl) ?_ _
    clear hHeld
    go_wp2_with fail
    go_ret
    exact ⟨rfl, DB⟩
  · skip
    go_enter Try.func3, Try.ntmps3
    go_wp2_with (refine wpList_load_row rfl 29 _ rfl w0.heap.size rfl 29 V.cells (0, 0) _ X1 Try.underlying29 rfl Try.infoW ?_)
    refine T0.mono ?_
    rintro e w2 ⟨W3, rfl, ⟨xs, T1⟩, B2⟩
    clear T0 hw0 hw1 X1 hV
    replace X0 := X0.below B2
    replace hA := hA.below B2
    replace DB := below_then DB B2
    have R1 := T1.raw hVok
    have hW3 := R1.ok
    have hxl : xs.length ≤ 5 := by have := T1.ls.len; omega
    obtain ⟨ZE, X3, B3⟩ := var3f w2 33 #[.int .i64 0, .int .i64 0, .slice none 0 0, .slice none 0 0, .slice none 0 0, .int .i64 0, .int .i64 0, .slice none 0 0] W3.cells
    generalize hz1 : w2.alloc (.cells #[.int .i64 0, .int .i64 0, .slice none 0 0, .slice none 0 0, .slice none 0 0, .int .i64 0, .int .i64 0, .slice none 0 0] 33) = wz at *
    generalize hz2 : wz.setRow w2.heap.size W3.cells = w3 at *
    replace X0 := X0.below B3
    replace hA := hA.below B3
    replace DB := below_then DB B3
    replace R1 := R1.below B3
    have hb3 := R1.b
    have T2 := of6_any W3 xs _ w3 R1 (by omega)
    clear B2 B3 R1
    go_wp2_with (first | (refine wpList_store_row rfl 33 _ _ rfl w2.heap.size W3.cells rfl rfl 33 _ ZE Try.infoRW rfl (wt_one _) ?_; rw [hz2]) | (refine wpList_load_row rfl 33 _ rfl w2.heap.size rfl 33 W3.cells (0, 0) _ X3 Try.underlying33 rfl Try.infoRW ?_))
    refine T2.mono ?_
    rintro e w4 ⟨W5, rfl, ⟨ys, T3⟩, B4⟩
    clear T2 hz1 hz2 ZE
    replace X0 := X0.below B4
    replace X3 := X3.below B4
    replace hA := hA.below B4
    replace hb3 := hb3.below B4
    replace DB := below_then DB B4
    have hW5 := (T3.raw hW3).ok
    have hb5 := T3.b
    have HQ := check_again T1 T3 C.V C.D C.Hd C.H C.L
    have CK1 := fun wv hb => CK W5 ys wv hW5 hb
    have RK1 := fun wv hb => RK W3 xs wv hW3 hb
    rw [HQ] at CK1
    generalize checkN C.V C.D C.Hd C.H C.L W3 xs = qc at *
    clear HQ CK RK T1 T3 hxl
    obtain ⟨ZE, X5, B5⟩ := var3f w4 29 #[.int .i64 0, .int .i64 0, .slice none 0 0, .slice none 0 0, .slice none 0 0, .int .i64 0, .int .i64 0, .slice none 0 0] W5.cells
    generalize hz1 : w4.alloc (.cells #[.int .i64 0, .int .i64 0, .slice none 0 0, .slice none 0 0, .slice none 0 0, .int .i64 0, .int .i64 0, .slice none 0 0] 29) = wz at *
    generalize hz2 : wz.setRow w4.heap.size W5.cells = w6 at *
    replace X0 := X0.below B5
    replace X3 := X3.below B5
    replace hA := hA.below B5
    replace hb3 := hb3.below B5
    replace hb5 := hb5.below B5
    replace DB := below_then DB B5
    clear B4 B5
    go_wp2_with (refine wpList_store_row rfl 29 _ _ rfl w4.heap.size W5.cells rfl rfl 29 _ ZE Try.infoW rfl (wt_one _) ?_; rw [hz2])
    clear hz1 hz2 ZE
    replace X0 := X0.below ((Below.refl _ _).drew)
    replace X3 := X3.below ((Below.refl _ _).drew)
    replace X5 := X5.below ((Below.refl _ _).drew)
    replace hA := hA.below ((Below.refl _ _).drew)
    replace hb3 := hb3.below ((Below.refl _ _).drew)
    replace hb5 := hb5.below ((Below.refl _ _).drew)
    replace DB := DB.drew
    have HB : Hid (∀ wv, Below w6.drew.heap.size w6.drew wv → BlocksAt wv W3.b xs ∧ BlocksAt wv W5.b ys ∧ IArg wv ao n ca A) := fun wv hb => ⟨hb3.below hb, hb5.below hb, hA.below hb⟩
    have KB := Below.refl w6.drew.heap.size w6.drew
    have PR1 := fun wv hA => PR ao n ca A wv hA
    have RP1 := fun wv hA => RP ao n ca A wv hA
    generalize promptN C.V A = qp at *
    clear PR RP hA hb3 hb5 hW3 hW5 hVok
    refine wp_region_held_drew (S := fun w' => Blk w' w.heap.size 23 #[.int .i64 C.V, .int .i64 C.D, .int .i64 C.Hd, .int .i64 C.H, .int .i64 C.L] ∧ Blk w' w2.heap.size 33 W3.cells ∧ Blk w' w4.heap.size 29 W5.cells) (by kernel_rfl) (⟨X0, X3, X5⟩) (fun hHeld => ?_)
    generalize hAA : w6.drew = wA at *
    clear hAA
    refine wpAnyH_ready (rs := [0]) (by kernel_rfl) (by simp) ?_
    refine AllReadyH.cons rfl (fun Kc hKc => ?_) AllReadyH.nil
    simp only [List.getElem_toArray, List.getElem_cons_zero]
    rw [if_pos (by rfl)]
    go_wp2_with fail
    refine (awake6_any _).mono ?_
    rintro e wE ⟨rfl, EM⟩
    replace X0 := X0.below EM
    replace X3 := X3.below EM
    replace X5 := X5.below EM
    replace KB := below_then KB EM
    replace DB := below_then DB EM
    clear EM
    go_wp2_with fail
    refine hKc.out _ _ (⟨X0, X3, X5⟩) (fun hHeld => ?_)
    clear hKc Kc
    refine wpAnyH_take (i := 1) (v := (.bool true)) rfl (by kernel_rfl) (by kernel_rfl) (by kernel_rfl) (fun _ _ _ h => h) (Or.inl ⟨by rfl, ?_⟩) (by assumption) ?_
    · intro w' hSw
      go_simp
    simp only [List.getElem_toArray, List.getElem_cons_succ, List.getElem_cons_zero, Act.put, List.setIfInBounds_toArray, List.set_cons_zero, List.set_cons_succ]
    refine wpAnyH_take (i := 2) (v := .agg #[.int .i64 C.V, .int .i64 C.D, .int .i64 C.Hd, .int .i64 C.H, .int .i64 C.L]) rfl (by kernel_rfl) (by kernel_rfl) (by kernel_rfl) (fun _ _ _ h => h) (yields_row (by rfl) 23 _ rfl w.heap.size rfl 23 #[.int .i64 C.V, .int .i64 C.D, .int .i64 C.Hd, .int .i64 C.H, .int .i64 C.L] _ (fun w' hS => hS.1) Try.underlying23 rfl Try.infoCf) (by assumption) ?_
    simp only [List.getElem_toArray, List.getElem_cons_succ, List.getElem_cons_zero, Act.put, List.setIfInBounds_toArray, List.set_cons_zero, List.set_cons_succ]
    refine wpAnyH_take (i := 4) (v := .agg #[.int .i64 C.V, .int .i64 C.D, .int .i64 C.Hd, .int .i64 C.H, .int .i64 C.L]) rfl (by kernel_rfl) (by kernel_rfl) (by kernel_rfl) (fun _ _ _ h => h) (yields_row (by rfl) 23 _ rfl w.heap.size rfl 23 #[.int .i64 C.V, .int .i64 C.D, .int .i64 C.Hd, .int .i64 C.H, .int .i64 C.L] _ (fun w' hS => hS.1) Try.underlying23 rfl Try.infoCf) (by assumption) ?_
    simp only [List.getElem_toArray, List.getElem_cons_succ, List.getElem_cons_zero, Act.put, List.setIfInBounds_toArray, List.set_cons_zero, List.set_cons_succ]
    refine wpAnyH_ready (rs := [3]) (by kernel_rfl) (by simp) ?_
    refine AllReadyH.cons rfl (fun Kc hKc => ?_) AllReadyH.nil
    simp only [List.getElem_toArray, List.getElem_cons_succ, List.getElem_cons_zero]
    rw [if_pos (by rfl)]
    go_wp2_with fail
    refine (SH _).mono ?_
    rintro e wE ⟨rfl, EM⟩
    replace X0 := X0.below EM
    replace X3 := X3.below EM
    replace X5 := X5.below EM
    replace KB := below_then KB EM
    replace DB := below_then DB EM
    clear EM
    go_wp2_with fail
    refine hKc.out _ _ (⟨X0, X3, X5⟩) (fun hHeld => ?_)
    clear hKc Kc
    refine wpAnyH_ready (rs := [5]) (by kernel_rfl) (by simp) ?_
    refine AllReadyH.cons rfl (fun Kc hKc => ?_) AllReadyH.nil
    simp only [List.getElem_toArray, List.getElem_cons_succ, List.getElem_cons_zero]
    rw [if_pos (by rfl)]
    go_wp2_with fail
    refine (RS _).mono ?_
    rintro e wE ⟨rfl, EM⟩
    replace X0 := X0.below EM
    replace X3 := X3.below EM
    replace X5 := X5.below EM
    replace KB := below_then KB EM
    replace DB := below_then DB EM
    clear EM
    go_wp2_with fail
    refine hKc.out _ _ (⟨X0, X3, X5⟩) (fun hHeld => ?_)
    clear hKc Kc
    refine wpAnyH_take (i := 6) (v := (.bool true)) rfl (by kernel_rfl) (by kernel_rfl) (by kernel_rfl) (fun _ _ _ h => h) (Or.inl ⟨by rfl, ?_⟩) (by assumption) ?_
    · intro w' hSw
      go_simp
    simp only [List.getElem_toArray, List.getElem_cons_succ, List.getElem_cons_zero, Act.put, List.setIfInBounds_toArray, List.set_cons_zero, List.set_cons_succ]
    refine wpAnyH_take (i := 7) (v := (.bool true)) rfl (by kernel_rfl) (by kernel_rfl) (by kernel_rfl) (fun _ _ _ h => h) (Or.inl ⟨by rfl, ?_⟩) (by assumption) ?_
    · intro w' hSw
      go_simp
    simp only [List.getElem_toArray, List.getElem_cons_succ, List.getElem_cons_zero, Act.put, List.setIfInBounds_toArray, List.set_cons_zero, List.set_cons_succ]
    refine wpAnyH_take (i := 8) (v := (.bool true)) rfl (by kernel_rfl) (by kernel_rfl) (by kernel_rfl) (fun _ _ _ h => h) (Or.inl ⟨by rfl, ?_⟩) (by assumption) ?_
    · intro w' hSw
      go_simp
    simp only [List.getElem_toArray, List.getElem_cons_succ, List.getElem_cons_zero, Act.put, List.setIfInBounds_toArray, List.set_cons_zero, List.set_cons_succ]
    refine wpAnyH_take (i := 9) (v := .agg #[.int .i64 C.V, .int .i64 C.D, .int .i64 C.Hd, .int .i64 C.H, .int .i64 C.L]) rfl (by kernel_rfl) (by kernel_rfl) (by kernel_rfl) (fun _ _ _ h => h) (yields_row (by rfl) 23 _ rfl w.heap.size rfl 23 #[.int .i64 C.V, .int .i64 C.D, .int .i64 C.Hd, .int .i64 C.H, .int .i64 C.L] _ (fun w' hS => hS.1) Try.underlying23 rfl Try.infoCf) (by assumption) ?_
    simp only [List.getElem_toArray, List.getElem_cons_succ, List.getElem_cons_zero, Act.put, List.setIfInBounds_toArray, List.set_cons_zero, List.set_cons_succ]
    refine wpAnyH_take (i := 10) (v := .agg W5.cells) rfl (by kernel_rfl) (by kernel_rfl) (by kernel_rfl) (fun _ _ _ h => h) (yields_row (by rfl) 29 _ rfl w4.heap.size rfl 29 W5.cells _ (fun w' hS => hS.2.2) Try.underlying29 rfl Try.infoW) (by assumption) ?_
    simp only [List.getElem_toArray, List.getElem_cons_succ, List.getElem_cons_zero, Act.put, List.setIfInBounds_toArray, List.set_cons_zero, List.set_cons_succ]
    refine wpAnyH_take (i := 12) (v := .agg #[.int .i64 C.V, .int .i64 C.D, .int .i64 C.Hd, .int .i64 C.H, .int .i64 C.L]) rfl (by kernel_rfl) (by kernel_rfl) (by kernel_rfl) (fun _ _ _ h => h) (yields_row (by rfl) 23 _ rfl w.heap.size rfl 23 #[.int .i64 C.V, .int .i64 C.D, .int .i64 C.Hd, .int .i64 C.H, .int .i64 C.L] _ (fun w' hS => hS.1) Try.underlying23 rfl Try.infoCf) (by assumption) ?_
    simp only [List.getElem_toArray, List.getElem_cons_succ, List.getElem_cons_zero, Act.put, List.setIfInBounds_toArray, List.set_cons_zero, List.set_cons_succ]
    refine wpAnyH_take (i := 13) (v := .agg W3.cells) rfl (by kernel_rfl) (by kernel_rfl) (by kernel_rfl) (fun _ _ _ h => h) (yields_row (by rfl) 33 _ rfl w2.heap.size rfl 33 W3.cells _ (fun w' hS => hS.2.1) Try.underlying33 rfl Try.infoRW) (by assumption) ?_
    simp only [List.getElem_toArray, List.getElem_cons_succ, List.getElem_cons_zero, Act.put, List.setIfInBounds_toArray, List.set_cons_zero, List.set_cons_succ]
    refine wpAnyH_ready (rs := [11]) (by kernel_rfl) (by simp) ?_
    refine AllReadyH.cons rfl (fun Kc hKc => ?_) AllReadyH.nil
    simp only [List.getElem_toArray, List.getElem_cons_succ, List.getElem_cons_zero]
    rw [if_pos (by rfl)]
    go_wp2_with fail
    refine (CK1 _ (HB.out _ KB).2.1).mono ?_
    rintro e wE ⟨rfl, EM⟩
    replace X0 := X0.below EM
    replace X3 := X3.below EM
    replace X5 := X5.below EM
    replace KB := below_then KB EM
    replace DB := below_then DB EM
    clear EM
    go_wp2_with fail
    refine hKc.out _ _ (⟨X0, X3, X5⟩) (fun hHeld => ?_)
    clear hKc Kc
    refine wpAnyH_ready (rs := [14]) (by kernel_rfl) (by simp) ?_
    refine AllReadyH.cons rfl (fun Kc hKc => ?_) AllReadyH.nil
    simp only [List.getElem_toArray, List.getElem_cons_succ, List.getElem_cons_zero]
    rw [if_pos (by rfl)]
    go_wp2_with fail
    refine (RK1 _ (HB.out _ KB).1).mono ?_
    rintro e wE ⟨rfl, EM⟩
    replace X0 := X0.below EM
    replace X3 := X3.below EM
    replace X5 := X5.below EM
    replace KB := below_then KB EM
    replace DB := below_then DB EM
    clear EM
    go_wp2_with fail
    refine hKc.out _ _ (⟨X0, X3, X5⟩) (fun hHeld => ?_)
    clear hKc Kc
    refine wpAnyH_take (i := 15) (v := (.bool true)) rfl (by kernel_rfl) (by kernel_rfl) (by kernel_rfl) (fun _ _ _ h => h) (Or.inl ⟨by rfl, ?_⟩) (by assumption) ?_
    · intro w' hSw
      go_simp
    simp only [List.getElem_toArray, List.getElem_cons_succ, List.getElem_cons_zero, Act.put, List.setIfInBounds_toArray, List.set_cons_zero, List.set_cons_succ]
    refine wpAnyH_take (i := 16) (v := (.bool true)) rfl (by kernel_rfl) (by kernel_rfl) (by kernel_rfl) (fun _ _ _ h => h) (Or.inl ⟨by rfl, ?_⟩) (by assumption) ?_
    · intro w' hSw
      go_simp
    simp only [List.getElem_toArray, List.getElem_cons_succ, List.getElem_cons_zero, Act.put, List.setIfInBounds_toArray, List.set_cons_zero, List.set_cons_succ]
    refine wpAnyH_take (i := 17) (v := (.bool true)) rfl (by kernel_rfl) (by kernel_rfl) (by kernel_rfl) (fun _ _ _ h => h) (Or.inl ⟨by rfl, ?_⟩) (by assumption) ?_
    · intro w' hSw
      go_simp
    simp only [List.getElem_toArray, List.getElem_cons_succ, List.getElem_cons_zero, Act.put, List.setIfInBounds_toArray, List.set_cons_zero, List.set_cons_succ]
    refine wpAnyH_take (i := 18) (v := .agg #[.int .i64 C.V, .int .i64 C.D, .int .i64 C.Hd, .int .i64 C.H, .int .i64 C.L]) rfl (by kernel_rfl) (by kernel_rfl) (by kernel_rfl) (fun _ _ _ h => h) (yields_row (by rfl) 23 _ rfl w.heap.size rfl 23 #[.int .i64 C.V, .int .i64 C.D, .int .i64 C.Hd, .int .i64 C.H, .int .i64 C.L] _ (fun w' hS => hS.1) Try.underlying23 rfl Try.infoCf) (by assumption) ?_
    simp only [List.getElem_toArray, List.getElem_cons_succ, List.getElem_cons_zero, Act.put, List.setIfInBounds_toArray, List.set_cons_zero, List.set_cons_succ]
    refine wpAnyH_take (i := 19) (v := (.slice ao n ca)) rfl (by kernel_rfl) (by kernel_rfl) (by kernel_rfl) (fun _ _ _ h => h) (Or.inl ⟨by rfl, ?_⟩) (by assumption) ?_
    · intro w' hSw
      go_simp
    simp only [List.getElem_toArray, List.getElem_cons_succ, List.getElem_cons_zero, Act.put, List.setIfInBounds_toArray, List.set_cons_zero, List.set_cons_succ]
    refine wpAnyH_take (i := 21) (v := .agg #[.int .i64 C.V, .int .i64 C.D, .int .i64 C.Hd, .int .i64 C.H, .int .i64 C.L]) rfl (by kernel_rfl) (by kernel_rfl) (by kernel_rfl) (fun _ _ _ h => h) (yields_row (by rfl) 23 _ rfl w.heap.size rfl 23 #[.int .i64 C.V, .int .i64 C.D, .int .i64 C.Hd, .int .i64 C.H, .int .i64 C.L] _ (fun w' hS => hS.1) Try.underlying23 rfl Try.infoCf) (by assumption) ?_
    simp only [List.getElem_toArray, List.getElem_cons_succ, List.getElem_cons_zero, Act.put, List.setIfInBounds_toArray, List.set_cons_zero, List.set_cons_succ]
    refine wpAnyH_take (i := 22) (v := (.slice ao n ca)) rfl (by kernel_rfl) (by kernel_rfl) (by kernel_rfl) (fun _ _ _ h => h) (Or.inl ⟨by rfl, ?_⟩) (by assumption) ?_
    · intro w' hSw
      go_simp
    simp only [List.getElem_toArray, List.getElem_cons_succ, List.getElem_cons_zero, Act.put, List.setIfInBounds_toArray, List.set_cons_zero, List.set_cons_succ]
    refine wpAnyH_ready (rs := [20]) (by kernel_rfl) (by simp) ?_
    refine AllReadyH.cons rfl (fun Kc hKc => ?_) AllReadyH.nil
    simp only [List.getElem_toArray, List.getElem_cons_succ, List.getElem_cons_zero]
    rw [if_pos (by rfl)]
    go_wp2_with fail
    refine (PR1 _ (HB.out _ KB).2.2).mono ?_
    rintro e wE ⟨rfl, EM⟩
    replace X0 := X0.below EM
    replace X3 := X3.below EM
    replace X5 := X5.below EM
    replace KB := below_then KB EM
    replace DB := below_then DB EM
    clear EM
    go_wp2_with fail
    refine hKc.out _ _ (⟨X0, X3, X5⟩) (fun hHeld => ?_)
    clear hKc Kc
    refine wpAnyH_ready (rs := [23]) (by kernel_rfl) (by simp) ?_
    refine AllReadyH.cons rfl (fun Kc hKc => ?_) AllReadyH.nil
    simp only [List.getElem_toArray, List.getElem_cons_succ, List.getElem_cons_zero]
    rw [if_pos (by rfl)]
    go_wp2_with fail
    refine (RP1 _ (HB.out _ KB).2.2).mono ?_
    rintro e wE ⟨rfl, EM⟩
    replace X0 := X0.below EM
    replace X3 := X3.below EM
    replace X5 := X5.below EM
    replace KB := below_then KB EM
    replace DB := below_then DB EM
    clear EM
    go_wp2_with fail
    refine hKc.out _ _ (⟨X0, X3, X5⟩) (fun hHeld => ?_)
    clear hKc Kc
    refine wpAnyH_take (i := 24) (v := (.bool true)) rfl (by kernel_rfl) (by kernel_rfl) (by kernel_rfl) (fun _ _ _ h => h) (Or.inl ⟨by rfl, ?_⟩) (by assumption) ?_
    · intro w' hSw
      go_simp
    simp only [List.getElem_toArray, List.getElem_cons_succ, List.getElem_cons_zero, Act.put, List.setIfInBounds_toArray, List.set_cons_zero, List.set_cons_succ]
    refine wpAnyH_take (i := 25) (v := (.bool true)) rfl (by kernel_rfl) (by kernel_rfl) (by kernel_rfl) (fun _ _ _ h => h) (Or.inl ⟨by rfl, ?_⟩) (by assumption) ?_
    · intro w' hSw
      go_simp
    simp only [List.getElem_toArray, List.getElem_cons_succ, List.getElem_cons_zero, Act.put, List.setIfInBounds_toArray, List.set_cons_zero, List.set_cons_succ]
    refine wpAnyH_take (i := 26) (v := (.bool true)) rfl (by kernel_rfl) (by kernel_rfl) (by kernel_rfl) (fun _ _ _ h => h) (Or.inl ⟨by rfl, ?_⟩) (by assumption) ?_
    · intro w' hSw
      go_simp
    simp only [List.getElem_toArray, List.getElem_cons_succ, List.getElem_cons_zero, Act.put, List.setIfInBounds_toArray, List.set_cons_zero, List.set_cons_succ]
    refine wpAnyH_done (by kernel_rfl) ?_ _
    clear hHeld
    go_wp2_with fail
    go_ret
    exact ⟨rfl, DB⟩
end Go.Proofs.Ytlghodjiiajapaa

/- The given statement on ModelChecks: at every input the law returns true and its arguments read as before; no condition. -/
namespace Go.Proofs.Ytlghodjiiajapaa.modelChecks
open Go.ChangeShapes Go.WideShapes Go.ChangeAt Go.RowKit
set_option linter.unusedVariables false
set_option maxRecDepth 100000 in
theorem lifted (os : Os) (started : os.Started) (H : Type) (enc : TypeId × Value → H) :
    ReturnsInHanded {} Try.checked os 3 .any (Rows.modelChecksSpec.pre6 enc Try.prog Try.f3 Rows.modelChecksRow.domain false) (Rows.modelChecksSpec.post enc Try.prog Try.f3 false true false false) := by
  refine returnsInHanded_of_change (C := Try.checked) Try.own started (by kernel_rfl) Try.func3
    (ChangeSpec.witness6 (enc := enc) (C := Try.checked) false ⟨#[], #[.agg #[.int .i64 0, .int .i64 0, .int .i64 0, .int .i64 0, .int .i64 0], .agg #[.int .i64 0, .int .i64 0, .slice none 0 0, .slice none 0 0, .slice none 0 0, .int .i64 0, .int .i64 0, .slice none 0 0], .slice none 0 0], []⟩ 8 (by kernel_rfl) (by kernel_rfl) (by kernel_rfl) (by kernel_rfl)) ?_
  intro W base args ds gs before hval0 hW _ _
  have hval : ∀ (j : Nat) t v, Try.f3.params[j]? = some t → args[j]? = some v → Value.okWide Try.prog W .any base t v := hval0
  have hW' := hW
  obtain ⟨p, q, hA0, hV, rfl, _, _⟩ := hW
  have hA : DataW.TrodAll enc Try.prog W 0 (fun _ => true) true Try.f3.params.toList args.toList ds p := hA0
  rw [Try.params3] at hA hval
  obtain ⟨v0, vs0, d0, ds0, p0, q0, hargs, rfl, rfl, h0, r0⟩ := trodAll_cons hA
  obtain ⟨v1, vs1, d1, ds1, p1, q1, rfl, rfl, rfl, h1, r1⟩ := trodAll_cons r0
  obtain ⟨v2, vs2, d2, ds2, p2, q2, rfl, rfl, rfl, h2, r2⟩ := trodAll_cons r1
  obtain ⟨rfl, rfl, rfl⟩ := trodAll_nil r2
  obtain rfl : args = #[v0, v1, v2] := by cases args; simp_all
  obtain ⟨rfl, rfl⟩ := trodVars_none hV
  have k0 := h0
  obtain ⟨C0, rfl, g0⟩ := viewCfg (hval 0 _ v0 rfl rfl) h0
  have k1 := h1
  obtain ⟨vv1, X1, rfl, g1⟩ := viewWt (hval 1 _ v1 rfl rfl) h1
  have k2 := h2
  obtain ⟨a2, n2, c2, Z2, rfl, g2⟩ := viewI (hval 2 _ v2 rfl rfl) h2
  clear hA0 hval0
  simp only [List.append_nil] at hW'
  have hlt : ∀ x ∈ p0 ++ p1 ++ p2, x.block < W.heap.size := fun x hx => by
    have hx2 := hx
    exact hW'.lt x (by grind)
  refine (modelChecks_walk C0 vv1 X1 a2 n2 c2 Z2 W g0 g1 g2).mono fun e W' ⟨he, hb⟩ => ?_
  subst he
  exact ⟨_, rfl, _, _, _, [], _, [], hW', trodAll_mk1 (shut_bool Try.underlying4 true), trodAll_cons_mk (Below.trod Try.laidOut (by kernel_rfl) (of_decide_eq_true (by kernel_rfl)) k0 hb (fun x hx => hlt x (by simp [hx]))) (trodAll_cons_mk (Below.trod Try.laidOut (by kernel_rfl) (of_decide_eq_true (by kernel_rfl)) k1 hb (fun x hx => hlt x (by simp [hx]))) (trodAll_cons_mk (Below.trod Try.laidOut (by kernel_rfl) (of_decide_eq_true (by kernel_rfl)) k2 hb (fun x hx => hlt x (by simp [hx]))) trodAll_mk0)), rfl, hb.frame _, fun h => by cases h⟩
end Go.Proofs.Ytlghodjiiajapaa.modelChecks
namespace Go.Proofs.Ytlghodjiiajapaa
/-- The given statement. -/
theorem modelChecks_holds : Rows.ModelChecksSaid :=
  OpenClaim.holds_of_wide 3 Try.f3 rfl rfl rfl rfl rfl rfl rfl ⟨rfl, rfl, rfl, rfl, rfl⟩ rfl rfl rfl rfl rfl (by kernel_rfl) Try.func3 (by kernel_rfl)
    (of_decide_eq_true (by kernel_rfl)) (by unfold Func.isWrapper; first | (rw [if_pos (by decide +kernel)]; kernel_rfl) | (rw [if_neg (by decide +kernel)]; exact ⟨rfl, rfl⟩))
    (fun os started H enc _ => modelChecks.lifted os started H enc)
#print axioms modelChecks_holds
end Go.Proofs.Ytlghodjiiajapaa
