/- WireApart's walk: unlike messages have unlike frames. -/
import Derived.Test.YtmcjcmddijikbaaDoorWrView
import Derived.Test.YtmcjcmddijikbaaDoorLate
namespace Go.Proofs.YtmcjcmddijikbaaDoor
open Go.ChangeShapes Go.WideShapes Go.ChangeAt Go.RowKit
theorem mL_congr {g h : Nat → Int} (H : ∀ i, i < 10 → g i = h i) (A : List Int) (t : ByteArray) : mL g A t = mL h A t := by
  unfold mL nmL
  congr 1
  apply List.map_congr_left
  intro i hi
  rw [H i (by simpa using hi)]
theorem mL_inj {g h : Nat → Int} {A A' : List Int} {t t' : ByteArray} (hR : Rt g A t.size) (hR' : Rt h A' t'.size) (H : mL g A t = mL h A' t') : (∀ i, i < 10 → g i = h i) ∧ t = t' ∧ A = A' := by
  unfold mL at H
  have hn : ∀ (g : Nat → Int) (A : List Int) (tl : Nat), Rt g A tl → ∀ n ∈ nmL g, n ≤ 1099511627776 := fun g A tl hR n hn => by
    unfold nmL at hn
    obtain ⟨i, hi, rfl⟩ := List.mem_map.1 hn
    have := hR.num i (by simpa using hi)
    omega
  have ht : ∀ (g : Nat → Int) (A : List Int) (tl : Nat), Rt g A tl → ∀ n ∈ tokL A, n ≤ 255 := fun g A tl hR n hn => by
    unfold tokL at hn
    obtain ⟨x, hx, rfl⟩ := List.mem_map.1 hn
    obtain ⟨k, hk, rfl⟩ := List.getElem_of_mem hx
    have := hR.tok k
    unfold el at this
    rw [List.getD_eq_getElem?_getD, List.getElem?_eq_getElem hk] at this
    simp only [Option.getD_some] at this
    omega
  have l1 := hR.few
  have l2 := hR'.few
  have l3 := hR.len
  have l4 := hR'.len
  obtain ⟨e1, e2, e3⟩ := msgL_inj (by simp [nmL]) (hn g A _ hR) (hn h A' _ hR') (ht g A _ hR) (ht h A' _ hR') (by simp [tokL]; omega) (by simp [tokL]; omega) (by show t.size ≤ _; omega) (by show t'.size ≤ _; omega) H
  refine ⟨fun i hi => ?_, ?_, ?_⟩
  · have q := congrArg (fun l => l.getD i 0) e1
    unfold nmL at q
    simp only [List.getD_eq_getElem?_getD, List.getElem?_map, List.getElem?_range hi] at q
    simp only [Option.map_some, Option.getD_some] at q
    have a := hR.num i hi
    have b := hR'.num i hi
    omega
  · rw [← txt_of t, ← txt_of t', e3]
  · have back : ∀ (g : Nat → Int) (A : List Int) (tl : Nat), Rt g A tl → (tokL A).map (fun n : Nat => (n : Int)) = A := fun g A tl hR => by
      unfold tokL
      rw [List.map_map]
      conv => rhs; rw [← List.map_id A]
      apply List.map_congr_left
      intro x hx
      obtain ⟨k, hk, rfl⟩ := List.getElem_of_mem hx
      have := hR.tok k
      unfold el at this
      rw [List.getD_eq_getElem?_getD, List.getElem?_eq_getElem hk] at this
      simp only [Option.getD_some] at this
      simp only [Function.comp, id_eq]
      omega
    rw [← back g A _ hR, ← back h A' _ hR', e2]
theorem yields_row {ops : Array Oper} {S : World → Prop} {op : Oper} {a : Act} (hw : Region.wanted op (yielded ops a.tmps) = true) (ty : TypeId) (x : Operand) (ho : op.op = .load ty x)
    (g : Nat) (hx : a.eval x = .pointer (some ⟨g, 0, none⟩)) (T : TypeId) (cs : Array Value) (d : TypeDesc) (hS : ∀ w, S w → Blk w g T cs) (hu : Tryd.prog.underlying ty = some d) (hd : d.isRow = true) (hi : (Tryd.prog.info? ty).map (·.size) = some cs.size) :
    YieldsIf Tryd.prog ops S op (.agg cs) a := by
  have := yieldsIf_load_mid (P := Tryd.prog) (S := S) hw ty x ho g 0 hx cs.toList d (fun w h j v hv => by rw [Nat.zero_add]; exact (hS w h).cell j (by simpa using hv)) hu hd (by simpa using hi)
  simpa using this
set_option maxRecDepth 100000 in
set_option maxHeartbeats 4000000 in
theorem wireApart_walk (g : Nat → Int) (ao : Option Addr) (n ca : Nat) (A : List Int) (t : ByteArray) (h : Nat → Int) (ao2 : Option Addr) (n2 ca2 : Nat) (A' : List Int) (t2 : ByteArray) (w : World) (hg : ∀ k, k < 10 → -9223372036854775808 ≤ g k ∧ g k ≤ 9223372036854775807) (hA : IArg w ao n ca A) (hh : ∀ k, k < 10 → -9223372036854775808 ≤ h k ∧ h k ≤ 9223372036854775807) (hA' : IArg w ao2 n2 ca2 A') (hE : Env w) :
   Calls Tryd.prog 7 #[msgV g (.slice ao n ca) t, msgV h (.slice ao2 n2 ca2) t2] w fun e w' => e = .returned (.bool true) ∧ Below w.heap.size w w' := by
  have AW := fun W (hW : Env W) => awake15_any W hW
  have X0 := blk_new w 24 (msgC g (.slice ao n ca) t)
  have B0 : Below w.heap.size w (w.alloc (.cells (msgC g (.slice ao n ca) t) 24)) := below_alloc _ _
  have s0 : (w.alloc (.cells (msgC g (.slice ao n ca) t) 24)).heap.size = w.heap.size + 1 := by simp
  generalize hw0 : w.alloc (.cells (msgC g (.slice ao n ca) t) 24) = w0 at *
  have Y0 := blk_new w0 24 (msgC h (.slice ao2 n2 ca2) t2)
  have B1 : Below w0.heap.size w0 (w0.alloc (.cells (msgC h (.slice ao2 n2 ca2) t2) 24)) := below_alloc _ _
  have s1 : (w0.alloc (.cells (msgC h (.slice ao2 n2 ca2) t2) 24)).heap.size = w0.heap.size + 1 := by simp
  generalize hw1 : w0.alloc (.cells (msgC h (.slice ao2 n2 ca2) t2) 24) = w1 at *
  replace X0 := X0.next B1
  have D := below_then B0 B1
  have S0 : Hid (w0.heap.size = w.heap.size + 1 ∧ w1.heap.size = w.heap.size + 2) := ⟨s0, by omega⟩
  have HV : Hid (∀ W, Below w.heap.size w W → Env W) := fun W hW => hE.next hW
  clear s0 s1 B0 B1 hE
  have FA : Hid (∀ W, Below w.heap.size w W → _) := fun W hW => fewM_any g ao n ca A t W (hA.below hW)
  have FB : Hid (∀ W, Below w.heap.size w W → _) := fun W hW => fewM_any h ao2 n2 ca2 A' t2 W (hA'.below hW)
  have e0 := txt_same ⟨#[]⟩
  have lA : (cutA A).length ≤ 140 := by rw [List.length_take]; omega
  have lB : (cutA A').length ≤ 140 := by rw [List.length_take]; omega
  have cA : (cutA A).take 140 = cutA A := cutA_small lA
  have cB : (cutA A').take 140 = cutA A' := cutA_small lB
  have uA := cutT_cut t
  have uB := cutT_cut t2
  clear hA hA'
  generalize cutA A = A1 at *
  generalize cutT t = t1 at *
  generalize cutA A' = A2 at *
  generalize cutT t2 = u1 at *
  go_enter Tryd.func7, Tryd.ntmps7
  go_wp2_with fail
  clear hw0 hw1
  replace X0 : Blk w1.drew w.heap.size 24 (msgC g (.slice ao n ca) t) := X0
  replace Y0 : Blk w1.drew w0.heap.size 24 (msgC h (.slice ao2 n2 ca2) t2) := Y0
  replace D := D.drew
  have hz1 : Hid (w1.drew.heap.size = w.heap.size + 2) := S0.out.2
  refine wp_region_late (S := fun w' => Blk w' w0.heap.size 24 (msgC h (.slice ao2 n2 ca2) t2)) 5 (by kernel_rfl) Y0 (fun hHeld => ?_)
  generalize hA : w1.drew = wA at *
  clear hA
  refine wpLate_take (i := 2) (v := .agg (msgC h (.slice ao2 n2 ca2) t2)) rfl (by kernel_rfl) (by kernel_rfl) (by kernel_rfl) (by kernel_rfl) (by kernel_rfl) (fun _ _ _ h => h) (yields_row (by rfl) 24 _ rfl w0.heap.size rfl 24 (msgC h (.slice ao2 n2 ca2) t2) _ (fun w' hS => hS) Tryd.underlying24 rfl Tryd.infoMsg) (by assumption) ?_
  simp only [List.getElem_toArray, List.getElem_cons_succ, List.getElem_cons_zero, Act.put, List.setIfInBounds_toArray, List.set_cons_zero, List.set_cons_succ]
  refine wpLate_ready (rs := [0]) (by kernel_rfl) (by simp) ?_
  refine wpLate_cons rfl (fun Kc hKc => ?_) wpLate_nil
  simp only [List.getElem_toArray, List.getElem_cons_zero]
  rw [if_pos (by rfl)]
  refine wp_load_row 24 _ rfl w.heap.size rfl 24 (msgC g (.slice ao n ca) t) (0, 0) _ X0 Tryd.underlying24 rfl Tryd.infoMsg ?_
  refine hKc.out _ _ (fun _ _ => Y0) ?_
  clear hKc Kc
  simp only [Act.put, List.setIfInBounds_toArray, List.set_cons_zero, List.set_cons_succ]
  refine wpLate_ready (rs := [1]) (by kernel_rfl) (by simp) ?_
  refine wpLate_cons rfl (fun Kc hKc => ?_) wpLate_nil
  simp only [List.getElem_toArray, List.getElem_cons_succ, List.getElem_cons_zero]
  rw [if_pos (by rfl)]
  go_wp2_with fail
  refine (FA.out _ D).mono ?_
  rintro e w2 ⟨b, c, rfl, RA, nb, B2⟩
  replace X0 := X0.next B2
  replace Y0 := Y0.next B2
  replace D := below_then D B2
  go_wp2_with fail
  refine hKc.out _ _ (fun _ _ => Y0) ?_
  clear hKc Kc
  refine wpLate_ready (rs := [3]) (by kernel_rfl) (by simp) ?_
  refine wpLate_cons rfl (fun Kc hKc => ?_) wpLate_nil
  simp only [List.getElem_toArray, List.getElem_cons_succ, List.getElem_cons_zero]
  rw [if_pos (by rfl)]
  go_wp2_with fail
  refine (FB.out _ D).mono ?_
  rintro e w3 ⟨b2, c2, rfl, RB, nb2, B3⟩
  replace X0 := X0.next B3
  replace Y0 := Y0.next B3
  replace RA := RA.below B3
  replace D := below_then D B3
  go_wp2_with fail
  refine hKc.out _ _ (fun _ _ => Y0) ?_
  clear hKc Kc
  have onA := msg_one g (some ⟨b, 0, none⟩) A1.length c t1
  have onB := msg_one h (some ⟨b2, 0, none⟩) A2.length c2 u1
  refine wpLate_ready (rs := [4]) (by kernel_rfl) (by simp) ?_
  refine wpLate_cons rfl (fun Kc hKc => ?_) wpLate_nil
  simp only [List.getElem_toArray, List.getElem_cons_succ, List.getElem_cons_zero]
  rw [if_pos (by rfl)]
  refine wp_store_row 24 _ _ rfl w.heap.size (msgC g (.slice (some ⟨b, 0, none⟩) A1.length c) t1) rfl rfl 24 _ X0 Tryd.infoMsg rfl onA ?_
  have Y4 : Blk (w3.setRow w.heap.size (msgC g (.slice (some ⟨b, 0, none⟩) A1.length c) t1)) w0.heap.size 24 (msgC h (.slice ao2 n2 ca2) t2) := Y0.of_block (setRow_other _ _ _ _ (by have := S0.out; omega))
  refine hKc.out _ _ (fun _ _ => Y4) ?_
  clear hKc Kc
  simp only [Act.put]
  refine wpLate_ready (rs := [5]) (by kernel_rfl) (by simp) ?_
  refine wpLate_cons rfl (fun Kc hKc => ?_) wpLate_nil
  simp only [List.getElem_toArray, List.getElem_cons_succ, List.getElem_cons_zero]
  rw [if_pos (by rfl)]
  refine wp_store_row 24 _ _ rfl w0.heap.size (msgC h (.slice (some ⟨b2, 0, none⟩) A2.length c2) u1) rfl rfl 24 _ Y4 Tryd.infoMsg rfl onB ?_
  refine hKc.out _ _ (fun hne _ => absurd rfl hne) ?_
  clear hKc Kc
  simp only [Act.put]
  refine wpLate_done (by kernel_rfl) ?_ _
  have zz := S0.out
  have X5 : Blk ((w3.setRow w.heap.size (msgC g (.slice (some ⟨b, 0, none⟩) A1.length c) t1)).setRow w0.heap.size (msgC h (.slice (some ⟨b2, 0, none⟩) A2.length c2) u1)) w.heap.size 24 (msgC g (.slice (some ⟨b, 0, none⟩) A1.length c) t1) := (X0.row _).of_block (setRow_other _ _ _ _ (by omega))
  have Y5 : Blk ((w3.setRow w.heap.size (msgC g (.slice (some ⟨b, 0, none⟩) A1.length c) t1)).setRow w0.heap.size (msgC h (.slice (some ⟨b2, 0, none⟩) A2.length c2) u1)) w0.heap.size 24 (msgC h (.slice (some ⟨b2, 0, none⟩) A2.length c2) u1) := Y4.row _
  have lt3 : w.heap.size + 2 ≤ b ∧ w.heap.size + 2 ≤ b2 := by have := hz1.out; have := B2.size; omega
  have RA5 := (RA.row' (g := w.heap.size) (fun _ ad e => by injection e with e; subst e; show b ≠ w.heap.size; omega) (msgC g (.slice (some ⟨b, 0, none⟩) A1.length c) t1)).row' (g := w0.heap.size) (fun _ ad e => by injection e with e; subst e; show b ≠ w0.heap.size; omega) (msgC h (.slice (some ⟨b2, 0, none⟩) A2.length c2) u1)
  have RB5 := (RB.row' (g := w.heap.size) (fun _ ad e => by injection e with e; subst e; show b2 ≠ w.heap.size; omega) (msgC g (.slice (some ⟨b, 0, none⟩) A1.length c) t1)).row' (g := w0.heap.size) (fun _ ad e => by injection e with e; subst e; show b2 ≠ w0.heap.size; omega) (msgC h (.slice (some ⟨b2, 0, none⟩) A2.length c2) u1)
  have D5 := below_setRow (below_setRow D (Nat.le_refl _) (msgC g (.slice (some ⟨b, 0, none⟩) A1.length c) t1)) (show w.heap.size ≤ w0.heap.size by omega) (msgC h (.slice (some ⟨b2, 0, none⟩) A2.length c2) u1)
  generalize (w3.setRow w.heap.size (msgC g (.slice (some ⟨b, 0, none⟩) A1.length c) t1)).setRow w0.heap.size (msgC h (.slice (some ⟨b2, 0, none⟩) A2.length c2) u1) = w5 at *
  clear X0 Y0 Y4 RA RB D lt3 zz hHeld hz1 B2 B3 nb nb2 FA FB
  have V5 := HV.out _ D5
  have LA := lA
  have LB := lB
  by_cases ha : (chkN g A1 t1.size).1 = 0
  rotate_left
  · by_cases hb : (chkN h A2 u1.size).1 = 0
    · have WA := fun W (_ : Env W) (hW : IArg W (some ⟨b, 0, none⟩) A1.length c A1) => write_bad g (some ⟨b, 0, none⟩) A1.length c A1 t1 W hW hg ha
      generalize (chkN g A1 t1.size).2 = qA at WA
      generalize (chkN g A1 t1.size).1 = mA at WA
      have WB := fun W (hE : Env W) (hW : IArg W (some ⟨b2, 0, none⟩) A2.length c2 A2) => write_ok h (some ⟨b2, 0, none⟩) A2.length c2 A2 u1 W hE hW hh hb
      generalize txt (packL (mL h A2 u1)) = ZB at WB
      clear ha hb
      go_wp2_with (first
        | (refine wpList_load_row rfl 24 _ rfl w.heap.size rfl 24 (msgC g (.slice (some ⟨b, 0, none⟩) A1.length c) t1) (0, 0) _ X5 Tryd.underlying24 rfl Tryd.infoMsg ?_)
        | (go_at_call_of 10 b; refine (WA _ V5 RA5).mono ?_; rintro e w6 ⟨rfl, B6⟩; have V6 := V5.next B6; have X6 := X5.next B6; have Y6 := Y5.next B6; have RA6 := RA5.below B6; have RB6 := RB5.below B6; have D6 := below_then D5 B6)
        | (refine wpList_load_row rfl 24 _ rfl w0.heap.size rfl 24 (msgC h (.slice (some ⟨b2, 0, none⟩) A2.length c2) u1) (0, 0) _ Y6 Tryd.underlying24 rfl Tryd.infoMsg ?_)
        | (go_at_call_of 10 b2; refine (WB _ V6 RB6).mono ?_; rintro e w7 ⟨rfl, B7⟩; have V7 := V6.next B7; have X7 := X6.next B7; have Y7 := Y6.next B7; have RA7 := RA6.below B7; have RB7 := RB6.below B7; have D7 := below_then D6 B7)
        | (go_at_call 14; refine (AW _ V7).mono ?_; rintro e w8 ⟨rfl, B8⟩))
      go_ret
      exact ⟨rfl, below_then D7 B8⟩
    · have WA := fun W (_ : Env W) (hW : IArg W (some ⟨b, 0, none⟩) A1.length c A1) => write_bad g (some ⟨b, 0, none⟩) A1.length c A1 t1 W hW hg ha
      generalize (chkN g A1 t1.size).2 = qA at WA
      generalize (chkN g A1 t1.size).1 = mA at WA
      have WB := fun W (_ : Env W) (hW : IArg W (some ⟨b2, 0, none⟩) A2.length c2 A2) => write_bad h (some ⟨b2, 0, none⟩) A2.length c2 A2 u1 W hW hh hb
      generalize (chkN h A2 u1.size).2 = qB at WB
      generalize (chkN h A2 u1.size).1 = mB at WB
      clear ha hb
      go_wp2_with (first
        | (refine wpList_load_row rfl 24 _ rfl w.heap.size rfl 24 (msgC g (.slice (some ⟨b, 0, none⟩) A1.length c) t1) (0, 0) _ X5 Tryd.underlying24 rfl Tryd.infoMsg ?_)
        | (go_at_call_of 10 b; refine (WA _ V5 RA5).mono ?_; rintro e w6 ⟨rfl, B6⟩; have V6 := V5.next B6; have X6 := X5.next B6; have Y6 := Y5.next B6; have RA6 := RA5.below B6; have RB6 := RB5.below B6; have D6 := below_then D5 B6)
        | (refine wpList_load_row rfl 24 _ rfl w0.heap.size rfl 24 (msgC h (.slice (some ⟨b2, 0, none⟩) A2.length c2) u1) (0, 0) _ Y6 Tryd.underlying24 rfl Tryd.infoMsg ?_)
        | (go_at_call_of 10 b2; refine (WB _ V6 RB6).mono ?_; rintro e w7 ⟨rfl, B7⟩; have V7 := V6.next B7; have X7 := X6.next B7; have Y7 := Y6.next B7; have RA7 := RA6.below B7; have RB7 := RB6.below B7; have D7 := below_then D6 B7)
        | (go_at_call 14; refine (AW _ V7).mono ?_; rintro e w8 ⟨rfl, B8⟩))
      go_ret
      exact ⟨rfl, below_then D7 B8⟩
  by_cases hb : (chkN h A2 u1.size).1 = 0
  rotate_left
  · have WA := fun W (hE : Env W) (hW : IArg W (some ⟨b, 0, none⟩) A1.length c A1) => write_ok g (some ⟨b, 0, none⟩) A1.length c A1 t1 W hE hW hg ha
    have WB := fun W (_ : Env W) (hW : IArg W (some ⟨b2, 0, none⟩) A2.length c2 A2) => write_bad h (some ⟨b2, 0, none⟩) A2.length c2 A2 u1 W hW hh hb
    generalize (chkN h A2 u1.size).2 = qB at WB
    generalize (chkN h A2 u1.size).1 = mB at WB
    generalize txt (packL (mL g A1 t1)) = ZA at WA
    clear ha hb
    go_wp2_with (first
      | (refine wpList_load_row rfl 24 _ rfl w.heap.size rfl 24 (msgC g (.slice (some ⟨b, 0, none⟩) A1.length c) t1) (0, 0) _ X5 Tryd.underlying24 rfl Tryd.infoMsg ?_)
      | (go_at_call_of 10 b; refine (WA _ V5 RA5).mono ?_; rintro e w6 ⟨rfl, B6⟩; have V6 := V5.next B6; have X6 := X5.next B6; have Y6 := Y5.next B6; have RA6 := RA5.below B6; have RB6 := RB5.below B6; have D6 := below_then D5 B6)
      | (refine wpList_load_row rfl 24 _ rfl w0.heap.size rfl 24 (msgC h (.slice (some ⟨b2, 0, none⟩) A2.length c2) u1) (0, 0) _ Y6 Tryd.underlying24 rfl Tryd.infoMsg ?_)
      | (go_at_call_of 10 b2; refine (WB _ V6 RB6).mono ?_; rintro e w7 ⟨rfl, B7⟩; have V7 := V6.next B7; have X7 := X6.next B7; have Y7 := Y6.next B7; have RA7 := RA6.below B7; have RB7 := RB6.below B7; have D7 := below_then D6 B7)
      | (go_at_call 14; refine (AW _ V7).mono ?_; rintro e w8 ⟨rfl, B8⟩))
    go_ret
    exact ⟨rfl, below_then D7 B8⟩
  have WA := fun W (hE : Env W) (hW : IArg W (some ⟨b, 0, none⟩) A1.length c A1) => write_ok g (some ⟨b, 0, none⟩) A1.length c A1 t1 W hE hW hg ha
  have WB := fun W (hE : Env W) (hW : IArg W (some ⟨b2, 0, none⟩) A2.length c2 A2) => write_ok h (some ⟨b2, 0, none⟩) A2.length c2 A2 u1 W hE hW hh hb
  have hRa := (rt_of_chk ha).1
  have hRb := (rt_of_chk hb).1
  have TA := fun W (hW : IArg W (some ⟨b, 0, none⟩) A1.length c A1) => told_any g (some ⟨b, 0, none⟩) A1.length c A1 t1 W hW
  have TB := fun W (hW : IArg W (some ⟨b2, 0, none⟩) A2.length c2 A2) => told_any h (some ⟨b2, 0, none⟩) A2.length c2 A2 u1 W hW
  rw [show cutA A1 = A1 from cA, uA] at TA
  rw [show cutA A2 = A2 from cB, uB] at TB
  have SM := fun W b3 c3 b4 c4 (h3 : IArg W (some ⟨b3, 0, none⟩) A1.length c3 A1) (h4 : IArg W (some ⟨b4, 0, none⟩) A2.length c4 A2) => same_any g (some ⟨b3, 0, none⟩) A1.length c3 A1 t1 h (some ⟨b4, 0, none⟩) A2.length c4 A2 u1 W h3 h4 (by omega) (by omega)
  by_cases hs : samM g A1 t1 h A2 u1 = true
  rotate_left
  · have hs' : samM g A1 t1 h A2 u1 = false := by simpa using hs
    have ne : ((txt (packL (mL g A1 t1))).toList == (txt (packL (mL h A2 u1))).toList) = false := txt_ne (fun e => hs ((samM_iff _ _ _ _ _ _).2 (mL_inj hRa hRb (packL_inj _ _ (by have := mL_len hRa; omega) (by have := mL_len hRb; omega) (txt_inj e)))))
    rw [hs'] at SM
    generalize txt (packL (mL g A1 t1)) = ZA at WA ne
    generalize txt (packL (mL h A2 u1)) = ZB at WB ne
    clear hs hs'
    clear ha hb hRa hRb hg hh cA cB uA uB
    go_wp2_with (first
      | (refine wpList_load_row rfl 24 _ rfl w.heap.size rfl 24 (msgC g (.slice (some ⟨b, 0, none⟩) A1.length c) t1) (0, 0) _ X5 Tryd.underlying24 rfl Tryd.infoMsg ?_)
      | (go_at_call_of 10 b; refine (WA _ V5 RA5).mono ?_; rintro e w6 ⟨rfl, B6⟩; have V6 := V5.next B6; have X6 := X5.next B6; have Y6 := Y5.next B6; have RA6 := RA5.below B6; have RB6 := RB5.below B6; have D6 := below_then D5 B6)
      | (refine wpList_load_row rfl 24 _ rfl w0.heap.size rfl 24 (msgC h (.slice (some ⟨b2, 0, none⟩) A2.length c2) u1) (0, 0) _ Y6 Tryd.underlying24 rfl Tryd.infoMsg ?_)
      | (go_at_call_of 10 b2; refine (WB _ V6 RB6).mono ?_; rintro e w7 ⟨rfl, B7⟩; have V7 := V6.next B7; have X7 := X6.next B7; have Y7 := Y6.next B7; have RA7 := RA6.below B7; have RB7 := RB6.below B7; have D7 := below_then D6 B7))
    clear X5 X6 Y5 Y6 RA5 RB5 RA6 RB6 V5 V6 D5 D6 WA WB
    refine wp_region_held_drew (S := fun w' => Blk w' w.heap.size 24 (msgC g (.slice (some ⟨b, 0, none⟩) A1.length c) t1) ∧ Blk w' w0.heap.size 24 (msgC h (.slice (some ⟨b2, 0, none⟩) A2.length c2) u1)) (by kernel_rfl) (⟨X7, Y7⟩) (fun hHeld => ?_)
    have V7d : Env w7.drew := V7.next ((Below.refl _ _).drew)
    have D7d := D7.drew
    have X7d : Blk w7.drew w.heap.size 24 (msgC g (.slice (some ⟨b, 0, none⟩) A1.length c) t1) := X7
    have Y7d : Blk w7.drew w0.heap.size 24 (msgC h (.slice (some ⟨b2, 0, none⟩) A2.length c2) u1) := Y7
    replace RA7 := RA7.below ((Below.refl _ w7).drew)
    replace RB7 := RB7.below ((Below.refl _ w7).drew)
    generalize hWd : w7.drew = wd at *
    clear hWd X7 Y7 V7 D7
    refine wpAnyH_ready (rs := [0]) (by kernel_rfl) (by simp) ?_
    refine AllReadyH.cons rfl (fun Kc hKc => ?_) AllReadyH.nil
    simp only [List.getElem_toArray, List.getElem_cons_zero]
    rw [if_pos (by rfl)]
    go_wp2_with fail
    refine (AW _ V7d).mono ?_
    rintro e w8 ⟨rfl, B8⟩
    replace X7d := X7d.next B8
    replace Y7d := Y7d.next B8
    replace RA7 := RA7.below B8
    replace RB7 := RB7.below B8
    replace D7d := below_then D7d B8
    go_wp2_with fail
    refine hKc.out _ _ (⟨X7d, Y7d⟩) (fun hHeld => ?_)
    clear hKc Kc
    refine wpAnyH_take (i := 1) (v := (.bool true)) rfl (by kernel_rfl) (by kernel_rfl) (by kernel_rfl) (fun _ _ _ h => h) (Or.inl ⟨by rfl, ?_⟩) (by assumption) ?_
    · intro w' hSw
      go_simp
    simp only [List.getElem_toArray, List.getElem_cons_succ, List.getElem_cons_zero, Act.put, List.setIfInBounds_toArray, List.set_cons_zero, List.set_cons_succ]
    refine wpAnyH_take (i := 2) (v := (.string ZA)) rfl (by kernel_rfl) (by kernel_rfl) (by kernel_rfl) (fun _ _ _ h => h) (Or.inl ⟨by rfl, ?_⟩) (by assumption) ?_
    · intro w' hSw
      go_simp
    simp only [List.getElem_toArray, List.getElem_cons_succ, List.getElem_cons_zero, Act.put, List.setIfInBounds_toArray, List.set_cons_zero, List.set_cons_succ]
    refine wpAnyH_take (i := 3) (v := (.string ZB)) rfl (by kernel_rfl) (by kernel_rfl) (by kernel_rfl) (fun _ _ _ h => h) (Or.inl ⟨by rfl, ?_⟩) (by assumption) ?_
    · intro w' hSw
      go_simp
    simp only [List.getElem_toArray, List.getElem_cons_succ, List.getElem_cons_zero, Act.put, List.setIfInBounds_toArray, List.set_cons_zero, List.set_cons_succ]
    refine wpAnyH_take (i := 4) (v := (.bool false)) rfl (by kernel_rfl) (by kernel_rfl) (by kernel_rfl) (fun _ _ _ h => h) (Or.inl ⟨by rfl, ?_⟩) (by assumption) ?_
    · intro w' hSw
      go_simp
    simp only [List.getElem_toArray, List.getElem_cons_succ, List.getElem_cons_zero, Act.put, List.setIfInBounds_toArray, List.set_cons_zero, List.set_cons_succ]
    refine wpAnyH_take (i := 5) (v := .agg (msgC g (.slice (some ⟨b, 0, none⟩) A1.length c) t1)) rfl (by kernel_rfl) (by kernel_rfl) (by kernel_rfl) (fun _ _ _ h => h) (yields_row (by rfl) 24 _ rfl w.heap.size rfl 24 (msgC g (.slice (some ⟨b, 0, none⟩) A1.length c) t1) _ (fun w' hS => hS.1) Tryd.underlying24 rfl Tryd.infoMsg) (by assumption) ?_
    simp only [List.getElem_toArray, List.getElem_cons_succ, List.getElem_cons_zero, Act.put, List.setIfInBounds_toArray, List.set_cons_zero, List.set_cons_succ]
    refine wpAnyH_take (i := 7) (v := .agg (msgC h (.slice (some ⟨b2, 0, none⟩) A2.length c2) u1)) rfl (by kernel_rfl) (by kernel_rfl) (by kernel_rfl) (fun _ _ _ h => h) (yields_row (by rfl) 24 _ rfl w0.heap.size rfl 24 (msgC h (.slice (some ⟨b2, 0, none⟩) A2.length c2) u1) _ (fun w' hS => hS.2) Tryd.underlying24 rfl Tryd.infoMsg) (by assumption) ?_
    simp only [List.getElem_toArray, List.getElem_cons_succ, List.getElem_cons_zero, Act.put, List.setIfInBounds_toArray, List.set_cons_zero, List.set_cons_succ]
    refine wpAnyH_ready (rs := [6]) (by kernel_rfl) (by simp) ?_
    refine AllReadyH.cons rfl (fun Kc hKc => ?_) AllReadyH.nil
    simp only [List.getElem_toArray, List.getElem_cons_succ, List.getElem_cons_zero]
    rw [if_pos (by rfl)]
    go_wp2_with fail
    refine (TA _ RA7).mono ?_
    rintro e w9 ⟨b3, c3, rfl, RT, nb3, B9⟩
    replace X7d := X7d.next B9
    replace Y7d := Y7d.next B9
    replace RB7 := RB7.below B9
    replace D7d := below_then D7d B9
    go_wp2_with fail
    refine hKc.out _ _ (⟨X7d, Y7d⟩) (fun hHeld => ?_)
    clear hKc Kc
    refine wpAnyH_ready (rs := [8]) (by kernel_rfl) (by simp) ?_
    refine AllReadyH.cons rfl (fun Kc hKc => ?_) AllReadyH.nil
    simp only [List.getElem_toArray, List.getElem_cons_succ, List.getElem_cons_zero]
    rw [if_pos (by rfl)]
    go_wp2_with fail
    refine (TB _ RB7).mono ?_
    rintro e wa ⟨b4, c4, rfl, RU, nb4, Ba⟩
    replace X7d := X7d.next Ba
    replace Y7d := Y7d.next Ba
    replace RT := RT.below Ba
    replace D7d := below_then D7d Ba
    go_wp2_with fail
    refine hKc.out _ _ (⟨X7d, Y7d⟩) (fun hHeld => ?_)
    clear hKc Kc
    refine wpAnyH_ready (rs := [9]) (by kernel_rfl) (by simp) ?_
    refine AllReadyH.cons rfl (fun Kc hKc => ?_) AllReadyH.nil
    simp only [List.getElem_toArray, List.getElem_cons_succ, List.getElem_cons_zero]
    rw [if_pos (by rfl)]
    go_wp2_with fail
    refine (SM _ b3 c3 b4 c4 RT RU).mono ?_
    rintro e wb ⟨rfl, Bb⟩
    replace X7d := X7d.next Bb
    replace Y7d := Y7d.next Bb
    replace D7d := below_then D7d Bb
    go_wp2_with fail
    refine hKc.out _ _ (⟨X7d, Y7d⟩) (fun hHeld => ?_)
    clear hKc Kc
    refine wpAnyH_take (i := 10) (v := (.bool true)) rfl (by kernel_rfl) (by kernel_rfl) (by kernel_rfl) (fun _ _ _ h => h) (Or.inl ⟨by rfl, ?_⟩) (by assumption) ?_
    · intro w' hSw
      go_simp
    simp only [List.getElem_toArray, List.getElem_cons_succ, List.getElem_cons_zero, Act.put, List.setIfInBounds_toArray, List.set_cons_zero, List.set_cons_succ]
    refine wpAnyH_take (i := 11) (v := (.bool true)) rfl (by kernel_rfl) (by kernel_rfl) (by kernel_rfl) (fun _ _ _ h => h) (Or.inl ⟨by rfl, ?_⟩) (by assumption) ?_
    · intro w' hSw
      go_simp
    simp only [List.getElem_toArray, List.getElem_cons_succ, List.getElem_cons_zero, Act.put, List.setIfInBounds_toArray, List.set_cons_zero, List.set_cons_succ]
    refine wpAnyH_take (i := 12) (v := (.bool true)) rfl (by kernel_rfl) (by kernel_rfl) (by kernel_rfl) (fun _ _ _ h => h) (Or.inl ⟨by rfl, ?_⟩) (by assumption) ?_
    · intro w' hSw
      go_simp
    simp only [List.getElem_toArray, List.getElem_cons_succ, List.getElem_cons_zero, Act.put, List.setIfInBounds_toArray, List.set_cons_zero, List.set_cons_succ]
    refine wpAnyH_done (by kernel_rfl) ?_ _
    clear hHeld
    go_wp2
    go_ret
    exact ⟨rfl, D7d⟩
  · obtain ⟨q1, q2, q3⟩ := (samM_iff _ _ _ _ _ _).1 hs
    have HE : mL h A2 u1 = mL g A1 t1 := by rw [← q2, ← q3]; exact (mL_congr q1 A1 t1).symm
    rw [HE] at WB
    rw [hs] at SM
    generalize txt (packL (mL g A1 t1)) = ZA at WA WB
    have SS := txt_same ZA
    clear q1 q2 q3 HE hs
    clear ha hb hRa hRb hg hh cA cB uA uB
    go_wp2_with (first
      | (refine wpList_load_row rfl 24 _ rfl w.heap.size rfl 24 (msgC g (.slice (some ⟨b, 0, none⟩) A1.length c) t1) (0, 0) _ X5 Tryd.underlying24 rfl Tryd.infoMsg ?_)
      | (go_at_call_of 10 b; refine (WA _ V5 RA5).mono ?_; rintro e w6 ⟨rfl, B6⟩; have V6 := V5.next B6; have X6 := X5.next B6; have Y6 := Y5.next B6; have RA6 := RA5.below B6; have RB6 := RB5.below B6; have D6 := below_then D5 B6)
      | (refine wpList_load_row rfl 24 _ rfl w0.heap.size rfl 24 (msgC h (.slice (some ⟨b2, 0, none⟩) A2.length c2) u1) (0, 0) _ Y6 Tryd.underlying24 rfl Tryd.infoMsg ?_)
      | (go_at_call_of 10 b2; refine (WB _ V6 RB6).mono ?_; rintro e w7 ⟨rfl, B7⟩; have V7 := V6.next B7; have X7 := X6.next B7; have Y7 := Y6.next B7; have RA7 := RA6.below B7; have RB7 := RB6.below B7; have D7 := below_then D6 B7))
    clear X5 X6 Y5 Y6 RA5 RB5 RA6 RB6 V5 V6 D5 D6 WA WB
    refine wp_region_held_drew (S := fun w' => Blk w' w.heap.size 24 (msgC g (.slice (some ⟨b, 0, none⟩) A1.length c) t1) ∧ Blk w' w0.heap.size 24 (msgC h (.slice (some ⟨b2, 0, none⟩) A2.length c2) u1)) (by kernel_rfl) (⟨X7, Y7⟩) (fun hHeld => ?_)
    have V7d : Env w7.drew := V7.next ((Below.refl _ _).drew)
    have D7d := D7.drew
    have X7d : Blk w7.drew w.heap.size 24 (msgC g (.slice (some ⟨b, 0, none⟩) A1.length c) t1) := X7
    have Y7d : Blk w7.drew w0.heap.size 24 (msgC h (.slice (some ⟨b2, 0, none⟩) A2.length c2) u1) := Y7
    replace RA7 := RA7.below ((Below.refl _ w7).drew)
    replace RB7 := RB7.below ((Below.refl _ w7).drew)
    generalize hWd : w7.drew = wd at *
    clear hWd X7 Y7 V7 D7
    refine wpAnyH_ready (rs := [0]) (by kernel_rfl) (by simp) ?_
    refine AllReadyH.cons rfl (fun Kc hKc => ?_) AllReadyH.nil
    simp only [List.getElem_toArray, List.getElem_cons_zero]
    rw [if_pos (by rfl)]
    go_wp2_with fail
    refine (AW _ V7d).mono ?_
    rintro e w8 ⟨rfl, B8⟩
    replace X7d := X7d.next B8
    replace Y7d := Y7d.next B8
    replace RA7 := RA7.below B8
    replace RB7 := RB7.below B8
    replace D7d := below_then D7d B8
    go_wp2_with fail
    refine hKc.out _ _ (⟨X7d, Y7d⟩) (fun hHeld => ?_)
    clear hKc Kc
    refine wpAnyH_take (i := 1) (v := (.bool true)) rfl (by kernel_rfl) (by kernel_rfl) (by kernel_rfl) (fun _ _ _ h => h) (Or.inl ⟨by rfl, ?_⟩) (by assumption) ?_
    · intro w' hSw
      go_simp
    simp only [List.getElem_toArray, List.getElem_cons_succ, List.getElem_cons_zero, Act.put, List.setIfInBounds_toArray, List.set_cons_zero, List.set_cons_succ]
    refine wpAnyH_take (i := 2) (v := (.string ZA)) rfl (by kernel_rfl) (by kernel_rfl) (by kernel_rfl) (fun _ _ _ h => h) (Or.inl ⟨by rfl, ?_⟩) (by assumption) ?_
    · intro w' hSw
      go_simp
    simp only [List.getElem_toArray, List.getElem_cons_succ, List.getElem_cons_zero, Act.put, List.setIfInBounds_toArray, List.set_cons_zero, List.set_cons_succ]
    refine wpAnyH_take (i := 3) (v := (.string ZA)) rfl (by kernel_rfl) (by kernel_rfl) (by kernel_rfl) (fun _ _ _ h => h) (Or.inl ⟨by rfl, ?_⟩) (by assumption) ?_
    · intro w' hSw
      go_simp
    simp only [List.getElem_toArray, List.getElem_cons_succ, List.getElem_cons_zero, Act.put, List.setIfInBounds_toArray, List.set_cons_zero, List.set_cons_succ]
    refine wpAnyH_take (i := 4) (v := (.bool true)) rfl (by kernel_rfl) (by kernel_rfl) (by kernel_rfl) (fun _ _ _ h => h) (Or.inl ⟨by rfl, ?_⟩) (by assumption) ?_
    · intro w' hSw
      go_simp
    simp only [List.getElem_toArray, List.getElem_cons_succ, List.getElem_cons_zero, Act.put, List.setIfInBounds_toArray, List.set_cons_zero, List.set_cons_succ]
    refine wpAnyH_take (i := 5) (v := .agg (msgC g (.slice (some ⟨b, 0, none⟩) A1.length c) t1)) rfl (by kernel_rfl) (by kernel_rfl) (by kernel_rfl) (fun _ _ _ h => h) (yields_row (by rfl) 24 _ rfl w.heap.size rfl 24 (msgC g (.slice (some ⟨b, 0, none⟩) A1.length c) t1) _ (fun w' hS => hS.1) Tryd.underlying24 rfl Tryd.infoMsg) (by assumption) ?_
    simp only [List.getElem_toArray, List.getElem_cons_succ, List.getElem_cons_zero, Act.put, List.setIfInBounds_toArray, List.set_cons_zero, List.set_cons_succ]
    refine wpAnyH_take (i := 7) (v := .agg (msgC h (.slice (some ⟨b2, 0, none⟩) A2.length c2) u1)) rfl (by kernel_rfl) (by kernel_rfl) (by kernel_rfl) (fun _ _ _ h => h) (yields_row (by rfl) 24 _ rfl w0.heap.size rfl 24 (msgC h (.slice (some ⟨b2, 0, none⟩) A2.length c2) u1) _ (fun w' hS => hS.2) Tryd.underlying24 rfl Tryd.infoMsg) (by assumption) ?_
    simp only [List.getElem_toArray, List.getElem_cons_succ, List.getElem_cons_zero, Act.put, List.setIfInBounds_toArray, List.set_cons_zero, List.set_cons_succ]
    refine wpAnyH_ready (rs := [6]) (by kernel_rfl) (by simp) ?_
    refine AllReadyH.cons rfl (fun Kc hKc => ?_) AllReadyH.nil
    simp only [List.getElem_toArray, List.getElem_cons_succ, List.getElem_cons_zero]
    rw [if_pos (by rfl)]
    go_wp2_with fail
    refine (TA _ RA7).mono ?_
    rintro e w9 ⟨b3, c3, rfl, RT, nb3, B9⟩
    replace X7d := X7d.next B9
    replace Y7d := Y7d.next B9
    replace RB7 := RB7.below B9
    replace D7d := below_then D7d B9
    go_wp2_with fail
    refine hKc.out _ _ (⟨X7d, Y7d⟩) (fun hHeld => ?_)
    clear hKc Kc
    refine wpAnyH_ready (rs := [8]) (by kernel_rfl) (by simp) ?_
    refine AllReadyH.cons rfl (fun Kc hKc => ?_) AllReadyH.nil
    simp only [List.getElem_toArray, List.getElem_cons_succ, List.getElem_cons_zero]
    rw [if_pos (by rfl)]
    go_wp2_with fail
    refine (TB _ RB7).mono ?_
    rintro e wa ⟨b4, c4, rfl, RU, nb4, Ba⟩
    replace X7d := X7d.next Ba
    replace Y7d := Y7d.next Ba
    replace RT := RT.below Ba
    replace D7d := below_then D7d Ba
    go_wp2_with fail
    refine hKc.out _ _ (⟨X7d, Y7d⟩) (fun hHeld => ?_)
    clear hKc Kc
    refine wpAnyH_ready (rs := [9]) (by kernel_rfl) (by simp) ?_
    refine AllReadyH.cons rfl (fun Kc hKc => ?_) AllReadyH.nil
    simp only [List.getElem_toArray, List.getElem_cons_succ, List.getElem_cons_zero]
    rw [if_pos (by rfl)]
    go_wp2_with fail
    refine (SM _ b3 c3 b4 c4 RT RU).mono ?_
    rintro e wb ⟨rfl, Bb⟩
    replace X7d := X7d.next Bb
    replace Y7d := Y7d.next Bb
    replace D7d := below_then D7d Bb
    go_wp2_with fail
    refine hKc.out _ _ (⟨X7d, Y7d⟩) (fun hHeld => ?_)
    clear hKc Kc
    refine wpAnyH_take (i := 10) (v := (.bool true)) rfl (by kernel_rfl) (by kernel_rfl) (by kernel_rfl) (fun _ _ _ h => h) (Or.inl ⟨by rfl, ?_⟩) (by assumption) ?_
    · intro w' hSw
      go_simp
    simp only [List.getElem_toArray, List.getElem_cons_succ, List.getElem_cons_zero, Act.put, List.setIfInBounds_toArray, List.set_cons_zero, List.set_cons_succ]
    refine wpAnyH_take (i := 11) (v := (.bool true)) rfl (by kernel_rfl) (by kernel_rfl) (by kernel_rfl) (fun _ _ _ h => h) (Or.inl ⟨by rfl, ?_⟩) (by assumption) ?_
    · intro w' hSw
      go_simp
    simp only [List.getElem_toArray, List.getElem_cons_succ, List.getElem_cons_zero, Act.put, List.setIfInBounds_toArray, List.set_cons_zero, List.set_cons_succ]
    refine wpAnyH_take (i := 12) (v := (.bool true)) rfl (by kernel_rfl) (by kernel_rfl) (by kernel_rfl) (fun _ _ _ h => h) (Or.inl ⟨by rfl, ?_⟩) (by assumption) ?_
    · intro w' hSw
      go_simp
    simp only [List.getElem_toArray, List.getElem_cons_succ, List.getElem_cons_zero, Act.put, List.setIfInBounds_toArray, List.set_cons_zero, List.set_cons_succ]
    refine wpAnyH_done (by kernel_rfl) ?_ _
    clear hHeld
    go_wp2
    go_ret
    exact ⟨rfl, D7d⟩
end Go.Proofs.YtmcjcmddijikbaaDoor
