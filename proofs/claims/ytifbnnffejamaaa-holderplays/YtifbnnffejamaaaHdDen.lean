/- A holder's wants that are denied, and what it gives back. Written by tools/genhden.py. -/
import Derived.Test.YtifbnnffejamaaaHdBel
namespace Go.Proofs.Ytifbnnffejamaaa
open Go.ChangeShapes Go.WideShapes Go.ChangeAt Go.RowKit Go.Maps
theorem results_s2 {fn : Func} {p u : Tmp} {ty : TypeId} (h : fn.results = #[.cell p ty, .tmp u]) (tmps : Array Value) (w : World) (g : Nat) (cs : Array Value)
    (hp : tmps.getD p undef = .pointer (some ⟨g, 0, none⟩)) (hl : (loadVar ty ⟨g, 0, none⟩).run Try.prog w = .ok (.agg cs) w) :
    (results fn tmps).run Try.prog w = .ok (.tuple #[.agg cs, tmps.getD u undef]) w := by
  have hp' : tmps[p]?.getD undef = .pointer (some ⟨g, 0, none⟩) := by simpa using hp
  simp [results, h, hp', asAddr, hl]
theorem results_s3 {fn : Func} {p u v : Tmp} {ty : TypeId} (h : fn.results = #[.cell p ty, .tmp u, .tmp v]) (tmps : Array Value) (w : World) (g : Nat) (cs : Array Value)
    (hp : tmps.getD p undef = .pointer (some ⟨g, 0, none⟩)) (hl : (loadVar ty ⟨g, 0, none⟩).run Try.prog w = .ok (.agg cs) w) :
    (results fn tmps).run Try.prog w = .ok (.tuple #[.agg cs, tmps.getD u undef, tmps.getD v undef]) w := by
  have hp' : tmps[p]?.getD undef = .pointer (some ⟨g, 0, none⟩) := by simpa using hp
  simp [results, h, hp', asAddr, hl]
/-- Why a want isn't open; 0: it is. -/
def denN (W : List (Int × Wn)) (x num : Int) : Int := match getM W x with
  | some v => if v.num = num then 0 else 14
  | none => 8
/-- A state that a call hands out: its maps are new and apart. -/
def New (B : Nat) (w : World) (mw mh : Nat) (W : List (Int × Wn)) (H : List (Int × Hv)) : Prop := MapAt Wn.val w mw W ∧ MapAt Hv.val w mh H ∧ mw ≠ mh ∧ B ≤ mw ∧ B ≤ mh
set_option maxRecDepth 100000 in
set_option maxHeartbeats 8000000 in
theorem hden_bad (li cn : Int) (mw mh : Option Nat) (x num : Int) (W : List (Int × Wn)) (H : List (Int × Hv)) (w : World) (hW : WnM w mw W) (hH : HvM w mh H) (hl : W.length ≤ 100000) (hk : H.length ≤ 100000) (hx : -9223372036854775808 ≤ x ∧ x ≤ 9223372036854775807) (hb : denN W x num ≠ 0) :
   Calls Try.prog 10 #[hsV li cn mw mh, .int .i64 x, .int .i64 num] w fun e w' => ∃ bw bh, e = .returned (.tuple #[hsV li cn (some bw) (some bh), .int .i64 (denN W x num)]) ∧ New w.heap.size w' bw bh W H ∧ Below w.heap.size w w' := by
  have X0 := blk_new w 26 #[.int .i64 li, .int .i64 cn, .map mw, .map mh]
  have B0 := belowA w (.cells #[.int .i64 li, .int .i64 cn, .map mw, .map mh] 26)
  have s0 : (w.alloc (.cells #[.int .i64 li, .int .i64 cn, .map mw, .map mh] 26)).heap.size = w.heap.size + 1 := by simp
  generalize hw0 : w.alloc (.cells #[.int .i64 li, .int .i64 cn, .map mw, .map mh] 26) = w0 at *
  have X1 := blk_new w0 26 #[.int .i64 0, .int .i64 0, .map none, .map none]
  have B1 := belowA w0 (.cells #[.int .i64 0, .int .i64 0, .map none, .map none] 26)
  have s1 : (w0.alloc (.cells #[.int .i64 0, .int .i64 0, .map none, .map none] 26)).heap.size = w.heap.size + 1 + 1 := by simp [s0]
  have X01 := X0.below B1
  rw [s0] at X1
  generalize hw1 : w0.alloc (.cells #[.int .i64 0, .int .i64 0, .map none, .map none] 26) = w1 at *
  have C := hcopied_any li cn mw mh W H w1 ((hW.below B0).below B1) ((hH.below B0).below B1) hl hk
  have HB : Hid (Below w.heap.size w w1) := below_then B0 B1
  have z1 : w.heap.size + 1 + 1 ≤ w1.heap.size := by omega
  have HL : Hid (∀ (W' : World) (b : Nat), MapAt Wn.val W' b W → _) := fun W' b h => (WnM.look (.inr ⟨b, rfl, h⟩) x hx : (Instr.lookup 23 (.map (some b)) (.int .i64 x) true).run Try.prog W' = .ok (.tuple #[((getM W x).getD Wn.zero).val, .bool (getM W x).isSome]) W')
  have HE : Hid (∀ (W' : World) (b : Nat), MapAt Wn.val W' b W → ∃ w', (Builtin.delete_ #[23, 3] 0 #[.map (some b), .int .i64 x]).run Try.prog W' = .ok (.tuple #[]) w' ∧ MapAt Wn.val w' b (delM W x) ∧ But b W' w' ∧ w'.heap.size = W'.heap.size) := fun W' b h => h.drop Try.underlying23 x hx _
  clear HE
  unfold denN at *
  generalize getM W x = o at *
  unfold hsV New at *
  clear B0 B1 hW hH s1
  rcases o with _ | h
  · obtain ⟨a, b, hab⟩ : ∃ a b : Int, Wn.zero = ⟨a, b⟩ := ⟨0, 0, rfl⟩
    simp only [Option.getD_none, Option.isSome_none, hab] at HL
    unfold Wn.val at HL
    simp only at HL
    clear hb
    go_enter Try.func10, Try.ntmps10
    go_wp2_with (first
      | (go_at_call 22; refine C.mono ?_; rintro e w2 ⟨bw, bh, rfl, Mw2, Mh2, hne, hbw, hbh, B2⟩; have z2 := B2.size; have X02 := X01.below B2; have X12 := X1.below B2; have X03 := X02.row #[.int .i64 li, .int .i64 cn, .map (some bw), .map (some bh)]; have X13 := X12.of_block (setRow_other w2 w.heap.size (w.heap.size + 1) #[.int .i64 li, .int .i64 cn, .map (some bw), .map (some bh)] (by omega)); have Mw := Mw2.keep (setRow_other w2 w.heap.size bw #[.int .i64 li, .int .i64 cn, .map (some bw), .map (some bh)] (by omega)); have Mh := Mh2.keep (setRow_other w2 w.heap.size bh #[.int .i64 li, .int .i64 cn, .map (some bw), .map (some bh)] (by omega)); have B3 := belowR (below_then HB.out B2) (Nat.le_refl w.heap.size) #[.int .i64 li, .int .i64 cn, .map (some bw), .map (some bh)]; have z3 : w2.heap.size ≤ (w2.setRow w.heap.size #[.int .i64 li, .int .i64 cn, .map (some bw), .map (some bh)]).heap.size := (by rw [setRow_size]; exact Nat.le_refl _); generalize hw3 : w2.setRow w.heap.size #[.int .i64 li, .int .i64 cn, .map (some bw), .map (some bh)] = w3 at *; have k3 : w3.cell? ⟨w.heap.size, 2, none⟩ = some (.map (some bw)) := X03.cell 2 rfl; have LK := HL.out w3 bw Mw; have XW := blk_new w3 74 #[.int .i64 0, .int .i64 0]; have BA := belowA w3 (.cells #[.int .i64 0, .int .i64 0] 74); have X0A := X03.below BA; have X1A := X13.below BA; have MwA := Mw.below BA; have MhA := Mh.below BA; have B3A := below_then B3 BA; generalize hwA : w3.alloc (.cells #[.int .i64 0, .int .i64 0] 74) = wA at *; have hlw := Mw.lt; have hlh := Mh.lt; have h0l := X03.lt; have XB := XW.row #[.int .i64 a, .int .i64 b]; have X0B := X0A.of_block (setRow_other wA w3.heap.size w.heap.size #[.int .i64 a, .int .i64 b] (by omega)); have X1B := X1A.of_block (setRow_other wA w3.heap.size (w.heap.size + 1) #[.int .i64 a, .int .i64 b] (by omega)); have MwB := MwA.keep (setRow_other wA w3.heap.size bw #[.int .i64 a, .int .i64 b] (by omega)); have MhB := MhA.keep (setRow_other wA w3.heap.size bh #[.int .i64 a, .int .i64 b] (by omega)); have BB := belowR B3A (show w.heap.size ≤ w3.heap.size by omega) #[.int .i64 a, .int .i64 b]; generalize hwB : wA.setRow w3.heap.size #[.int .i64 a, .int .i64 b] = wB at *; have kB0 : wB.cell? ⟨w3.heap.size, 0, none⟩ = some (.int .i64 a) := XB.cell 0 rfl; have kB1 : wB.cell? ⟨w3.heap.size, 1, none⟩ = some (.int .i64 b) := XB.cell 1 rfl; have kB2 : wB.cell? ⟨w.heap.size, 2, none⟩ = some (.map (some bw)) := X0B.cell 2 rfl)
      | (refine wpList_load_row rfl 26 _ rfl w.heap.size rfl 26 _ (0, 0) _ X01 Try.underlying26 rfl Try.infoHs ?_)
      | (refine wpList_store_row rfl 26 _ _ rfl w.heap.size _ rfl rfl 26 _ X02 Try.infoHs rfl (sall _ _ _ _) ?_; rw [hw3])
      | (refine wpList_store_row rfl 74 _ _ rfl w3.heap.size _ rfl rfl 74 _ XW Try.infoWn rfl (wall _ _) ?_; rw [hwB])
      | (refine wpList_load_row rfl 26 _ rfl w.heap.size rfl 26 _ (0, 0) _ X0B Try.underlying26 rfl Try.infoHs ?_)
      | (refine wpList_store_row rfl 26 _ _ rfl (w.heap.size + 1) _ rfl rfl 26 _ X1B Try.infoHs rfl (sall _ _ _ _) ?_))
    refine bodyPost_ret (results_s2 rfl _ _ (w.heap.size + 1) _ rfl (load_hs (X1B.row _))) rfl ?_
    refine ⟨bw, bh, rfl, ⟨MwB.keep (setRow_other _ _ _ _ (by omega)), MhB.keep (setRow_other _ _ _ _ (by omega)), hne, by omega, by omega⟩, belowR BB (by omega) _⟩
  · obtain ⟨a, b⟩ := h
    simp only at hb
    have hne0 : ¬ a = num := fun e => hb (if_pos e)
    simp only [if_neg hne0]
    simp only [Option.getD_some, Option.isSome_some] at HL
    unfold Wn.val at HL
    simp only at HL
    clear hb
    go_enter Try.func10, Try.ntmps10
    go_wp2_with (first
      | (go_at_call 22; refine C.mono ?_; rintro e w2 ⟨bw, bh, rfl, Mw2, Mh2, hne, hbw, hbh, B2⟩; have z2 := B2.size; have X02 := X01.below B2; have X12 := X1.below B2; have X03 := X02.row #[.int .i64 li, .int .i64 cn, .map (some bw), .map (some bh)]; have X13 := X12.of_block (setRow_other w2 w.heap.size (w.heap.size + 1) #[.int .i64 li, .int .i64 cn, .map (some bw), .map (some bh)] (by omega)); have Mw := Mw2.keep (setRow_other w2 w.heap.size bw #[.int .i64 li, .int .i64 cn, .map (some bw), .map (some bh)] (by omega)); have Mh := Mh2.keep (setRow_other w2 w.heap.size bh #[.int .i64 li, .int .i64 cn, .map (some bw), .map (some bh)] (by omega)); have B3 := belowR (below_then HB.out B2) (Nat.le_refl w.heap.size) #[.int .i64 li, .int .i64 cn, .map (some bw), .map (some bh)]; have z3 : w2.heap.size ≤ (w2.setRow w.heap.size #[.int .i64 li, .int .i64 cn, .map (some bw), .map (some bh)]).heap.size := (by rw [setRow_size]; exact Nat.le_refl _); generalize hw3 : w2.setRow w.heap.size #[.int .i64 li, .int .i64 cn, .map (some bw), .map (some bh)] = w3 at *; have k3 : w3.cell? ⟨w.heap.size, 2, none⟩ = some (.map (some bw)) := X03.cell 2 rfl; have LK := HL.out w3 bw Mw; have XW := blk_new w3 74 #[.int .i64 0, .int .i64 0]; have BA := belowA w3 (.cells #[.int .i64 0, .int .i64 0] 74); have X0A := X03.below BA; have X1A := X13.below BA; have MwA := Mw.below BA; have MhA := Mh.below BA; have B3A := below_then B3 BA; generalize hwA : w3.alloc (.cells #[.int .i64 0, .int .i64 0] 74) = wA at *; have hlw := Mw.lt; have hlh := Mh.lt; have h0l := X03.lt; have XB := XW.row #[.int .i64 a, .int .i64 b]; have X0B := X0A.of_block (setRow_other wA w3.heap.size w.heap.size #[.int .i64 a, .int .i64 b] (by omega)); have X1B := X1A.of_block (setRow_other wA w3.heap.size (w.heap.size + 1) #[.int .i64 a, .int .i64 b] (by omega)); have MwB := MwA.keep (setRow_other wA w3.heap.size bw #[.int .i64 a, .int .i64 b] (by omega)); have MhB := MhA.keep (setRow_other wA w3.heap.size bh #[.int .i64 a, .int .i64 b] (by omega)); have BB := belowR B3A (show w.heap.size ≤ w3.heap.size by omega) #[.int .i64 a, .int .i64 b]; generalize hwB : wA.setRow w3.heap.size #[.int .i64 a, .int .i64 b] = wB at *; have kB0 : wB.cell? ⟨w3.heap.size, 0, none⟩ = some (.int .i64 a) := XB.cell 0 rfl; have kB1 : wB.cell? ⟨w3.heap.size, 1, none⟩ = some (.int .i64 b) := XB.cell 1 rfl; have kB2 : wB.cell? ⟨w.heap.size, 2, none⟩ = some (.map (some bw)) := X0B.cell 2 rfl)
      | (refine wpList_load_row rfl 26 _ rfl w.heap.size rfl 26 _ (0, 0) _ X01 Try.underlying26 rfl Try.infoHs ?_)
      | (refine wpList_store_row rfl 26 _ _ rfl w.heap.size _ rfl rfl 26 _ X02 Try.infoHs rfl (sall _ _ _ _) ?_; rw [hw3])
      | (refine wpList_store_row rfl 74 _ _ rfl w3.heap.size _ rfl rfl 74 _ XW Try.infoWn rfl (wall _ _) ?_; rw [hwB])
      | (refine wpList_load_row rfl 26 _ rfl w.heap.size rfl 26 _ (0, 0) _ X0B Try.underlying26 rfl Try.infoHs ?_)
      | (refine wpList_store_row rfl 26 _ _ rfl (w.heap.size + 1) _ rfl rfl 26 _ X1B Try.infoHs rfl (sall _ _ _ _) ?_))
    refine bodyPost_ret (results_s2 rfl _ _ (w.heap.size + 1) _ rfl (load_hs (X1B.row _))) rfl ?_
    refine ⟨bw, bh, rfl, ⟨MwB.keep (setRow_other _ _ _ _ (by omega)), MhB.keep (setRow_other _ _ _ _ (by omega)), hne, by omega, by omega⟩, belowR BB (by omega) _⟩
set_option maxRecDepth 100000 in
set_option maxHeartbeats 8000000 in
theorem hden_ok (li cn : Int) (mw mh : Option Nat) (x num : Int) (W : List (Int × Wn)) (H : List (Int × Hv)) (w : World) (hW : WnM w mw W) (hH : HvM w mh H) (hl : W.length ≤ 100000) (hk : H.length ≤ 100000) (hx : -9223372036854775808 ≤ x ∧ x ≤ 9223372036854775807) (hb : denN W x num = 0) :
   Calls Try.prog 10 #[hsV li cn mw mh, .int .i64 x, .int .i64 num] w fun e w' => ∃ bw bh, e = .returned (.tuple #[hsV li cn (some bw) (some bh), .int .i64 0]) ∧ New w.heap.size w' bw bh (delM W x) H ∧ Below w.heap.size w w' := by
  have X0 := blk_new w 26 #[.int .i64 li, .int .i64 cn, .map mw, .map mh]
  have B0 := belowA w (.cells #[.int .i64 li, .int .i64 cn, .map mw, .map mh] 26)
  have s0 : (w.alloc (.cells #[.int .i64 li, .int .i64 cn, .map mw, .map mh] 26)).heap.size = w.heap.size + 1 := by simp
  generalize hw0 : w.alloc (.cells #[.int .i64 li, .int .i64 cn, .map mw, .map mh] 26) = w0 at *
  have X1 := blk_new w0 26 #[.int .i64 0, .int .i64 0, .map none, .map none]
  have B1 := belowA w0 (.cells #[.int .i64 0, .int .i64 0, .map none, .map none] 26)
  have s1 : (w0.alloc (.cells #[.int .i64 0, .int .i64 0, .map none, .map none] 26)).heap.size = w.heap.size + 1 + 1 := by simp [s0]
  have X01 := X0.below B1
  rw [s0] at X1
  generalize hw1 : w0.alloc (.cells #[.int .i64 0, .int .i64 0, .map none, .map none] 26) = w1 at *
  have C := hcopied_any li cn mw mh W H w1 ((hW.below B0).below B1) ((hH.below B0).below B1) hl hk
  have HB : Hid (Below w.heap.size w w1) := below_then B0 B1
  have z1 : w.heap.size + 1 + 1 ≤ w1.heap.size := by omega
  have HL : Hid (∀ (W' : World) (b : Nat), MapAt Wn.val W' b W → _) := fun W' b h => (WnM.look (.inr ⟨b, rfl, h⟩) x hx : (Instr.lookup 23 (.map (some b)) (.int .i64 x) true).run Try.prog W' = .ok (.tuple #[((getM W x).getD Wn.zero).val, .bool (getM W x).isSome]) W')
  have HE : Hid (∀ (W' : World) (b : Nat), MapAt Wn.val W' b W → ∃ w', (Builtin.delete_ #[23, 3] 0 #[.map (some b), .int .i64 x]).run Try.prog W' = .ok (.tuple #[]) w' ∧ MapAt Wn.val w' b (delM W x) ∧ But b W' w' ∧ w'.heap.size = W'.heap.size) := fun W' b h => h.drop Try.underlying23 x hx _
  unfold denN at *
  generalize getM W x = o at *
  unfold hsV New at *
  clear B0 B1 hW hH s1
  rcases o with _ | h
  · exact absurd hb (show ¬ (8 : Int) = 0 by decide)
  · obtain ⟨a, b⟩ := h
    simp only at hb
    have hne0 : a = num := Decidable.of_not_not fun e => by rw [if_neg e] at hb; omega
    subst hne0
    simp only [Option.getD_some, Option.isSome_some] at HL
    unfold Wn.val at HL
    simp only at HL
    clear hb
    go_enter Try.func10, Try.ntmps10
    go_wp2_with (first
      | (go_at_call 22; refine C.mono ?_; rintro e w2 ⟨bw, bh, rfl, Mw2, Mh2, hne, hbw, hbh, B2⟩; have z2 := B2.size; have X02 := X01.below B2; have X12 := X1.below B2; have X03 := X02.row #[.int .i64 li, .int .i64 cn, .map (some bw), .map (some bh)]; have X13 := X12.of_block (setRow_other w2 w.heap.size (w.heap.size + 1) #[.int .i64 li, .int .i64 cn, .map (some bw), .map (some bh)] (by omega)); have Mw := Mw2.keep (setRow_other w2 w.heap.size bw #[.int .i64 li, .int .i64 cn, .map (some bw), .map (some bh)] (by omega)); have Mh := Mh2.keep (setRow_other w2 w.heap.size bh #[.int .i64 li, .int .i64 cn, .map (some bw), .map (some bh)] (by omega)); have B3 := belowR (below_then HB.out B2) (Nat.le_refl w.heap.size) #[.int .i64 li, .int .i64 cn, .map (some bw), .map (some bh)]; have z3 : w2.heap.size ≤ (w2.setRow w.heap.size #[.int .i64 li, .int .i64 cn, .map (some bw), .map (some bh)]).heap.size := (by rw [setRow_size]; exact Nat.le_refl _); generalize hw3 : w2.setRow w.heap.size #[.int .i64 li, .int .i64 cn, .map (some bw), .map (some bh)] = w3 at *; have k3 : w3.cell? ⟨w.heap.size, 2, none⟩ = some (.map (some bw)) := X03.cell 2 rfl; have LK := HL.out w3 bw Mw; have XW := blk_new w3 74 #[.int .i64 0, .int .i64 0]; have BA := belowA w3 (.cells #[.int .i64 0, .int .i64 0] 74); have X0A := X03.below BA; have X1A := X13.below BA; have MwA := Mw.below BA; have MhA := Mh.below BA; have B3A := below_then B3 BA; generalize hwA : w3.alloc (.cells #[.int .i64 0, .int .i64 0] 74) = wA at *; have hlw := Mw.lt; have hlh := Mh.lt; have h0l := X03.lt; have XB := XW.row #[.int .i64 a, .int .i64 b]; have X0B := X0A.of_block (setRow_other wA w3.heap.size w.heap.size #[.int .i64 a, .int .i64 b] (by omega)); have X1B := X1A.of_block (setRow_other wA w3.heap.size (w.heap.size + 1) #[.int .i64 a, .int .i64 b] (by omega)); have MwB := MwA.keep (setRow_other wA w3.heap.size bw #[.int .i64 a, .int .i64 b] (by omega)); have MhB := MhA.keep (setRow_other wA w3.heap.size bh #[.int .i64 a, .int .i64 b] (by omega)); have BB := belowR B3A (show w.heap.size ≤ w3.heap.size by omega) #[.int .i64 a, .int .i64 b]; generalize hwB : wA.setRow w3.heap.size #[.int .i64 a, .int .i64 b] = wB at *; have kB0 : wB.cell? ⟨w3.heap.size, 0, none⟩ = some (.int .i64 a) := XB.cell 0 rfl; have kB1 : wB.cell? ⟨w3.heap.size, 1, none⟩ = some (.int .i64 b) := XB.cell 1 rfl; have kB2 : wB.cell? ⟨w.heap.size, 2, none⟩ = some (.map (some bw)) := X0B.cell 2 rfl; obtain ⟨wD, hrunD, MD, BD, sD⟩ := HE.out wB bw MwB; have X0D := X0B.but BD (by omega); have X1D := X1B.but BD (by omega); have MOD := MhB.keep (BD.block bh (by have := MhB.lt; omega) (fun e => hne e.symm)); have XBD := XB.but BD (by omega); have kD0 : wD.cell? ⟨w3.heap.size, 0, none⟩ = some (.int .i64 a) := XBD.cell 0 rfl; clear sD)
      | (refine wpList_load_row rfl 26 _ rfl w.heap.size rfl 26 _ (0, 0) _ X01 Try.underlying26 rfl Try.infoHs ?_)
      | (refine wpList_store_row rfl 26 _ _ rfl w.heap.size _ rfl rfl 26 _ X02 Try.infoHs rfl (sall _ _ _ _) ?_; rw [hw3])
      | (refine wpList_store_row rfl 74 _ _ rfl w3.heap.size _ rfl rfl 74 _ XW Try.infoWn rfl (wall _ _) ?_; rw [hwB])
      | (refine wpList_load_row rfl 26 _ rfl w.heap.size rfl 26 _ (0, 0) _ X0D Try.underlying26 rfl Try.infoHs ?_)
      | (refine wpList_store_row rfl 26 _ _ rfl (w.heap.size + 1) _ rfl rfl 26 _ X1D Try.infoHs rfl (sall _ _ _ _) ?_))
    refine bodyPost_ret (results_s2 rfl _ _ (w.heap.size + 1) _ rfl (load_hs (X1D.row _))) rfl ?_
    refine ⟨bw, bh, rfl, ⟨MD.keep (setRow_other _ _ _ _ (by omega)), MOD.keep (setRow_other _ _ _ _ (by omega)), hne, by omega, by omega⟩, belowR (BB.trans (BD.below (B := w.heap.size) (by have := BB.size; omega) (by omega))) (by omega) _⟩
set_option maxRecDepth 100000 in
set_option maxHeartbeats 8000000 in
theorem hlet_none (li cn : Int) (mw mh : Option Nat) (x : Int) (W : List (Int × Wn)) (H : List (Int × Hv)) (w : World) (hW : WnM w mw W) (hH : HvM w mh H) (hl : W.length ≤ 100000) (hk : H.length ≤ 100000) (hx : -9223372036854775808 ≤ x ∧ x ≤ 9223372036854775807) (hb : getM H x = none) :
   Calls Try.prog 12 #[hsV li cn mw mh, .int .i64 x] w fun e w' => ∃ bw bh, e = .returned (.tuple #[hsV li cn (some bw) (some bh), .int .i64 0, .int .i64 8]) ∧ New w.heap.size w' bw bh W H ∧ Below w.heap.size w w' := by
  have X0 := blk_new w 26 #[.int .i64 li, .int .i64 cn, .map mw, .map mh]
  have B0 := belowA w (.cells #[.int .i64 li, .int .i64 cn, .map mw, .map mh] 26)
  have s0 : (w.alloc (.cells #[.int .i64 li, .int .i64 cn, .map mw, .map mh] 26)).heap.size = w.heap.size + 1 := by simp
  generalize hw0 : w.alloc (.cells #[.int .i64 li, .int .i64 cn, .map mw, .map mh] 26) = w0 at *
  have X1 := blk_new w0 26 #[.int .i64 0, .int .i64 0, .map none, .map none]
  have B1 := belowA w0 (.cells #[.int .i64 0, .int .i64 0, .map none, .map none] 26)
  have s1 : (w0.alloc (.cells #[.int .i64 0, .int .i64 0, .map none, .map none] 26)).heap.size = w.heap.size + 1 + 1 := by simp [s0]
  have X01 := X0.below B1
  rw [s0] at X1
  generalize hw1 : w0.alloc (.cells #[.int .i64 0, .int .i64 0, .map none, .map none] 26) = w1 at *
  have C := hcopied_any li cn mw mh W H w1 ((hW.below B0).below B1) ((hH.below B0).below B1) hl hk
  have HB : Hid (Below w.heap.size w w1) := below_then B0 B1
  have z1 : w.heap.size + 1 + 1 ≤ w1.heap.size := by omega
  have HL : Hid (∀ (W' : World) (b : Nat), MapAt Hv.val W' b H → _) := fun W' b h => (HvM.look (.inr ⟨b, rfl, h⟩) x hx : (Instr.lookup 24 (.map (some b)) (.int .i64 x) true).run Try.prog W' = .ok (.tuple #[((getM H x).getD Hv.zero).val, .bool (getM H x).isSome]) W')
  have HE : Hid (∀ (W' : World) (b : Nat), MapAt Hv.val W' b H → ∃ w', (Builtin.delete_ #[24, 3] 0 #[.map (some b), .int .i64 x]).run Try.prog W' = .ok (.tuple #[]) w' ∧ MapAt Hv.val w' b (delM H x) ∧ But b W' w' ∧ w'.heap.size = W'.heap.size) := fun W' b h => h.drop Try.underlying24 x hx _
  clear HE
  rw [hb] at HL
  unfold hsV New at *
  clear B0 B1 hW hH s1 hb
  obtain ⟨a, b, hab⟩ : ∃ a b : Int, Hv.zero = ⟨a, b⟩ := ⟨0, 0, rfl⟩
  simp only [Option.getD_none, Option.isSome_none, hab] at HL
  unfold Hv.val at HL
  simp only at HL
  go_enter Try.func12, Try.ntmps12
  go_wp2_with (first
    | (go_at_call 22; refine C.mono ?_; rintro e w2 ⟨bw, bh, rfl, Mw2, Mh2, hne, hbw, hbh, B2⟩; have z2 := B2.size; have X02 := X01.below B2; have X12 := X1.below B2; have X03 := X02.row #[.int .i64 li, .int .i64 cn, .map (some bw), .map (some bh)]; have X13 := X12.of_block (setRow_other w2 w.heap.size (w.heap.size + 1) #[.int .i64 li, .int .i64 cn, .map (some bw), .map (some bh)] (by omega)); have Mw := Mw2.keep (setRow_other w2 w.heap.size bw #[.int .i64 li, .int .i64 cn, .map (some bw), .map (some bh)] (by omega)); have Mh := Mh2.keep (setRow_other w2 w.heap.size bh #[.int .i64 li, .int .i64 cn, .map (some bw), .map (some bh)] (by omega)); have B3 := belowR (below_then HB.out B2) (Nat.le_refl w.heap.size) #[.int .i64 li, .int .i64 cn, .map (some bw), .map (some bh)]; have z3 : w2.heap.size ≤ (w2.setRow w.heap.size #[.int .i64 li, .int .i64 cn, .map (some bw), .map (some bh)]).heap.size := (by rw [setRow_size]; exact Nat.le_refl _); generalize hw3 : w2.setRow w.heap.size #[.int .i64 li, .int .i64 cn, .map (some bw), .map (some bh)] = w3 at *; have k3 : w3.cell? ⟨w.heap.size, 3, none⟩ = some (.map (some bh)) := X03.cell 3 rfl; have LK := HL.out w3 bh Mh; have XW := blk_new w3 80 #[.int .i64 0, .int .i64 0]; have BA := belowA w3 (.cells #[.int .i64 0, .int .i64 0] 80); have X0A := X03.below BA; have X1A := X13.below BA; have MwA := Mw.below BA; have MhA := Mh.below BA; have B3A := below_then B3 BA; generalize hwA : w3.alloc (.cells #[.int .i64 0, .int .i64 0] 80) = wA at *; have hlw := Mw.lt; have hlh := Mh.lt; have h0l := X03.lt; have XB := XW.row #[.int .i64 a, .int .i64 b]; have X0B := X0A.of_block (setRow_other wA w3.heap.size w.heap.size #[.int .i64 a, .int .i64 b] (by omega)); have X1B := X1A.of_block (setRow_other wA w3.heap.size (w.heap.size + 1) #[.int .i64 a, .int .i64 b] (by omega)); have MwB := MwA.keep (setRow_other wA w3.heap.size bw #[.int .i64 a, .int .i64 b] (by omega)); have MhB := MhA.keep (setRow_other wA w3.heap.size bh #[.int .i64 a, .int .i64 b] (by omega)); have BB := belowR B3A (show w.heap.size ≤ w3.heap.size by omega) #[.int .i64 a, .int .i64 b]; generalize hwB : wA.setRow w3.heap.size #[.int .i64 a, .int .i64 b] = wB at *; have kB0 : wB.cell? ⟨w3.heap.size, 0, none⟩ = some (.int .i64 a) := XB.cell 0 rfl; have kB1 : wB.cell? ⟨w3.heap.size, 1, none⟩ = some (.int .i64 b) := XB.cell 1 rfl; have kB2 : wB.cell? ⟨w.heap.size, 3, none⟩ = some (.map (some bh)) := X0B.cell 3 rfl)
    | (refine wpList_load_row rfl 26 _ rfl w.heap.size rfl 26 _ (0, 0) _ X01 Try.underlying26 rfl Try.infoHs ?_)
    | (refine wpList_store_row rfl 26 _ _ rfl w.heap.size _ rfl rfl 26 _ X02 Try.infoHs rfl (sall _ _ _ _) ?_; rw [hw3])
    | (refine wpList_store_row rfl 80 _ _ rfl w3.heap.size _ rfl rfl 80 _ XW Try.infoHv rfl (wall _ _) ?_; rw [hwB])
    | (refine wpList_load_row rfl 26 _ rfl w.heap.size rfl 26 _ (0, 0) _ X0B Try.underlying26 rfl Try.infoHs ?_)
    | (refine wpList_store_row rfl 26 _ _ rfl (w.heap.size + 1) _ rfl rfl 26 _ X1B Try.infoHs rfl (sall _ _ _ _) ?_))
  refine bodyPost_ret (results_s3 rfl _ _ (w.heap.size + 1) _ rfl (load_hs (X1B.row _))) rfl ?_
  refine ⟨bw, bh, rfl, ⟨MwB.keep (setRow_other _ _ _ _ (by omega)), MhB.keep (setRow_other _ _ _ _ (by omega)), hne, by omega, by omega⟩, belowR BB (by omega) _⟩
set_option maxRecDepth 100000 in
set_option maxHeartbeats 8000000 in
theorem hlet_some (li cn : Int) (mw mh : Option Nat) (x : Int) (W : List (Int × Wn)) (H : List (Int × Hv)) (w : World) (hW : WnM w mw W) (hH : HvM w mh H) (hl : W.length ≤ 100000) (hk : H.length ≤ 100000) (hx : -9223372036854775808 ≤ x ∧ x ≤ 9223372036854775807) (h : Hv) (hb : getM H x = some h) :
   Calls Try.prog 12 #[hsV li cn mw mh, .int .i64 x] w fun e w' => ∃ bw bh, e = .returned (.tuple #[hsV li cn (some bw) (some bh), .int .i64 h.epo, .int .i64 0]) ∧ New w.heap.size w' bw bh W (delM H x) ∧ Below w.heap.size w w' := by
  have X0 := blk_new w 26 #[.int .i64 li, .int .i64 cn, .map mw, .map mh]
  have B0 := belowA w (.cells #[.int .i64 li, .int .i64 cn, .map mw, .map mh] 26)
  have s0 : (w.alloc (.cells #[.int .i64 li, .int .i64 cn, .map mw, .map mh] 26)).heap.size = w.heap.size + 1 := by simp
  generalize hw0 : w.alloc (.cells #[.int .i64 li, .int .i64 cn, .map mw, .map mh] 26) = w0 at *
  have X1 := blk_new w0 26 #[.int .i64 0, .int .i64 0, .map none, .map none]
  have B1 := belowA w0 (.cells #[.int .i64 0, .int .i64 0, .map none, .map none] 26)
  have s1 : (w0.alloc (.cells #[.int .i64 0, .int .i64 0, .map none, .map none] 26)).heap.size = w.heap.size + 1 + 1 := by simp [s0]
  have X01 := X0.below B1
  rw [s0] at X1
  generalize hw1 : w0.alloc (.cells #[.int .i64 0, .int .i64 0, .map none, .map none] 26) = w1 at *
  have C := hcopied_any li cn mw mh W H w1 ((hW.below B0).below B1) ((hH.below B0).below B1) hl hk
  have HB : Hid (Below w.heap.size w w1) := below_then B0 B1
  have z1 : w.heap.size + 1 + 1 ≤ w1.heap.size := by omega
  have HL : Hid (∀ (W' : World) (b : Nat), MapAt Hv.val W' b H → _) := fun W' b h => (HvM.look (.inr ⟨b, rfl, h⟩) x hx : (Instr.lookup 24 (.map (some b)) (.int .i64 x) true).run Try.prog W' = .ok (.tuple #[((getM H x).getD Hv.zero).val, .bool (getM H x).isSome]) W')
  have HE : Hid (∀ (W' : World) (b : Nat), MapAt Hv.val W' b H → ∃ w', (Builtin.delete_ #[24, 3] 0 #[.map (some b), .int .i64 x]).run Try.prog W' = .ok (.tuple #[]) w' ∧ MapAt Hv.val w' b (delM H x) ∧ But b W' w' ∧ w'.heap.size = W'.heap.size) := fun W' b h => h.drop Try.underlying24 x hx _
  rw [hb] at HL
  obtain ⟨a, b⟩ := h
  unfold hsV New at *
  clear B0 B1 hW hH s1 hb
  simp only [Option.getD_some, Option.isSome_some] at HL
  unfold Hv.val at HL
  simp only at HL ⊢
  go_enter Try.func12, Try.ntmps12
  go_wp2_with (first
    | (go_at_call 22; refine C.mono ?_; rintro e w2 ⟨bw, bh, rfl, Mw2, Mh2, hne, hbw, hbh, B2⟩; have z2 := B2.size; have X02 := X01.below B2; have X12 := X1.below B2; have X03 := X02.row #[.int .i64 li, .int .i64 cn, .map (some bw), .map (some bh)]; have X13 := X12.of_block (setRow_other w2 w.heap.size (w.heap.size + 1) #[.int .i64 li, .int .i64 cn, .map (some bw), .map (some bh)] (by omega)); have Mw := Mw2.keep (setRow_other w2 w.heap.size bw #[.int .i64 li, .int .i64 cn, .map (some bw), .map (some bh)] (by omega)); have Mh := Mh2.keep (setRow_other w2 w.heap.size bh #[.int .i64 li, .int .i64 cn, .map (some bw), .map (some bh)] (by omega)); have B3 := belowR (below_then HB.out B2) (Nat.le_refl w.heap.size) #[.int .i64 li, .int .i64 cn, .map (some bw), .map (some bh)]; have z3 : w2.heap.size ≤ (w2.setRow w.heap.size #[.int .i64 li, .int .i64 cn, .map (some bw), .map (some bh)]).heap.size := (by rw [setRow_size]; exact Nat.le_refl _); generalize hw3 : w2.setRow w.heap.size #[.int .i64 li, .int .i64 cn, .map (some bw), .map (some bh)] = w3 at *; have k3 : w3.cell? ⟨w.heap.size, 3, none⟩ = some (.map (some bh)) := X03.cell 3 rfl; have LK := HL.out w3 bh Mh; have XW := blk_new w3 80 #[.int .i64 0, .int .i64 0]; have BA := belowA w3 (.cells #[.int .i64 0, .int .i64 0] 80); have X0A := X03.below BA; have X1A := X13.below BA; have MwA := Mw.below BA; have MhA := Mh.below BA; have B3A := below_then B3 BA; generalize hwA : w3.alloc (.cells #[.int .i64 0, .int .i64 0] 80) = wA at *; have hlw := Mw.lt; have hlh := Mh.lt; have h0l := X03.lt; have XB := XW.row #[.int .i64 a, .int .i64 b]; have X0B := X0A.of_block (setRow_other wA w3.heap.size w.heap.size #[.int .i64 a, .int .i64 b] (by omega)); have X1B := X1A.of_block (setRow_other wA w3.heap.size (w.heap.size + 1) #[.int .i64 a, .int .i64 b] (by omega)); have MwB := MwA.keep (setRow_other wA w3.heap.size bw #[.int .i64 a, .int .i64 b] (by omega)); have MhB := MhA.keep (setRow_other wA w3.heap.size bh #[.int .i64 a, .int .i64 b] (by omega)); have BB := belowR B3A (show w.heap.size ≤ w3.heap.size by omega) #[.int .i64 a, .int .i64 b]; generalize hwB : wA.setRow w3.heap.size #[.int .i64 a, .int .i64 b] = wB at *; have kB0 : wB.cell? ⟨w3.heap.size, 0, none⟩ = some (.int .i64 a) := XB.cell 0 rfl; have kB1 : wB.cell? ⟨w3.heap.size, 1, none⟩ = some (.int .i64 b) := XB.cell 1 rfl; have kB2 : wB.cell? ⟨w.heap.size, 3, none⟩ = some (.map (some bh)) := X0B.cell 3 rfl; obtain ⟨wD, hrunD, MD, BD, sD⟩ := HE.out wB bh MhB; have X0D := X0B.but BD (by omega); have X1D := X1B.but BD (by omega); have MOD := MwB.keep (BD.block bw (by have := MwB.lt; omega) hne); have XBD := XB.but BD (by omega); have kD0 : wD.cell? ⟨w3.heap.size, 0, none⟩ = some (.int .i64 a) := XBD.cell 0 rfl; clear sD)
    | (refine wpList_load_row rfl 26 _ rfl w.heap.size rfl 26 _ (0, 0) _ X01 Try.underlying26 rfl Try.infoHs ?_)
    | (refine wpList_store_row rfl 26 _ _ rfl w.heap.size _ rfl rfl 26 _ X02 Try.infoHs rfl (sall _ _ _ _) ?_; rw [hw3])
    | (refine wpList_store_row rfl 80 _ _ rfl w3.heap.size _ rfl rfl 80 _ XW Try.infoHv rfl (wall _ _) ?_; rw [hwB]))
  have x0 : wD.cell? ⟨w.heap.size, 0, none⟩ = some (.int .i64 li) := X0D.cell 0 rfl
  have y0 : wD.cell? ⟨w.heap.size + 1, 0, none⟩ = some (.int .i64 0) := X1D.cell 0 rfl
  have g0 := X1D.frozen 0
  have x1 : wD.cell? ⟨w.heap.size, 1, none⟩ = some (.int .i64 cn) := X0D.cell 1 rfl
  have y1 : wD.cell? ⟨w.heap.size + 1, 1, none⟩ = some (.int .i64 0) := X1D.cell 1 rfl
  have g1 := X1D.frozen 1
  have x2 : wD.cell? ⟨w.heap.size, 2, none⟩ = some (.map (some bw)) := X0D.cell 2 rfl
  have y2 : wD.cell? ⟨w.heap.size + 1, 2, none⟩ = some (.map none) := X1D.cell 2 rfl
  have g2 := X1D.frozen 2
  have x3 : wD.cell? ⟨w.heap.size, 3, none⟩ = some (.map (some bh)) := X0D.cell 3 rfl
  have y3 : wD.cell? ⟨w.heap.size + 1, 3, none⟩ = some (.map none) := X1D.cell 3 rfl
  have g3 := X1D.frozen 3
  go_region
  have X17 := (((X1D.set 0 (.int .i64 li)).set 1 (.int .i64 cn)).set 2 (.map (some bw))).set 3 (.map (some bh))
  have M7 : MapAt Wn.val ((((wD.setCell ⟨w.heap.size + 1, 0, none⟩ (.int .i64 li)).setCell ⟨w.heap.size + 1, 1, none⟩ (.int .i64 cn)).setCell ⟨w.heap.size + 1, 2, none⟩ (.map (some bw))).setCell ⟨w.heap.size + 1, 3, none⟩ (.map (some bh))) bw _ := MOD.keep (by rw [Below.heap_setCell _ _ _ _ (show bw ≠ w.heap.size + 1 by omega), Below.heap_setCell _ _ _ _ (show bw ≠ w.heap.size + 1 by omega), Below.heap_setCell _ _ _ _ (show bw ≠ w.heap.size + 1 by omega), Below.heap_setCell _ _ _ _ (show bw ≠ w.heap.size + 1 by omega)])
  have N7 : MapAt Hv.val ((((wD.setCell ⟨w.heap.size + 1, 0, none⟩ (.int .i64 li)).setCell ⟨w.heap.size + 1, 1, none⟩ (.int .i64 cn)).setCell ⟨w.heap.size + 1, 2, none⟩ (.map (some bw))).setCell ⟨w.heap.size + 1, 3, none⟩ (.map (some bh))) bh _ := MD.keep (by rw [Below.heap_setCell _ _ _ _ (show bh ≠ w.heap.size + 1 by omega), Below.heap_setCell _ _ _ _ (show bh ≠ w.heap.size + 1 by omega), Below.heap_setCell _ _ _ _ (show bh ≠ w.heap.size + 1 by omega), Below.heap_setCell _ _ _ _ (show bh ≠ w.heap.size + 1 by omega)])
  have B7 := ((((BB.trans (BD.below (B := w.heap.size) (by have := BB.size; omega) (by omega))).setCell (p := ⟨w.heap.size + 1, 0, none⟩) (by show w.heap.size ≤ w.heap.size + 1; omega) (.int .i64 li)).setCell (p := ⟨w.heap.size + 1, 1, none⟩) (by show w.heap.size ≤ w.heap.size + 1; omega) (.int .i64 cn)).setCell (p := ⟨w.heap.size + 1, 2, none⟩) (by show w.heap.size ≤ w.heap.size + 1; omega) (.map (some bw))).setCell (p := ⟨w.heap.size + 1, 3, none⟩) (by show w.heap.size ≤ w.heap.size + 1; omega) (.map (some bh))
  generalize hw7 : (((wD.setCell ⟨w.heap.size + 1, 0, none⟩ (.int .i64 li)).setCell ⟨w.heap.size + 1, 1, none⟩ (.int .i64 cn)).setCell ⟨w.heap.size + 1, 2, none⟩ (.map (some bw))).setCell ⟨w.heap.size + 1, 3, none⟩ (.map (some bh)) = w7 at *
  clear x0 x1 x2 x3 y0 y1 y2 y3 g0 g1 g2 g3 hrunD
  go_wp2_with fail
  refine bodyPost_ret (results_s3 rfl _ _ (w.heap.size + 1) _ rfl (load_hs (w := w7.drew) (by exact X17))) rfl ?_
  exact ⟨bw, bh, rfl, ⟨M7.keep rfl, N7.keep rfl, hne, by omega, by omega⟩, B7.drew⟩
end Go.Proofs.Ytifbnnffejamaaa
