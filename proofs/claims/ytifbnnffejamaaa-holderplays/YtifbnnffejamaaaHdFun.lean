/- A holder's small functions: copies of its state, moments, plans, what is over. -/
import Derived.Test.YtifbnnffejamaaaHdW
import Derived.Test.YtifbnnffejamaaaHdH
import Derived.Laws.Rows
import Derived.Deep.CutRange
import Derived.Shelf.Abstract
namespace Go.Proofs.Ytifbnnffejamaaa
open Go.ChangeShapes Go.WideShapes Go.ChangeAt Go.RowKit Go.Maps
theorem belowA (w : World) (o : Obj) : Below w.heap.size w (w.alloc o) := (Below.refl _ w).alloc (Nat.le_refl _) o
theorem belowR {B g : Nat} {w0 w : World} (hb : Below B w0 w) (hg : B ≤ g) (cs : Array Value) : Below B w0 (w.setRow g cs) :=
  ⟨hb.os, hb.tape, hb.output, by simpa using hb.size, fun k hk => (setRow_other _ _ _ _ (by omega)).trans (hb.block k hk)⟩
/-- A holder's state as a value. -/
def hsV (li cn : Int) (mw mh : Option Nat) : Value := .agg #[.int .i64 li, .int .i64 cn, .map mw, .map mh]
theorem Try.infoHs : (Try.prog.info? 26).map (·.size) = some 4 := by kernel_rfl
theorem sall (li cn : Int) (mw mh : Option Nat) : Array.all (#[.int .i64 li, .int .i64 cn, .map mw, .map mh] : Array Value) (fun v => v.oneCell') = true := by simp [Value.oneCell']
theorem wall (a b : Int) : Array.all (#[.int .i64 a, .int .i64 b] : Array Value) (fun v => v.oneCell') = true := by simp [Value.oneCell']
theorem run_mkH (t k e : TypeId) (ht : Try.prog.underlying t = some (.map k e)) (n : Int) (w : World) : (Instr.makeMap t (some (.int .i64 n))).run Try.prog w = .ok (.map (some w.heap.size)) (w.alloc (.map #[] 0)) := by
  simp [Instr.makeMap, run_underlying ht, asInt, asIntOf, Result.andThen]
theorem load_hs {w : World} {g : Nat} {a b c d : Value} (h : Blk w g 26 #[a, b, c, d]) : (loadVar 26 ⟨g, 0, none⟩).run Try.prog w = .ok (.agg #[a, b, c, d]) w :=
  run_loadVar_row w g _ _ _ _ _ h Try.underlying26 rfl Try.infoHs
set_option maxHeartbeats 4000000 in
theorem hcopied_any (li cn : Int) (mw mh : Option Nat) (W : List (Int × Wn)) (H : List (Int × Hv)) (w : World) (hW : WnM w mw W) (hH : HvM w mh H) (hl : W.length ≤ 100000) (hk : H.length ≤ 100000) :
   Calls Try.prog 22 #[hsV li cn mw mh] w fun e w' => ∃ bw bh, e = .returned (hsV li cn (some bw) (some bh)) ∧ MapAt Wn.val w' bw W ∧ MapAt Hv.val w' bh H ∧ bw ≠ bh ∧ w.heap.size ≤ bw ∧ w.heap.size ≤ bh ∧ Below w.heap.size w w' := by
  unfold hsV
  have hmw : ∀ b, mw = some b → b < w.heap.size := fun b hb => by
    rcases hW with ⟨rfl, _⟩ | ⟨b', rfl, h⟩
    · cases hb
    · cases hb; exact h.lt
  have hmh : ∀ b, mh = some b → b < w.heap.size := fun b hb => by
    rcases hH with ⟨rfl, _⟩ | ⟨b', rfl, h⟩
    · cases hb
    · cases hb; exact h.lt
  have X0 := blk_new w 26 #[.int .i64 li, .int .i64 cn, .map mw, .map mh]
  have B0 := belowA w (.cells #[.int .i64 li, .int .i64 cn, .map mw, .map mh] 26)
  have s0 : (w.alloc (.cells #[.int .i64 li, .int .i64 cn, .map mw, .map mh] 26)).heap.size = w.heap.size + 1 := by simp
  generalize hw0 : w.alloc (.cells #[.int .i64 li, .int .i64 cn, .map mw, .map mh] 26) = w0 at *
  have X1 := blk_new w0 26 #[.int .i64 0, .int .i64 0, .map none, .map none]
  have B1 := belowA w0 (.cells #[.int .i64 0, .int .i64 0, .map none, .map none] 26)
  have s1 : (w0.alloc (.cells #[.int .i64 0, .int .i64 0, .map none, .map none] 26)).heap.size = w.heap.size + 1 + 1 := by simp [s0]
  have X01 := X0.below B1
  rw [s0] at X1
  generalize hw1 : w0.alloc (.cells #[.int .i64 0, .int .i64 0, .map none, .map none] 26) = w1 at *
  have W1 := (hW.below B0).below B1
  have H1 := (hH.below B0).below B1
  have HB : Hid (Below w.heap.size w w1) := below_then B0 B1
  have L1 := fun ty => (WnM.below (w' := w1.drew) W1 (Below.refl _ _).drew).len ty
  have L2 := fun ty => (WnM.below (w' := (w1.alloc (.map #[] 0)).drew) W1 (belowA _ _).drew).len ty
  have L3 := fun ty => (HvM.below (w' := w1.drew) H1 (Below.refl _ _).drew).len ty
  have L4 := fun ty => (HvM.below (w' := (w1.alloc (.map #[] 0)).drew) H1 (belowA _ _).drew).len ty
  have c2 : w1.cell? ⟨w.heap.size, 2, none⟩ = some (.map mw) := X01.cell 2 rfl
  have c3 : w1.cell? ⟨w.heap.size, 3, none⟩ = some (.map mh) := X01.cell 3 rfl
  have hlt1 := X01.lt
  have c2' : (w1.alloc (.map #[] 0)).cell? ⟨w.heap.size, 2, none⟩ = some (.map mw) := (X01.below (belowA w1 _)).cell 2 rfl
  have c3' : (w1.alloc (.map #[] 0)).cell? ⟨w.heap.size, 3, none⟩ = some (.map mh) := (X01.below (belowA w1 _)).cell 3 rfl
  have k1 := run_mkH 23 _ _ Try.underlying23
  have k2 := run_mkH 24 _ _ Try.underlying24
  clear B0 B1 hW hH
  go_enter Try.func22, Try.ntmps22
  go_upto_region 1 with fail
  go_cut [3, 4] from 5 (fun s3 s4 wc => ∃ bw bh, s3 = .map (some bw) ∧ s4 = .map (some bh) ∧ bw ≠ bh ∧ w1.heap.size ≤ bw ∧ w1.heap.size ≤ bh ∧ MapAt Wn.val wc bw [] ∧ MapAt Hv.val wc bh [] ∧ Below w1.heap.size w1 wc)
  case first =>
    go_region
    all_goals
      go_wp2_with fail
      go_meet
      case rel =>
        refine ⟨_, _, rfl, rfl, by omega, by omega, by omega, ?_, ?_, (below_then (belowA _ _) (belowA _ _)).drew⟩
        · first
          | (rw [← s1]; exact ((MapAt.made Wn.val w1).below (belowA _ _)).keep rfl)
          | (have := (MapAt.made Wn.val (w1.alloc (.map #[] 0))); rw [show (w1.alloc (.map #[] 0)).heap.size = w.heap.size + 1 + 1 + 1 by simp [s1]] at this; exact this.keep rfl)
        · first
          | (rw [← s1]; exact ((MapAt.made Hv.val w1).below (belowA _ _)).keep rfl)
          | (have := (MapAt.made Hv.val (w1.alloc (.map #[] 0))); rw [show (w1.alloc (.map #[] 0)).heap.size = w.heap.size + 1 + 1 + 1 by simp [s1]] at this; exact this.keep rfl)
  case rest =>
    obtain ⟨bw, bh, rfl, rfl, hne, hbw, hbh, Mw, Mh, Bc⟩ := hcut
    generalize wc = w2 at *
    have X02 := X01.below Bc
    have X12 := X1.below Bc
    have W2 := W1.below Bc
    have H2 := H1.below Bc
    have C := Wn.copy_any bw mw W w2 Mw W2 (fun e => by have := hmw _ e; omega) (by omega)
    have HB2 : Hid (Below w.heap.size w w2) := below_then HB.out Bc
    have HC : Hid (∀ w3, But bw w2 w3 → Calls Try.prog 40 #[.map (some bh), .map mh] w3 fun e w' => e = .returned (.tuple #[]) ∧ MapAt Hv.val w' bh H ∧ But bh w3 w') := fun w3 h3 => Hv.copy_any bh mh H w3 (Mh.keep (h3.block bh Mh.lt (fun e => hne e.symm))) (by
        rcases H2 with ⟨h1, h2⟩ | ⟨b', rfl, h⟩
        · exact .inl ⟨h1, h2⟩
        · have h9 := hmh _ rfl
          exact .inr ⟨b', rfl, h.keep (h3.block b' h.lt (by omega))⟩) (fun e => by have := hmh _ e; omega) (by omega)
    have c2b : w2.cell? ⟨w.heap.size, 2, none⟩ = some (.map mw) := X02.cell 2 rfl
    have hmwl := Mw.lt
    have hmhl := Mh.lt
    have z2 := Bc.size
    clear L1 L2 L3 L4 c2 c3 c2' c3' k1 k2 hmw hmh W1 H1 W2 H2 X1 X01 X0 Bc HB Mw Mh
    go_wp2_with (first
      | (go_at_call 39; refine C.mono ?_; rintro e w3 ⟨rfl, M3, B3⟩; have X03 := X02.but B3 (by omega); have X13 := X12.but B3 (by omega); have c3a : w3.cell? ⟨w.heap.size, 3, none⟩ = some (.map mh) := X03.cell 3 rfl; have C3 := HC.out w3 B3)
      | (go_at_call 40; refine C3.mono ?_; rintro e w4 ⟨rfl, M4, B4⟩; have z3 := B3.size; have X04 := X03.but B4 (by omega); have X14 := X13.but B4 (by omega); have M3' := M3.keep (B4.block bw (by omega) hne); have c4 : w4.cell? ⟨w.heap.size, 2, none⟩ = some (.map mw) := X04.cell 2 rfl; have f4 := X04.frozen 2; have X05 := X04.set 2 (.map (some bw)); have c5 : (w4.setCell ⟨w.heap.size, 2, none⟩ (.map (some bw))).cell? ⟨w.heap.size, 3, none⟩ = some (.map mh) := X05.cell 3 rfl; have f5 := X05.frozen 3; have X06 := X05.set 3 (.map (some bh)); have X15 := X14.other (a := ⟨w.heap.size, 2, none⟩) (by simp) (.map (some bw)); have X16 := X15.other (a := ⟨w.heap.size, 3, none⟩) (by simp) (.map (some bh)))
      | (refine wpList_load_row rfl 26 _ rfl w.heap.size rfl 26 _ (0, 0) _ X06 Try.underlying26 rfl Try.infoHs ?_)
      | (refine wpList_store_row rfl 26 _ _ rfl (w.heap.size + 1) _ rfl rfl 26 _ X16 Try.infoHs rfl (sall _ _ _ _) ?_))
    refine bodyPost_ret (results_cell_row rfl _ _ (w.heap.size + 1) 26 _ _ _ rfl (X16.row _) Try.underlying26 rfl Try.infoHs) rfl ?_
    have z4 := B4.size
    have fin : Below w.heap.size w w4 := (HB2.out.trans (B3.below (B := w.heap.size) (by omega) (by omega))).trans (B4.below (B := w.heap.size) (by omega) (by omega))
    refine ⟨_, _, rfl, M3'.keep ?_, M4.keep ?_, hne, by omega, by omega, belowR ((fin.setCell (p := ⟨w.heap.size, 2, none⟩) (Nat.le_refl _) _).setCell (p := ⟨w.heap.size, 3, none⟩) (Nat.le_refl _) _) (by omega) _⟩
    all_goals rw [setRow_other _ _ _ _ (by omega), Below.heap_setCell _ _ _ _ (by show _ ≠ w.heap.size; omega), Below.heap_setCell _ _ _ _ (by show _ ≠ w.heap.size; omega)]
end Go.Proofs.Ytifbnnffejamaaa
