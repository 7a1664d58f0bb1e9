/- The authority's small functions: copies of a state, those without what is over, who has a place, how many there are. -/
import Derived.Test.YtacmphckmjangaaLsDel
import Derived.Laws.Rows
namespace Go.Proofs.Ytacmphckmjangaa
open Go.ChangeShapes Go.WideShapes Go.ChangeAt Go.RowKit Go.Maps
theorem below_alloc' (w : World) (o : Obj) : Below w.heap.size w (w.alloc o) := (Below.refl _ w).alloc (Nat.le_refl _) o
/-- An authority's state as a value. -/
def lsV (ep q : Int) (mo : Option Nat) : Value := .agg #[.int .i64 ep, .int .i64 q, .map mo]
theorem Try.infoLs : (Try.prog.info? 26).map (·.size) = some 3 := by kernel_rfl
theorem lall (ep q : Int) (mo : Option Nat) : Array.all (#[.int .i64 ep, .int .i64 q, .map mo] : Array Value) (fun v => v.oneCell') = true := by simp [Value.oneCell']
theorem Hg.below_but {w w' : World} {b : Nat} (h : But b w w') {B : Nat} (hB : B ≤ w.heap.size) (hb : B ≤ b) : Below B w w' := h.below hB hb
theorem below_row {B g : Nat} {w0 w : World} (hb : Below B w0 w) (hg : B ≤ g) (cs : Array Value) : Below B w0 (w.setRow g cs) :=
  ⟨hb.os, hb.tape, hb.output, by simpa using hb.size, fun k hk => (setRow_other _ _ _ _ (by omega)).trans (hb.block k hk)⟩
theorem run_makeMapH (t k e : TypeId) (ht : Try.prog.underlying t = some (.map k e)) (n : Int) (w : World) : (Instr.makeMap t (some (.int .i64 n))).run Try.prog w = .ok (.map (some w.heap.size)) (w.alloc (.map #[] 0)) := by
  simp [Instr.makeMap, run_underlying ht, asInt, asIntOf, Result.andThen]
set_option maxHeartbeats 2000000 in
theorem lcopied_any (ep q : Int) (mo : Option Nat) (L : List (Int × Hg)) (w : World) (hM : HgM w mo L) (hl : L.length ≤ 100000) :
   Calls Try.prog 16 #[lsV ep q mo] w fun e w' => e = .returned (lsV ep q (some (w.heap.size + 2))) ∧ MapAt Hg.val w' (w.heap.size + 2) L ∧ Below w.heap.size w w' := by
  unfold lsV
  have hmo : ∀ b, mo = some b → b < w.heap.size := fun b hb => by
    rcases hM with ⟨rfl, _⟩ | ⟨b', rfl, h⟩
    · cases hb
    · cases hb; exact h.lt
  have X0 := blk_new w 26 #[.int .i64 ep, .int .i64 q, .map mo]
  have B0 := below_alloc' w (.cells #[.int .i64 ep, .int .i64 q, .map mo] 26)
  have s0 : (w.alloc (.cells #[.int .i64 ep, .int .i64 q, .map mo] 26)).heap.size = w.heap.size + 1 := by simp
  generalize hw0 : w.alloc (.cells #[.int .i64 ep, .int .i64 q, .map mo] 26) = w0 at *
  have X1 := blk_new w0 26 #[.int .i64 0, .int .i64 0, .map none]
  have B1 := below_alloc' w0 (.cells #[.int .i64 0, .int .i64 0, .map none] 26)
  have s1 : (w0.alloc (.cells #[.int .i64 0, .int .i64 0, .map none] 26)).heap.size = w.heap.size + 1 + 1 := by simp [s0]
  have X01 := X0.below B1
  generalize hw1 : w0.alloc (.cells #[.int .i64 0, .int .i64 0, .map none] 26) = w1 at *
  have M1 := (hM.below B0).below B1
  have LN := M1.len
  have X2 := MapAt.made Hg.val w1
  have B2 := below_alloc' w1 (.map #[] 0)
  have s2 : (w1.alloc (.map #[] 0)).heap.size = w.heap.size + 1 + 1 + 1 := by simp [s1]
  have X02 := X01.below B2
  have X12 := X1.below B2
  have M2 := M1.below B2
  rw [s0] at X1 X12
  rw [s1] at X2
  generalize hw2 : w1.alloc (.map #[] 0) = w2 at *
  have C := Hg.copy_any (w.heap.size + 1 + 1) mo L w2 X2 M2 (fun e => by have := hmo _ e; omega) (by omega)
  have HB : Hid (Below w.heap.size w w2) := below_then B0 (below_then B1 B2)
  have HS : Hid (w2.heap.size = w.heap.size + 1 + 1 + 1) := s2
  have c0 : w1.cell? ⟨w.heap.size, 2, none⟩ = some (.map mo) := X01.cell 2 rfl
  have c2 : w2.cell? ⟨w.heap.size, 2, none⟩ = some (.map mo) := X02.cell 2 rfl
  clear B0 B1 B2 s2 hmo hM M1 M2 X2
  have hmk := run_makeMapH 24 _ _ Try.underlying24
  go_enter Try.func16, Try.ntmps16
  go_wp2_with (first
    | (go_at_call 23; refine C.mono ?_; rintro e w3 ⟨rfl, M3, B3⟩; have X03 := X02.but B3 (by omega); have X13 := X12.but B3 (by omega); have c3 : w3.cell? ⟨w.heap.size, 2, none⟩ = some (.map mo) := X03.cell 2 rfl; have f3 := X03.frozen 2; have X04 := X03.set 2 (.map (some (w.heap.size + 1 + 1))); have X14 := X13.other (a := ⟨w.heap.size, 2, none⟩) (by simp) (.map (some (w.heap.size + 1 + 1))))
    | (refine wpList_load_row rfl 26 _ rfl w.heap.size rfl 26 _ (0, 0) _ X04 Try.underlying26 rfl Try.infoLs ?_)
    | (refine wpList_store_row rfl 26 _ _ rfl (w.heap.size + 1) _ rfl rfl 26 _ X14 Try.infoLs rfl (lall _ _ _) ?_))
  refine bodyPost_ret (results_cell_row rfl _ _ (w.heap.size + 1) 26 _ _ _ rfl (X14.row _) Try.underlying26 rfl Try.infoLs) rfl ?_
  have hs := HS.out
  refine ⟨rfl, M3.keep ?_, below_row (((HB.out.trans (B3.below (B := w.heap.size) (by omega) (by omega)))).setCell (p := ⟨w.heap.size, 2, none⟩) (Nat.le_refl _) _) (by omega) _⟩
  rw [setRow_other _ _ _ _ (by omega), Below.heap_setCell _ _ _ _ (show _ ≠ w.heap.size by omega)]
/-- Who has a place. -/
def whoL (now : Int) (L : List (Int × Hg)) (x : Int) : Option Hg := match getM L x with
  | some h => if now < h.unt then some h else none
  | none => none
theorem results_blk2 {fn : Func} {p u : Tmp} {ty : TypeId} (h : fn.results = #[.cell p ty, .tmp u]) (tmps : Array Value) (w : World) (g : Nat) (cs : Array Value)
    (hp : tmps.getD p undef = .pointer (some ⟨g, 0, none⟩)) (hl : (loadVar ty ⟨g, 0, none⟩).run Try.prog w = .ok (.agg cs) w) :
    (results fn tmps).run Try.prog w = .ok (.tuple #[.agg cs, tmps.getD u undef]) w := by
  have hp' : tmps[p]?.getD undef = .pointer (some ⟨g, 0, none⟩) := by simpa using hp
  simp [results, h, hp', asAddr, hl]
theorem load_h {w : World} {g : Nat} {a b c : Value} (h : Blk w g 51 #[a, b, c]) : (loadVar 51 ⟨g, 0, none⟩).run Try.prog w = .ok (.agg #[a, b, c]) w :=
  run_loadVar_row w g _ _ _ _ _ h Try.underlying51 rfl Try.infoHg
theorem load_s {w : World} {g : Nat} {a b c : Value} (h : Blk w g 26 #[a, b, c]) : (loadVar 26 ⟨g, 0, none⟩).run Try.prog w = .ok (.agg #[a, b, c]) w :=
  run_loadVar_row w g _ _ _ _ _ h Try.underlying26 rfl Try.infoLs
set_option maxHeartbeats 2000000 in
theorem llasting_any (ep q : Int) (mo : Option Nat) (now : Int) (L : List (Int × Hg)) (w : World) (hM : HgM w mo L) (hl : L.length ≤ 100000) :
   Calls Try.prog 17 #[lsV ep q mo, .int .i64 now] w fun e w' => ∃ b, e = .returned (lsV ep q (some b)) ∧ MapAt Hg.val w' b (lastM now L) ∧ w.heap.size ≤ b ∧ Below w.heap.size w w' := by
  unfold lsV
  have X0 := blk_new w 26 #[.int .i64 ep, .int .i64 q, .map mo]
  have B0 := below_alloc' w (.cells #[.int .i64 ep, .int .i64 q, .map mo] 26)
  have s0 : (w.alloc (.cells #[.int .i64 ep, .int .i64 q, .map mo] 26)).heap.size = w.heap.size + 1 := by simp
  generalize hw0 : w.alloc (.cells #[.int .i64 ep, .int .i64 q, .map mo] 26) = w0 at *
  have X1 := blk_new w0 26 #[.int .i64 0, .int .i64 0, .map none]
  have B1 := below_alloc' w0 (.cells #[.int .i64 0, .int .i64 0, .map none] 26)
  have s1 : (w0.alloc (.cells #[.int .i64 0, .int .i64 0, .map none] 26)).heap.size = w.heap.size + 1 + 1 := by simp [s0]
  have X01 := X0.below B1
  rw [s0] at X1
  generalize hw1 : w0.alloc (.cells #[.int .i64 0, .int .i64 0, .map none] 26) = w1 at *
  have M1 := (hM.below B0).below B1
  have C := lcopied_any ep q mo L w1 M1 hl
  rw [s1] at C
  unfold lsV at C
  have HB : Hid (Below w.heap.size w w1) := below_then B0 B1
  have HS : Hid (w1.heap.size = w.heap.size + 1 + 1) := s1
  clear B0 B1 hM M1 s1
  go_enter Try.func17, Try.ntmps17
  go_wp2_with (first
    | (go_at_call 16; refine C.mono ?_; rintro e w2 ⟨rfl, M2, B2⟩; have z1 := HS.out; have X02 := X01.of_block (B2.block _ (by omega)); have X12 := X1.of_block (B2.block _ (by omega)); have X03 := X02.row #[.int .i64 ep, .int .i64 q, .map (some (w.heap.size + 1 + 1 + 2))]; have X13 := X12.of_block (setRow_other w2 w.heap.size (w.heap.size + 1) #[.int .i64 ep, .int .i64 q, .map (some (w.heap.size + 1 + 1 + 2))] (by omega)); have M3 := M2.keep (w' := w2.setRow w.heap.size #[.int .i64 ep, .int .i64 q, .map (some (w.heap.size + 1 + 1 + 2))]) (setRow_other _ _ _ _ (by omega)); have B3 := below_row (HB.out.trans (B2.mono (by omega))) (Nat.le_refl w.heap.size) #[.int .i64 ep, .int .i64 q, .map (some (w.heap.size + 1 + 1 + 2))]; have z2 := B2.size; have z3 := setRow_size w2 w.heap.size #[.int .i64 ep, .int .i64 q, .map (some (w.heap.size + 1 + 1 + 2))]; clear z1)
    | (refine wpList_load_row rfl 26 _ rfl w.heap.size rfl 26 _ (0, 0) _ X01 Try.underlying26 rfl Try.infoLs ?_)
    | (refine wpList_store_row rfl 26 _ _ rfl w.heap.size _ rfl rfl 26 _ X02 Try.infoLs rfl (lall _ _ _) ?_))
  go_frame
  generalize hw3 : w2.setRow w.heap.size #[.int .i64 ep, .int .i64 q, .map (some (w.heap.size + 1 + 1 + 2))] = w3 at *
  have c3 : w3.cell? ⟨w.heap.size, 2, none⟩ = some (.map (some (w.heap.size + 1 + 1 + 2))) := X03.cell 2 rfl
  have hlt3 := X03.lt
  have z4 : w.heap.size + 1 + 1 ≤ w3.heap.size := by have := HS.out; omega
  clear z3 z2 s0
  have c4 : ∀ o, (w3.alloc o).cell? ⟨w.heap.size, 2, none⟩ = some (.map (some (w.heap.size + 1 + 1 + 2))) := fun o => by rw [World.cell?_alloc_past o w.heap.size 2 hlt3]; exact c3
  have M4 := M3.below (below_alloc' w3 (.cells #[.int .i64 now] 3))
  have C4 : (w3.alloc (.cells #[.int .i64 now] 3)).cell? ⟨w3.heap.size, 0, none⟩ = some (.int .i64 now) := (blk_new w3 _ _).cell 0 rfl
  have D3 := fun W => ldelf_any (w.heap.size + 1 + 1 + 2) w3.heap.size now L W
  have OV := lover_any now
  go_region_with (first
    | (go_at_call 22; refine (OV _).mono ?_; rintro e w4 ⟨rfl, rfl⟩)
    | (go_at_call 24; refine (D3 _ (by exact M4.keep rfl) (by exact C4)).mono ?_; rintro e w5 ⟨rfl, M5, B5⟩))
  all_goals
    have X3a := X03.below (below_alloc' w3 (.cells #[.int .i64 now] 3))
    have X3b := X13.below (below_alloc' w3 (.cells #[.int .i64 now] 3))
    have X05 := Blk.but (by exact X3a) B5 (by omega)
    have X15 := Blk.but (by exact X3b) B5 (by omega)
    have B6 := B5.below (B := w.heap.size) (by simp; omega) (by omega)
    clear c3 c4 C4
    go_wp2_with (first
      | (refine wpList_load_row rfl 26 _ rfl w.heap.size rfl 26 _ (0, 0) _ X05 Try.underlying26 rfl Try.infoLs ?_)
      | (refine wpList_store_row rfl 26 _ _ rfl (w.heap.size + 1) _ rfl rfl 26 _ X15 Try.infoLs rfl (lall _ _ _) ?_))
    refine bodyPost_ret (results_cell_row rfl _ _ (w.heap.size + 1) 26 _ _ _ rfl (X15.row _) Try.underlying26 rfl Try.infoLs) rfl ?_
    refine ⟨_, rfl, M5.keep (setRow_other _ _ _ _ (by omega)), by omega, below_row ((B3.alloc (by omega) (.cells #[.int .i64 now] 3)).trans (by exact ⟨B6.os, B6.tape, B6.output, B6.size, B6.block⟩)) (by omega) _⟩
end Go.Proofs.Ytacmphckmjangaa
