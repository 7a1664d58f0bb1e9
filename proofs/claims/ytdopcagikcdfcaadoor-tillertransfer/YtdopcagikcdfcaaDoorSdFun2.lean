/- send's Begin, Left, Over and copies of a state. -/
import Derived.Test.YtdopcagikcdfcaaDoorSdFun
namespace Go.Proofs.YtdopcagikcdfcaaDoor
open Go.ChangeShapes Go.WideShapes Go.ChangeAt Go.RowKit
theorem results_s2 {fn : Func} {p u : Tmp} {ty : TypeId} (h : fn.results = #[.cell p ty, .tmp u]) (tmps : Array Value) (w : World) (g : Nat) (cs : Array Value)
    (hp : tmps.getD p undef = .pointer (some ⟨g, 0, none⟩)) (hl : (loadVar ty ⟨g, 0, none⟩).run Tryd.prog w = .ok (.agg cs) w) :
    (results fn tmps).run Tryd.prog w = .ok (.tuple #[.agg cs, tmps.getD u undef]) w := by
  have hp' : tmps[p]?.getD undef = .pointer (some ⟨g, 0, none⟩) := by simpa using hp
  simp [results, h, hp', asAddr, hl]
theorem results_s3 {fn : Func} {p u v : Tmp} {ty : TypeId} (h : fn.results = #[.cell p ty, .tmp u, .tmp v]) (tmps : Array Value) (w : World) (g : Nat) (cs : Array Value)
    (hp : tmps.getD p undef = .pointer (some ⟨g, 0, none⟩)) (hl : (loadVar ty ⟨g, 0, none⟩).run Tryd.prog w = .ok (.agg cs) w) :
    (results fn tmps).run Tryd.prog w = .ok (.tuple #[.agg cs, tmps.getD u undef, tmps.getD v undef]) w := by
  have hp' : tmps[p]?.getD undef = .pointer (some ⟨g, 0, none⟩) := by simpa using hp
  simp [results, h, hp', asAddr, hl]
theorem load_ss {w : World} {g : Nat} {a b c : Value} (h : Blk w g 30 #[a, b, c]) : (loadVar 30 ⟨g, 0, none⟩).run Tryd.prog w = .ok (.agg #[a, b, c]) w :=
  run_loadVar_row w g _ _ _ _ _ h Tryd.underlying30 rfl Tryd.infoSs
theorem vown_made (w : World) (n : Nat) (h : n ≤ 140737488355328) : VOwn (w.alloc (.cells (madeCells #[.bool false] n) 4)) w.heap.size 4 (.slice (some ⟨w.heap.size, 0, none⟩) n n) n (bools (List.replicate n false)) := by
  have h1 := World.ownsRow_lit (base := w.heap.size) (e := 4) (size := 1) w (madeCells #[.bool false] n) n (Nat.le_refl _) (by unfold maxLen; omega) (by simp [madeCells])
  rw [toList_madeCells_one] at h1
  have e : bools (List.replicate n false) = List.replicate n (.bool false) := by simp [bools]
  unfold VOwn
  rw [e]
  exact h1
set_option maxHeartbeats 4000000 in
theorem sbegin_bad (num : Int) (l : List UInt8) (I : Int) (w : World) (h : cutN l I ≠ 0) :
   Calls Tryd.prog 6 #[.int .i64 num, .string (txt l), .int .i64 I] w fun e w' => e = .returned (.tuple #[stV 0 (.slice none 0 0) (.slice none 0 0), .int .i64 (cutN l I)]) ∧ Below w.heap.size w w' := by
  have C := fun W => scut_bad l I W h
  have X0 := blk_new w 30 #[.int .i64 0, .slice none 0 0, .slice none 0 0]
  have B0 := belowA w (.cells #[.int .i64 0, .slice none 0 0, .slice none 0 0] 30)
  generalize hw0 : w.alloc (.cells #[.int .i64 0, .slice none 0 0, .slice none 0 0] 30) = w0 at *
  generalize cutN l I = r at *
  generalize txt l = Y at *
  unfold stV
  go_enter Tryd.func6, Tryd.ntmps6
  go_wp2_with (first
    | (go_at_call 4; refine (C _).mono ?_; rintro e w2 ⟨rfl, rfl⟩)
    | (refine wpList_store_row rfl 30 _ _ rfl w.heap.size _ rfl rfl 30 _ X0 Tryd.infoSs rfl (stall _ _ _ _ _ _ _) ?_))
  refine bodyPost_ret (results_s2 rfl _ _ w.heap.size _ rfl (load_ss (X0.row _))) rfl ?_
  exact ⟨rfl, belowR B0 (Nat.le_refl _) _⟩
set_option maxHeartbeats 4000000 in
theorem sbegin_ok (num : Int) (l : List UInt8) (z : Nat) (w : World) (h : cutN l z = 0) (hl : l.length ≤ 100000) (hk : (cutS l z).length ≤ 100000) :
   Calls Tryd.prog 6 #[.int .i64 num, .string (txt l), .int .i64 (z : Int)] w fun e w' => ∃ a c a2 c2, e = .returned (.tuple #[stV num (.slice a (cutS l z).length c) (.slice a2 (cutS l z).length c2), .int .i64 0]) ∧ VOwn w' w.heap.size 9 (.slice a (cutS l z).length c) (cutS l z).length (strs (cutS l z)) ∧ VOwn w' w.heap.size 4 (.slice a2 (cutS l z).length c2) (cutS l z).length (bools (List.replicate (cutS l z).length false)) ∧ Below w.heap.size w w' := by
  have C := fun W => scut_ok l z W h hl
  have X0 := blk_new w 30 #[.int .i64 0, .slice none 0 0, .slice none 0 0]
  have B0 := belowA w (.cells #[.int .i64 0, .slice none 0 0, .slice none 0 0] 30)
  have s0 : (w.alloc (.cells #[.int .i64 0, .slice none 0 0, .slice none 0 0] 30)).heap.size = w.heap.size + 1 := by simp
  generalize hw0 : w.alloc (.cells #[.int .i64 0, .slice none 0 0, .slice none 0 0] 30) = w0 at *
  generalize cutS l z = S at *
  generalize hn : S.length = n at *
  generalize txt l = Y at *
  clear h
  unfold stV
  have hmk := fun W => run_make_row' (P := Tryd.prog) 28 4 (.bool false) 1 Tryd.underlying28 Tryd.infoBool rfl .i64 .i64 n (by omega) (by omega) W
  go_enter Tryd.func6, Tryd.ntmps6
  go_wp2_with (first
    | (go_at_call 4; refine (C _).mono ?_; rintro e w2 ⟨a, c, rfl, O2, B2⟩; have X2 := X0.below B2; have O3 := vown_made w2 n (by omega); have B3 := belowA w2 (.cells (madeCells #[.bool false] n) 4); have z2 := B2.size; have X3 := X2.below B3; have P3 := VOwn.below O2 B3; have B4 := below_then (below_then B0 B2) B3; generalize hw3 : w2.alloc (.cells (madeCells #[.bool false] n) 4) = w3 at *)
    | (refine wpList_store_row rfl 30 _ _ rfl w.heap.size _ rfl rfl 30 _ X3 Tryd.infoSs rfl (stall _ _ _ _ _ _ _) ?_))
  refine bodyPost_ret (results_s2 rfl _ _ w.heap.size _ rfl (load_ss (X3.row _))) rfl ?_
  refine ⟨a, c, _, _, rfl, (P3.of_block (fun g _ hg _ => setRow_other _ _ _ _ (by omega))).base (by omega), (O3.of_block (fun g _ hg _ => setRow_other _ _ _ _ (by omega))).base (by omega), belowR B4 (Nat.le_refl _) _⟩
/-- The places of n that aren't known to have come. -/
def leftL (C : List Bool) : Nat → List Int
  | 0 => []
  | n + 1 => leftL C n ++ (if be C n then [] else [(n : Int)])
theorem leftL_len (C : List Bool) : ∀ n, (leftL C n).length ≤ n
  | 0 => by simp [leftL]
  | n + 1 => by
    have := leftL_len C n
    unfold leftL
    split <;> simp <;> omega
theorem leftL_come {C : List Bool} {t : Nat} (h : be C t = true) : leftL C (t + 1) = leftL C t := by simp [leftL, h]
theorem leftL_not {C : List Bool} {t : Nat} (h : be C t = false) : leftL C (t + 1) = leftL C t ++ [(t : Int)] := by simp [leftL, h]
set_option maxHeartbeats 8000000 in
theorem sleft_any (num : Int) (ap ac : Option Addr) (n cp m cc : Nat) (C : List Bool) (w : World) (hC : VArg w ac m cc (bools C)) (hn : n ≤ 8796093022208) :
   Calls Tryd.prog 16 #[stV num (.slice ap n cp) (.slice ac m cc)] w fun e w' => ∃ a c, e = .returned (.slice a (leftL C n).length c) ∧ VOwn w' w.heap.size 3 (.slice a (leftL C n).length c) (leftL C n).length (ints (leftL C n)) ∧ Below w.heap.size w w' := by
  have hm := hC.max
  have hfm := hC.fit
  have hlC : C.length = m := by rw [← bools_len]; exact hC.len
  have X0 := blk_new w 30 #[.int .i64 num, .slice ap n cp, .slice ac m cc]
  have B0 := belowA w (.cells #[.int .i64 num, .slice ap n cp, .slice ac m cc] 30)
  have s0 : (w.alloc (.cells #[.int .i64 num, .slice ap n cp, .slice ac m cc] 30)).heap.size = w.heap.size + 1 := by simp
  have HC : Hid (VArg w ac m cc (bools C)) := hC
  unfold stV
  generalize hw0 : w.alloc (.cells #[.int .i64 num, .slice ap n cp, .slice ac m cc] 30) = w0 at *
  have c1 : w0.cell? ⟨w.heap.size, 1, none⟩ = some (.slice ap n cp) := X0.cell 1 rfl
  clear hC
  go_enter Tryd.func16, Tryd.ntmps16
  go_wp2_with fail
  go_loopg [3, 8] n (fun r s3 s8 wr => ∃ (t : Nat) (a : Option Addr) (c k : Nat), r = n - t ∧ t ≤ n ∧ k = (leftL C t).length ∧ s3 = .slice a k c ∧ s8 = .int .i64 (t : Int) ∧ VOwn wr (w.heap.size + 1) 3 (.slice a k c) k (ints (leftL C t)) ∧ Blk wr w.heap.size 30 #[.int .i64 num, .slice ap n cp, .slice ac m cc] ∧ Below w.heap.size w wr ∧ w.heap.size + 1 ≤ wr.heap.size)
  case atStart => exact ⟨0, none, 0, 0, rfl, by omega, rfl, rfl, rfl, vown_nil _ _ _, X0, B0, by omega⟩
  case round =>
  obtain ⟨t, a, c, k, rfl, ht, hk, rfl, rfl, O, X, B, zr⟩ := hrel
  have hkt := leftL_len C t
  rw [← hk] at hkt
  have HK : Hid (k = (leftL C t).length) := hk
  have AC := HC.out.below B
  clear c1 X0 hw0 B0 hk
  have c1 : wr.cell? ⟨w.heap.size, 1, none⟩ = some (.slice ap n cp) := X.cell 1 rfl
  have c2 : wr.cell? ⟨w.heap.size, 2, none⟩ = some (.slice ac m cc) := X.cell 2 rfl
  by_cases d1 : t < n
  case neg =>
    obtain rfl : t = n := by omega
    go_wp2_with fail
    go_ret
    rw [← HK.out]
    exact ⟨a, c, rfl, O.base (by omega), B⟩
  have d1' : (t : Int) < (n : Int) := by omega
  have Bu := belowA wr (.cells #[.int .i64 (t : Int)] 3)
  have Ou := O.below Bu
  have Xu := X.below Bu
  have BBu := below_then B Bu
  have X6 : (wr.alloc (.cells #[.int .i64 (t : Int)] 3)).cell? ⟨wr.heap.size, 0, none⟩ = some (.int .i64 (t : Int)) := (blk_new wr _ _).cell 0 rfl
  have zu : wr.heap.size ≤ (wr.alloc (.cells #[.int .i64 (t : Int)] 3)).heap.size := by simp
  have ne1 : ∀ g, g < w.heap.size + 1 → some g ≠ (Value.slice a k c).ownBlock := fun g hg e => by have := (World.ownsRow.lt O g e.symm).1; omega
  have fin : ∀ (a7 : Option Addr) (c7 : Nat) (w7 : World), be C t = false → VOwn w7 (w.heap.size + 1) 3 (.slice a7 (k + 1) c7) (k + 1) (ints (leftL C t) ++ [.int .i64 (t : Int)]) → k + 1 = (leftL C (t + 1)).length ∧ VOwn w7 (w.heap.size + 1) 3 (.slice a7 (k + 1) c7) (k + 1) (ints (leftL C (t + 1))) := fun a7 c7 w7 hb O7 => by
    refine ⟨by rw [leftL_not hb, List.length_append, ← HK.out]; rfl, ?_⟩
    rw [leftL_not hb]
    have e9 : ints (leftL C t ++ [(t : Int)]) = ints (leftL C t) ++ [.int .i64 (t : Int)] := by simp [ints]
    rw [e9]
    exact O7
  by_cases d2 : t < m
  · have d2' : ¬ (m : Int) ≤ (t : Int) := by omega
    obtain ⟨bc, oc, rfl, hcc⟩ := AC.cells (by omega)
    have cC := hcc t d2
    rw [bools_get (by omega)] at cC
    clear hcc
    cases hb : be C t with
    | true =>
      rw [hb] at cC
      clear Bu Ou Xu BBu X6 zu
      go_wp2_with fail
      go_roundg (n - (t + 1))
      case measure => omega
      case rel => exact ⟨t + 1, a, c, k, rfl, by omega, by rw [leftL_come hb]; exact HK.out, rfl, by go_num, by rw [leftL_come hb]; exact O, X, B, zr⟩
    | false =>
      rw [hb] at cC
      generalize hwu : wr.alloc (.cells #[.int .i64 (t : Int)] 3) = wu at *
      go_wp2_with (at_builtin; refine wpList_append_val rfl _ _ 3 48 (.int .i64 0) 8 Tryd.underlying48 Tryd.infoInt rfl rfl (w.heap.size + 1) _ _ _ rfl Ou wr.heap.size (.int .i64 (t : Int)) rfl X6 rfl (by omega) (by omega) (by omega) ?_; intro v' w7 O7 B7 G7; obtain ⟨a7, c7, rfl, _⟩ := VOwn.arg O7)
      go_roundg (n - (t + 1))
      case measure => omega
      case rel => exact ⟨t + 1, a7, c7, k + 1, rfl, by omega, (fin a7 c7 w7 hb O7).1, rfl, by go_num, (fin a7 c7 w7 hb O7).2, Xu.of_block (G7.block _ Xu.lt (ne1 _ (by omega))), BBu.trans (B7.mono (by omega)), by have := B7.size; omega⟩
  · have d2' : (m : Int) ≤ (t : Int) := by omega
    have hb : be C t = false := be_over (by omega)
    generalize hwu : wr.alloc (.cells #[.int .i64 (t : Int)] 3) = wu at *
    clear AC
    go_wp2_with (at_builtin; refine wpList_append_val rfl _ _ 3 48 (.int .i64 0) 8 Tryd.underlying48 Tryd.infoInt rfl rfl (w.heap.size + 1) _ _ _ rfl Ou wr.heap.size (.int .i64 (t : Int)) rfl X6 rfl (by omega) (by omega) (by omega) ?_; intro v' w7 O7 B7 G7; obtain ⟨a7, c7, rfl, _⟩ := VOwn.arg O7)
    go_roundg (n - (t + 1))
    case measure => omega
    case rel => exact ⟨t + 1, a7, c7, k + 1, rfl, by omega, (fin a7 c7 w7 hb O7).1, rfl, by go_num, (fin a7 c7 w7 hb O7).2, Xu.of_block (G7.block _ Xu.lt (ne1 _ (by omega))), BBu.trans (B7.mono (by omega)), by have := B7.size; omega⟩
set_option maxHeartbeats 4000000 in
theorem sover_any (num : Int) (ap ac : Option Addr) (n cp m cc : Nat) (C : List Bool) (w : World) (hC : VArg w ac m cc (bools C)) (hn : n ≤ 8796093022208) :
   Calls Tryd.prog 8 #[stV num (.slice ap n cp) (.slice ac m cc)] w fun e w' => e = .returned (.bool (decide (((leftL C n).length : Int) = 0))) ∧ Below w.heap.size w w' := by
  have B0 := belowA w (.cells #[.int .i64 num, .slice ap n cp, .slice ac m cc] 30)
  have X0 := blk_new w 30 #[.int .i64 num, .slice ap n cp, .slice ac m cc]
  unfold stV
  generalize hw0 : w.alloc (.cells #[.int .i64 num, .slice ap n cp, .slice ac m cc] 30) = w0 at *
  have L := sleft_any num ap ac n cp m cc C w0 (hC.below B0) hn
  unfold stV at L
  clear hC
  have hk := leftL_len C n
  generalize (leftL C n).length = k at *
  go_enter Tryd.func8, Tryd.ntmps8
  go_wp2_with (first
    | (go_at_call 16; refine L.mono ?_; rintro e w2 ⟨a, c, rfl, O, B⟩)
    | (refine wpList_load_row rfl 30 _ rfl w.heap.size rfl 30 _ (0, 0) _ X0 Tryd.underlying30 rfl Tryd.infoSs ?_))
  go_ret
  exact ⟨rfl, below_then B0 B⟩
end Go.Proofs.YtdopcagikcdfcaaDoor
