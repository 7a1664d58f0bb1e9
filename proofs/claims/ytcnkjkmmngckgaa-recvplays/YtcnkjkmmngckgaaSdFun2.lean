/- send's Begin, Left, Over and copies of a state. -/
import Derived.Test.YtcnkjkmmngckgaaSdFun
namespace Go.Proofs.Ytcnkjkmmngckgaa
open Go.ChangeShapes Go.WideShapes Go.ChangeAt Go.RowKit
theorem Blk.row {w : World} {g : Nat} {T : TypeId} {cs : Array Value} (h : Blk w g T cs) (ds : Array Value) : Blk (w.setRow g ds) g T ds := setRow_heap _ _ _ _ _ _ h
theorem results_s2 {fn : Func} {p u : Tmp} {ty : TypeId} (h : fn.results = #[.cell p ty, .tmp u]) (tmps : Array Value) (w : World) (g : Nat) (cs : Array Value)
    (hp : tmps.getD p undef = .pointer (some ⟨g, 0, none⟩)) (hl : (loadVar ty ⟨g, 0, none⟩).run Try.prog w = .ok (.agg cs) w) :
    (results fn tmps).run Try.prog w = .ok (.tuple #[.agg cs, tmps.getD u undef]) w := by
  have hp' : tmps[p]?.getD undef = .pointer (some ⟨g, 0, none⟩) := by simpa using hp
  simp [results, h, hp', asAddr, hl]
theorem results_s3 {fn : Func} {p u v : Tmp} {ty : TypeId} (h : fn.results = #[.cell p ty, .tmp u, .tmp v]) (tmps : Array Value) (w : World) (g : Nat) (cs : Array Value)
    (hp : tmps.getD p undef = .pointer (some ⟨g, 0, none⟩)) (hl : (loadVar ty ⟨g, 0, none⟩).run Try.prog w = .ok (.agg cs) w) :
    (results fn tmps).run Try.prog w = .ok (.tuple #[.agg cs, tmps.getD u undef, tmps.getD v undef]) w := by
  have hp' : tmps[p]?.getD undef = .pointer (some ⟨g, 0, none⟩) := by simpa using hp
  simp [results, h, hp', asAddr, hl]
theorem load_ss {w : World} {g : Nat} {a b c : Value} (h : Blk w g 64 #[a, b, c]) : (loadVar 64 ⟨g, 0, none⟩).run Try.prog w = .ok (.agg #[a, b, c]) w :=
  run_loadVar_row w g _ _ _ _ _ h Try.underlying64 rfl Try.infoSs
theorem vown_made (w : World) (n : Nat) (h : n ≤ 140737488355328) : VOwn (w.alloc (.cells (madeCells #[.bool false] n) 4)) w.heap.size 4 (.slice (some ⟨w.heap.size, 0, none⟩) n n) n (bools (List.replicate n false)) := by
  have h1 := World.ownsRow_lit (base := w.heap.size) (e := 4) (size := 1) w (madeCells #[.bool false] n) n (Nat.le_refl _) (by unfold maxLen; omega) (by simp [madeCells])
  rw [toList_madeCells_one] at h1
  have e : bools (List.replicate n false) = List.replicate n (.bool false) := by simp [bools]
  unfold VOwn
  rw [e]
  exact h1
/-- The places of n that aren't known to have come. -/
def leftL (C : List Bool) : Nat → List Int
  | 0 => []
  | n + 1 => leftL C n ++ (if be C n then [] else [(n : Int)])
theorem leftL_len (C : List Bool) : ∀ n, (leftL C n).length ≤ n
  | 0 => by simp [leftL]
  | n + 1 => by
    have := leftL_len C n
    unfold leftL
    split <;> simp <;> omega
theorem leftL_come {C : List Bool} {t : Nat} (h : be C t = true) : leftL C (t + 1) = leftL C t := by simp [leftL, h]
theorem leftL_not {C : List Bool} {t : Nat} (h : be C t = false) : leftL C (t + 1) = leftL C t ++ [(t : Int)] := by simp [leftL, h]
set_option maxHeartbeats 8000000 in
theorem sleft_any (num : Int) (ap ac : Option Addr) (n cp m cc : Nat) (C : List Bool) (w : World) (hC : VArg w ac m cc (bools C)) (hn : n ≤ 8796093022208) :
   Calls Try.prog 19 #[stV num (.slice ap n cp) (.slice ac m cc)] w fun e w' => ∃ a c, e = .returned (.slice a (leftL C n).length c) ∧ VOwn w' w.heap.size 3 (.slice a (leftL C n).length c) (leftL C n).length (ints (leftL C n)) ∧ Below w.heap.size w w' := by
  have hm := hC.max
  have hfm := hC.fit
  have hlC : C.length = m := by rw [← bools_len]; exact hC.len
  have X0 := blk_new w 64 #[.int .i64 num, .slice ap n cp, .slice ac m cc]
  have B0 := belowA w (.cells #[.int .i64 num, .slice ap n cp, .slice ac m cc] 64)
  have s0 : (w.alloc (.cells #[.int .i64 num, .slice ap n cp, .slice ac m cc] 64)).heap.size = w.heap.size + 1 := by simp
  have HC : Hid (VArg w ac m cc (bools C)) := hC
  unfold stV
  generalize hw0 : w.alloc (.cells #[.int .i64 num, .slice ap n cp, .slice ac m cc] 64) = w0 at *
  have c1 : w0.cell? ⟨w.heap.size, 1, none⟩ = some (.slice ap n cp) := X0.cell 1 rfl
  clear hC
  go_enter Try.func19, Try.ntmps19
  go_wp2_with fail
  go_loopg [3, 8] n (fun r s3 s8 wr => ∃ (t : Nat) (a : Option Addr) (c k : Nat), r = n - t ∧ t ≤ n ∧ k = (leftL C t).length ∧ s3 = .slice a k c ∧ s8 = .int .i64 (t : Int) ∧ VOwn wr (w.heap.size + 1) 3 (.slice a k c) k (ints (leftL C t)) ∧ Blk wr w.heap.size 64 #[.int .i64 num, .slice ap n cp, .slice ac m cc] ∧ Below w.heap.size w wr ∧ w.heap.size + 1 ≤ wr.heap.size)
  case atStart => exact ⟨0, none, 0, 0, rfl, by omega, rfl, rfl, rfl, vown_nil _ _ _, X0, B0, by omega⟩
  case round =>
  obtain ⟨t, a, c, k, rfl, ht, hk, rfl, rfl, O, X, B, zr⟩ := hrel
  have hkt := leftL_len C t
  rw [← hk] at hkt
  have HK : Hid (k = (leftL C t).length) := hk
  have AC := HC.out.below B
  clear c1 X0 hw0 B0 hk
  have c1 : wr.cell? ⟨w.heap.size, 1, none⟩ = some (.slice ap n cp) := X.cell 1 rfl
  have c2 : wr.cell? ⟨w.heap.size, 2, none⟩ = some (.slice ac m cc) := X.cell 2 rfl
  by_cases d1 : t < n
  case neg =>
    obtain rfl : t = n := by omega
    go_wp2_with fail
    go_ret
    rw [← HK.out]
    exact ⟨a, c, rfl, O.base (by omega), B⟩
  have d1' : (t : Int) < (n : Int) := by omega
  have Bu := belowA wr (.cells #[.int .i64 (t : Int)] 3)
  have Ou := O.below Bu
  have Xu := X.below Bu
  have BBu := below_then B Bu
  have X6 : (wr.alloc (.cells #[.int .i64 (t : Int)] 3)).cell? ⟨wr.heap.size, 0, none⟩ = some (.int .i64 (t : Int)) := (blk_new wr _ _).cell 0 rfl
  have zu : wr.heap.size ≤ (wr.alloc (.cells #[.int .i64 (t : Int)] 3)).heap.size := by simp
  have ne1 : ∀ g, g < w.heap.size + 1 → some g ≠ (Value.slice a k c).ownBlock := fun g hg e => by have := (World.ownsRow.lt O g e.symm).1; omega
  have fin : ∀ (a7 : Option Addr) (c7 : Nat) (w7 : World), be C t = false → VOwn w7 (w.heap.size + 1) 3 (.slice a7 (k + 1) c7) (k + 1) (ints (leftL C t) ++ [.int .i64 (t : Int)]) → k + 1 = (leftL C (t + 1)).length ∧ VOwn w7 (w.heap.size + 1) 3 (.slice a7 (k + 1) c7) (k + 1) (ints (leftL C (t + 1))) := fun a7 c7 w7 hb O7 => by
    refine ⟨by rw [leftL_not hb, List.length_append, ← HK.out]; rfl, ?_⟩
    rw [leftL_not hb]
    have e9 : ints (leftL C t ++ [(t : Int)]) = ints (leftL C t) ++ [.int .i64 (t : Int)] := by simp [ints]
    rw [e9]
    exact O7
  by_cases d2 : t < m
  · have d2' : ¬ (m : Int) ≤ (t : Int) := by omega
    obtain ⟨bc, oc, rfl, hcc⟩ := AC.cells (by omega)
    have cC := hcc t d2
    rw [bools_get (by omega)] at cC
    clear hcc
    cases hb : be C t with
    | true =>
      rw [hb] at cC
      clear Bu Ou Xu BBu X6 zu
      go_wp2_with fail
      go_roundg (n - (t + 1))
      case measure => omega
      case rel => exact ⟨t + 1, a, c, k, rfl, by omega, by rw [leftL_come hb]; exact HK.out, rfl, by go_num, by rw [leftL_come hb]; exact O, X, B, zr⟩
    | false =>
      rw [hb] at cC
      generalize hwu : wr.alloc (.cells #[.int .i64 (t : Int)] 3) = wu at *
      go_wp2_with (at_builtin; refine wpList_append_val rfl _ _ 3 62 (.int .i64 0) 8 Try.underlying62 Try.infoInt rfl rfl (w.heap.size + 1) _ _ _ rfl Ou wr.heap.size (.int .i64 (t : Int)) rfl X6 rfl (by omega) (by omega) (by omega) ?_; intro v' w7 O7 B7 G7; obtain ⟨a7, c7, rfl, _⟩ := VOwn.arg O7)
      go_roundg (n - (t + 1))
      case measure => omega
      case rel => exact ⟨t + 1, a7, c7, k + 1, rfl, by omega, (fin a7 c7 w7 hb O7).1, rfl, by go_num, (fin a7 c7 w7 hb O7).2, Xu.of_block (G7.block _ Xu.lt (ne1 _ (by omega))), BBu.trans (B7.mono (by omega)), by have := B7.size; omega⟩
  · have d2' : (m : Int) ≤ (t : Int) := by omega
    have hb : be C t = false := be_over (by omega)
    generalize hwu : wr.alloc (.cells #[.int .i64 (t : Int)] 3) = wu at *
    clear AC
    go_wp2_with (at_builtin; refine wpList_append_val rfl _ _ 3 62 (.int .i64 0) 8 Try.underlying62 Try.infoInt rfl rfl (w.heap.size + 1) _ _ _ rfl Ou wr.heap.size (.int .i64 (t : Int)) rfl X6 rfl (by omega) (by omega) (by omega) ?_; intro v' w7 O7 B7 G7; obtain ⟨a7, c7, rfl, _⟩ := VOwn.arg O7)
    go_roundg (n - (t + 1))
    case measure => omega
    case rel => exact ⟨t + 1, a7, c7, k + 1, rfl, by omega, (fin a7 c7 w7 hb O7).1, rfl, by go_num, (fin a7 c7 w7 hb O7).2, Xu.of_block (G7.block _ Xu.lt (ne1 _ (by omega))), BBu.trans (B7.mono (by omega)), by have := B7.size; omega⟩
end Go.Proofs.Ytcnkjkmmngckgaa
