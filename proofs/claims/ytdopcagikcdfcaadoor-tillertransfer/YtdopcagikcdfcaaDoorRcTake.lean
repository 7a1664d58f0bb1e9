/- recv's mayTake and Take. Written by tools/genrctake.py. -/
import Derived.Test.YtdopcagikcdfcaaDoorRcCopy
namespace Go.Proofs.YtdopcagikcdfcaaDoor
open Go.ChangeShapes Go.WideShapes Go.ChangeAt Go.RowKit
/-- A part as a value. -/
def ptV (pn pa po : Int) (pt : ByteArray) : Value := .agg #[.int .i64 pn, .int .i64 pa, .int .i64 po, .string pt]
theorem Tryd.infoPt : (Tryd.prog.info? 40).map (·.size) = some 4 := by kernel_rfl
theorem ptall (pn pa po : Int) (pt : ByteArray) : Array.all (#[.int .i64 pn, .int .i64 pa, .int .i64 po, .string pt] : Array Value) (fun v => v.oneCell') = true := by simp [Value.oneCell']
/-- Why a part isn't taken; 0: it is, or it came already. -/
def takeN (num : Int) (n m : Nat) (S : List ByteArray) (C : List Bool) (pn pa po : Int) (pt : ByteArray) : Int :=
  if ¬ (0 < n ∧ m = n) then 4 else if pn ≠ num then 14 else if po ≠ (n : Int) ∨ pa < 0 ∨ (n : Int) ≤ pa then 1 else if 4096 < pt.size then 2 else if be C pa.toNat = true ∧ ¬ se S pa.toNat = pt then 9 else 0
set_option maxRecDepth 100000 in
set_option maxHeartbeats 16000000 in
theorem maytake_any (num pn pa po : Int) (pt : ByteArray) (ap ac : Option Addr) (n cp m cc : Nat) (S : List ByteArray) (C : List Bool) (w : World) (hS : VArg w ap n cp (strs S)) (hC : VArg w ac m cc (bools C)) :
   Calls Tryd.prog 24 #[stV num (.slice ap n cp) (.slice ac m cc), ptV pn pa po pt] w fun e w' => e = .returned (.int .i64 (takeN num n m S C pn pa po pt)) ∧ Below w.heap.size w w' := by
  have hlS : S.length = n := by rw [← strs_len]; exact hS.len
  have hlC : C.length = m := by rw [← bools_len]; exact hC.len
  have hfS := hS.fit
  have hmS := hS.max
  have hfC := hC.fit
  have hmC := hC.max
  have X0 := blk_new w 33 #[.int .i64 num, .slice ap n cp, .slice ac m cc]
  have B0 := belowA w (.cells #[.int .i64 num, .slice ap n cp, .slice ac m cc] 33)
  have s0 : (w.alloc (.cells #[.int .i64 num, .slice ap n cp, .slice ac m cc] 33)).heap.size = w.heap.size + 1 := by simp
  generalize hw0 : w.alloc (.cells #[.int .i64 num, .slice ap n cp, .slice ac m cc] 33) = w0 at *
  have X1 := blk_new w0 40 #[.int .i64 pn, .int .i64 pa, .int .i64 po, .string pt]
  have B1 := belowA w0 (.cells #[.int .i64 pn, .int .i64 pa, .int .i64 po, .string pt] 40)
  have s1 : (w0.alloc (.cells #[.int .i64 pn, .int .i64 pa, .int .i64 po, .string pt] 40)).heap.size = w.heap.size + 1 + 1 := by simp [s0]
  have X01 := X0.below B1
  rw [s0] at X1
  generalize hw1 : w0.alloc (.cells #[.int .i64 pn, .int .i64 pa, .int .i64 po, .string pt] 40) = w1 at *
  have c0 : w1.cell? ⟨w.heap.size, 0, none⟩ = some (.int .i64 num) := X01.cell 0 rfl
  have c1 : w1.cell? ⟨w.heap.size, 1, none⟩ = some (.slice ap n cp) := X01.cell 1 rfl
  have c2 : w1.cell? ⟨w.heap.size, 2, none⟩ = some (.slice ac m cc) := X01.cell 2 rfl
  have d0 : w1.cell? ⟨w.heap.size + 1, 0, none⟩ = some (.int .i64 pn) := X1.cell 0 rfl
  have d1 : w1.cell? ⟨w.heap.size + 1, 1, none⟩ = some (.int .i64 pa) := X1.cell 1 rfl
  have d2 : w1.cell? ⟨w.heap.size + 1, 2, none⟩ = some (.int .i64 po) := X1.cell 2 rfl
  have d3 : w1.cell? ⟨w.heap.size + 1, 3, none⟩ = some (.string pt) := X1.cell 3 rfl
  have RI := fun W => right_any num ap ac n cp m cc W
  have HS : Hid (VArg w1 ap n cp (strs S)) := (hS.below B0).below B1
  have HC : Hid (VArg w1 ac m cc (bools C)) := (hC.below B0).below B1
  have HB : Hid (Below w.heap.size w w1) := below_then B0 B1
  unfold stV at *
  unfold ptV takeN
  clear hS hC B0 B1 X0
  by_cases q1 : 0 < n ∧ m = n
  case neg =>
    rw [if_pos q1]
    rw [decide_eq_false q1] at RI
    go_enter Tryd.func24, Tryd.ntmps24
    go_wp2_with (first
      | (go_at_call 26; refine (RI _).mono ?_; rintro e w2 ⟨rfl, B2⟩; have X02 := X01.below B2; have X12 := X1.below B2; have j0 : w2.cell? ⟨w.heap.size, 0, none⟩ = some (.int .i64 num) := X02.cell 0 rfl; have j1 : w2.cell? ⟨w.heap.size, 1, none⟩ = some (.slice ap n cp) := X02.cell 1 rfl; have j2 : w2.cell? ⟨w.heap.size, 2, none⟩ = some (.slice ac m cc) := X02.cell 2 rfl; have k0 : w2.cell? ⟨w.heap.size + 1, 0, none⟩ = some (.int .i64 pn) := X12.cell 0 rfl; have k1 : w2.cell? ⟨w.heap.size + 1, 1, none⟩ = some (.int .i64 pa) := X12.cell 1 rfl; have k2 : w2.cell? ⟨w.heap.size + 1, 2, none⟩ = some (.int .i64 po) := X12.cell 2 rfl; have k3 : w2.cell? ⟨w.heap.size + 1, 3, none⟩ = some (.string pt) := X12.cell 3 rfl)
      | (refine wpList_load_row rfl 33 _ rfl w.heap.size rfl 33 _ (0, 0) _ X01 Tryd.underlying33 rfl Tryd.infoRs ?_))
    go_ret
    exact ⟨rfl, below_then HB.out B2⟩
  rw [if_neg (not_not_intro q1)]
  rw [decide_eq_true q1] at RI
  obtain ⟨q0, rfl⟩ := q1
  by_cases q2 : pn = num
  case neg =>
    rw [if_pos q2]
    go_enter Tryd.func24, Tryd.ntmps24
    go_wp2_with (first
      | (go_at_call 26; refine (RI _).mono ?_; rintro e w2 ⟨rfl, B2⟩; have X02 := X01.below B2; have X12 := X1.below B2; have j0 : w2.cell? ⟨w.heap.size, 0, none⟩ = some (.int .i64 num) := X02.cell 0 rfl; have j1 : w2.cell? ⟨w.heap.size, 1, none⟩ = some (.slice ap m cp) := X02.cell 1 rfl; have j2 : w2.cell? ⟨w.heap.size, 2, none⟩ = some (.slice ac m cc) := X02.cell 2 rfl; have k0 : w2.cell? ⟨w.heap.size + 1, 0, none⟩ = some (.int .i64 pn) := X12.cell 0 rfl; have k1 : w2.cell? ⟨w.heap.size + 1, 1, none⟩ = some (.int .i64 pa) := X12.cell 1 rfl; have k2 : w2.cell? ⟨w.heap.size + 1, 2, none⟩ = some (.int .i64 po) := X12.cell 2 rfl; have k3 : w2.cell? ⟨w.heap.size + 1, 3, none⟩ = some (.string pt) := X12.cell 3 rfl)
      | (refine wpList_load_row rfl 33 _ rfl w.heap.size rfl 33 _ (0, 0) _ X01 Tryd.underlying33 rfl Tryd.infoRs ?_))
    go_ret
    exact ⟨rfl, below_then HB.out B2⟩
  rw [if_neg (not_not_intro q2)]
  have q2s := q2.symm
  subst q2s
  clear q2
  by_cases q3 : po = (m : Int)
  case neg =>
    rw [if_pos (Or.inl q3)]
    go_enter Tryd.func24, Tryd.ntmps24
    go_wp2_with (first
      | (go_at_call 26; refine (RI _).mono ?_; rintro e w2 ⟨rfl, B2⟩; have X02 := X01.below B2; have X12 := X1.below B2; have j0 : w2.cell? ⟨w.heap.size, 0, none⟩ = some (.int .i64 num) := X02.cell 0 rfl; have j1 : w2.cell? ⟨w.heap.size, 1, none⟩ = some (.slice ap m cp) := X02.cell 1 rfl; have j2 : w2.cell? ⟨w.heap.size, 2, none⟩ = some (.slice ac m cc) := X02.cell 2 rfl; have k0 : w2.cell? ⟨w.heap.size + 1, 0, none⟩ = some (.int .i64 num) := X12.cell 0 rfl; have k1 : w2.cell? ⟨w.heap.size + 1, 1, none⟩ = some (.int .i64 pa) := X12.cell 1 rfl; have k2 : w2.cell? ⟨w.heap.size + 1, 2, none⟩ = some (.int .i64 po) := X12.cell 2 rfl; have k3 : w2.cell? ⟨w.heap.size + 1, 3, none⟩ = some (.string pt) := X12.cell 3 rfl)
      | (refine wpList_load_row rfl 33 _ rfl w.heap.size rfl 33 _ (0, 0) _ X01 Tryd.underlying33 rfl Tryd.infoRs ?_))
    go_ret
    exact ⟨rfl, below_then HB.out B2⟩
  subst q3
  by_cases q4 : pa < 0
  · rw [if_pos (Or.inr (Or.inl q4))]
    go_enter Tryd.func24, Tryd.ntmps24
    go_wp2_with (first
      | (go_at_call 26; refine (RI _).mono ?_; rintro e w2 ⟨rfl, B2⟩; have X02 := X01.below B2; have X12 := X1.below B2; have j0 : w2.cell? ⟨w.heap.size, 0, none⟩ = some (.int .i64 num) := X02.cell 0 rfl; have j1 : w2.cell? ⟨w.heap.size, 1, none⟩ = some (.slice ap m cp) := X02.cell 1 rfl; have j2 : w2.cell? ⟨w.heap.size, 2, none⟩ = some (.slice ac m cc) := X02.cell 2 rfl; have k0 : w2.cell? ⟨w.heap.size + 1, 0, none⟩ = some (.int .i64 num) := X12.cell 0 rfl; have k1 : w2.cell? ⟨w.heap.size + 1, 1, none⟩ = some (.int .i64 pa) := X12.cell 1 rfl; have k2 : w2.cell? ⟨w.heap.size + 1, 2, none⟩ = some (.int .i64 (m : Int)) := X12.cell 2 rfl; have k3 : w2.cell? ⟨w.heap.size + 1, 3, none⟩ = some (.string pt) := X12.cell 3 rfl)
      | (refine wpList_load_row rfl 33 _ rfl w.heap.size rfl 33 _ (0, 0) _ X01 Tryd.underlying33 rfl Tryd.infoRs ?_))
    go_ret
    exact ⟨rfl, below_then HB.out B2⟩
  by_cases q5 : (m : Int) ≤ pa
  · rw [if_pos (Or.inr (Or.inr q5))]
    go_enter Tryd.func24, Tryd.ntmps24
    go_wp2_with (first
      | (go_at_call 26; refine (RI _).mono ?_; rintro e w2 ⟨rfl, B2⟩; have X02 := X01.below B2; have X12 := X1.below B2; have j0 : w2.cell? ⟨w.heap.size, 0, none⟩ = some (.int .i64 num) := X02.cell 0 rfl; have j1 : w2.cell? ⟨w.heap.size, 1, none⟩ = some (.slice ap m cp) := X02.cell 1 rfl; have j2 : w2.cell? ⟨w.heap.size, 2, none⟩ = some (.slice ac m cc) := X02.cell 2 rfl; have k0 : w2.cell? ⟨w.heap.size + 1, 0, none⟩ = some (.int .i64 num) := X12.cell 0 rfl; have k1 : w2.cell? ⟨w.heap.size + 1, 1, none⟩ = some (.int .i64 pa) := X12.cell 1 rfl; have k2 : w2.cell? ⟨w.heap.size + 1, 2, none⟩ = some (.int .i64 (m : Int)) := X12.cell 2 rfl; have k3 : w2.cell? ⟨w.heap.size + 1, 3, none⟩ = some (.string pt) := X12.cell 3 rfl)
      | (refine wpList_load_row rfl 33 _ rfl w.heap.size rfl 33 _ (0, 0) _ X01 Tryd.underlying33 rfl Tryd.infoRs ?_))
    go_ret
    exact ⟨rfl, below_then HB.out B2⟩
  rw [if_neg (fun h => by rcases h with h | h | h <;> first | exact h rfl | exact q4 h | exact q5 h)]
  obtain ⟨k, rfl⟩ : ∃ k : Nat, pa = (k : Int) := ⟨pa.toNat, by omega⟩
  rw [Int.toNat_natCast]
  by_cases q6 : 4096 < pt.size
  · rw [if_pos q6]
    have q6' : (4096 : Int) < (pt.size : Int) := by omega
    go_enter Tryd.func24, Tryd.ntmps24
    go_wp2_with (first
      | (go_at_call 26; refine (RI _).mono ?_; rintro e w2 ⟨rfl, B2⟩; have X02 := X01.below B2; have X12 := X1.below B2; have j0 : w2.cell? ⟨w.heap.size, 0, none⟩ = some (.int .i64 num) := X02.cell 0 rfl; have j1 : w2.cell? ⟨w.heap.size, 1, none⟩ = some (.slice ap m cp) := X02.cell 1 rfl; have j2 : w2.cell? ⟨w.heap.size, 2, none⟩ = some (.slice ac m cc) := X02.cell 2 rfl; have k0 : w2.cell? ⟨w.heap.size + 1, 0, none⟩ = some (.int .i64 num) := X12.cell 0 rfl; have k1 : w2.cell? ⟨w.heap.size + 1, 1, none⟩ = some (.int .i64 (k : Int)) := X12.cell 1 rfl; have k2 : w2.cell? ⟨w.heap.size + 1, 2, none⟩ = some (.int .i64 (m : Int)) := X12.cell 2 rfl; have k3 : w2.cell? ⟨w.heap.size + 1, 3, none⟩ = some (.string pt) := X12.cell 3 rfl)
      | (refine wpList_load_row rfl 33 _ rfl w.heap.size rfl 33 _ (0, 0) _ X01 Tryd.underlying33 rfl Tryd.infoRs ?_))
    go_ret
    exact ⟨rfl, below_then HB.out B2⟩
  rw [if_neg q6]
  have q6' : ¬ (4096 : Int) < (pt.size : Int) := by omega
  have hk : k < m := by omega
  obtain ⟨bC, oC, rfl, kC⟩ := HC.out.cells (by omega)
  obtain ⟨bS, oS, rfl, kS⟩ := HS.out.cells (by omega)
  have tC := kC k hk
  have tS := kS k hk
  rw [bools_get (by omega)] at tC
  rw [strs_get (by omega)] at tS
  have ltC : bC < w1.heap.size := by simpa using World.block_lt_of_cell? w1 _ tC
  have ltS : bS < w1.heap.size := by simpa using World.block_lt_of_cell? w1 _ tS
  clear kC kS
  cases hb : be C k with
  | false =>
    rw [hb] at tC
    rw [if_neg (fun h => by cases h.1)]
    go_enter Tryd.func24, Tryd.ntmps24
    go_upto_region 9 with (first
      | (go_at_call 26; refine (RI _).mono ?_; rintro e w2 ⟨rfl, B2⟩; have X02 := X01.below B2; have X12 := X1.below B2; have j0 : w2.cell? ⟨w.heap.size, 0, none⟩ = some (.int .i64 num) := X02.cell 0 rfl; have j1 : w2.cell? ⟨w.heap.size, 1, none⟩ = some (.slice (some ⟨bS, oS, none⟩) m cp) := X02.cell 1 rfl; have j2 : w2.cell? ⟨w.heap.size, 2, none⟩ = some (.slice (some ⟨bC, oC, none⟩) m cc) := X02.cell 2 rfl; have k0 : w2.cell? ⟨w.heap.size + 1, 0, none⟩ = some (.int .i64 num) := X12.cell 0 rfl; have k1 : w2.cell? ⟨w.heap.size + 1, 1, none⟩ = some (.int .i64 (k : Int)) := X12.cell 1 rfl; have k2 : w2.cell? ⟨w.heap.size + 1, 2, none⟩ = some (.int .i64 (m : Int)) := X12.cell 2 rfl; have k3 : w2.cell? ⟨w.heap.size + 1, 3, none⟩ = some (.string pt) := X12.cell 3 rfl; have uC := (B2.cell (by exact ltC)).trans tC; have uS := (B2.cell (by exact ltS)).trans tS)
      | (refine wpList_load_row rfl 33 _ rfl w.heap.size rfl 33 _ (0, 0) _ X01 Tryd.underlying33 rfl Tryd.infoRs ?_))
    go_quiet (fail)
    go_wp2_with fail
    go_ret
    exact ⟨rfl, below_drewN (below_then HB.out B2) _⟩
  | true =>
    rw [hb] at tC
    by_cases q7 : se S k = pt
    · rw [if_neg (fun h => h.2 q7)]
      rw [q7] at tS
      go_enter Tryd.func24, Tryd.ntmps24
      go_upto_region 9 with (first
        | (go_at_call 26; refine (RI _).mono ?_; rintro e w2 ⟨rfl, B2⟩; have X02 := X01.below B2; have X12 := X1.below B2; have j0 : w2.cell? ⟨w.heap.size, 0, none⟩ = some (.int .i64 num) := X02.cell 0 rfl; have j1 : w2.cell? ⟨w.heap.size, 1, none⟩ = some (.slice (some ⟨bS, oS, none⟩) m cp) := X02.cell 1 rfl; have j2 : w2.cell? ⟨w.heap.size, 2, none⟩ = some (.slice (some ⟨bC, oC, none⟩) m cc) := X02.cell 2 rfl; have k0 : w2.cell? ⟨w.heap.size + 1, 0, none⟩ = some (.int .i64 num) := X12.cell 0 rfl; have k1 : w2.cell? ⟨w.heap.size + 1, 1, none⟩ = some (.int .i64 (k : Int)) := X12.cell 1 rfl; have k2 : w2.cell? ⟨w.heap.size + 1, 2, none⟩ = some (.int .i64 (m : Int)) := X12.cell 2 rfl; have k3 : w2.cell? ⟨w.heap.size + 1, 3, none⟩ = some (.string pt) := X12.cell 3 rfl; have uC := (B2.cell (by exact ltC)).trans tC; have uS := (B2.cell (by exact ltS)).trans tS)
        | (refine wpList_load_row rfl 33 _ rfl w.heap.size rfl 33 _ (0, 0) _ X01 Tryd.underlying33 rfl Tryd.infoRs ?_))
      go_quiet (fail)
      go_wp2_with fail
      go_ret
      exact ⟨rfl, below_drewN (below_then HB.out B2) _⟩
    · rw [if_pos ⟨rfl, q7⟩]
      have q8 := txt_ne q7
      generalize se S k = xs at *
      go_enter Tryd.func24, Tryd.ntmps24
      go_upto_region 9 with (first
        | (go_at_call 26; refine (RI _).mono ?_; rintro e w2 ⟨rfl, B2⟩; have X02 := X01.below B2; have X12 := X1.below B2; have j0 : w2.cell? ⟨w.heap.size, 0, none⟩ = some (.int .i64 num) := X02.cell 0 rfl; have j1 : w2.cell? ⟨w.heap.size, 1, none⟩ = some (.slice (some ⟨bS, oS, none⟩) m cp) := X02.cell 1 rfl; have j2 : w2.cell? ⟨w.heap.size, 2, none⟩ = some (.slice (some ⟨bC, oC, none⟩) m cc) := X02.cell 2 rfl; have k0 : w2.cell? ⟨w.heap.size + 1, 0, none⟩ = some (.int .i64 num) := X12.cell 0 rfl; have k1 : w2.cell? ⟨w.heap.size + 1, 1, none⟩ = some (.int .i64 (k : Int)) := X12.cell 1 rfl; have k2 : w2.cell? ⟨w.heap.size + 1, 2, none⟩ = some (.int .i64 (m : Int)) := X12.cell 2 rfl; have k3 : w2.cell? ⟨w.heap.size + 1, 3, none⟩ = some (.string pt) := X12.cell 3 rfl; have uC := (B2.cell (by exact ltC)).trans tC; have uS := (B2.cell (by exact ltS)).trans tS)
        | (refine wpList_load_row rfl 33 _ rfl w.heap.size rfl 33 _ (0, 0) _ X01 Tryd.underlying33 rfl Tryd.infoRs ?_))
      go_quiet (fail)
      go_wp2_with fail
      go_ret
      exact ⟨rfl, below_drewN (below_then HB.out B2) _⟩
end Go.Proofs.YtdopcagikcdfcaaDoor
