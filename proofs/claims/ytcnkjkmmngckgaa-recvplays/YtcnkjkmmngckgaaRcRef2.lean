/- The document's Take and Whole of recv. -/
import Derived.Test.YtcnkjkmmngckgaaRcRef
namespace Go.Proofs.Ytcnkjkmmngckgaa
open Go.ChangeShapes Go.WideShapes Go.ChangeAt Go.RowKit
/-- Why a part isn't taken, by the document; 0: it is, or it came already. -/
def rtakeN (num of : Int) (R : List (Int × ByteArray)) (pn pa po : Int) (pt : ByteArray) : Int :=
  if pn ≠ num then 14 else if po ≠ of ∨ pa < 0 ∨ of ≤ pa then 1 else if 4096 < pt.size then 2 else match findC R pa with
    | some t => if t = pt then 0 else 9
    | none => 0
set_option maxRecDepth 100000 in
set_option maxHeartbeats 16000000 in
theorem rtake_bad (num of pn pa po : Int) (pt : ByteArray) (ao : Option Addr) (n c : Nat) (R : List (Int × ByteArray)) (w : World) (hR : CArg w ao n c R) (hl : n ≤ 100000) (hr : rtakeN num of R pn pa po pt ≠ 0) :
   Calls Try.prog 8 #[rfV num of (.slice ao n c), .int .i64 pn, .int .i64 pa, .int .i64 po, .string pt] w fun e w' => e = .returned (.tuple #[rfV num of (.slice ao n c), .bool false, .int .i64 (rtakeN num of R pn pa po pt)]) ∧ Below w.heap.size w w' := by
  have X0 := blk_new w 33 #[.int .i64 num, .int .i64 of, .slice ao n c]
  have B0 := belowA w (.cells #[.int .i64 num, .int .i64 of, .slice ao n c] 33)
  have s0 : (w.alloc (.cells #[.int .i64 num, .int .i64 of, .slice ao n c] 33)).heap.size = w.heap.size + 1 := by simp
  generalize hw0 : w.alloc (.cells #[.int .i64 num, .int .i64 of, .slice ao n c] 33) = w0 at *
  have X1 := blk_new w0 33 #[.int .i64 0, .int .i64 0, .slice none 0 0]
  have B1 := belowA w0 (.cells #[.int .i64 0, .int .i64 0, .slice none 0 0] 33)
  have s1 : (w0.alloc (.cells #[.int .i64 0, .int .i64 0, .slice none 0 0] 33)).heap.size = w.heap.size + 1 + 1 := by simp [s0]
  have X01 := X0.below B1
  rw [s0] at X1
  generalize hw1 : w0.alloc (.cells #[.int .i64 0, .int .i64 0, .slice none 0 0] 33) = w1 at *
  have c0 : w1.cell? ⟨w.heap.size, 0, none⟩ = some (.int .i64 num) := X01.cell 0 rfl
  have c1 : w1.cell? ⟨w.heap.size, 1, none⟩ = some (.int .i64 of) := X01.cell 1 rfl
  have c2 : w1.cell? ⟨w.heap.size, 2, none⟩ = some (.slice ao n c) := X01.cell 2 rfl
  have HB : Hid (Below w.heap.size w w1) := below_then B0 B1
  have FD := rfind_any num of pa ao n c R w1 ((hR.below B0).below B1) hl
  have HRR : Hid (CArg w1 ao n c R) := (hR.below B0).below B1
  unfold rfV at FD ⊢
  clear X0 B0 B1 hR
  clear HRR
  unfold rtakeN at hr ⊢
  by_cases q1 : pn = num
  case neg =>
    rw [if_pos q1]
    clear hr FD
    go_enter Try.func8, Try.ntmps8
    go_wp2_with (first | (refine wpList_load_row rfl 33 _ rfl w.heap.size rfl 33 _ (0, 0) _ X01 Try.underlying33 rfl Try.infoRf ?_) | (refine wpList_store_row rfl 33 _ _ rfl (w.heap.size + 1) _ rfl rfl 33 _ X1 Try.infoRf rfl (rfall _ _ _ _ _) ?_))
    refine bodyPost_ret (results_s3 rfl _ _ (w.heap.size + 1) _ rfl (load_rf (X1.row _))) rfl ?_
    exact ⟨rfl, belowR (HB.out) (by omega) _⟩
  rw [if_neg (not_not_intro q1)] at hr ⊢
  have q1s := q1.symm
  subst q1s
  clear q1
  by_cases q2 : po = of
  case neg =>
    rw [if_pos (Or.inl q2)]
    clear hr FD
    go_enter Try.func8, Try.ntmps8
    go_wp2_with (first | (refine wpList_load_row rfl 33 _ rfl w.heap.size rfl 33 _ (0, 0) _ X01 Try.underlying33 rfl Try.infoRf ?_) | (refine wpList_store_row rfl 33 _ _ rfl (w.heap.size + 1) _ rfl rfl 33 _ X1 Try.infoRf rfl (rfall _ _ _ _ _) ?_))
    refine bodyPost_ret (results_s3 rfl _ _ (w.heap.size + 1) _ rfl (load_rf (X1.row _))) rfl ?_
    exact ⟨rfl, belowR (HB.out) (by omega) _⟩
  subst q2
  by_cases q3 : pa < 0
  · rw [if_pos (Or.inr (Or.inl q3))]
    clear hr FD
    go_enter Try.func8, Try.ntmps8
    go_wp2_with (first | (refine wpList_load_row rfl 33 _ rfl w.heap.size rfl 33 _ (0, 0) _ X01 Try.underlying33 rfl Try.infoRf ?_) | (refine wpList_store_row rfl 33 _ _ rfl (w.heap.size + 1) _ rfl rfl 33 _ X1 Try.infoRf rfl (rfall _ _ _ _ _) ?_))
    refine bodyPost_ret (results_s3 rfl _ _ (w.heap.size + 1) _ rfl (load_rf (X1.row _))) rfl ?_
    exact ⟨rfl, belowR (HB.out) (by omega) _⟩
  by_cases q4 : po ≤ pa
  · rw [if_pos (Or.inr (Or.inr q4))]
    clear hr FD
    go_enter Try.func8, Try.ntmps8
    go_wp2_with (first | (refine wpList_load_row rfl 33 _ rfl w.heap.size rfl 33 _ (0, 0) _ X01 Try.underlying33 rfl Try.infoRf ?_) | (refine wpList_store_row rfl 33 _ _ rfl (w.heap.size + 1) _ rfl rfl 33 _ X1 Try.infoRf rfl (rfall _ _ _ _ _) ?_))
    refine bodyPost_ret (results_s3 rfl _ _ (w.heap.size + 1) _ rfl (load_rf (X1.row _))) rfl ?_
    exact ⟨rfl, belowR (HB.out) (by omega) _⟩
  rw [if_neg (fun h => by rcases h with h | h | h <;> first | exact h rfl | exact q3 h | exact q4 h)] at hr ⊢
  by_cases q5 : 4096 < pt.size
  · rw [if_pos q5]
    have q5' : (4096 : Int) < (pt.size : Int) := by omega
    clear hr FD
    go_enter Try.func8, Try.ntmps8
    go_wp2_with (first | (refine wpList_load_row rfl 33 _ rfl w.heap.size rfl 33 _ (0, 0) _ X01 Try.underlying33 rfl Try.infoRf ?_) | (refine wpList_store_row rfl 33 _ _ rfl (w.heap.size + 1) _ rfl rfl 33 _ X1 Try.infoRf rfl (rfall _ _ _ _ _) ?_))
    refine bodyPost_ret (results_s3 rfl _ _ (w.heap.size + 1) _ rfl (load_rf (X1.row _))) rfl ?_
    exact ⟨rfl, belowR (HB.out) (by omega) _⟩
  rw [if_neg q5] at hr ⊢
  have q5' : ¬ (4096 : Int) < (pt.size : Int) := by omega
  cases hf : findC R pa with
  | none => rw [hf] at hr; exact absurd rfl hr
  | some t =>
    rw [hf] at hr FD
    by_cases q6 : t = pt
    · simp only [q6, if_true] at hr; exact absurd rfl hr
    have q8 := txt_ne q6
    simp only [if_neg q6, Option.getD_some, Option.isSome_some] at FD ⊢
    clear hr hf
    go_enter Try.func8, Try.ntmps8
    go_wp2_with (first | (go_at_call 15; refine FD.mono ?_; rintro e w2 ⟨rfl, B2⟩; have X02 := X01.below B2; have X12 := X1.below B2; have z2 := B2.size) | (refine wpList_load_row rfl 33 _ rfl w.heap.size rfl 33 _ (0, 0) _ X02 Try.underlying33 rfl Try.infoRf ?_) | (refine wpList_store_row rfl 33 _ _ rfl (w.heap.size + 1) _ rfl rfl 33 _ X12 Try.infoRf rfl (rfall _ _ _ _ _) ?_) | (refine wpList_load_row rfl 33 _ rfl w.heap.size rfl 33 _ (0, 0) _ X01 Try.underlying33 rfl Try.infoRf ?_))
    refine bodyPost_ret (results_s3 rfl _ _ (w.heap.size + 1) _ rfl (load_rf (X12.row _))) rfl ?_
    exact ⟨rfl, belowR (below_then HB.out B2) (by omega) _⟩

set_option maxRecDepth 100000 in
set_option maxHeartbeats 16000000 in
theorem rtake_known (num of : Int) (pa : Int) (pt : ByteArray) (ao : Option Addr) (n c : Nat) (R : List (Int × ByteArray)) (w : World) (hR : CArg w ao n c R) (hl : n ≤ 100000) (h0 : 0 ≤ pa) (h1 : pa < of) (hp : pt.size ≤ 4096) (hf : findC R pa = some pt) :
   Calls Try.prog 8 #[rfV num of (.slice ao n c), .int .i64 num, .int .i64 pa, .int .i64 of, .string pt] w fun e w' => e = .returned (.tuple #[rfV num of (.slice ao n c), .bool false, .int .i64 0]) ∧ Below w.heap.size w w' := by
  have X0 := blk_new w 33 #[.int .i64 num, .int .i64 of, .slice ao n c]
  have B0 := belowA w (.cells #[.int .i64 num, .int .i64 of, .slice ao n c] 33)
  have s0 : (w.alloc (.cells #[.int .i64 num, .int .i64 of, .slice ao n c] 33)).heap.size = w.heap.size + 1 := by simp
  generalize hw0 : w.alloc (.cells #[.int .i64 num, .int .i64 of, .slice ao n c] 33) = w0 at *
  have X1 := blk_new w0 33 #[.int .i64 0, .int .i64 0, .slice none 0 0]
  have B1 := belowA w0 (.cells #[.int .i64 0, .int .i64 0, .slice none 0 0] 33)
  have s1 : (w0.alloc (.cells #[.int .i64 0, .int .i64 0, .slice none 0 0] 33)).heap.size = w.heap.size + 1 + 1 := by simp [s0]
  have X01 := X0.below B1
  rw [s0] at X1
  generalize hw1 : w0.alloc (.cells #[.int .i64 0, .int .i64 0, .slice none 0 0] 33) = w1 at *
  have c0 : w1.cell? ⟨w.heap.size, 0, none⟩ = some (.int .i64 num) := X01.cell 0 rfl
  have c1 : w1.cell? ⟨w.heap.size, 1, none⟩ = some (.int .i64 of) := X01.cell 1 rfl
  have c2 : w1.cell? ⟨w.heap.size, 2, none⟩ = some (.slice ao n c) := X01.cell 2 rfl
  have HB : Hid (Below w.heap.size w w1) := below_then B0 B1
  have FD := rfind_any num of pa ao n c R w1 ((hR.below B0).below B1) hl
  have HRR : Hid (CArg w1 ao n c R) := (hR.below B0).below B1
  unfold rfV at FD ⊢
  clear X0 B0 B1 hR
  clear HRR
  rw [hf] at FD
  simp only [Option.getD_some, Option.isSome_some] at FD
  have q3 : ¬ pa < 0 := by omega
  have q4 : ¬ of ≤ pa := by omega
  have q5' : ¬ (4096 : Int) < (pt.size : Int) := by omega
  clear hf
  go_enter Try.func8, Try.ntmps8
  go_wp2_with (first | (go_at_call 15; refine FD.mono ?_; rintro e w2 ⟨rfl, B2⟩; have X02 := X01.below B2; have X12 := X1.below B2; have z2 := B2.size) | (refine wpList_load_row rfl 33 _ rfl w.heap.size rfl 33 _ (0, 0) _ X02 Try.underlying33 rfl Try.infoRf ?_) | (refine wpList_store_row rfl 33 _ _ rfl (w.heap.size + 1) _ rfl rfl 33 _ X12 Try.infoRf rfl (rfall _ _ _ _ _) ?_) | (refine wpList_load_row rfl 33 _ rfl w.heap.size rfl 33 _ (0, 0) _ X01 Try.underlying33 rfl Try.infoRf ?_))
  refine bodyPost_ret (results_s3 rfl _ _ (w.heap.size + 1) _ rfl (load_rf (X12.row _))) rfl ?_
  exact ⟨rfl, belowR (below_then HB.out B2) (by omega) _⟩
/-- append of the parts that came onto an empty row. -/
theorem wpList_append_cs {ops : Array Oper} {rest : List Oper} {o : Oper} {a : Act} {Q : Exit → Act → World → Prop} {w : World} (hg : o.guard = none) (s x : Operand)
    (ho : o.op = .call { callee := .builtin .append, args := #[s, x], argTypes := #[31, 31] }) (B : Nat) (v : Value) (hs : a.eval s = v) (hO : COwn w B v [])
    (ao : Option Addr) (n c : Nat) (R : List (Int × ByteArray)) (hx : a.eval x = .slice ao n c) (hA : CArg w ao n c R) (hn : n ≤ 100000) (hB : B ≤ w.heap.size)
    (hK : ∀ v' w', COwn w' B v' R → Below B w w' → w.grownBy w' v.ownBlock → wpList Try.prog ops Q rest (a.put o.dst v') w') : wpList Try.prog ops Q (o :: rest) a w := by
  obtain ⟨i0, hi0, hzz⟩ := Option.map_eq_some_iff.1 Try.infoCm
  simp only [Prod.mk.injEq] at hzz
  obtain ⟨hz0, hz1, hz2⟩ := hzz
  have hl := hA.len
  cases ao with
  | none =>
    have hc0 := hA.nil rfl
    subst hc0
    have hn0 : n = 0 := by have := hA.fit; omega
    subst hn0
    have hR : R = [] := List.length_eq_zero_iff.1 hl
    subst hR
    refine wpList_append_own_none hg s x 31 ho B 51 i0 2 Try.underlying31 hi0 v 0 [] hs hO hx ?_
    exact hK _ _ hO (Below.refl _ _) (World.grownBy.refl _ _)
  | some ad =>
    refine wpList_append_own _ hg s x 31 ho B 51 i0 _ 2 24 Try.underlying31 hi0 hz0 hz1 hz2 rfl (by decide) v 0 [] hs hO ad n c (flatC R) hx (by rw [flatC_len, hl]) hA.vals (flatC_one R) (by unfold maxLen; omega) (by omega) hB ?_
    intro v' w' O1 G1 _
    rw [Nat.zero_add, List.nil_append] at O1
    refine hK v' w' ?_ ((Below.refl _ _).grown G1 hB (fun k hk => (World.ownsRow.lt hO k hk).1)) G1
    unfold COwn
    rw [hl]
    exact O1
/-- append of one part that lies in a block of its own. -/
theorem wpList_append_cm {ops : Array Oper} {rest : List Oper} {o : Oper} {a : Act} {Q : Exit → Act → World → Prop} {w : World} (hg : o.guard = none) (s x : Operand)
    (ho : o.op = .call { callee := .builtin .append, args := #[s, x], argTypes := #[31, 31] }) (B : Nat) (v : Value) (R : List (Int × ByteArray)) (hs : a.eval s = v) (hO : COwn w B v R)
    (g : Nat) (y : Int) (t : ByteArray) (hx : a.eval x = .slice (some ⟨g, 0, none⟩) 1 1) (hc : Blk w g 51 #[.int .i64 y, .string t]) (hn : R.length ≤ 100000) (hB : B ≤ w.heap.size)
    (hK : ∀ v' w', COwn w' B v' (R ++ [(y, t)]) → Below B w w' → w.grownBy w' v.ownBlock → wpList Try.prog ops Q rest (a.put o.dst v') w') : wpList Try.prog ops Q (o :: rest) a w := by
  obtain ⟨i0, hi0, hzz⟩ := Option.map_eq_some_iff.1 Try.infoCm
  simp only [Prod.mk.injEq] at hzz
  obtain ⟨hz0, hz1, hz2⟩ := hzz
  refine wpList_append_own _ hg s x 31 ho B 51 i0 _ 2 24 Try.underlying31 hi0 hz0 hz1 hz2 rfl (by decide) v R.length (flatC R) hs hO ⟨g, 0, none⟩ 1 1 [.int .i64 y, .string t] hx rfl (fun j u hj => ?_) (fun u hu => ?_) (by unfold maxLen; omega) (by omega) hB ?_
  · have e2 : (Addr.mk g 0 none).add j = ⟨g, j, none⟩ := by simp [Addr.add]; intro h; exact h.symm
    rw [e2]
    exact hc.cell j (by rw [← hj]; simp)
  · simp only [List.mem_cons, List.not_mem_nil, or_false] at hu
    rcases hu with rfl | rfl <;> rfl
  · intro v' w' O1 G1 _
    refine hK v' w' ?_ ((Below.refl _ _).grown G1 hB (fun k hk => (World.ownsRow.lt hO k hk).1)) G1
    unfold COwn
    rw [flatC_snoc, List.length_append]
    exact O1
set_option maxRecDepth 100000 in
set_option maxHeartbeats 16000000 in
theorem rtake_new (num of : Int) (pa : Int) (pt : ByteArray) (ao : Option Addr) (n c : Nat) (R : List (Int × ByteArray)) (w : World) (hR : CArg w ao n c R) (hl : n ≤ 100000) (h0 : 0 ≤ pa) (h1 : pa < of) (hp : pt.size ≤ 4096) (hf : findC R pa = none) :
   Calls Try.prog 8 #[rfV num of (.slice ao n c), .int .i64 num, .int .i64 pa, .int .i64 of, .string pt] w fun e w' => ∃ a' c', e = .returned (.tuple #[rfV num of (.slice a' (n + 1) c'), .bool true, .int .i64 0]) ∧ CArg w' a' (n + 1) c' (R ++ [(pa, pt)]) ∧ Below w.heap.size w w' := by
  have X0 := blk_new w 33 #[.int .i64 num, .int .i64 of, .slice ao n c]
  have B0 := belowA w (.cells #[.int .i64 num, .int .i64 of, .slice ao n c] 33)
  have s0 : (w.alloc (.cells #[.int .i64 num, .int .i64 of, .slice ao n c] 33)).heap.size = w.heap.size + 1 := by simp
  generalize hw0 : w.alloc (.cells #[.int .i64 num, .int .i64 of, .slice ao n c] 33) = w0 at *
  have X1 := blk_new w0 33 #[.int .i64 0, .int .i64 0, .slice none 0 0]
  have B1 := belowA w0 (.cells #[.int .i64 0, .int .i64 0, .slice none 0 0] 33)
  have s1 : (w0.alloc (.cells #[.int .i64 0, .int .i64 0, .slice none 0 0] 33)).heap.size = w.heap.size + 1 + 1 := by simp [s0]
  have X01 := X0.below B1
  rw [s0] at X1
  generalize hw1 : w0.alloc (.cells #[.int .i64 0, .int .i64 0, .slice none 0 0] 33) = w1 at *
  have c0 : w1.cell? ⟨w.heap.size, 0, none⟩ = some (.int .i64 num) := X01.cell 0 rfl
  have c1 : w1.cell? ⟨w.heap.size, 1, none⟩ = some (.int .i64 of) := X01.cell 1 rfl
  have c2 : w1.cell? ⟨w.heap.size, 2, none⟩ = some (.slice ao n c) := X01.cell 2 rfl
  have HB : Hid (Below w.heap.size w w1) := below_then B0 B1
  have FD := rfind_any num of pa ao n c R w1 ((hR.below B0).below B1) hl
  have HRR : Hid (CArg w1 ao n c R) := (hR.below B0).below B1
  unfold rfV at FD ⊢
  clear X0 B0 B1 hR
  rw [hf] at FD
  simp only [Option.getD_none, Option.isSome_none] at FD
  have q3 : ¬ pa < 0 := by omega
  have q4 : ¬ of ≤ pa := by omega
  have q5' : ¬ (4096 : Int) < (pt.size : Int) := by omega
  have hln : R.length = n := HRR.out.len
  have HLN : Hid (R.length = n) := hln
  clear hf hln
  go_enter Try.func8, Try.ntmps8
  go_wp2_with (first
    | (go_at_call 15; refine FD.mono ?_; rintro e w2 ⟨rfl, B2⟩; have X02 := X01.below B2; have X12 := X1.below B2; have z2 := B2.size; have c22 : w2.cell? ⟨w.heap.size, 2, none⟩ = some (.slice ao n c) := X02.cell 2 rfl; have R2 := HRR.out.below B2; have O3 : COwn (w2.alloc (.cells #[] 51)) w2.heap.size (.slice (some ⟨w2.heap.size, 0, none⟩) 0 0) [] := World.ownsRow_made w2 #[] 0 (Nat.le_refl _) (by decide) rfl; have B3 := belowA w2 (.cells #[] 51); have X03 := X02.below B3; have X13 := X12.below B3; have R3 := R2.below B3; have c23 : (w2.alloc (.cells #[] 51)).cell? ⟨w.heap.size, 2, none⟩ = some (.slice ao n c) := X03.cell 2 rfl; have z3 : (w2.alloc (.cells #[] 51)).heap.size = w2.heap.size + 1 := (by simp); generalize hw3 : w2.alloc (.cells #[] 51) = w3 at *)
    | (at_builtin; refine wpList_append_cs rfl _ _ rfl w2.heap.size _ rfl O3 ao n c R rfl R3 hl (by omega) ?_; intro v4 w4 O4 B4 G4; have z4 := B4.size; have X04 := X03.of_block (B4.block _ (by omega)); have X14 := X13.of_block (B4.block _ (by omega)); have XC := blk_new w4 51 #[.int .i64 pa, .string pt]; have BC := belowA w4 (.cells #[.int .i64 pa, .string pt] 51); have O5 := COwn.of_block (w' := w4.alloc (.cells #[.int .i64 pa, .string pt] 51)) O4 (fun g _ hg => BC.block g hg); have X05 := X04.below BC; have X15 := X14.below BC; have z5 : (w4.alloc (.cells #[.int .i64 pa, .string pt] 51)).heap.size = w4.heap.size + 1 := (by simp); generalize hw5 : w4.alloc (.cells #[.int .i64 pa, .string pt] 51) = w5 at *; clear O3)
    | (at_builtin; refine wpList_append_cm rfl _ _ rfl w2.heap.size _ R rfl O5 w4.heap.size pa pt rfl XC (by have := HLN.out; omega) (by omega) ?_; intro v6 w6 O6 B6 G6; have z6 := B6.size; obtain ⟨a6, c6, rfl, A6⟩ := O6.arg; have HL6 : Hid ((R ++ [(pa, pt)]).length = n + 1) := (by have := HLN.out; unfold Hid; simp; exact this); generalize (R ++ [(pa, pt)]).length = L6 at *; have X06 := X05.of_block (B6.block _ (by omega)); have X16 := X15.of_block (B6.block _ (by omega)); have f6 := X06.frozen 2; have d6 : w6.cell? ⟨w.heap.size, 2, none⟩ = some (.slice ao n c) := X06.cell 2 rfl; have X07 := X06.set 2 (.slice a6 L6 c6); have X17 := X16.other (a := ⟨w.heap.size, 2, none⟩) (show w.heap.size + 1 ≠ w.heap.size by omega) (.slice a6 L6 c6); have A7 := A6.of_block (w' := w6.setCell ⟨w.heap.size, 2, none⟩ (.slice a6 L6 c6)) (fun b o s e => Below.heap_setCell _ _ _ _ (by have hh := (World.ownsRow.lt O6 b (by rw [e]; rfl)).1; show b ≠ w.heap.size; omega)); have B67 : Below w.heap.size w w6 := (below_then HB.out (below_then B2 B3)).trans ((B4.mono (by omega)).trans ((BC.mono (by omega)).trans (B6.mono (by omega)))); have B7 := belowS B67 (a := ⟨w.heap.size, 2, none⟩) (Nat.le_refl _) (.slice a6 L6 c6); have z7 : (w6.setCell ⟨w.heap.size, 2, none⟩ (.slice a6 L6 c6)).heap.size = w6.heap.size := (by simp [World.setCell]); generalize hw7 : w6.setCell ⟨w.heap.size, 2, none⟩ (.slice a6 L6 c6) = w7 at *)
    | (refine wpList_load_row rfl 33 _ rfl w.heap.size rfl 33 _ (0, 0) _ X01 Try.underlying33 rfl Try.infoRf ?_)
    | (refine wpList_load_row rfl 33 _ rfl w.heap.size rfl 33 _ (0, 0) _ X07 Try.underlying33 rfl Try.infoRf ?_)
    | (refine wpList_store_row rfl 33 _ _ rfl (w.heap.size + 1) _ rfl rfl 33 _ X17 Try.infoRf rfl (rfall _ _ _ _ _) ?_))
  refine bodyPost_ret (results_s3 rfl _ _ (w.heap.size + 1) _ rfl (load_rf (X17.row _))) rfl ?_
  have e6 := HL6.out
  subst e6
  exact ⟨a6, c6, rfl, A7.of_block (fun b o s e => setRow_other _ _ _ _ (by have hh := (World.ownsRow.lt O6 b (by rw [e]; rfl)).1; omega)), belowR B7 (by omega) _⟩
end Go.Proofs.Ytcnkjkmmngckgaa
