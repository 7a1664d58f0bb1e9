/- The document's net: Turn. -/
import Derived.Test.YtgbljkbiigcofaaNRef3
import Derived.Test.YtgbljkbiigcofaaNTurn2
namespace Go.Proofs.Ytgbljkbiigcofaa
open Go.ChangeShapes Go.WideShapes Go.ChangeAt Go.RowKit
/-- Is bit i asked to be turned? -/
def askB (t x i : Nat) : Prop := t ≤ i ∧ i < t + 32 ∧ x / 2 ^ (i - t) % 2 = 1
instance (t x i : Nat) : Decidable (askB t x i) := inferInstanceAs (Decidable (_ ∧ _))
/-- Byte j, of which the first k bits were looked at. -/
def byK (y : UInt8) (t x j : Nat) : Nat → UInt8
  | 0 => y
  | k + 1 => if askB t x (8 * j + k) then byK y t x j k ^^^ oneB k else byK y t x j k
theorem byK_bit (y : UInt8) (t x j r : Nat) : ∀ k, k ≤ 8 → (byK y t x j k).toNat.testBit r = (y.toNat.testBit r ^^ decide (r < k ∧ askB t x (8 * j + r)))
  | 0, _ => by
    have : decide (r < 0 ∧ askB t x (8 * j + r)) = false := decide_eq_false (fun h => by omega)
    rw [this, Bool.xor_false]; rfl
  | k + 1, hk => by
    have ih := byK_bit y t x j r k (by omega)
    unfold byK
    by_cases e : r = k
    · subst e
      have e0 : decide (r < r ∧ askB t x (8 * j + r)) = false := decide_eq_false (fun h => by omega)
      rw [e0, Bool.xor_false] at ih
      by_cases ha : askB t x (8 * j + r)
      · have e1 : decide (r < r + 1 ∧ askB t x (8 * j + r)) = true := decide_eq_true ⟨by omega, ha⟩
        rw [if_pos ha, e1, UInt8.toNat_xor, Nat.testBit_xor, ih, oneB_toNat _ (by omega), Nat.testBit_two_pow]
        simp
      · have e1 : decide (r < r + 1 ∧ askB t x (8 * j + r)) = false := decide_eq_false (fun h => ha h.2)
        rw [if_neg ha, e1, Bool.xor_false, ih]
    · have e1 : decide (r < k + 1 ∧ askB t x (8 * j + r)) = decide (r < k ∧ askB t x (8 * j + r)) := by
        rw [decide_eq_decide]
        exact ⟨fun h => ⟨by omega, h.2⟩, fun h => ⟨by omega, h.2⟩⟩
      rw [e1, ← ih]
      split
      · rw [UInt8.toNat_xor, Nat.testBit_xor, oneB_toNat _ (by omega), Nat.testBit_two_pow, decide_eq_false (by omega), Bool.xor_false]
      · rfl
/-- The first n bytes of a frame of which bits are turned. -/
def turnD (l : List UInt8) (t x n : Nat) : List UInt8 := (List.range n).map fun j => byK (l.getD j 0) t x j 8
theorem turnD_succ (l : List UInt8) (t x n : Nat) : turnD l t x (n + 1) = turnD l t x n ++ [byK (l.getD n 0) t x n 8] := by
  unfold turnD
  rw [List.range_succ, List.map_append]; rfl
theorem turnD_len (l : List UInt8) (t x n : Nat) : (turnD l t x n).length = n := by simp [turnD]
theorem turnD_eq (l : List UInt8) (t x : Nat) : turnD l t x l.length = turnK l t x 32 := by
  apply bitL_ext
  · rw [turnD_len, turnK_length]
  · intro i hi
    rw [turnD_len] at hi
    rw [bitL_turnK l t x i hi 32]
    unfold bitL turnD
    rw [List.getD_eq_getElem?_getD, List.getElem?_map, List.getElem?_range (by omega)]
    simp only [Option.map_some, Option.getD_some]
    rw [byK_bit _ _ _ _ _ 8 (by omega)]
    congr 1
    rw [decide_eq_decide]
    unfold askB
    rw [show 8 * (i / 8) + i % 8 = i by omega]
    exact ⟨fun h => h.2, fun h => ⟨by omega, h⟩⟩
theorem conv1 (W : World) (g : Nat) (y : UInt8) (h0 : W.cell? ⟨g, 0, none⟩ = some (.int .u8 (y.toNat : Int))) :
    (convert 45 9 (.slice (some ⟨g, 0, none⟩) 1 1)).run Try.prog W = .ok (.string (txt [y])) W := by
  exact run_convert_bytes_back (P := Try.prog) W 45 9 5 ⟨g, 0, none⟩ 1 [y] Try.underlying45 Try.underlying5 Try.underlying9 (fun j hj => by
    have hadd : (⟨g, 0, none⟩ : Addr).add j = ⟨g, j, none⟩ := by unfold Addr.add; split <;> simp_all
    rw [hadd]
    rcases j with _ | j
    · rw [h0]; rfl
    · simp at hj)
theorem add_txt (a b : List UInt8) (s t r : ByteArray) (hs : s = txt a) (ht : t = txt b) (hr : r = txt (a ++ b)) (hl : a.length + b.length ≤ 281474976710656) (w : World) : (Op.stringOp .add s t).run Try.prog w = .ok (.string r) w := by
  subst hs; subst ht; subst hr
  rw [run_string_add_sum w _ _ (by rw [txt_size, txt_size]; omega), txt_append]
theorem rturn_none (i : Int) (t x : Int) (ao : Option Addr) (n c : Nat) (lost : Int) (w : World) (hi : i < 0 ∨ (n : Int) ≤ i) :
   Calls Try.prog 23 #[.agg #[.slice ao n c, .int .i64 lost], .int .i64 i, .int .i64 t, .int .u32 x] w fun e w' => e = .returned (.tuple #[.agg #[.slice ao n c, .int .i64 lost], .int .i64 8]) ∧ Below w.heap.size w w' := by
  have X0 := W2.x0 w (.slice ao n c) lost
  have X1 := W2.x1 w (.slice ao n c) lost
  have B0 := W2.below w (.slice ao n c) lost
  have s0 := W2.size w (.slice ao n c) lost
  have hw : (w.alloc (.cells #[.slice ao n c, .int .i64 lost] 28)).alloc (.cells #[.slice none 0 0, .int .i64 0] 28) = W2 w (.slice ao n c) lost := rfl
  generalize W2 w (.slice ao n c) lost = w0 at *
  have C := there_no i n ao c lost w0 hi
  have v0 := X0.cell 0 (v := .slice ao n c) rfl
  have v1 := X0.cell 1 (v := .int .i64 lost) rfl
  have HX : Hid (∀ W, Below w0.heap.size w0 W → Blk W w.heap.size 28 #[.slice ao n c, .int .i64 lost] ∧ Blk W (w.heap.size + 1) 28 #[.slice none 0 0, .int .i64 0]) := fun W hW => ⟨X0.below hW X0.lt, X1.below hW X1.lt⟩
  clear hi X0 X1
  go_enter Try.func23, Try.ntmps23
  go_wp2_with (go_at_call 31; refine C.mono ?_; rintro e w2 ⟨rfl, B2⟩; obtain ⟨Y0, Y1⟩ := HX.out _ B2; have f0 := Y1.frozen 0; have f1 := Y1.frozen 1; have u0 := Y1.cell 0 (v := .slice none 0 0) rfl; have u1 := Y1.cell 1 (v := .int .i64 0) rfl; have y0 := Y0.cell 0 (v := .slice ao n c) rfl; have y1 := Y0.cell 1 (v := .int .i64 lost) rfl)
  refine bodyPost_ret (results_blk2 rfl _ _ (w.heap.size + 1) _ rfl (load_n (put_n Y1) rfl)) rfl ?_
  exact ⟨rfl, below_put_n (below_then B0 B2) (by omega) _ _⟩
/-- The start of the document's Turn at a place that there is. -/
structure T0 (w w0 : World) (ao : Option Addr) (c n g j : Nat) (lost : Int) (L : List Pc) (pt : Int) (pf : ByteArray) (pn : Bool) : Prop where
  b : Below w.heap.size w w0
  s : w0.heap.size = w.heap.size + 2
  eq : (w.alloc (.cells #[.slice ao n c, .int .i64 lost] 28)).alloc (.cells #[.slice none 0 0, .int .i64 0] 28) = w0
  x : ∀ W, Below (w.heap.size + 2) w0 W → Blk W w.heap.size 28 #[.slice ao n c, .int .i64 lost] ∧ Blk W (w.heap.size + 1) 28 #[.slice none 0 0, .int .i64 0] ∧ RRow W 0 (.slice ao n c) L ∧ W.cell? ⟨g, j * 3, none⟩ = some (.int .i64 pt) ∧ W.cell? ⟨g, j * 3 + 1, none⟩ = some (.string pf) ∧ W.cell? ⟨g, j * 3 + 2, none⟩ = some (.bool pn)
theorem t0_any (j : Nat) (ao : Option Addr) (c : Nat) (L : List Pc) (lost : Int) (w : World) (h : RRow w 0 (.slice ao L.length c) L) (hj : j < L.length) : ∃ w0 g, ao = some ⟨g, 0, none⟩ ∧ L.length ≤ c ∧ c ≤ 9223372036854775807 ∧ T0 w w0 ao c L.length g j lost L (pc L j).to (pc L j).fr (pc L j).tn := by
  obtain ⟨g, cap, e, z1, z2, z3, z4, z5, z6, z7⟩ := PRow.cells h (by omega)
  simp only [Value.slice.injEq, true_and] at e
  obtain ⟨rfl, rfl⟩ := e
  refine ⟨W2 w (.slice (some ⟨g, 0, none⟩) L.length c) lost, g, rfl, z3, z4, W2.below _ _ _, W2.size _ _ _, rfl, fun W hW => ?_⟩
  have hs := W2.size w (.slice (some ⟨g, 0, none⟩) L.length c) lost
  have hb := W2.below w (.slice (some ⟨g, 0, none⟩) L.length c) lost
  have RW : RRow W 0 (.slice (some ⟨g, 0, none⟩) L.length c) L := PRow.below h (hb.trans (hW.mono (by omega)))
  obtain ⟨g', cap', e, _, _, _, _, _, _, r7⟩ := PRow.cells RW (by omega)
  simp only [Value.slice.injEq, Option.some.injEq, Addr.mk.injEq, and_true, true_and] at e
  obtain ⟨rfl, rfl⟩ := e
  exact ⟨(W2.x0 _ _ _).below hW (by omega), (W2.x1 _ _ _).below hW (by omega), RW, r7 j hj⟩
set_option maxHeartbeats 1000000 in
theorem rturn_arg (j : Nat) (t x : Int) (ao : Option Addr) (c : Nat) (L : List Pc) (lost : Int) (w : World) (h : RRow w 0 (.slice ao L.length c) L) (hj : j < L.length) (hf : (pc L j).fr.size ≤ 65536) (ht : t < 0 ∨ 8 * ((pc L j).fr.size : Int) ≤ t) (htb : t ≤ 9223372036854775807) :
   Calls Try.prog 23 #[.agg #[.slice ao L.length c, .int .i64 lost], .int .i64 (j : Int), .int .i64 t, .int .u32 x] w fun e w' => e = .returned (.tuple #[.agg #[.slice ao L.length c, .int .i64 lost], .int .i64 1]) ∧ Below w.heap.size w w' := by
  obtain ⟨w0, g, rfl, hc1, hc2, H⟩ := t0_any j ao c L lost w h hj
  have C := there_yes j L.length (some ⟨g, 0, none⟩) c lost w0 hj
  clear h
  generalize pc L j = p at *
  obtain ⟨pt, pf, pn⟩ := p
  simp only at H ht hf
  obtain ⟨B0, s0, hw, HX0⟩ := H
  have HX : Hid _ := HX0
  obtain ⟨Z0, Z1, _, _, _, _⟩ := HX0 w0 (Below.refl _ _)
  have v0 := Z0.cell 0 (v := .slice (some ⟨g, 0, none⟩) L.length c) rfl
  have v1 := Z0.cell 1 (v := .int .i64 lost) rfl
  clear HX0 Z0 Z1
  generalize L.length = n at *
  have hcs : t < 0 ∨ (decide (t < 0) = false ∧ 0 ≤ t ∧ (pf.size : Int) ≤ t.tdiv 8 ∧ (pf.size : Int) ≤ t / 8) := by
    by_cases h : t < 0
    · exact Or.inl h
    · refine Or.inr ⟨decide_eq_false h, by omega, ?_, by omega⟩
      rw [Int.tdiv_eq_ediv_of_nonneg (by omega)]; omega
  clear ht
  rcases hcs with h | ⟨h, h', h'', h'''⟩ <;>
  · go_enter Try.func23, Try.ntmps23
    go_wp2_with (go_at_call 31; refine C.mono ?_; rintro e w2 ⟨rfl, B2⟩; have BA : Below w2.heap.size w2 (w2.alloc (.cells #[.int .i64 pt, .string pf, .bool pn] 42)) := (Below.refl _ _).alloc (Nat.le_refl _) _; obtain ⟨Y0, Y1, RR, p0, p1, p2⟩ := HX.out _ (B2.mono (by omega)); have y0 := Y0.cell 0 (v := .slice (some ⟨g, 0, none⟩) n c) rfl; obtain ⟨Y0', Y1', _, _, _, _⟩ := HX.out _ ((below_then B2 BA).mono (by omega)); have f0 := Y1'.frozen 0; have f1 := Y1'.frozen 1; have u0 := Y1'.cell 0 (v := .slice none 0 0) rfl; have u1 := Y1'.cell 1 (v := .int .i64 0) rfl; have y0' := Y0'.cell 0 (v := .slice (some ⟨g, 0, none⟩) n c) rfl; have y1' := Y0'.cell 1 (v := .int .i64 lost) rfl)
    refine bodyPost_ret (results_blk2 rfl _ _ (w.heap.size + 1) _ rfl (load_n (put_n Y1') rfl)) rfl ?_
    exact ⟨rfl, below_put_n (below_then (below_then B0 B2) BA) (by omega) _ _⟩
set_option maxHeartbeats 1000000 in
theorem rturn_there (j t : Nat) (x : Int) (ao : Option Addr) (c : Nat) (L : List Pc) (lost : Int) (w : World) (h : RRow w 0 (.slice ao L.length c) L) (hj : j < L.length) (hf : (pc L j).fr.size ≤ 65536) (ht : t < 8 * (pc L j).fr.size) (hn : (pc L j).tn = true) :
   Calls Try.prog 23 #[.agg #[.slice ao L.length c, .int .i64 lost], .int .i64 (j : Int), .int .i64 (t : Int), .int .u32 x] w fun e w' => e = .returned (.tuple #[.agg #[.slice ao L.length c, .int .i64 lost], .int .i64 9]) ∧ Below w.heap.size w w' := by
  obtain ⟨w0, g, rfl, hc1, hc2, H⟩ := t0_any j ao c L lost w h hj
  have C := there_yes j L.length (some ⟨g, 0, none⟩) c lost w0 hj
  clear h
  generalize pc L j = p at *
  obtain ⟨pt, pf, pn⟩ := p
  simp only at H ht hf hn
  subst hn
  obtain ⟨B0, s0, hw, HX0⟩ := H
  have HX : Hid _ := HX0
  obtain ⟨Z0, Z1, _, _, _, _⟩ := HX0 w0 (Below.refl _ _)
  have v0 := Z0.cell 0 (v := .slice (some ⟨g, 0, none⟩) L.length c) rfl
  have v1 := Z0.cell 1 (v := .int .i64 lost) rfl
  clear HX0 Z0 Z1
  generalize L.length = n at *
  have h1 : decide ((t : Int) < 0) = false := decide_eq_false (by omega)
  have h2 : (t : Int).tdiv 8 < (pf.size : Int) := by rw [Int.tdiv_eq_ediv_of_nonneg (by omega)]; omega
  have h3 : (t : Int) / 8 < (pf.size : Int) := by omega
  clear ht
  go_enter Try.func23, Try.ntmps23
  go_wp2_with (go_at_call 31; refine C.mono ?_; rintro e w2 ⟨rfl, B2⟩; have BA : Below w2.heap.size w2 (w2.alloc (.cells #[.int .i64 pt, .string pf, .bool true] 42)) := (Below.refl _ _).alloc (Nat.le_refl _) _; obtain ⟨Y0, Y1, RR, p0, p1, p2⟩ := HX.out _ (B2.mono (by omega)); have y0 := Y0.cell 0 (v := .slice (some ⟨g, 0, none⟩) n c) rfl; obtain ⟨Y0', Y1', _, _, _, _⟩ := HX.out _ ((below_then B2 BA).mono (by omega)); have f0 := Y1'.frozen 0; have f1 := Y1'.frozen 1; have u0 := Y1'.cell 0 (v := .slice none 0 0) rfl; have u1 := Y1'.cell 1 (v := .int .i64 0) rfl; have y0' := Y0'.cell 0 (v := .slice (some ⟨g, 0, none⟩) n c) rfl; have y1' := Y0'.cell 1 (v := .int .i64 lost) rfl)
  refine bodyPost_ret (results_blk2 rfl _ _ (w.heap.size + 1) _ rfl (load_n (put_n Y1') rfl)) rfl ?_
  exact ⟨rfl, below_put_n (below_then (below_then B0 B2) BA) (by omega) _ _⟩
end Go.Proofs.Ytgbljkbiigcofaa
