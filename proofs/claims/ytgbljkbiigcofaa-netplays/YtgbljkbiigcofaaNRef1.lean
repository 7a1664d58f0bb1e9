/- The document's net: rows of parcels that are copied, cut and grown. -/
import Derived.Test.YtgbljkbiigcofaaNLook
import Derived.Test.YtgbljkbiigcofaaNCut
namespace Go.Proofs.Ytgbljkbiigcofaa
open Go.ChangeShapes Go.WideShapes Go.ChangeAt Go.RowKit
theorem Try.infoRParcel : (Try.prog.info? 42).map (fun i => (i.zero, i.size, i.bytes)) = some (some (.agg #[.int .i64 0, .string ⟨#[]⟩, .bool false]), 3, 32) := by kernel_rfl
theorem Try.infoRParcelS : (Try.prog.info? 42).map (·.size) = some 3 := by kernel_rfl
theorem Try.infoRNetS : (Try.prog.info? 28).map (·.size) = some 2 := by kernel_rfl
abbrev RRow (w : World) (B : Nat) (v : Value) (L : List Pc) : Prop := PRow 42 w B v L
theorem rrow_new (w : World) (B : Nat) (hB : B ≤ w.heap.size) : RRow (w.alloc (.cells #[] 42)) B (.slice (some ⟨w.heap.size, 0, none⟩) 0 0) [] :=
  ⟨rfl, Or.inr ⟨w.heap.size, 0, #[], rfl, hB, blk_new _ _ _, Nat.le_refl _, by unfold maxLen; omega, rfl, rfl⟩⟩
/-- append of one parcel onto a row of the call's own. -/
theorem wpList_append_r1 {ops : Array Oper} {rest : List Oper} {o : Oper} {a : Act} {w : World} {Q : Exit → Act → World → Prop} (hgd : o.guard = none) (s x : Operand)
    (ho : o.op = .call { callee := .builtin .append, args := #[s, x], argTypes := #[26, 26] })
    (B : Nat) (v : Value) (L : List Pc) (p : Pc) (bo : Nat) (hs : a.eval s = v) (hx : a.eval x = .slice (some ⟨bo, 0, none⟩) 1 1)
    (hV : RRow w B v L) (hX : Blk w bo 42 #[.int .i64 p.to, .string p.fr, .bool p.tn]) (hlen : L.length + 1 ≤ 1048576) (hB : B ≤ w.heap.size)
    (h : ∀ ao c w', RRow w' B (.slice ao (L.length + 1) c) (L ++ [p]) → Below B w w' → wpList Try.prog ops Q rest (a.put o.dst (.slice ao (L.length + 1) c)) w') : wpList Try.prog ops Q (o :: rest) a w := by
  obtain ⟨i0, hi, hz0, hz1, hz2⟩ := info_parts Try.infoRParcel
  refine wpList_append_own2 w hgd s x 26 ho B 42 i0 _ 3 32 Try.underlying26 hi hz0 hz1 hz2 rfl (by decide) _ L.length _ hs hV ⟨bo, 0, none⟩ 1 1 [.int .i64 p.to, .string p.fr, .bool p.tn] hx rfl ?_ (flat_one [p]) (by unfold maxLen; omega) (by omega) hB ?_
  · intro j u hj
    rw [Addr.add_lit, Nat.zero_add]
    exact hX.cell j (by simpa using hj)
  · intro v' w' hown' hgr hnil hob
    have O : RRow w' B v' (L ++ [p]) := by
      unfold RRow PRow
      rw [flat_append, List.length_append]
      exact hown'
    have hBl : Below B w w' := (Below.refl _ _).grown hgr hB (fun k hk => (hV.lt k hk).1)
    obtain ⟨ao, c, e⟩ := O.slice
    rw [List.length_append] at e
    subst e
    exact h ao c w' O hBl
/-- append of one parcel onto a row of the call's own; nothing else turns. -/
theorem wpList_append_r1g {ops : Array Oper} {rest : List Oper} {o : Oper} {a : Act} {w : World} {Q : Exit → Act → World → Prop} (hgd : o.guard = none) (s x : Operand)
    (ho : o.op = .call { callee := .builtin .append, args := #[s, x], argTypes := #[26, 26] })
    (B : Nat) (v : Value) (L : List Pc) (p : Pc) (bo : Nat) (hs : a.eval s = v) (hx : a.eval x = .slice (some ⟨bo, 0, none⟩) 1 1)
    (hV : RRow w B v L) (hX : Blk w bo 42 #[.int .i64 p.to, .string p.fr, .bool p.tn]) (hlen : L.length + 1 ≤ 1048576) (hB : B ≤ w.heap.size)
    (h : ∀ ao c w', RRow w' B (.slice ao (L.length + 1) c) (L ++ [p]) → Below B w w' → w.grownBy w' v.ownBlock → wpList Try.prog ops Q rest (a.put o.dst (.slice ao (L.length + 1) c)) w') : wpList Try.prog ops Q (o :: rest) a w := by
  obtain ⟨i0, hi, hz0, hz1, hz2⟩ := info_parts Try.infoRParcel
  refine wpList_append_own2 w hgd s x 26 ho B 42 i0 _ 3 32 Try.underlying26 hi hz0 hz1 hz2 rfl (by decide) _ L.length _ hs hV ⟨bo, 0, none⟩ 1 1 [.int .i64 p.to, .string p.fr, .bool p.tn] hx rfl ?_ (flat_one [p]) (by unfold maxLen; omega) (by omega) hB ?_
  · intro j u hj
    rw [Addr.add_lit, Nat.zero_add]
    exact hX.cell j (by simpa using hj)
  · intro v' w' hown' hgr hnil hob
    have O : RRow w' B v' (L ++ [p]) := by
      unfold RRow PRow
      rw [flat_append, List.length_append]
      exact hown'
    have hBl : Below B w w' := (Below.refl _ _).grown hgr hB (fun k hk => (hV.lt k hk).1)
    obtain ⟨ao, c, e⟩ := O.slice
    rw [List.length_append] at e
    subst e
    exact h ao c w' O hBl hgr
/-- append of a whole row onto an empty one of the call's own. -/
theorem wpList_append_rall {ops : Array Oper} {rest : List Oper} {o : Oper} {a : Act} {w : World} {Q : Exit → Act → World → Prop} (hgd : o.guard = none) (s x : Operand)
    (ho : o.op = .call { callee := .builtin .append, args := #[s, x], argTypes := #[26, 26] })
    (B : Nat) (v u : Value) (L : List Pc) (hs : a.eval s = v) (hx : a.eval x = u)
    (hV : RRow w B v []) (hU : RRow w 0 u L) (hlen : L.length ≤ 1048576) (hB : B ≤ w.heap.size)
    (h : ∀ ao c w', RRow w' B (.slice ao L.length c) L → Below B w w' → wpList Try.prog ops Q rest (a.put o.dst (.slice ao L.length c)) w') : wpList Try.prog ops Q (o :: rest) a w := by
  obtain ⟨i0, hi, hz0, hz1, hz2⟩ := info_parts Try.infoRParcel
  rcases hU.cases with ⟨rfl, rfl⟩ | ⟨g, cap, cs, rfl, q1, q2, q3, q4, q5, q6⟩
  · refine wpList_append_own_none hgd s x 26 ho B 42 i0 3 Try.underlying26 hi v 0 [] hs hV hx ?_
    obtain ⟨ao, c, e⟩ := hV.slice
    subst e
    exact h ao c w hV (Below.refl _ _)
  · refine wpList_append_own2 w hgd s x 26 ho B 42 i0 _ 3 32 Try.underlying26 hi hz0 hz1 hz2 rfl (by decide) _ 0 [] hs hV ⟨g, 0, none⟩ L.length cap (flat L) hx (flat_len L) ?_ (flat_one L) (by unfold maxLen; omega) (by omega) hB ?_
    · intro j z hj
      rw [Addr.add_lit, Nat.zero_add]
      have hjl := (List.getElem?_eq_some_iff.1 hj).1
      rw [flat_len] at hjl
      rw [← q6, List.getElem?_take, if_pos hjl] at hj
      exact q2.cell j (by simpa using hj)
    · intro v' w' hown' hgr hnil hob
      have O : RRow w' B v' L := by
        unfold RRow PRow
        simpa using hown'
      have hBl : Below B w w' := (Below.refl _ _).grown hgr hB (fun k hk => (hV.lt k hk).1)
      obtain ⟨ao, c, e⟩ := O.slice
      subst e
      exact h ao c w' O hBl
theorem there_yes (j n : Nat) (ao : Option Addr) (c : Nat) (lost : Int) (w : World) (hj : j < n) :
   Calls Try.prog 31 #[.agg #[.slice ao n c, .int .i64 lost], .int .i64 (j : Int)] w fun e w' => e = .returned (.bool true) ∧ Below w.heap.size w w' := by
  go_enter Try.func31, Try.ntmps31
  go_wp2
  go_ret
  exact ⟨rfl, (Below.refl _ _).alloc (Nat.le_refl _) _⟩
theorem there_no (i : Int) (n : Nat) (ao : Option Addr) (c : Nat) (lost : Int) (w : World) (hi : i < 0 ∨ (n : Int) ≤ i) :
   Calls Try.prog 31 #[.agg #[.slice ao n c, .int .i64 lost], .int .i64 i] w fun e w' => e = .returned (.bool false) ∧ Below w.heap.size w w' := by
  by_cases h0 : i < 0
  · clear hi
    have h0' : decide (0 ≤ i) = false := decide_eq_false (by omega)
    go_enter Try.func31, Try.ntmps31
    go_wp2
    go_ret
    exact ⟨rfl, (Below.refl _ _).alloc (Nat.le_refl _) _⟩
  · have h1 : (n : Int) ≤ i := by omega
    have h2 : 0 ≤ i := by omega
    clear hi h0
    go_enter Try.func31, Try.ntmps31
    go_wp2
    go_ret
    exact ⟨by simp; omega, (Below.refl _ _).alloc (Nat.le_refl _) _⟩
theorem erase_take {L : List Pc} {j k : Nat} (hk : k < L.length) : (L.take (k + 1)).eraseIdx j = (L.take k).eraseIdx j ++ (if k = j then [] else [pc L k]) := by
  have hl : (L.take k).length = k := by simp; omega
  rw [List.take_succ_eq_append_getElem hk, pc_get hk]
  by_cases e : k = j
  · subst e
    rw [if_pos rfl, List.append_nil, List.eraseIdx_append_of_length_le (by omega), List.eraseIdx_of_length_le (by omega : (L.take k).length ≤ k), hl]
    simp
  · rw [if_neg e]
    rcases Nat.lt_or_ge j k with h | h
    · rw [List.eraseIdx_append_of_lt_length (by omega)]
    · rw [List.eraseIdx_of_length_le (by simp; omega), List.eraseIdx_of_length_le (by omega)]
set_option maxHeartbeats 2000000 in
set_option maxRecDepth 100000 in
theorem without_any (j : Nat) (ao : Option Addr) (c : Nat) (L : List Pc) (w : World) (h : RRow w 0 (.slice ao L.length c) L) (hl : L.length ≤ 1000) :
   Calls Try.prog 32 #[.slice ao L.length c, .int .i64 (j : Int)] w fun e w' => ∃ ao' c', e = .returned (.slice ao' (L.eraseIdx j).length c') ∧ RRow w' w.heap.size (.slice ao' (L.eraseIdx j).length c') (L.eraseIdx j) ∧ Below w.heap.size w w' := by
  have B1 : Below w.heap.size w (w.alloc (.cells #[] 42)) := (Below.refl _ _).alloc (Nat.le_refl _) _
  have R1 := rrow_new w w.heap.size (Nat.le_refl _)
  have HR : Hid _ := h
  clear h
  generalize hw1 : w.alloc (.cells #[] 42) = w1 at *
  generalize hn : L.length = n at *
  go_enter Try.func32, Try.ntmps32
  go_wp2_with fail
  clear hw1
  go_loopg [5, 6, 7, 11] n (fun gg s5 _ _ s11 wr => ∃ (k : Nat) (ao' : Option Addr) (c' m : Nat), k ≤ n ∧ gg = n - k ∧ s11 = .int .i64 (k : Int) ∧ s5 = .slice ao' m c' ∧ Hid (m = ((L.take k).eraseIdx j).length) ∧ RRow wr w.heap.size (.slice ao' m c') ((L.take k).eraseIdx j) ∧ Below w.heap.size w wr)
  case atStart => exact ⟨0, _, _, 0, by omega, by omega, rfl, rfl, rfl, R1, B1⟩
  case round =>
    obtain ⟨k, ao', c', m, hk, rfl, rfl, rfl, HM, R2, B2⟩ := hrel
    clear R1 B1
    by_cases hlt : k < n
    · have RR : RRow wr 0 (.slice ao n c) L := PRow.below (by rw [← hn]; rw [← hn] at HR; exact HR.out) B2
      obtain ⟨g, cap, e, z1, z2, z3, z4, z5, z6, z7⟩ := RR.cells (by omega)
      rw [hn] at e
      simp only [Value.slice.injEq, true_and] at e
      obtain ⟨rfl, rfl⟩ := e
      obtain ⟨y0, y1, y2⟩ := z7 k (by omega)
      have hml : m ≤ 1000 := by
        have h1 := HM.out
        have h2 : ((L.take k).eraseIdx j).length ≤ (L.take k).length := List.length_eraseIdx_le _ _
        simp at h2
        omega
      have ET := erase_take (L := L) (j := j) (k := k) (by omega)
      have HE : Hid _ := ET
      clear z5 z6 z7 RR ET
      generalize hM : (L.take k).eraseIdx j = M at *
      by_cases ek : k = j
      · rw [if_pos ek, List.append_nil] at HE
        have ek' : ((k : Int) == (j : Int)) = true := by simp [ek]
        clear ek
        generalize pc L k = p at *
        obtain ⟨pt, pf, pn⟩ := p
        simp only at y0 y1 y2
        have BA : Below wr.heap.size wr (wr.alloc (.cells #[.int .i64 pt, .string pf, .bool pn] 42)) := (Below.refl _ _).alloc (Nat.le_refl _) _
        go_wp2_with fail
        go_roundg (n - (k + 1))
        case measure => omega
        case rel => exact ⟨k + 1, ao', c', m, by omega, rfl, by go_num, rfl, by rw [HE.out]; exact HM, by rw [HE.out]; exact PRow.below R2 BA, below_then B2 BA⟩
      · rw [if_neg ek] at HE
        have ek' : ((k : Int) == (j : Int)) = false := by rw [beq_eq_false_iff_ne]; omega
        clear ek
        generalize pc L k = p at *
        obtain ⟨pt, pf, pn⟩ := p
        simp only at y0 y1 y2
        have BA : Below wr.heap.size wr (wr.alloc (.cells #[.int .i64 pt, .string pf, .bool pn] 42)) := (Below.refl _ _).alloc (Nat.le_refl _) _
        have BC : Below wr.heap.size wr ((wr.alloc (.cells #[.int .i64 pt, .string pf, .bool pn] 42)).alloc (.cells #[.int .i64 pt, .string pf, .bool pn] 42)) := BA.alloc (by have := BA.size; omega) _
        have XC := blk_new (wr.alloc (.cells #[.int .i64 pt, .string pf, .bool pn] 42)) 42 #[.int .i64 pt, .string pf, .bool pn]
        have RC := PRow.below R2 BC
        have sC : w.heap.size ≤ ((wr.alloc (.cells #[.int .i64 pt, .string pf, .bool pn] 42)).alloc (.cells #[.int .i64 pt, .string pf, .bool pn] 42)).heap.size := by have := BC.size; have := B2.size; omega
        have hM1 : M.length = m := HM.out.symm
        have HM1 : Hid _ := hM1
        have s1 : (wr.alloc (.cells #[.int .i64 pt, .string pf, .bool pn] 42)).heap.size = wr.heap.size + 1 := by simp
        rw [s1] at XC
        clear hM1
        go_wp2_with (at_builtin; refine wpList_append_r1 rfl _ _ rfl w.heap.size _ M ⟨pt, pf, pn⟩ (wr.heap.size + 1) rfl (by first | rfl | simp [Act.eval]) (by exact RC) (by exact XC) (by rw [HM1.out]; omega) sC ?_; intro ao'' c'' w5 R5 B5; rw [HM1.out])
        go_roundg (n - (k + 1))
        case measure => omega
        case rel => exact ⟨k + 1, ao'', c'', m + 1, by omega, rfl, by go_num, rfl, by show _ = _; rw [HE.out, List.length_append, HM1.out]; rfl, by rw [HE.out, ← HM1.out]; exact R5, (below_then B2 BC).trans B5⟩
    · obtain rfl : k = n := by omega
      have e0 : L.take k = L := by rw [← hn, List.take_length]
      rw [e0] at HM R2
      go_wp2_with fail
      go_ret
      exact ⟨ao', c', by rw [← HM.out]; rfl, by rw [← HM.out]; exact R2, B2⟩
end Go.Proofs.Ytgbljkbiigcofaa
