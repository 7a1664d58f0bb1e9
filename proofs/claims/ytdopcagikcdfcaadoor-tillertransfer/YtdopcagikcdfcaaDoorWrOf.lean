/- Package wire's takeBytes, where the bytes are there, and messageOf. -/
import Derived.Test.YtdopcagikcdfcaaDoorWrTake
namespace Go.Proofs.YtdopcagikcdfcaaDoor
open Go.ChangeShapes Go.WideShapes Go.ChangeAt Go.RowKit
set_option maxRecDepth 20000 in
theorem takeBytes_ok (s : ByteArray) (n m : Nat) (w : World) (hs : s.size ≤ 1099511627776) (h : takeG s.data.toList 0 0 = (n, m, 0)) (hn : n ≤ (s.data.toList.drop m).length) :
   Calls Tryd.prog 35 #[.string s] w fun e w' => e = .returned (.tuple #[.string (txt ((s.data.toList.drop m).take n)), .string (txt ((s.data.toList.drop m).drop n)), .int .i64 0]) ∧ Below w.heap.size w w' := by
  have T := takeW_ok s n m w hs h
  have hl : s.data.toList.length = s.size := rfl
  have hd : (s.data.toList.drop m).length ≤ s.size := by rw [List.length_drop]; omega
  obtain ⟨R, hR⟩ : ∃ R, R = txt (s.data.toList.drop m) := ⟨_, rfl⟩
  have zR : R.size = (s.data.toList.drop m).length := by rw [hR, txt_size]
  have S1 := slice_to R n (n : Int) rfl (by omega)
  have S2 := slice_from R n (n : Int) rfl (by omega)
  rw [show R.data.toList = s.data.toList.drop m by rw [hR, txt_list]] at S1 S2
  rw [← hR] at T
  generalize txt ((s.data.toList.drop m).take n) = Y1 at *
  generalize txt ((s.data.toList.drop m).drop n) = Y2 at *
  have hnR : ¬ (R.size : Int) < (n : Int) := by omega
  have zR2 : R.size ≤ 1099511627776 := by omega
  clear hR zR h hl hd hn
  go_enter Tryd.func35, Tryd.ntmps35
  go_wp2_with (go_at_call 34; refine T.mono ?_; rintro e w2 ⟨rfl, d, hw2⟩; have HW : Hid (w2 = w.drewN d) := hw2; clear hw2)
  go_quiet (fail)
  go_wp2_with fail
  go_ret3
  exact ⟨rfl, below_drewN (by rw [HW.out]; exact below_drewN (Below.refl _ _) _) _⟩
/-- The tokens of a row of bytes. -/
def tkL (l : List UInt8) : List Int := l.map fun b => (b.toNat : Int)
/-- append of one number onto a row of the program's own, as one step of a region that draws. -/
theorem step_append_int {ops : Array Oper} {o : Oper} {a : Act} {w : World} {K : Act → World → Prop} {Q : Exit → Act → World → Prop} {E : Prop}
    (hg : o.guard = none) (s x : Operand) (hop : o.op = .call { callee := .builtin .append, args := #[s, x], argTypes := #[48, 48] })
    (B : Nat) (v : Value) (n : Nat) (A : List Int) (hs : a.eval s = v) (hown : IOwn w B v n A)
    (bo : Nat) (y : Int) (hx : a.eval x = .slice (some ⟨bo, 0, none⟩) 1 1) (hX : w.cell? ⟨bo, 0, none⟩ = some (.int .i64 y)) (hlen : n ≤ 4096) (hB : B ≤ w.heap.size)
    (h : ∀ g' cap' w', IOwn w' B (.slice (some ⟨g', 0, none⟩) (n + 1) cap') (n + 1) (A ++ [y]) → w.grownBy w' v.ownBlock → Below B w w' → K (a.put o.dst (.slice (some ⟨g', 0, none⟩) (n + 1) cap')) w') :
    if Region.wanted o (yielded ops a.tmps) = true then Oper.wp Tryd.prog o a w K Q else E := by
  have hw : Region.wanted o (yielded ops a.tmps) = true := by simp [Region.wanted, hg]
  rw [if_pos hw]
  obtain ⟨i0, hi, hz0, hz1, hz2⟩ := info_parts Tryd.infoInt
  refine wp_append_own w s x 48 hop B 3 i0 (.int .i64 0) 1 8 Tryd.underlying48 hi hz0 hz1 hz2 rfl (by decide) _ n _ hs hown ⟨bo, 0, none⟩ 1 1 [.int .i64 y] hx rfl ?_ (ints_oneCell .i64 [y]) (by unfold maxLen; omega) (by omega) hB ?_
  · intro j u hj
    match j, hj with
    | 0, hj =>
      simp at hj
      subst hj
      have e2 : (Addr.mk bo 0 none).add 0 = ⟨bo, 0, none⟩ := by simp [Addr.add]
      rw [e2, hX]
  · intro v' w' hown' hgr hnil
    have hb : Below B w w' := (Below.refl _ _).grown hgr hB (fun k hk => (hown.lt k hk).1)
    have O : IOwn w' B v' (n + 1) (A ++ [y]) := by unfold IOwn; rw [List.map_append]; exact hown'
    rcases O.2 with ⟨_, e⟩ | ⟨g', cap', cur, e, _⟩
    · omega
    · subst e
      exact h g' cap' w' O hgr hb
theorem iown_other {w : World} {B : Nat} {v : Value} {n : Nat} {A : List Int} (h : IOwn w B v n A) {a : Addr} (ha : ∀ j, v.ownBlock = some j → j ≠ a.block) (u : Value) : IOwn (w.setCell a u) B v n A := by
  obtain ⟨h1, h2⟩ := h
  refine ⟨h1, ?_⟩
  rcases h2 with h2 | ⟨g, cap, cur, hv, hg, hh, r⟩
  · exact Or.inl h2
  · exact Or.inr ⟨g, cap, cur, hv, hg, (Below.heap_setCell _ _ _ _ (ha g (by rw [hv]; rfl))).trans hh, r⟩
theorem iown_row {w : World} {B : Nat} {v : Value} {n : Nat} {A : List Int} (h : IOwn w B v n A) {b : Nat} (ha : ∀ j, v.ownBlock = some j → j ≠ b) (cs : Array Value) : IOwn (w.setRow b cs) B v n A := by
  obtain ⟨h1, h2⟩ := h
  refine ⟨h1, ?_⟩
  rcases h2 with h2 | ⟨g, cap, cur, hv, hg, hh, r⟩
  · exact Or.inl h2
  · exact Or.inr ⟨g, cap, cur, hv, hg, (setRow_other _ _ _ _ (ha g (by rw [hv]; rfl))).trans hh, r⟩
theorem tk_small (l : List UInt8) : ∀ j, -9223372036854775808 ≤ el (tkL l) j ∧ el (tkL l) j ≤ 9223372036854775807 := fun j => by
  unfold el tkL
  rw [List.getD_eq_getElem?_getD, List.getElem?_map]
  cases h : l[j]? with
  | none => simp
  | some b => have := b.toNat_lt; simp; omega
theorem msg_one (g : Nat → Int) (ao : Option Addr) (n c : Nat) (t : ByteArray) : Array.all (msgC g (.slice ao n c) t) (fun v => v.oneCell') = true := by simp [Value.oneCell']
set_option maxRecDepth 20000 in
set_option maxHeartbeats 2000000 in
theorem messageOf_ok (g : Nat → Int) (tt t : ByteArray) (w : World) (hs : tt.size ≤ 4000) :
   Calls Tryd.prog 36 #[.agg #[.int .i64 (g 0), .int .i64 (g 1), .int .i64 (g 2), .int .i64 (g 3), .int .i64 (g 4), .int .i64 (g 5), .int .i64 (g 6), .int .i64 (g 7), .int .i64 (g 8), .int .i64 (g 9)], .string tt, .string t] w fun e w' => ∃ ao c, e = .returned (msgV g (.slice ao tt.size c) t) ∧ IArg w' ao tt.size c (tkL tt.data.toList) ∧ (∀ ad, ao = some ad → w.heap.size ≤ ad.block) ∧ Below w.heap.size w w' := by
  have hl : tt.data.toList.length = tt.size := rfl
  have X0 := blk_new w 63 #[.int .i64 (g 0), .int .i64 (g 1), .int .i64 (g 2), .int .i64 (g 3), .int .i64 (g 4), .int .i64 (g 5), .int .i64 (g 6), .int .i64 (g 7), .int .i64 (g 8), .int .i64 (g 9)]
  have B0 : Below w.heap.size w (w.alloc (.cells #[.int .i64 (g 0), .int .i64 (g 1), .int .i64 (g 2), .int .i64 (g 3), .int .i64 (g 4), .int .i64 (g 5), .int .i64 (g 6), .int .i64 (g 7), .int .i64 (g 8), .int .i64 (g 9)] 63)) := below_alloc _ _
  have s0 : (w.alloc (.cells #[.int .i64 (g 0), .int .i64 (g 1), .int .i64 (g 2), .int .i64 (g 3), .int .i64 (g 4), .int .i64 (g 5), .int .i64 (g 6), .int .i64 (g 7), .int .i64 (g 8), .int .i64 (g 9)] 63)).heap.size = w.heap.size + 1 := by simp
  generalize hw0 : w.alloc (.cells #[.int .i64 (g 0), .int .i64 (g 1), .int .i64 (g 2), .int .i64 (g 3), .int .i64 (g 4), .int .i64 (g 5), .int .i64 (g 6), .int .i64 (g 7), .int .i64 (g 8), .int .i64 (g 9)] 63) = w0 at *
  have X1 := blk_new w0 50 #[.int .i64 0, .int .i64 0, .int .i64 0, .int .i64 0, .int .i64 0, .int .i64 0, .int .i64 0, .int .i64 0, .int .i64 0, .int .i64 0, .slice none 0 0, .string ⟨#[]⟩]
  have B1 : Below w0.heap.size w0 (w0.alloc (.cells #[.int .i64 0, .int .i64 0, .int .i64 0, .int .i64 0, .int .i64 0, .int .i64 0, .int .i64 0, .int .i64 0, .int .i64 0, .int .i64 0, .slice none 0 0, .string ⟨#[]⟩] 50)) := below_alloc _ _
  have s1 : (w0.alloc (.cells #[.int .i64 0, .int .i64 0, .int .i64 0, .int .i64 0, .int .i64 0, .int .i64 0, .int .i64 0, .int .i64 0, .int .i64 0, .int .i64 0, .slice none 0 0, .string ⟨#[]⟩] 50)).heap.size = w0.heap.size + 1 := by simp
  generalize hw1 : w0.alloc (.cells #[.int .i64 0, .int .i64 0, .int .i64 0, .int .i64 0, .int .i64 0, .int .i64 0, .int .i64 0, .int .i64 0, .int .i64 0, .int .i64 0, .slice none 0 0, .string ⟨#[]⟩] 50) = w1 at *
  have X2 := blk_new w1 50 #[.int .i64 0, .int .i64 0, .int .i64 0, .int .i64 0, .int .i64 0, .int .i64 0, .int .i64 0, .int .i64 0, .int .i64 0, .int .i64 0, .slice none 0 0, .string ⟨#[]⟩]
  have B2 : Below w1.heap.size w1 (w1.alloc (.cells #[.int .i64 0, .int .i64 0, .int .i64 0, .int .i64 0, .int .i64 0, .int .i64 0, .int .i64 0, .int .i64 0, .int .i64 0, .int .i64 0, .slice none 0 0, .string ⟨#[]⟩] 50)) := below_alloc _ _
  have s2 : (w1.alloc (.cells #[.int .i64 0, .int .i64 0, .int .i64 0, .int .i64 0, .int .i64 0, .int .i64 0, .int .i64 0, .int .i64 0, .int .i64 0, .int .i64 0, .slice none 0 0, .string ⟨#[]⟩] 50)).heap.size = w1.heap.size + 1 := by simp
  generalize hw2 : w1.alloc (.cells #[.int .i64 0, .int .i64 0, .int .i64 0, .int .i64 0, .int .i64 0, .int .i64 0, .int .i64 0, .int .i64 0, .int .i64 0, .int .i64 0, .slice none 0 0, .string ⟨#[]⟩] 50) = w2 at *
  replace X0 := X0.next B1
  have X1' := X1.next B2
  have D := below_then (below_then B0 B1) B2
  have c0 : w1.cell? ⟨w.heap.size, 0, none⟩ = some (.int .i64 (g 0)) := X0.cell 0 rfl
  have c1 : w1.cell? ⟨w.heap.size, 1, none⟩ = some (.int .i64 (g 1)) := X0.cell 1 rfl
  have c2 : w1.cell? ⟨w.heap.size, 2, none⟩ = some (.int .i64 (g 2)) := X0.cell 2 rfl
  have c3 : w1.cell? ⟨w.heap.size, 3, none⟩ = some (.int .i64 (g 3)) := X0.cell 3 rfl
  have c4 : w1.cell? ⟨w.heap.size, 4, none⟩ = some (.int .i64 (g 4)) := X0.cell 4 rfl
  have c5 : w1.cell? ⟨w.heap.size, 5, none⟩ = some (.int .i64 (g 5)) := X0.cell 5 rfl
  have c6 : w1.cell? ⟨w.heap.size, 6, none⟩ = some (.int .i64 (g 6)) := X0.cell 6 rfl
  have c7 : w1.cell? ⟨w.heap.size, 7, none⟩ = some (.int .i64 (g 7)) := X0.cell 7 rfl
  have c8 : w1.cell? ⟨w.heap.size, 8, none⟩ = some (.int .i64 (g 8)) := X0.cell 8 rfl
  have c9 : w1.cell? ⟨w.heap.size, 9, none⟩ = some (.int .i64 (g 9)) := X0.cell 9 rfl
  have one := msg_one g none 0 0 t
  have S0 : Hid (w0.heap.size = w.heap.size + 1 ∧ w1.heap.size = w.heap.size + 2 ∧ w2.heap.size = w.heap.size + 3) := ⟨s0, by omega, by omega⟩
  clear s0 s1 s2 B0 B1 B2 X0 X1
  go_enter Tryd.func36, Tryd.ntmps36
  go_wp2_with (refine wpList_store_row rfl 50 _ _ rfl w1.heap.size (msgC g (.slice none 0 0) t) rfl rfl 50 _ X2 Tryd.infoMsg rfl one ?_)
  have X3 := X2.row (msgC g (.slice none 0 0) t)
  have X1'' : Blk (w2.setRow w1.heap.size (msgC g (.slice none 0 0) t)) w0.heap.size 50 #[.int .i64 0, .int .i64 0, .int .i64 0, .int .i64 0, .int .i64 0, .int .i64 0, .int .i64 0, .int .i64 0, .int .i64 0, .int .i64 0, .slice none 0 0, .string ⟨#[]⟩] := X1'.of_block (setRow_other _ _ _ _ (by have := S0.out; omega))
  have D2 : Below w.heap.size w (w2.setRow w1.heap.size (msgC g (.slice none 0 0) t)) := below_setRow D (by have := S0.out; omega) _
  have hsz : (w2.setRow w1.heap.size (msgC g (.slice none 0 0) t)).heap.size = w.heap.size + 3 := by simp [World.setRow]; exact S0.out.2.2
  have HSZ : Hid ((w2.setRow w1.heap.size (msgC g (.slice none 0 0) t)).heap.size = w.heap.size + 3) := hsz
  clear hsz
  generalize w2.setRow w1.heap.size (msgC g (.slice none 0 0) t) = w3 at *
  clear hw0 hw1 hw2 X1' X2 D c0 c1 c2 c3 c4 c5 c6 c7 c8 c9 one
  go_loopg [33] tt.size (fun r i wr => ∃ k : Nat, ∃ ao c, k ≤ tt.size ∧ r = tt.size - k ∧ i = .int .i64 (k : Int) ∧ Blk wr w1.heap.size 50 (msgC g (.slice ao k c) t) ∧ IOwn wr (w.heap.size + 3) (.slice ao k c) k (tkL (tt.data.toList.take k)) ∧ Blk wr w0.heap.size 50 #[.int .i64 0, .int .i64 0, .int .i64 0, .int .i64 0, .int .i64 0, .int .i64 0, .int .i64 0, .int .i64 0, .int .i64 0, .int .i64 0, .slice none 0 0, .string ⟨#[]⟩] ∧ Below w.heap.size w wr ∧ w.heap.size + 3 ≤ wr.heap.size)
  case atStart => exact ⟨0, none, 0, by omega, by omega, rfl, X3, World.ownsRow_nil _ _ _ _, X1'', D2, by have := HSZ.out; omega⟩
  case round =>
    clear X3 X1'' D2 HSZ
    obtain ⟨k, ao, c, hk, rfl, rfl, XM, OW, XR, D, hz⟩ := hrel
    by_cases hk1 : k < tt.size
    · have ix := index_at tt k hk1 (k : Int) rfl
      have HT : Hid (tkL (tt.data.toList.take (k + 1)) = tkL (tt.data.toList.take k) ++ [((tt.data.toList.getD k 0).toNat : Int)]) := by
        show _ = _
        unfold tkL
        rw [List.take_succ_eq_append_getElem (by omega), List.map_append, List.getD_eq_getElem?_getD, List.getElem?_eq_getElem (by omega)]
        rfl
      have hb := (tt.data.toList.getD k 0).toNat_lt
      generalize (tt.data.toList.getD k 0).toNat = b at *
      have hwb : IntKind.i64.wrap (b : Int) = (b : Int) := by simp [IntKind.wrap, IntKind.bits, IntKind.signed]; omega
      generalize tkL (tt.data.toList.take k) = T0 at *
      have XD : Blk wr.drew w1.heap.size 50 (msgC g (.slice ao k c) t) := XM
      have lt1 := XM.lt
      have d10 : wr.drew.cell? ⟨w1.heap.size, 10, none⟩ = some (.slice ao k c) := XD.cell 10 rfl
      have BA : Below wr.drew.heap.size wr.drew (wr.drew.alloc (.cells #[.int .i64 (b : Int)] 3)) := below_alloc _ _
      have XA := XD.next BA
      have a10 : (wr.drew.alloc (.cells #[.int .i64 (b : Int)] 3)).cell? ⟨w1.heap.size, 10, none⟩ = some (.slice ao k c) := XA.cell 10 rfl
      have a11 : (wr.alloc (.cells #[.int .i64 (b : Int)] 3)).cell? ⟨w1.heap.size, 10, none⟩ = some (.slice ao k c) := a10
      have a12 : (wr.alloc (.cells #[.int .i64 (b : Int)] 3)).drew.cell? ⟨w1.heap.size, 10, none⟩ = some (.slice ao k c) := a10
      have OD : IOwn wr.drew (w.heap.size + 3) (.slice ao k c) k T0 := OW
      have OA : IOwn (wr.drew.alloc (.cells #[.int .i64 (b : Int)] 3)) (w.heap.size + 3) (.slice ao k c) k T0 := owns_below OD BA
      have XA0 : Blk (wr.drew.alloc (.cells #[.int .i64 (b : Int)] 3)) w0.heap.size 50 #[.int .i64 0, .int .i64 0, .int .i64 0, .int .i64 0, .int .i64 0, .int .i64 0, .int .i64 0, .int .i64 0, .int .i64 0, .int .i64 0, .slice none 0 0, .string ⟨#[]⟩] := Blk.next (w := wr.drew) XR BA
      have hX : (wr.drew.alloc (.cells #[.int .i64 (b : Int)] 3)).cell? ⟨wr.heap.size, 0, none⟩ = some (.int .i64 (b : Int)) := (blk_new wr.drew 3 #[.int .i64 (b : Int)]).cell 0 rfl
      have ss : w.heap.size + 3 ≤ (wr.drew.alloc (.cells #[.int .i64 (b : Int)] 3)).heap.size := by have := BA.size; exact Nat.le_trans hz this
      have HD : Hid (Below w.heap.size w (wr.drew.alloc (.cells #[.int .i64 (b : Int)] 3))) := below_alloc2 (D.drew) _
      clear XD OD OW D
      go_wp2_with fail
      go_region_law (refine step_append_int rfl (.tmp 37) (.tmp 42) rfl (w.heap.size + 3) (.slice ao k c) k T0 (by first | rfl | simp [Act.eval, Act.put]) (by exact OA) wr.heap.size (b : Int) (by first | rfl | simp [Act.eval, Act.put]) (by exact hX) (by omega) (by exact ss) ?_; intro g' cap' w5 O5 G5 B5; have X5 := XA.of_block (B5.block w1.heap.size (by have := S0.out; omega)); have Y5 := XA0.of_block (B5.block w0.heap.size (by have := S0.out; omega)); have t0 := X5.cell 10 (v := .slice ao k c) rfl; have tf := X5.frozen 10)
      all_goals
        go_wp2_with fail
        go_roundg (tt.size - (k + 1))
        case measure => omega
        case rel =>
          refine ⟨k + 1, some ⟨g', 0, none⟩, cap', by omega, rfl, by go_num, X5.set 10 _, ?_, Y5.other (by show w0.heap.size ≠ w1.heap.size; have := S0.out; omega) _, ?_, ?_⟩
          · rw [HT.out]
            exact iown_other O5 (fun j hj => by show j ≠ w1.heap.size; have h9 := (O5.lt j hj).1; have := S0.out; omega) _
          · exact ((HD.out).trans (B5.mono (by omega))).setCell (by show w.heap.size ≤ w1.heap.size; have := S0.out; omega) _
          · simp only [World.setCell, Array.size_modify]
            exact Nat.le_trans ss B5.size
    · obtain rfl : k = tt.size := by omega
      have e1 : tkL (tt.data.toList.take tt.size) = tkL tt.data.toList := by rw [List.take_of_length_le (by omega)]
      rw [e1] at OW
      have hsm : ∀ j, -9223372036854775808 ≤ el (tkL tt.data.toList) j ∧ el (tkL tt.data.toList) j ≤ 9223372036854775807 := tk_small _
      have OW2 := iown_row OW (b := w0.heap.size) (fun j hj => by have h9 := (OW.lt j hj).1; have := S0.out; omega) (msgC g (.slice ao tt.size c) t)
      obtain ⟨ao2, c2, e2, AR⟩ := OW2.arg hsm
      injection e2 with e3 e4 e5
      subst e3
      subst e5
      have one := msg_one g ao tt.size c t
      have HF : Hid (∀ ad, ao = some ad → w.heap.size ≤ ad.block) := fun ad e => by have h9 := (OW.lt ad.block (by rw [e]; rfl)).1; omega
      clear OW OW2 hk1
      go_wp2_with (first
        | (refine wpList_load_row rfl 50 _ rfl w1.heap.size rfl 50 (msgC g (.slice ao tt.size c) t) (0, 0) _ XM Tryd.underlying50 rfl Tryd.infoMsg ?_)
        | (refine wpList_store_row rfl 50 _ _ rfl w0.heap.size (msgC g (.slice ao tt.size c) t) rfl rfl 50 _ XR Tryd.infoMsg rfl one ?_))
      refine bodyPost_ret (results_cell_row rfl _ _ w0.heap.size 50 _ _ _ rfl (XR.row _) Tryd.underlying50 rfl Tryd.infoMsg) rfl ?_
      exact ⟨ao, c, rfl, AR, HF.out, below_setRow D (by have := S0.out; omega) _⟩
end Go.Proofs.YtdopcagikcdfcaaDoor
