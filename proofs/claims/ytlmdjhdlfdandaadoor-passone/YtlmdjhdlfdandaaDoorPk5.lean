/- Contracts of the program's functions, part 5 of 10: what each call returns and leaves of memory. -/
import Derived.Test.YtlmdjhdlfdandaaDoorPk4
import Derived.Deep.RegionHeld3
/- The document's layer 8: plus, and the row of a token at a place. -/
namespace Go.Proofs.YtlmdjhdlfdandaaDoor
open Go.ChangeShapes Go.WideShapes Go.ChangeAt Go.RowKit
theorem w64_in {x : Int} (h : -9223372036854775808 ≤ x ∧ x ≤ 9223372036854775807) : IntKind.i64.wrap x = x := by
  rw [IntKind.wrap_i64]; omega
set_option maxRecDepth 100000 in
set_option maxHeartbeats 1600000 in
theorem rplus_any (ao bo : Option Addr) (n ca cb : Nat) (A B : List Int) (w : World) (hA : RowAt w ao n A) (hB : RowAt w bo n B) (h5 : n ≤ 5000) :
   Calls Tryd.prog 60 #[.slice ao n ca, .slice bo n cb] w fun e w' => ∃ g cap, e = .returned (.slice (some ⟨g, 0, none⟩) n cap) ∧ Fresh w' w.heap.size g n cap (plusR A B n) ∧ Below w.heap.size w w' := by
  have F0 := fresh_empty w
  have B0 : Below w.heap.size w (w.alloc (.cells #[] 55)) := (Below.refl _ _).alloc (Nat.le_refl _) _
  unfold plusR
  go_enter Tryd.func60, Tryd.ntmps60
  go_wp2_with fail
  generalize w.alloc (.cells #[] 55) = w1 at *
  go_loopg [5, 10] n (fun r s i wr => ∃ (k g cap : Nat), k ≤ n ∧ r = n - k ∧ i = .int .i64 k ∧ s = .slice (some ⟨g, 0, none⟩) k cap ∧ Fresh wr w.heap.size g k cap (tab k fun j => addN (el A j) (el B j)) ∧ Below w.heap.size w wr)
  case atStart => exact ⟨0, _, _, by omega, by omega, rfl, rfl, F0, B0⟩
  case round =>
    obtain ⟨k, g, cap, hk, rfl, rfl, rfl, F2, B2⟩ := hrel
    clear F0 B0
    by_cases hlt : k < n
    · obtain ⟨b, o, rfl, hc⟩ := (hA.below B2).cells (by omega)
      obtain ⟨b', o', rfl, hc'⟩ := (hB.below B2).cells (by omega)
      have a1 := hA.small.el k
      have a2 := hB.small.el k
      have c1 := hc k hlt
      have c2 := hc' k hlt
      have O1 := F2.owns
      have s2 := B2.size
      have HS : Hid (tab (k + 1) (fun j => addN (el A j) (el B j)) = tab k (fun j => addN (el A j) (el B j)) ++ [addN (el A k) (el B k)]) := tab_snoc1 k _
      have m1 := addN_bd (el A k) (el B k)
      have HM1 : Hid (sat (el A k + el B k) = addN (el A k) (el B k)) := rfl
      generalize addN (el A k) (el B k) = x at *
      generalize el A k = xa at *
      generalize el B k = xb at *
      have wa : IntKind.i64.wrap xa = xa := w64_in (by omega)
      have wb : IntKind.i64.wrap xb = xb := w64_in (by omega)
      have wab : IntKind.i64.wrap (xa + xb) = xa + xb := w64_in (by omega)
      clear hA hB hc hc' F2
      go_wp2_with fail
      go_region_law (first
        | (refine step_append_one rfl (.tmp 13) (.tmp 26) rfl w.heap.size _ k cap (tab k fun j => addN (el A j) (el B j)) (by first | rfl | simp [Act.eval, Act.put]) (by exact OO) w12.heap.size x (by first | rfl | simp [Act.eval, Act.put]) (by exact RR) (by omega) (by exact ss) ?_; intro g' cap' w13 O13 B13 hg13)
        | (go_simp; go_at_call 55; refine (refSat_any _ _ (by omega) (by omega)).mono ?_; rintro e w12 ⟨rfl, hw12⟩; rw [HM1.out]; have B12 : Below wr.heap.size wr w12 := (by subst hw12; exact (Below.refl _ _).drew); clear hw12; have BL : Below w12.heap.size w12 (w12.alloc (.cells #[.int .i32 x] 55)) := (Below.refl _ _).alloc (Nat.le_refl _) _; have BA := below_then B12 BL; have OO := owns_below O1 BA; have RR := rowAt_one w12 x (by omega); have ss : w.heap.size ≤ (w12.alloc (.cells #[.int .i32 x] 55)).heap.size := by have := BA.size; omega))
      all_goals
        go_wp2
        go_roundg (n - (k + 1))
        case measure => omega
        case rel =>
          obtain ⟨g9, e9, F9⟩ := fresh_of_owns O13 (by rw [← HS.out]; exact small_tab fun q _ => by have := addN_bd (el A q) (el B q); omega) (by simp)
          simp only [Option.some.injEq, Addr.mk.injEq, and_true] at e9
          subst e9
          exact ⟨k + 1, _, _, by omega, rfl, by go_num, rfl, by rw [HS.out]; exact F9, (below_then B2 BA).trans B13⟩
    · obtain rfl : k = n := by omega
      go_wp2
      go_ret
      exact ⟨_, _, rfl, F2, B2⟩
set_option maxRecDepth 100000 in
set_option maxHeartbeats 1600000 in
theorem rbeg_any (V D H : Nat) (W : Wt) (bs : List Bk) (M : Mdl) (tok at' : Nat) (w : World) (hW : WtAt w V D H W bs M) (ht : tok < V) (ha : at' ≤ 4096) :
   Calls Tryd.prog 59 #[.agg W.cells, .int .i64 tok, .int .i64 at'] w fun e w' => ∃ g cap, e = .returned (.slice (some ⟨g, 0, none⟩) D cap) ∧ Fresh w' w.heap.size g D cap (begR M.E D tok at') ∧ Below w.heap.size w w' := by
  obtain ⟨⟨er, ec, ed⟩, ⟨ba, bn, bz⟩, ⟨la, ln, lz⟩, ⟨or, oc, ⟨oa, on, oz⟩⟩⟩ := W
  obtain ⟨eb, eo, en, ez, e1, ME⟩ := hW.e
  simp only [Mt.mk.injEq] at e1
  obtain ⟨rfl, rfl, rfl⟩ := e1
  have d2 := ME.c2
  have X0 := blk_new w 65 #[.int .i64 (V : Int), .int .i64 (D : Int), .slice (some ⟨eb, eo, none⟩) en ez, .slice ba bn bz, .slice la ln lz, .int .i64 or, .int .i64 oc, .slice oa on oz]
  have B0 : Below w.heap.size w (w.alloc (.cells #[.int .i64 (V : Int), .int .i64 (D : Int), .slice (some ⟨eb, eo, none⟩) en ez, .slice ba bn bz, .slice la ln lz, .int .i64 or, .int .i64 oc, .slice oa on oz] 65)) := (Below.refl _ _).alloc (Nat.le_refl _) _
  generalize hw0 : w.alloc (.cells #[.int .i64 (V : Int), .int .i64 (D : Int), .slice (some ⟨eb, eo, none⟩) en ez, .slice ba bn bz, .slice la ln lz, .int .i64 or, .int .i64 oc, .slice oa on oz] 65) = w0 at *
  have B1 : Below w0.heap.size w0 (w0.alloc (.cells #[] 55)) := (Below.refl _ _).alloc (Nat.le_refl _) _
  have F1 := fresh_empty w0
  generalize hw1 : w0.alloc (.cells #[] 55) = w1 at *
  have X1 := X0.below B1
  have D1 := below_then B0 B1
  have x0 : w1.cell? ⟨w.heap.size, 0, none⟩ = some (.int .i64 (V : Int)) := X1.cell 0 rfl
  have x1 : w1.cell? ⟨w.heap.size, 1, none⟩ = some (.int .i64 (D : Int)) := X1.cell 1 rfl
  have x2 : w1.cell? ⟨w.heap.size, 2, none⟩ = some (.slice (some ⟨eb, eo, none⟩) en ez) := X1.cell 2 rfl
  have RW := refRow_any V D eb eo en ez M.E tok w1 (ME.below D1) ht
  have s0 := B0.size
  have s1 := B1.size
  have hlt1 := F1.lt
  unfold matV at RW
  show Calls Tryd.prog 59 #[.agg #[.int .i64 (V : Int), .int .i64 (D : Int), .slice (some ⟨eb, eo, none⟩) en ez, .slice ba bn bz, .slice la ln lz, .int .i64 or, .int .i64 oc, .slice oa on oz], .int .i64 (tok : Int), .int .i64 (at' : Int)] w _
  unfold begR
  go_enter Tryd.func59, Tryd.ntmps59
  go_wp2_with (go_at_call 53; refine RW.mono ?_; rintro e w2 ⟨rg, rc, rfl, FR, B2⟩)
  replace F1 := (F1.below B2).mono s0
  have D2 := below_then D1 B2
  have hne : w0.heap.size ≠ rg := by have := FR.base; have := hlt1; omega
  replace FR := FR.mono (show w.heap.size ≤ w1.heap.size by omega)
  have a1 := fun k => FR.small.el k
  clear x0 x1 x2 X0 X1 B0 B1 B2 hw0 hw1 D1 RW hW ME
  obtain ⟨A, hA⟩ : ∃ A, A = rowN M.E D tok := ⟨_, rfl⟩
  have HA : Hid (A = rowN M.E D tok) := hA
  rw [← hA] at FR a1
  clear hA
  go_loopg [7, 16] D (fun r s i wr => ∃ (k g cap : Nat), k ≤ D ∧ r = D - k ∧ i = .int .i64 k ∧ s = .slice (some ⟨g, 0, none⟩) k cap ∧ g ≠ rg ∧ Fresh wr w.heap.size g k cap (tab k fun j => addN (el A j) (atN at' j)) ∧ Fresh wr w.heap.size rg D rc A ∧ Below w.heap.size w wr)
  case atStart => exact ⟨0, _, _, by omega, by omega, rfl, rfl, hne, F1, FR, D2⟩
  case round =>
    obtain ⟨k, g, cap, hk, rfl, rfl, rfl, hg, F3, FR, B3⟩ := hrel
    clear F1
    by_cases hlt : k < D
    · have c1 := FR.cell hlt
      have bx := a1 k
      have HS : Hid (tab (k + 1) (fun j => addN (el A j) (atN at' j)) = tab k (fun j => addN (el A j) (atN at' j)) ++ [addN (el A k) (atN at' k)]) := tab_snoc1 k _
      have m1 := addN_bd (el A k) (atN at' k)
      have hm3 : (k : Int).tmod 3 = ((k % 3 : Nat) : Int) := by rw [Int.tmod_eq_emod_of_nonneg (by omega)]; omega
      have hm4 : k % 3 < 3 := Nat.mod_lt _ (by decide)
      have hat : Hid (sat ((at' : Int) * ((k % 3 : Nat) : Int) * 4096) = atN at' k) := rfl
      have hab : -2147483647 ≤ atN at' k ∧ atN at' k ≤ 2147483647 := sat_bd _
      have hmu : 0 ≤ (at' : Int) * ((k % 3 : Nat) : Int) ∧ (at' : Int) * ((k % 3 : Nat) : Int) ≤ 8192 := by
        obtain h | h | h : k % 3 = 0 ∨ k % 3 = 1 ∨ k % 3 = 2 := by omega
        all_goals (rw [h]; omega)
      have HAD : Hid (sat (el A k + atN at' k) = addN (el A k) (atN at' k)) := rfl
      generalize addN (el A k) (atN at' k) = x at *
      generalize atN at' k = y at *
      generalize el A k = z at *
      generalize hk3 : ((k % 3 : Nat) : Int) = k3 at *
      generalize hpq : (at' : Int) * k3 = pq at *
      have s3 := B3.size
      have hrl := FR.lt
      have R := rowAt_one wr x (by omega)
      have BA : Below wr.heap.size wr (wr.alloc (.cells #[.int .i32 x] 55)) := (Below.refl _ _).alloc (Nat.le_refl _) _
      generalize hw3 : wr.alloc (.cells #[.int .i32 x] 55) = w3 at R BA
      replace F3 := F3.below BA
      replace FR := FR.below BA
      have s4 := BA.size
      have hrl2 := FR.lt
      replace BA := below_then B3 BA
      go_wp2_with (first
        | (go_at_call_of 55 y; refine (refSat_any _ _ (by omega) (by omega)).mono ?_; rintro e wr ⟨rfl, rfl⟩; rw [HAD.out])
        | (go_at_call 55; refine (refSat_any _ _ (by omega) (by omega)).mono ?_; rintro e wr ⟨rfl, rfl⟩; rw [hat.out])
        | (at_builtin; refine wpList_append_one2 rfl _ _ rfl w.heap.size g k cap _ rfl (by exact F3) wr.heap.size _ rfl (by exact R) (by omega) (by omega) ?_; intro g' cap' w' F6 B6 K6 N6))
      go_roundg (D - (k + 1))
      case measure => omega
      case rel => exact ⟨k + 1, _, _, by omega, rfl, by go_num, rfl, by omega, by rw [HS.out]; exact F6, FR.of_block (K6 rg hrl2 (Ne.symm hg)), BA.trans B6⟩
    · obtain rfl : k = D := by omega
      go_wp2
      go_ret
      exact ⟨_, _, rfl, by rw [← HA.out]; exact F3, B3⟩
end Go.Proofs.YtlmdjhdlfdandaaDoor

/- Rows of whole numbers in memory; what hangs on new blocks alone. -/
namespace Go.Proofs.YtlmdjhdlfdandaaDoor
open Go.ChangeShapes Go.WideShapes Go.ChangeAt Go.RowKit
/-- In w the slice of whole numbers that begins at ao reads as A. -/
structure IRowAt (w : World) (ao : Option Addr) (n : Nat) (A : List Int) : Prop where
  len : A.length = n
  max : n ≤ 9223372036854775807
  small : ∀ k, -9223372036854775808 ≤ el A k ∧ el A k ≤ 9223372036854775807
  cells : 0 < n → ∃ b o, ao = some ⟨b, o, none⟩ ∧ ∀ t, t < n → w.cell? ⟨b, o + t, none⟩ = some (.int .i64 (el A t))
structure IArg (w : World) (ao : Option Addr) (n ca : Nat) (A : List Int) : Prop where
  row : IRowAt w ao n A
  fit : n ≤ ca
  max : ca ≤ 9223372036854775807
  nil : ao = none → ca = 0
theorem IRowAt.below {w w' : World} {ao : Option Addr} {n : Nat} {A : List Int} (h : IRowAt w ao n A) (hb : Below w.heap.size w w') : IRowAt w' ao n A := by
  refine ⟨h.len, h.max, h.small, fun hn => ?_⟩
  obtain ⟨b, o, e, hc⟩ := h.cells hn
  refine ⟨b, o, e, fun t ht => ?_⟩
  have h1 := hc t ht
  have hlt : b < w.heap.size := by simpa using World.block_lt_of_cell? w _ h1
  rw [hb.cell (by exact hlt)]
  exact h1
theorem IArg.below {w w' : World} {ao : Option Addr} {n ca : Nat} {A : List Int} (h : IArg w ao n ca A) (hb : Below w.heap.size w w') : IArg w' ao n ca A := ⟨h.row.below hb, h.fit, h.max, h.nil⟩
theorem iarg_nil (w : World) : IArg w none 0 0 [] := ⟨⟨rfl, by omega, fun k => by simp [el], fun h => by omega⟩, by omega, by omega, fun _ => rfl⟩
theorem IRowAt.vals {w : World} {ad : Addr} {n : Nat} {A : List Int} (h : IRowAt w (some ad) n A) : ∀ j u, (A.map (Value.int .i64))[j]? = some u → w.cell? (ad.add j) = some u := by
  intro j u hj
  have hl := h.len
  have hjm : j < n := by
    have := (List.getElem?_eq_some_iff.1 hj).1
    simpa [hl] using this
  obtain ⟨b, o', e, hcell⟩ := h.cells (by omega)
  simp only [Option.some.injEq] at e
  subst e
  have e2 : (Addr.mk b o' none).add j = ⟨b, o' + j, none⟩ := by simp [Addr.add]
  rw [e2, hcell j hjm]
  rw [List.getElem?_map, List.getElem?_eq_getElem (show j < A.length by omega)] at hj
  simp only [Option.map_some, Option.some.injEq] at hj
  rw [← hj]
  unfold el
  simp [List.getD_eq_getElem?_getD, List.getElem?_eq_getElem (show j < A.length by omega)]
/-- A row of whole numbers of the call's own. -/
def IOwn (w : World) (B : Nat) (v : Value) (n : Nat) (A : List Int) : Prop := w.ownsRow B 3 1 v n (A.map (Value.int .i64))
theorem Tryd.infoInt : (Tryd.prog.info? 3).map (fun i => (i.zero, i.size, i.bytes)) = some (some (.int .i64 0), 1, 8) := by kernel_rfl
theorem IOwn.arg {w : World} {B : Nat} {v : Value} {n : Nat} {A : List Int} (h : IOwn w B v n A) (hs : ∀ k, -9223372036854775808 ≤ el A k ∧ el A k ≤ 9223372036854775807) : ∃ ao c, v = .slice ao n c ∧ IArg w ao n c A := by
  have hl : A.length = n := by have := h.1; simpa using this
  rcases h.2 with ⟨h3, h4⟩ | ⟨g, cap, cur, hv, hg, hh, h5, h6, h7, h8⟩
  · subst h4
    obtain rfl : A = [] := List.length_eq_zero_iff.1 hl
    exact ⟨none, 0, h3, iarg_nil w⟩
  · subst hv
    have hm : cap ≤ 9223372036854775807 := by simpa [maxLen] using h6
    refine ⟨_, _, rfl, ⟨hl, by omega, hs, fun hn => ⟨g, 0, rfl, fun t ht => ?_⟩⟩, h5, hm, fun h => by cases h⟩
    have hc := World.ownsRow.cells h (g := g) rfl t (.int .i64 (el A t)) (by
      rw [List.getElem?_map, List.getElem?_eq_getElem (show t < A.length by omega)]
      unfold el
      simp [List.getD_eq_getElem?_getD, List.getElem?_eq_getElem (show t < A.length by omega)])
    have e2 : (Addr.mk g 0 none).add t = ⟨g, t, none⟩ := by simp [Addr.add]; intro h; exact h.symm
    rw [e2] at hc
    rw [Nat.zero_add]
    exact hc
/-- Φ hangs on those blocks alone that p tells. -/
def Hangs (p : Nat → Prop) (w : World) (Φ : World → Prop) : Prop := ∀ w2 : World, (∀ b, p b → b < w.heap.size → w2.heap[b]? = w.heap[b]?) → Φ w2
theorem Hangs.now {p : Nat → Prop} {w : World} {Φ : World → Prop} (h : Hangs p w Φ) : Φ w := h w fun _ _ _ => rfl
theorem Hangs.below {p : Nat → Prop} {w w' : World} {Φ : World → Prop} (h : Hangs p w Φ) (hb : Below w.heap.size w w') : Hangs p w' Φ := fun w2 h2 =>
  h w2 fun b h3 h4 => (h2 b h3 (Nat.lt_of_lt_of_le h4 hb.size)).trans (hb.block b h4)
theorem Hangs.mono {p q : Nat → Prop} {w : World} {Φ : World → Prop} (h : Hangs p w Φ) (hq : ∀ b, b < w.heap.size → p b → q b) : Hangs q w Φ := fun w2 h2 => h w2 fun b h3 h4 => h2 b (hq b h4 h3) h4
theorem Hangs.other {p : Nat → Prop} {w w' : World} {Φ : World → Prop} (h : Hangs p w Φ) (hs : w'.heap.size = w.heap.size) (ho : ∀ b, p b → w'.heap[b]? = w.heap[b]?) : Hangs p w' Φ := fun w2 h2 =>
  h w2 fun b h3 h4 => (h2 b h3 (by rw [hs]; exact h4)).trans (ho b h3)
theorem Hangs.set {p : Nat → Prop} {w : World} {Φ : World → Prop} (h : Hangs p w Φ) {a : Addr} (ha : ¬ p a.block) (v : Value) : Hangs p (w.setCell a v) Φ :=
  h.other (by simp [World.setCell]) fun b hb => Below.heap_setCell _ _ _ _ (fun e => ha (by rw [← e]; exact hb))
theorem Hangs.row {p : Nat → Prop} {w : World} {Φ : World → Prop} (h : Hangs p w Φ) {g : Nat} (ha : ¬ p g) (cs : Array Value) : Hangs p (w.setRow g cs) Φ :=
  h.other (by simp [World.setRow]) fun b hb => setRow_other _ _ _ _ (fun e => ha (by rw [← e]; exact hb))
theorem Hangs.imp {p : Nat → Prop} {w : World} {Φ Ψ : World → Prop} (h : Hangs p w Φ) (hi : ∀ w, Φ w → Ψ w) : Hangs p w Ψ := fun w2 h2 => hi _ (h w2 h2)
/-- Φ hangs on the blocks from B on alone. -/
def New (B : Nat) (w : World) (Φ : World → Prop) : Prop := Hangs (fun b => B ≤ b) w Φ
theorem New.mono {B B' : Nat} {w : World} {Φ : World → Prop} (h : New B w Φ) (hB : B' ≤ B) : New B' w Φ := Hangs.mono h fun _ _ h => Nat.le_trans hB h
theorem New.now {B : Nat} {w : World} {Φ : World → Prop} (h : New B w Φ) : Φ w := Hangs.now h
theorem New.below {B : Nat} {w w' : World} {Φ : World → Prop} (h : New B w Φ) (hb : Below w.heap.size w w') : New B w' Φ := Hangs.below h hb
theorem New.set {B : Nat} {w : World} {Φ : World → Prop} (h : New B w Φ) {a : Addr} (ha : a.block < B) (v : Value) : New B (w.setCell a v) Φ := Hangs.set h (by omega) v
theorem New.row {B : Nat} {w : World} {Φ : World → Prop} (h : New B w Φ) {g : Nat} (ha : g < B) (cs : Array Value) : New B (w.setRow g cs) Φ := Hangs.row h (by omega) cs
theorem New.imp {B : Nat} {w : World} {Φ Ψ : World → Prop} (h : New B w Φ) (hi : ∀ w, Φ w → Ψ w) : New B w Ψ := Hangs.imp h hi
theorem Fresh.hangs {w : World} {B g n cap : Nat} {A : List Int} (h : Fresh w B g n cap A) : Hangs (fun b => b = g) w fun w => Fresh w B g n cap A := fun _ h2 => h.of_block (h2 g rfl h.lt)
theorem Fresh.new {w : World} {B g n cap : Nat} {A : List Int} (h : Fresh w B g n cap A) : New B w fun w => Fresh w B g n cap A := h.hangs.mono fun b _ e => by rw [e]; exact h.base
/-- A copy of a row. -/
theorem clone_arg (ao : Option Addr) (n ca : Nat) (A : List Int) (w : World) (hA : Arg w ao n ca A) (hn : n ≤ 1048576) :
   Calls Tryd.prog 43 #[.slice ao n ca] w fun e w' => ∃ ao' c', e = .returned (.slice ao' n c') ∧ New w.heap.size w' (fun w => Arg w ao' n c' A) ∧ Below w.heap.size w w' := by
  cases ao with
  | none =>
    have hc0 := hA.nil rfl
    subst hc0
    obtain rfl : n = 0 := by have := hA.fit; omega
    obtain rfl : A = [] := List.length_eq_zero_iff.1 hA.row.len
    have hq : ∀ w : World, (binOp .eql 27 (.slice none 0 0) (.slice none 0 0)).run Tryd.prog w = .ok (.bool true) w := fun w => run_eql_nil w _ 55 _ _ _ Tryd.underlying27
    go_enter Tryd.func43, Tryd.ntmps43
    go_wp2
    go_ret
    exact ⟨none, 0, rfl, fun _ _ => ⟨RowAt.nil _ _, by omega, by omega, (fun _ => rfl), fun _ _ e => by cases e⟩, Below.refl _ _⟩
  | some ad =>
    have F0 := fresh_empty w
    have B0 : Below w.heap.size w (w.alloc (.cells #[] 55)) := (Below.refl _ _).alloc (Nat.le_refl _) _
    have R := hA.row.below B0
    have hq : ∀ w : World, (binOp .eql 27 (.slice (some ad) n ca) (.slice none 0 0)).run Tryd.prog w = .ok (.bool false) w := fun w => run_eql_nil w _ 55 _ _ _ Tryd.underlying27
    clear hA
    go_enter Tryd.func43, Tryd.ntmps43
    go_wp2_with (at_builtin; refine wpList_append_row rfl _ _ rfl w.heap.size w.heap.size 0 0 [] rfl F0 (some ad) n ca A rfl R (fun h => by cases h) (by omega) (by simp) ?_; intro g' cap' w' F1 B1)
    rw [Nat.zero_add, List.nil_append] at *
    go_ret
    exact ⟨_, _, rfl, F1.new.imp fun w h => h.arg, B0.trans B1⟩
end Go.Proofs.YtlmdjhdlfdandaaDoor

/- append onto a row of the call's own: the row that was there stays as it was. -/
namespace Go.Proofs.YtlmdjhdlfdandaaDoor
open Go.ChangeShapes Go.WideShapes Go.ChangeAt Go.RowKit
section
variable {P : Program} (w : World)
theorem run_append_own3 (base : Nat) (t ty e : TypeId) (i : TypeInfo) (z : Value) (bytes : Nat) (ht : P.underlying t = some (.slice e)) (hi : P.info? e = some i) (hz : i.zero = some z)
    (hsize : i.size = 1) (hby : i.bytes = bytes) (hzs : z.cells.size = 1)
    (v : Value) (n : Nat) (xs : List Value) (hown : w.ownsRow base e 1 v n xs)
    (a : Addr) (m c : Nat) (news : List Value) (hl : news.length = m) (hnews : ∀ j u, news[j]? = some u → w.cell? (a.add j) = some u) (h1 : ∀ u ∈ news, u.oneCell' = true)
    (h63 : n + m ≤ maxLen) (hbytes : (n + m) * bytes ≤ 140737488355328) (hbase : base ≤ w.heap.size) :
    ∃ v' w', (Builtin.append_ #[t, t] ty #[v, .slice (some a) m c]).run P w = .ok v' w' ∧ w'.ownsRow base e 1 v' (n + m) (xs ++ news) ∧ w.grownBy w' v.ownBlock ∧ w'.ownsRow base e 1 v n xs := by
  obtain ⟨v', w', hr, h2, h3, h4⟩ := run_append_own (P := P) w base t ty e i z 1 bytes ht hi hz hsize hby hzs (by decide) v n xs hown a m c news (by omega) hnews h1 h63 hbytes hbase
  refine ⟨v', w', hr, h2, h3, ?_⟩
  have hl1 : news.length = m * i.size := by rw [hsize]; omega
  subst hby
  have hsmall : n + m ≤ 9223372036854775807 := by simp only [maxLen] at h63; omega
  rcases hown.2 with ⟨rfl, rfl⟩ | ⟨g, cap, cur, rfl, hbg, hg, hnc, hcm, hcs, htake⟩
  · have hx : xs = [] := List.eq_nil_of_length_eq_zero (by simpa using hown.1)
    subst hx
    exact World.ownsRow_nil _ _ _ _
  · have hxl : xs.length = n := by have := hown.1; omega
    by_cases hroom : n + m ≤ cap
    · have hfit : n * i.size + news.length ≤ cur.size := by rw [hl, hcs, hsize]; omega
      have hr2 := run_append_room (P := P) w t ty e i ht hi g n cap cur hg a m c news hl1 hnews h1 hroom hfit
      rw [hr] at hr2
      injection hr2 with e1 e2
      subst e2
      refine ⟨hown.1, .inr ⟨g, cap, _, rfl, hbg, setRow_heap w g cur _ e _ hg, hnc, hcm, ?_, ?_⟩⟩
      · simp only [List.size_toArray, List.length_append, List.length_take, List.length_drop, Array.length_toList, hsize]
        omega
      · rw [hsize]
        rw [htake, List.append_assoc, ← hown.1]
        exact List.take_left
    · have holds : ∀ j u, xs[j]? = some u → w.cell? ((⟨g, 0, none⟩ : Addr).add j) = some u := hown.cells (g := g) rfl
      have hr2 := run_append_grow (P := P) w t ty e i z ht hi hz ⟨g, 0, none⟩ n cap xs (by rw [hsize]; omega) holds a m c news hl1 hnews (by omega) (by omega) (growslice_fits (by omega) hbytes)
      rw [hr] at hr2
      injection hr2 with e1 e2
      subst e2
      have hlt : g < w.heap.size := (Array.getElem?_eq_some_iff.1 hg).1
      exact ⟨hown.1, .inr ⟨g, cap, cur, rfl, hbg, (heap_alloc_old w.drew _ hlt).trans hg, hnc, hcm, hcs, htake⟩⟩
end
/-- append(out, x), out a row of whole numbers of the call's own, as one operation. -/
theorem wp_append_int {w : World} {o : Oper} {a : Act} {K : Act → World → Prop} {Q : Exit → Act → World → Prop} (s x : Operand) (ho : o.op = .call { callee := .builtin .append, args := #[s, x], argTypes := #[25, 25] })
    (B : Nat) (v : Value) (n : Nat) (A : List Int) (hs : a.eval s = v) (hown : IOwn w B v n A) (bo : Nat) (y : Int) (hx : a.eval x = .slice (some ⟨bo, 0, none⟩) 1 1) (hX : w.cell? ⟨bo, 0, none⟩ = some (.int .i64 y)) (hn : n ≤ 4096) (hB : B ≤ w.heap.size)
    (h : ∀ v' w', IOwn w' B v' (n + 1) (A ++ [y]) → IOwn w' B v n A → w.grownBy w' v.ownBlock → Below B w w' → K (a.put o.dst v') w') : o.wp Tryd.prog a w K Q := by
  obtain ⟨i0, hi, hz0, hz1, hz2⟩ := info_parts Tryd.infoInt
  have hnews : ∀ j u, ([y].map (Value.int .i64))[j]? = some u → w.cell? ((Addr.mk bo 0 none).add j) = some u := by
    intro j u hj
    match j, hj with
    | 0, hj =>
      simp at hj
      subst hj
      have e2 : (Addr.mk bo 0 none).add 0 = ⟨bo, 0, none⟩ := by simp [Addr.add]
      rw [e2, hX]
  obtain ⟨v', w', hr, h2, h3, h4⟩ := run_append_own3 (P := Tryd.prog) w B 25 o.type 3 i0 (.int .i64 0) 8 Tryd.underlying25 hi hz0 hz1 hz2 rfl v n _ hown ⟨bo, 0, none⟩ 1 1 ([y].map (Value.int .i64)) rfl hnews (ints_oneCell _ _) (by unfold maxLen; omega) (by omega) hB
  unfold Oper.wp execOp
  simp only [ho, resolve, invoke, builtin, Sem.run_bind, Sem.run_pure, Result.andThen_ok, List.map_toArray, List.map_cons, List.map_nil, hs, hx, hr]
  exact h v' w' (by unfold IOwn; rw [List.map_append]; exact h2) h4 h3 ((Below.refl _ _).grown h3 hB (fun k hk => (hown.lt k hk).1))
/-- An operation that is wanted. -/
theorem wpList_run {w : World} {ops : Array Oper} {rest : List Oper} {o : Oper} {a : Act} {Q : Exit → Act → World → Prop} (hw : Region.wanted o (yielded ops a.tmps) = true) (h : ∀ K, (∀ a w, wpList Tryd.prog ops Q rest a w → K a w) → Oper.wp Tryd.prog o a w K Q) : wpList Tryd.prog ops Q (o :: rest) a w := by
  simp only [wpList, hw, if_true]
  exact Or.inl (h _ fun a w h => h)
end Go.Proofs.YtlmdjhdlfdandaaDoor

/- Package step: copies of rows and of lists of rows. -/
namespace Go.Proofs.YtlmdjhdlfdandaaDoor
open Go.ChangeShapes Go.WideShapes Go.ChangeAt Go.RowKit
/-- Block g is filled up to place k with rows that hang on newer blocks alone. -/
structure FillTo (w : World) (g m k : Nat) (R : List (List Int)) : Prop where
  row : ∃ cs : Array Value, w.heap[g]? = some (.cells cs 27 (0, 0)) ∧ cs.size = m ∧ ∀ t, t < k → ∃ ro n c, cs[t]? = some (.slice ro n c) ∧ New (g + 1) w (fun w => Arg w ro n c (rowOf R t))
theorem FillTo.lt {w : World} {g m k : Nat} {R : List (List Int)} (h : FillTo w g m k R) : g < w.heap.size := by
  obtain ⟨cs, h1, _⟩ := h.row
  exact (Array.getElem?_eq_some_iff.1 h1).1
theorem FillTo.below {w w' : World} {g m k : Nat} {R : List (List Int)} (h : FillTo w g m k R) (hb : Below w.heap.size w w') : FillTo w' g m k R := by
  have hl := h.lt
  obtain ⟨cs, h1, h2, h3⟩ := h.row
  exact ⟨cs, (hb.block g hl).trans h1, h2, fun t ht => let ⟨ro, n, c, e, N⟩ := h3 t ht; ⟨ro, n, c, e, N.below hb⟩⟩
theorem FillTo.frozen {w : World} {g m k : Nat} {R : List (List Int)} (h : FillTo w g m k R) (t : Nat) : w.frozen? ⟨g, t, none⟩ = false := by
  obtain ⟨cs, h1, _⟩ := h.row
  unfold World.frozen?; simp only [h1]; rfl
theorem FillTo.cell {w : World} {g m k : Nat} {R : List (List Int)} (h : FillTo w g m k R) {t : Nat} (ht : t < m) : ∃ v, w.cell? ⟨g, t, none⟩ = some v := by
  obtain ⟨cs, h1, h2, _⟩ := h.row
  refine ⟨cs[t]'(by omega), ?_⟩
  unfold World.cell?; simp only [h1]
  exact Array.getElem?_eq_getElem (by omega)
theorem FillTo.step {w : World} {g m k : Nat} {R : List (List Int)} (h : FillTo w g m k R) (hk : k < m) {ro : Option Addr} {n c : Nat} (hA : New (g + 1) w fun w => Arg w ro n c (rowOf R k)) : FillTo (w.setCell ⟨g, k, none⟩ (.slice ro n c)) g m (k + 1) R := by
  obtain ⟨cs, h1, h2, h3⟩ := h.row
  refine ⟨cs.setIfInBounds k (.slice ro n c), by simp [World.setCell, Array.getElem?_modify, h1], by simpa using h2, fun t ht => ?_⟩
  rw [Array.getElem?_setIfInBounds]
  by_cases e : k = t
  · subst e
    rw [if_pos rfl, if_pos (by omega)]
    exact ⟨ro, n, c, rfl, hA.set (by show g < g + 1; omega) _⟩
  · rw [if_neg e]
    obtain ⟨ro', n', c', e2, N⟩ := h3 t (by omega)
    exact ⟨ro', n', c', e2, N.set (by show g < g + 1; omega) _⟩
theorem fillTo_made (w : World) (m : Nat) (R : List (List Int)) : FillTo (w.alloc (.cells (madeCells #[.slice none 0 0] m) 27)) w.heap.size m 0 R :=
  ⟨_, heap_alloc_new _ _, by simp [madeCells], fun t ht => by omega⟩
/-- In w the slice of n rows that begins at ro has the values vs, and they read as R. -/
structure GridV (w : World) (ro : Option Addr) (n : Nat) (vs : List Value) (R : List (List Int)) : Prop where
  rows : RowsAt w vs R
  len : vs.length = n
  max : n ≤ 9223372036854775807
  cells : 0 < n → ∃ b o, ro = some ⟨b, o, none⟩ ∧ ∀ j u, vs[j]? = some u → w.cell? ⟨b, o + j, none⟩ = some u
theorem GridV.grid {w : World} {ro : Option Addr} {n : Nat} {vs : List Value} {R : List (List Int)} (h : GridV w ro n vs R) : GridAt w ro n R := by
  have hl : R.length = n := by rw [← h.len, h.rows.len]
  refine ⟨hl, h.max, fun hn => ?_⟩
  obtain ⟨b, o, e, hc⟩ := h.cells hn
  refine ⟨b, o, e, fun t ht => ?_⟩
  obtain ⟨r, m, c, e2, A⟩ := h.rows.rows t (by omega)
  exact ⟨r, m, c, hc t _ e2, A⟩
theorem gridV_nil (w : World) (ro : Option Addr) : GridV w ro 0 [] [] := ⟨⟨rfl, fun t ht => by simp at ht⟩, rfl, by omega, fun h => by omega⟩
/-- A whole list of rows hangs on its own blocks alone. -/
theorem FillTo.grid {w : World} {g m : Nat} {R : List (List Int)} (h : FillTo w g m m R) (hl : R.length = m) (hm : m ≤ 9223372036854775807) {B : Nat} (hB : B ≤ g) : ∃ vs, New B w fun w => GridV w (some ⟨g, 0, none⟩) m vs R := by
  have hlt := h.lt
  obtain ⟨cs, h1, hsz, h3⟩ := h.row
  refine ⟨cs.toList, fun w2 h2 => ?_⟩
  have hg := (h2 g hB hlt).trans h1
  refine ⟨⟨by simp [hsz, hl], fun t ht => ?_⟩, by simp [hsz], hm, fun _ => ⟨g, 0, rfl, fun j u hj => ?_⟩⟩
  · obtain ⟨ro, n, c, e, N⟩ := h3 t (by omega)
    exact ⟨ro, n, c, by simpa using e, N w2 fun b hb hb2 => h2 b (Nat.le_trans (by omega) hb) hb2⟩
  · rw [Nat.zero_add]
    unfold World.cell?
    simp only [hg]
    simpa using hj
/-- In w the slice of lists that begins at ao reads as C. -/
structure CubeAt (w : World) (ao : Option Addr) (m : Nat) (C : List (List (List Int))) : Prop where
  len : C.length = m
  max : m ≤ 9223372036854775807
  cells : 0 < m → ∃ b o, ao = some ⟨b, o, none⟩ ∧ ∀ (t : Nat) (R : List (List Int)), C[t]? = some R → ∃ ro n c, w.cell? ⟨b, o + t, none⟩ = some (.slice ro n c) ∧ (ro = none → c = 0) ∧ n ≤ c ∧ c ≤ 9223372036854775807 ∧ GridAt w ro n R
theorem CubeAt.below {w w' : World} {ao : Option Addr} {m : Nat} {C : List (List (List Int))} (h : CubeAt w ao m C) (hb : Below w.heap.size w w') : CubeAt w' ao m C := by
  refine ⟨h.len, h.max, fun hn => ?_⟩
  obtain ⟨b, o, e, hc⟩ := h.cells hn
  refine ⟨b, o, e, fun t R hR => ?_⟩
  obtain ⟨ro, n, c, h1, h2, h3, h4, h5⟩ := hc t R hR
  have hlt : b < w.heap.size := by simpa using World.block_lt_of_cell? w _ h1
  exact ⟨ro, n, c, by rw [hb.cell (by exact hlt)]; exact h1, h2, h3, h4, h5.below hb⟩
/-- The block g of lists, filled up to place k with full lists that hang on newer blocks alone. -/
structure Lists (w : World) (g m k : Nat) (C : List (List (List Int))) : Prop where
  row : ∃ cs : Array Value, w.heap[g]? = some (.cells cs 49 (0, 0)) ∧ cs.size = m ∧ ∀ (t : Nat) (R : List (List Int)), t < k → C[t]? = some R → ∃ ro n vs, cs[t]? = some (.slice ro n n) ∧ (ro = none → n = 0) ∧ New (g + 1) w (fun w => GridV w ro n vs R)
theorem Lists.lt {w : World} {g m k : Nat} {C : List (List (List Int))} (h : Lists w g m k C) : g < w.heap.size := by
  obtain ⟨cs, h1, _⟩ := h.row
  exact (Array.getElem?_eq_some_iff.1 h1).1
theorem Lists.below {w w' : World} {g m k : Nat} {C : List (List (List Int))} (h : Lists w g m k C) (hb : Below w.heap.size w w') : Lists w' g m k C := by
  have hl := h.lt
  obtain ⟨cs, h1, h2, h3⟩ := h.row
  exact ⟨cs, (hb.block g hl).trans h1, h2, fun t R ht hR => let ⟨ro, n, vs, e, h4, N⟩ := h3 t R ht hR; ⟨ro, n, vs, e, h4, N.below hb⟩⟩
theorem Lists.frozen {w : World} {g m k : Nat} {C : List (List (List Int))} (h : Lists w g m k C) (t : Nat) : w.frozen? ⟨g, t, none⟩ = false := by
  obtain ⟨cs, h1, _⟩ := h.row
  unfold World.frozen?; simp only [h1]; rfl
theorem Lists.cell {w : World} {g m k : Nat} {C : List (List (List Int))} (h : Lists w g m k C) {t : Nat} (ht : t < m) : ∃ v, w.cell? ⟨g, t, none⟩ = some v := by
  obtain ⟨cs, h1, h2, _⟩ := h.row
  refine ⟨cs[t]'(by omega), ?_⟩
  unfold World.cell?; simp only [h1]
  exact Array.getElem?_eq_getElem (by omega)
theorem Lists.step {w : World} {g m k : Nat} {C : List (List (List Int))} (h : Lists w g m k C) (hk : k < m) {ro : Option Addr} {n : Nat} {vs : List Value} {R : List (List Int)} (hR : C[k]? = some R) (hn : ro = none → n = 0) (hA : New (g + 1) w fun w => GridV w ro n vs R) : Lists (w.setCell ⟨g, k, none⟩ (.slice ro n n)) g m (k + 1) C := by
  obtain ⟨cs, h1, h2, h3⟩ := h.row
  refine ⟨cs.setIfInBounds k (.slice ro n n), by simp [World.setCell, Array.getElem?_modify, h1], by simpa using h2, fun t R' ht hR' => ?_⟩
  rw [Array.getElem?_setIfInBounds]
  by_cases e : k = t
  · subst e
    rw [hR] at hR'
    simp only [Option.some.injEq] at hR'
    subst hR'
    rw [if_pos rfl, if_pos (by omega)]
    exact ⟨ro, n, vs, rfl, hn, hA.set (by show g < g + 1; omega) _⟩
  · rw [if_neg e]
    obtain ⟨ro', n', vs', e2, h4, N⟩ := h3 t R' (by omega) hR'
    exact ⟨ro', n', vs', e2, h4, N.set (by show g < g + 1; omega) _⟩
theorem lists_made (w : World) (m : Nat) (C : List (List (List Int))) : Lists (w.alloc (.cells (madeCells #[.slice none 0 0] m) 49)) w.heap.size m 0 C :=
  ⟨_, heap_alloc_new _ _, by simp [madeCells], fun t R ht => by omega⟩
theorem Tryd.infoList : (Tryd.prog.info? 49).map (fun i => (i.zero, i.size, i.bytes)) = some (some (.slice none 0 0), 1, 24) := by kernel_rfl
end Go.Proofs.YtlmdjhdlfdandaaDoor

/- Package step: which tokens and lists fit; a view's copy. -/
namespace Go.Proofs.YtlmdjhdlfdandaaDoor
open Go.ChangeShapes Go.WideShapes Go.ChangeAt Go.RowKit
/-- Is it a token? -/
def tokB (V x : Int) : Bool := decide (0 ≤ x ∧ x < V)
/-- The error's number of a row of tokens that are asked for. -/
def promptN (V : Int) (A : List Int) : Int := if A.length = 0 then 8 else if 128 < A.length then 2 else if A.all (tokB V) = true then 0 else 7
theorem all_take_el {A : List Int} {k : Nat} {p : Int → Bool} (hk : k < A.length) : (A.take (k + 1)).all p = ((A.take k).all p && p (el A k)) := by
  have e : A[k]? = some (el A k) := by unfold el; simp [List.getD_eq_getElem?_getD, List.getElem?_eq_getElem hk]
  rw [List.take_add_one, e, List.all_append]; simp
theorem all_el {A : List Int} {p : Int → Bool} {k : Nat} (hk : k < A.length) (h : A.all p = true) : p (el A k) = true := by
  have := List.all_eq_true.1 h (el A k) (el_mem hk)
  exact this
theorem all_not {A : List Int} {p : Int → Bool} {k : Nat} (hk : k < A.length) (h : p (el A k) = false) : A.all p = false := by
  cases e : A.all p with
  | false => rfl
  | true => rw [all_el hk e] at h; cases h
theorem prompt_any (V D Hd H L : Int) (ao : Option Addr) (n ca : Nat) (A : List Int) (w : World) (hA : IArg w ao n ca A) :
   Calls Tryd.prog 9 #[.agg (cfgC V D Hd H L), .slice ao n ca] w fun e w' => e = .returned (.int .i64 (promptN V A)) ∧ Below w.heap.size w w' := by
  have hl := hA.row.len
  have hm := hA.row.max
  have X0 := blk_new w 23 (cfgC V D Hd H L)
  have B0 : Below w.heap.size w (w.alloc (.cells (cfgC V D Hd H L) 23)) := (Below.refl _ _).alloc (Nat.le_refl _) _
  unfold cfgC at *
  generalize hw0 : w.alloc (.cells #[.int .i64 V, .int .i64 D, .int .i64 Hd, .int .i64 H, .int .i64 L] 23) = w0 at *
  have a0 : w0.cell? ⟨w.heap.size, 0, none⟩ = some (.int .i64 V) := X0.cell 0 rfl
  have R := hA.row.below B0
  clear hA
  have HN : Hid (promptN V A = if A.length = 0 then 8 else if 128 < A.length then 2 else if A.all (tokB V) = true then 0 else 7) := rfl
  generalize promptN V A = res at *
  by_cases h0 : n = 0
  · subst h0
    have HF : Hid (res = 8) := by show _ = _; rw [HN.out, hl]; rfl
    clear HN
    go_enter Tryd.func9, Tryd.ntmps9
    go_wp2
    go_ret
    exact ⟨ret_int HF.out.symm, B0⟩
  · by_cases h1 : 128 < n
    · have HF : Hid (res = 2) := by show _ = _; rw [HN.out, hl, if_neg h0, if_pos h1]
      clear HN
      go_enter Tryd.func9, Tryd.ntmps9
      go_wp2
      go_ret
      exact ⟨ret_int HF.out.symm, B0⟩
    · have HF : Hid (res = if A.all (tokB V) = true then 0 else 7) := by show _ = _; rw [HN.out, hl, if_neg h0, if_neg h1]
      clear HN
      obtain ⟨b, o, rfl, hc⟩ := R.cells (by omega)
      have hz0 : ((n : Int) == 0) = false := by simpa using h0
      go_enter Tryd.func9, Tryd.ntmps9
      go_wp2_with fail
      go_loopg [15] n (fun r i wr => ∃ k : Nat, k ≤ n ∧ r = n - k ∧ i = .int .i64 k ∧ (A.take k).all (tokB V) = true ∧ wr = w0)
      case atStart => exact ⟨0, by omega, by omega, rfl, rfl, rfl⟩
      case round =>
        obtain ⟨k, hk, rfl, rfl, hall, rfl⟩ := hrel
        by_cases hlt : k < n
        · have ck := hc k hlt
          have sx := R.small k
          have HS : Hid ((A.take (k + 1)).all (tokB V) = ((A.take k).all (tokB V) && tokB V (el A k))) := all_take_el (by omega)
          have HB : Hid (tokB V (el A k) = false → A.all (tokB V) = false) := fun h => all_not (by omega) h
          have HT : Hid (tokB V (el A k) = decide (0 ≤ el A k ∧ el A k < V)) := rfl
          clear hc
          generalize el A k = x at *
          by_cases h2 : x < 0
          · have HR : Hid (res = 7) := by show _ = _; rw [HF.out, HB.out (by rw [HT.out]; exact decide_eq_false (by omega))]; rfl
            clear HF HS HB HT
            go_wp2
            go_ret
            exact ⟨ret_int HR.out.symm, B0⟩
          · by_cases h3 : V ≤ x
            · have HR : Hid (res = 7) := by show _ = _; rw [HF.out, HB.out (by rw [HT.out]; exact decide_eq_false (by omega))]; rfl
              clear HF HS HB HT
              go_wp2
              go_ret
              exact ⟨ret_int HR.out.symm, B0⟩
            · have HA : Hid ((A.take (k + 1)).all (tokB V) = true) := by show _ = _; rw [HS.out, hall, HT.out, decide_eq_true (by omega)]; rfl
              clear HS HB HT
              go_wp2
              go_roundg (n - (k + 1))
              case measure => omega
              case rel => exact ⟨k + 1, by omega, rfl, by go_num, HA.out, rfl⟩
        · obtain rfl : k = n := by omega
          rw [← hl, List.take_length] at hall
          have HR : Hid (res = 0) := by show _ = _; rw [HF.out, hall]; rfl
          clear HF
          go_wp2
          go_ret
          exact ⟨ret_int HR.out.symm, B0⟩
/-- A view: its tokens, and the lists of its keys and values. -/
structure Vw where
  T : List Int
  K : List (List (List Int))
  V : List (List (List Int))
/-- A view's values. -/
structure VwV where
  t : Sl
  k : Sl
  v : Sl
def VwV.cells (v : VwV) : Array Value := #[v.t.v, v.k.v, v.v.v]
structure VwAt (w : World) (v : VwV) (X : Vw) : Prop where
  t : IArg w v.t.ao v.t.n v.t.c X.T
  k : CubeAt w v.k.ao v.k.n X.K
  v : CubeAt w v.v.ao v.v.n X.V
theorem VwAt.below {w w' : World} {v : VwV} {X : Vw} (h : VwAt w v X) (hb : Below w.heap.size w w') : VwAt w' v X := ⟨h.t.below hb, h.k.below hb, h.v.below hb⟩
/-- A view that fits: of nothing, or of tokens with as many rows in each list. -/
structure VwFit (V : Int) (D L : Nat) (X : Vw) : Prop where
  most : X.T.length ≤ 128
  toks : X.T.all (tokB V) = true
  k : X.K.length = if X.T.length = 0 then 0 else L
  v : X.V.length = if X.T.length = 0 then 0 else L
  ks : ∀ R ∈ X.K, R.length = X.T.length ∧ ∀ t, t < X.T.length → (rowOf R t).length = D
  vs : ∀ R ∈ X.V, R.length = X.T.length ∧ ∀ t, t < X.T.length → (rowOf R t).length = D
theorem Tryd.infoC : (Tryd.prog.info? 23).map (·.size) = some 5 := by kernel_rfl
/-- A row of the call's own, told anew. -/
theorem owns_mono {w w' : World} {B B' n : Nat} {e : TypeId} {v : Value} {xs : List Value} (h : w.ownsRow B e 1 v n xs) (hB : B' ≤ B) (hb : ∀ b, v.ownBlock = some b → w'.heap[b]? = w.heap[b]?) : w'.ownsRow B' e 1 v n xs := by
  refine ⟨h.1, ?_⟩
  rcases h.2 with h3 | ⟨g, cap, cur, hv, hg, hh, h4⟩
  · exact .inl h3
  · subst hv
    exact .inr ⟨g, cap, cur, rfl, by omega, (hb g rfl).trans hh, h4⟩
/-- The block g of m lists: those ahead of place i read as A's, the others, which are full, as C's; they hang on the blocks that p tells. -/
structure KV (w : World) (g m i : Nat) (p : Nat → Prop) (A C : List (List (List Int))) : Prop where
  row : ∃ cs : Array Value, w.heap[g]? = some (.cells cs 49 (0, 0)) ∧ cs.size = m ∧
    (∀ t, t < i → ∃ ro n c vs, cs[t]? = some (.slice ro n c) ∧ (ro = none → c = 0) ∧ n ≤ c ∧ c ≤ 9223372036854775807 ∧ Hangs p w (fun w => GridV w ro n vs (A.getD t []))) ∧
    (∀ t, i ≤ t → t < m → ∃ ro n vs, cs[t]? = some (.slice ro n n) ∧ (ro = none → n = 0) ∧ Hangs p w (fun w => GridV w ro n vs (C.getD t [])))
theorem KV.lt {w : World} {g m i : Nat} {p : Nat → Prop} {A C : List (List (List Int))} (h : KV w g m i p A C) : g < w.heap.size := by
  obtain ⟨cs, h1, _⟩ := h.row
  exact (Array.getElem?_eq_some_iff.1 h1).1
theorem KV.below {w w' : World} {g m i : Nat} {p : Nat → Prop} {A C : List (List (List Int))} (h : KV w g m i p A C) (hb : Below w.heap.size w w') : KV w' g m i p A C := by
  have hl := h.lt
  obtain ⟨cs, h1, h2, h3, h4⟩ := h.row
  exact ⟨cs, (hb.block g hl).trans h1, h2, fun t ht => let ⟨ro, n, c, vs, e, q1, q2, q3, N⟩ := h3 t ht; ⟨ro, n, c, vs, e, q1, q2, q3, N.below hb⟩, fun t ht h5 => let ⟨ro, n, vs, e, q1, N⟩ := h4 t ht h5; ⟨ro, n, vs, e, q1, N.below hb⟩⟩
theorem KV.mono {w : World} {g m i : Nat} {p q : Nat → Prop} {A C : List (List (List Int))} (h : KV w g m i p A C) (hq : ∀ b, b < w.heap.size → p b → q b) : KV w g m i q A C := by
  obtain ⟨cs, h1, h2, h3, h4⟩ := h.row
  exact ⟨cs, h1, h2, fun t ht => let ⟨ro, n, c, vs, e, q1, q2, q3, N⟩ := h3 t ht; ⟨ro, n, c, vs, e, q1, q2, q3, N.mono hq⟩, fun t ht h5 => let ⟨ro, n, vs, e, q1, N⟩ := h4 t ht h5; ⟨ro, n, vs, e, q1, N.mono hq⟩⟩
theorem KV.other {w w' : World} {g m i : Nat} {p : Nat → Prop} {A C : List (List (List Int))} (h : KV w g m i p A C) (hs : w'.heap.size = w.heap.size) (hg : w'.heap[g]? = w.heap[g]?) (ho : ∀ b, p b → w'.heap[b]? = w.heap[b]?) : KV w' g m i p A C := by
  obtain ⟨cs, h1, h2, h3, h4⟩ := h.row
  exact ⟨cs, hg.trans h1, h2, fun t ht => let ⟨ro, n, c, vs, e, q1, q2, q3, N⟩ := h3 t ht; ⟨ro, n, c, vs, e, q1, q2, q3, N.other hs ho⟩, fun t ht h5 => let ⟨ro, n, vs, e, q1, N⟩ := h4 t ht h5; ⟨ro, n, vs, e, q1, N.other hs ho⟩⟩
theorem KV.put {w : World} {g m i : Nat} {p : Nat → Prop} {A C : List (List (List Int))} (h : KV w g m i p A C) {g2 : Nat} (hg : g2 ≠ g) (hp : ¬ p g2) (cs : Array Value) : KV (w.setRow g2 cs) g m i p A C :=
  h.other (by simp [World.setRow]) (setRow_other _ _ _ _ (Ne.symm hg)) fun b hb => setRow_other _ _ _ _ (fun e => hp (by rw [← e]; exact hb))
theorem KV.far {w : World} {g m i : Nat} {p : Nat → Prop} {A C : List (List (List Int))} (h : KV w g m i p A C) {a : Addr} (hg : a.block ≠ g) (hp : ¬ p a.block) (v : Value) : KV (w.setCell a v) g m i p A C :=
  h.other (by simp [World.setCell]) (Below.heap_setCell _ _ _ _ (Ne.symm hg)) fun b hb => Below.heap_setCell _ _ _ _ (fun e => hp (by rw [← e]; exact hb))
theorem KV.frozen {w : World} {g m i : Nat} {p : Nat → Prop} {A C : List (List (List Int))} (h : KV w g m i p A C) (t : Nat) : w.frozen? ⟨g, t, none⟩ = false := by
  obtain ⟨cs, h1, _⟩ := h.row
  unfold World.frozen?; simp only [h1]; rfl
/-- The list at place i. -/
theorem KV.at {w : World} {g m i : Nat} {p : Nat → Prop} {A C : List (List (List Int))} (h : KV w g m i p A C) (hi : i < m) : ∃ ro n vs, w.cell? ⟨g, i, none⟩ = some (.slice ro n n) ∧ (ro = none → n = 0) ∧ Hangs p w (fun w => GridV w ro n vs (C.getD i [])) := by
  obtain ⟨cs, h1, h2, h3, h4⟩ := h.row
  obtain ⟨ro, n, vs, e, q1, N⟩ := h4 i (Nat.le_refl _) hi
  refine ⟨ro, n, vs, ?_, q1, N⟩
  unfold World.cell?; simp only [h1]; exact e
/-- The list at place i is told anew. -/
theorem KV.step {w : World} {g m i : Nat} {p : Nat → Prop} {A C : List (List (List Int))} (h : KV w g m i p A C) (hi : i < m) (hp : ¬ p g) {ro : Option Addr} {n c : Nat} {vs : List Value} (q1 : ro = none → c = 0) (q2 : n ≤ c) (q3 : c ≤ 9223372036854775807) (N : Hangs p w fun w => GridV w ro n vs (A.getD i [])) : KV (w.setCell ⟨g, i, none⟩ (.slice ro n c)) g m (i + 1) p A C := by
  obtain ⟨cs, h1, h2, h3, h4⟩ := h.row
  refine ⟨cs.setIfInBounds i (.slice ro n c), by simp [World.setCell, Array.getElem?_modify, h1], by simpa using h2, fun t ht => ?_, fun t ht h5 => ?_⟩
  · rw [Array.getElem?_setIfInBounds]
    by_cases e : i = t
    · subst e
      rw [if_pos rfl, if_pos (by omega)]
      exact ⟨ro, n, c, vs, rfl, q1, q2, q3, N.set hp _⟩
    · rw [if_neg e]
      obtain ⟨ro', n', c', vs', e2, x1, x2, x3, N'⟩ := h3 t (by omega)
      exact ⟨ro', n', c', vs', e2, x1, x2, x3, N'.set hp _⟩
  · rw [Array.getElem?_setIfInBounds, if_neg (by omega)]
    obtain ⟨ro', n', vs', e2, x1, N'⟩ := h4 t (by omega) h5
    exact ⟨ro', n', vs', e2, x1, N'.set hp _⟩
theorem Lists.kv {w : World} {g m : Nat} {C : List (List (List Int))} (h : Lists w g m m C) (hl : C.length = m) (A : List (List (List Int))) : KV w g m 0 (fun b => g < b ∧ b < w.heap.size) A C := by
  obtain ⟨cs, h1, h2, h3⟩ := h.row
  refine ⟨cs, h1, h2, fun t ht => by omega, fun t _ ht => ?_⟩
  have e : C[t]? = some (C.getD t []) := by rw [List.getD_eq_getElem?_getD, List.getElem?_eq_getElem (by omega)]; rfl
  obtain ⟨ro, n, vs, e2, q1, N⟩ := h3 t _ ht e
  exact ⟨ro, n, vs, e2, q1, Hangs.mono N fun b hb h => ⟨h, hb⟩⟩
end Go.Proofs.YtlmdjhdlfdandaaDoor

/- A region that draws its order: what a store waits for may be taken first, though the store turns what was read. -/
namespace Go.Proofs.YtlmdjhdlfdandaaDoor
section
variable {P : Program} {ops : Array Oper} {Q : Exit → Act → World → Prop} {S : World → Prop} {z : Nat}
/-- Whatever comes up next; S holds as long as operation z hasn't come up. -/
def wpLate (P : Program) (ops : Array Oper) (Q : Exit → Act → World → Prop) (S : World → Prop) (z : Nat) : Nat → Array Bool → Act → World → Prop
  | 0, listed, a, w => Region.ready .any ops listed = [] ∧ Q .normal a w
  | fuel + 1, listed, a, w =>
    (Region.ready .any ops listed = [] → Q .normal a w) ∧
    ∀ i ∈ Region.ready .any ops listed, wpOp P ops Q i (fun a' w' => (i ≠ z → listed.getD z true = false → S w') ∧ wpLate P ops Q S z fuel (listed.setIfInBounds i true) a' w') a w
theorem wpAny_of_late : ∀ (fuel : Nat) (listed : Array Bool) (a : Act) (w : World), wpLate P ops Q S z fuel listed a w → wpAny P .any ops Q fuel listed a w
  | 0, _, _, _, h => h
  | fuel + 1, _, _, _, h => ⟨h.1, fun i hi => wpOp_mono (fun a' w' h' => wpAny_of_late fuel _ a' w' h'.2) (h.2 i hi)⟩
theorem wpLate_first {i : Nat} {oi oz : Oper} {v : Value} (hi : ops[i]? = some oi) (hz : ops[z]? = some oz) (hzi : ∃ e ∈ oz.after, Region.binds .any e = true ∧ e.on = i)
    (hsel : ∀ (j : Nat) (o : Oper) cs b, ops[j]? = some o → o.op ≠ .select cs b) (hQ : ∀ c a w, Q (.panic c) (a.put oi.dst v) w → Q (.panic c) a w) :
    ∀ (fuel : Nat) (listed : Array Bool) (a : Act) (w : World),
      (∀ j oj, ops[j]? = some oj → j ≠ i → listed.getD j true = false → (∀ e ∈ oj.after, Region.binds .any e = true → e.on ≠ i) → oi.apart ops oj = true) →
      i ∈ Region.ready .any ops listed → listed.getD z true = false → YieldsIf P ops S oi v a → S w →
      wpLate P ops Q S z fuel (listed.setIfInBounds i true) (a.put oi.dst v) w → wpLate P ops Q S z (fuel + 1) listed a w := by
  intro fuel
  induction fuel with
  | zero =>
    intro listed a w _ hr _ hy hS H
    refine ⟨fun h => (by rw [h] at hr; cases hr), fun j hj => ?_⟩
    by_cases hji : j = i
    · subst hji
      exact hy.wpOp hi hS ⟨fun _ _ => hS, H⟩
    · have hc := ready_mono hj hji
      rw [H.1] at hc
      cases hc
  | succ fuel ih =>
    intro listed a w hfree hr hu hy hS H
    refine ⟨fun h => (by rw [h] at hr; cases hr), fun j hj => ?_⟩
    by_cases hji : j = i
    · subst hji
      exact hy.wpOp hi hS ⟨fun _ _ => hS, H⟩
    · obtain ⟨hjun, oj, hoj, hall⟩ := mem_ready.1 hj
      have hnot : ∀ e ∈ oj.after, Region.binds .any e = true → e.on ≠ i := fun e he hb heq => by
        have h1 := hall e he hb
        have h0 := (mem_ready.1 hr).1
        rw [heq] at h1
        rcases Nat.lt_or_ge i listed.size with h' | h'
        · simp [h'] at h0 h1; rw [h0] at h1; cases h1
        · simp [Array.getElem?_eq_none h'] at h1
      have hjz : j ≠ z := by
        rintro rfl
        rw [hz] at hoj
        simp only [Option.some.injEq] at hoj
        subst hoj
        obtain ⟨e, h1, h2, h3⟩ := hzi
        exact hnot e h1 h2 h3
      have hiz : i ≠ z := by
        rintro rfl
        rw [hi] at hz
        simp only [Option.some.injEq] at hz
        subst hz
        obtain ⟨e, h1, h2, h3⟩ := hzi
        obtain ⟨hun, o', ho', hall'⟩ := mem_ready.1 hr
        rw [hi] at ho'
        simp only [Option.some.injEq] at ho'
        subst ho'
        have h4 := hall' e h1 h2
        rw [h3] at h4
        rcases Nat.lt_or_ge i listed.size with h' | h'
        · simp [h'] at hun h4; rw [hun] at h4; cases h4
        · simp [Array.getElem?_eq_none h'] at h4
      have h2 := wpOp_putIf hoj (hfree j oj hoj hji hjun hnot) (fun cs b => hsel i oi cs b hi) (fun cs b => hsel j oj cs b hoj) hQ hy (H.2 j (ready_mono hj hji))
      have hfree' : ∀ k ok, ops[k]? = some ok → k ≠ i → (listed.setIfInBounds j true).getD k true = false →
          (∀ e ∈ ok.after, Region.binds .any e = true → e.on ≠ i) → oi.apart ops ok = true := fun k ok hk hki hun hno => by
        refine hfree k ok hk hki ?_ hno
        by_cases hjk : j = k
        · subst hjk; exact hjun
        · rw [getD_set_ne true hjk] at hun; exact hun
      refine wpOp_mono (fun a' w' h3 => ?_) h2
      have hS' : S w' := h3.2.1 hjz (by rw [getD_set_ne true hiz]; exact hu)
      refine ⟨fun _ _ => hS', ih (listed.setIfInBounds j true) a' w' hfree' (ready_mono hr (Ne.symm hji)) (by rw [getD_set_ne true hjz]; exact hu) h3.1 hS' ?_⟩
      rw [Array.setIfInBounds_comm _ _ hji]
      exact h3.2.2
/-- The same of an operation that yields its value in whatever world: z needn't wait for it. -/
theorem wpLate_plain {i : Nat} {oi : Oper} {v : Value} (hi : ops[i]? = some oi) (hiz : i ≠ z)
    (hsel : ∀ (j : Nat) (o : Oper) cs b, ops[j]? = some o → o.op ≠ .select cs b) (hQ : ∀ c a w, Q (.panic c) (a.put oi.dst v) w → Q (.panic c) a w) :
    ∀ (fuel : Nat) (listed : Array Bool) (a : Act) (w : World),
      (∀ j oj, ops[j]? = some oj → j ≠ i → listed.getD j true = false → (∀ e ∈ oj.after, Region.binds .any e = true → e.on ≠ i) → oi.apart ops oj = true) →
      i ∈ Region.ready .any ops listed → (listed.getD z true = false → S w) → YieldsIf P ops (fun _ => True) oi v a →
      wpLate P ops Q S z fuel (listed.setIfInBounds i true) (a.put oi.dst v) w → wpLate P ops Q S z (fuel + 1) listed a w := by
  intro fuel
  induction fuel with
  | zero =>
    intro listed a w _ hr hS hy H
    refine ⟨fun h => (by rw [h] at hr; cases hr), fun j hj => ?_⟩
    by_cases hji : j = i
    · subst hji
      exact hy.wpOp hi trivial ⟨fun _ => hS, H⟩
    · have hc := ready_mono hj hji
      rw [H.1] at hc
      cases hc
  | succ fuel ih =>
    intro listed a w hfree hr hS hy H
    refine ⟨fun h => (by rw [h] at hr; cases hr), fun j hj => ?_⟩
    by_cases hji : j = i
    · subst hji
      exact hy.wpOp hi trivial ⟨fun _ => hS, H⟩
    · obtain ⟨hjun, oj, hoj, hall⟩ := mem_ready.1 hj
      have hnot : ∀ e ∈ oj.after, Region.binds .any e = true → e.on ≠ i := fun e he hb heq => by
        have h1 := hall e he hb
        have h0 := (mem_ready.1 hr).1
        rw [heq] at h1
        rcases Nat.lt_or_ge i listed.size with h' | h'
        · simp [h'] at h0 h1; rw [h0] at h1; cases h1
        · simp [Array.getElem?_eq_none h'] at h1
      have h2 := wpOp_putIf hoj (hfree j oj hoj hji hjun hnot) (fun cs b => hsel i oi cs b hi) (fun cs b => hsel j oj cs b hoj) hQ hy (H.2 j (ready_mono hj hji))
      have hfree' : ∀ k ok, ops[k]? = some ok → k ≠ i → (listed.setIfInBounds j true).getD k true = false →
          (∀ e ∈ ok.after, Region.binds .any e = true → e.on ≠ i) → oi.apart ops ok = true := fun k ok hk hki hun hno => by
        refine hfree k ok hk hki ?_ hno
        by_cases hjk : j = k
        · subst hjk; exact hjun
        · rw [getD_set_ne true hjk] at hun; exact hun
      refine wpOp_mono (fun a' w' h3 => ?_) h2
      have hS' : j ≠ z → listed.getD z true = false → S w' := fun hjz hu => h3.2.1 hjz (by rw [getD_set_ne true hiz]; exact hu)
      refine ⟨hS', ih (listed.setIfInBounds j true) a' w' hfree' (ready_mono hr (Ne.symm hji)) (fun hu => ?_) h3.1 ?_⟩
      · by_cases hjz : j = z
        · subst hjz
          have hlt : j < listed.size := by
            rcases Nat.lt_or_ge j listed.size with h' | h'
            · exact h'
            · simp [h'] at hjun
          simp [hlt] at hu
        · exact hS' hjz (by rw [getD_set_ne true hjz] at hu; exact hu)
      · rw [Array.setIfInBounds_comm _ _ hji]
        exact h3.2.2
/-- Does operation z wait for i? -/
def waitsOn (ops : Array Oper) (z i : Nat) : Bool := ((ops[z]?).map fun o => o.after.any fun e => Region.binds .any e && (e.on == i)).getD false
theorem waitsOn_spec {i : Nat} (h : waitsOn ops z i = true) : ∃ oz, ops[z]? = some oz ∧ ∃ e ∈ oz.after, Region.binds .any e = true ∧ e.on = i := by
  unfold waitsOn at h
  cases e : ops[z]? with
  | none => rw [e] at h; simp at h
  | some oz =>
    rw [e] at h
    simp only [Option.map_some, Option.getD_some, Array.any_eq_true, Bool.and_eq_true, beq_iff_eq] at h
    obtain ⟨k, hk, h1, h2⟩ := h
    exact ⟨oz, rfl, _, Array.getElem_mem hk, h1, h2⟩
/-- Take number i first. -/
theorem wpLate_take {i : Nat} {oi : Oper} {v : Value} {fuel : Nat} {listed : Array Bool} {a : Act} {w : World} (hi : ops[i]? = some oi) (hz : waitsOn ops z i = true) (hu : listed.getD z true = false)
    (hs : Region.noSelect ops = true) (hf : Region.free .any ops listed i = true) (hr : (Region.ready .any ops listed).contains i = true)
    (hQ : ∀ c a w, Q (.panic c) (a.put oi.dst v) w → Q (.panic c) a w) (hy : YieldsIf P ops S oi v a) (hS : S w)
    (h : wpLate P ops Q S z fuel (listed.setIfInBounds i true) (a.put oi.dst v) w) : wpLate P ops Q S z (fuel + 1) listed a w := by
  obtain ⟨oz, h1, h2⟩ := waitsOn_spec hz
  exact wpLate_first hi h1 h2 (Region.noSelect_spec hs) hQ fuel listed a w (Region.free_spec hi hf) (by simpa using hr) hu hy hS h
/-- Take number i first: it yields its value in whatever world. -/
theorem wpLate_pure {i : Nat} {oi : Oper} {v : Value} {fuel : Nat} {listed : Array Bool} {a : Act} {w : World} (hi : ops[i]? = some oi) (hiz : i ≠ z)
    (hs : Region.noSelect ops = true) (hf : Region.free .any ops listed i = true) (hr : (Region.ready .any ops listed).contains i = true)
    (hQ : ∀ c a w, Q (.panic c) (a.put oi.dst v) w → Q (.panic c) a w) (hy : YieldsIf P ops (fun _ => True) oi v a) (hS : listed.getD z true = false → S w)
    (h : wpLate P ops Q S z fuel (listed.setIfInBounds i true) (a.put oi.dst v) w) : wpLate P ops Q S z (fuel + 1) listed a w :=
  wpLate_plain hi hiz (Region.noSelect_spec hs) hQ fuel listed a w (Region.free_spec hi hf) (by simpa using hr) hS hy h
/-- One of those that may come up. -/
theorem wpLate_nil {fuel : Nat} {listed : Array Bool} {a : Act} {w : World} : ∀ i ∈ ([] : List Nat), wpOp P ops Q i (fun a' w' => (i ≠ z → listed.getD z true = false → S w') ∧ wpLate P ops Q S z fuel (listed.setIfInBounds i true) a' w') a w := fun _ h => by cases h
theorem wpLate_cons {fuel : Nat} {listed : Array Bool} {a : Act} {w : World} {i : Nat} {o : Oper} {rs : List Nat} (ho : ops[i]? = some o)
    (h : ∀ K' : Act → World → Prop, Shut (∀ a w, (i ≠ z → listed.getD z true = false → S w) → wpLate P ops Q S z fuel (listed.setIfInBounds i true) a w → K' a w) → if Region.wanted o (yielded ops a.tmps) = true then Oper.wp P o a w K' Q else K' (a.put o.dst undef) w)
    (hs : ∀ j ∈ rs, wpOp P ops Q j (fun a' w' => (j ≠ z → listed.getD z true = false → S w') ∧ wpLate P ops Q S z fuel (listed.setIfInBounds j true) a' w') a w) :
    ∀ j ∈ i :: rs, wpOp P ops Q j (fun a' w' => (j ≠ z → listed.getD z true = false → S w') ∧ wpLate P ops Q S z fuel (listed.setIfInBounds j true) a' w') a w := fun j hj => by
  rcases List.mem_cons.1 hj with rfl | hj
  · exact wpOp_step ho (fun K' hK => h K' (fun a w hS hW => hK a w ⟨hS, hW⟩))
  · exact hs j hj
theorem wpLate_ready {rs : List Nat} {fuel : Nat} {listed : Array Bool} {a : Act} {w : World} (hr : Region.ready .any ops listed = rs) (hne : rs ≠ [])
    (h : ∀ i ∈ rs, wpOp P ops Q i (fun a' w' => (i ≠ z → listed.getD z true = false → S w') ∧ wpLate P ops Q S z fuel (listed.setIfInBounds i true) a' w') a w) : wpLate P ops Q S z (fuel + 1) listed a w :=
  ⟨fun h0 => absurd (hr ▸ h0) hne, hr ▸ h⟩
theorem wpLate_done {listed : Array Bool} {a : Act} {w : World} (hr : Region.ready .any ops listed = []) (h : Q .normal a w) : ∀ fuel, wpLate P ops Q S z fuel listed a w
  | 0 => ⟨hr, h⟩
  | _ + 1 => ⟨fun _ => h, by rw [hr]; simp⟩
theorem wp_region_late {id : Nat} {a : Act} {w : World} (z : Nat) (hm : P.follows .mixedOrders = true) (hS : S w.drew)
    (h : S w.drew → wpLate P ops Q S z ops.size (Array.replicate ops.size false) a w.drew) : (Code.region id ops true).wp P Q a w :=
  wp_region_any hm (wpAny_of_late _ _ _ _ (h hS))
end
end Go.Proofs.YtlmdjhdlfdandaaDoor

/- Package step: append of a row to a full list of rows; what a token more makes of a view. -/
namespace Go.Proofs.YtlmdjhdlfdandaaDoor
open Go.ChangeShapes Go.WideShapes Go.ChangeAt Go.RowKit
theorem front_get (l : List Value) (z : Array Value) {j : Nat} {u : Value} (h : l[j]? = some u) : (l.toArray ++ z)[j]? = some u := by
  have hj := (List.getElem?_eq_some_iff.1 h).1
  rw [Array.getElem?_append_left (by simpa using hj)]
  simpa using h
/-- append(rows, row), rows a full list. -/
theorem wp_append_full {o : Oper} {a : Act} {w : World} {K : Act → World → Prop} {Q : Exit → Act → World → Prop} (s x : Operand) (hop : o.op = .call { callee := .builtin .append, args := #[s, x], argTypes := #[49, 49] })
    (p : Nat → Prop) (ro : Option Addr) (n : Nat) (vs : List Value) (R : List (List Int)) (hs : a.eval s = .slice ro n n) (hnil : ro = none → n = 0) (hG : Hangs p w (fun w => GridV w ro n vs R))
    (bo g1 m1 c1 : Nat) (Y : List Int) (hx : a.eval x = .slice (some ⟨bo, 0, none⟩) 1 1) (hX : w.cell? ⟨bo, 0, none⟩ = some (.slice (some ⟨g1, 0, none⟩) m1 c1)) (hY : Hangs p w (fun w => Arg w (some ⟨g1, 0, none⟩) m1 c1 Y)) (hn : n ≤ 4096) (hp : p w.heap.size)
    (h : ∀ cap w', n + 1 ≤ cap → cap ≤ 9223372036854775807 → Hangs p w' (fun wv => GridV wv (some ⟨w.heap.size, 0, none⟩) (n + 1) (vs ++ [.slice (some ⟨g1, 0, none⟩) m1 c1]) (R ++ [Y])) → Below w.heap.size w w' → K (a.put o.dst (.slice (some ⟨w.heap.size, 0, none⟩) (n + 1) cap)) w') : Oper.wp Tryd.prog o a w K Q := by
  obtain ⟨i0, hi, hz0, hz1, hz2⟩ := info_parts Tryd.infoRow
  have hnews : ∀ j u, [Value.slice (some ⟨g1, 0, none⟩) m1 c1][j]? = some u → w.cell? ((Addr.mk bo 0 none).add j) = some u := by
    intro j u hj
    match j, hj with
    | 0, hj =>
      simp at hj
      subst hj
      have e2 : (Addr.mk bo 0 none).add 0 = ⟨bo, 0, none⟩ := by simp [Addr.add]
      rw [e2, hX]
  have hgo : ∀ (cs : Array Value) (cap : Nat), (∀ (j : Nat) (u : Value), (vs ++ [.slice (some ⟨g1, 0, none⟩) m1 c1])[j]? = some u → cs[j]? = some u) → n + 1 ≤ cap → cap ≤ 9223372036854775807 → K (a.put o.dst (.slice (some ⟨w.heap.size, 0, none⟩) (n + 1) cap)) (w.drew.alloc (.cells cs 27)) := by
    intro cs cap hcs h1 h2
    have hb : Below w.heap.size w (w.drew.alloc (.cells cs 27)) := ((Below.refl _ _).drew).alloc (Nat.le_refl _) _
    refine h cap _ h1 h2 (fun w2 h3 => ?_) hb
    have hnew := heap_alloc_new w.drew (.cells cs 27)
    have hg : w2.heap[w.heap.size]? = some (.cells cs 27 (0, 0)) := (h3 w.heap.size hp (by simp)).trans hnew
    have ho : ∀ b, p b → b < w.heap.size → w2.heap[b]? = w.heap[b]? := fun b hb1 hb2 => (h3 b hb1 (Nat.lt_of_lt_of_le hb2 hb.size)).trans (hb.block b hb2)
    have V := hG w2 ho
    have A := hY w2 ho
    refine ⟨V.rows.snoc A, by simp [V.len], by omega, fun _ => ⟨w.heap.size, 0, rfl, fun j u hj => ?_⟩⟩
    rw [Nat.zero_add]
    unfold World.cell?
    simp only [hg]
    exact hcs j u hj
  have V0 := hG.now
  have hmx := fun (nd od : Nat) (hh : nd ≤ maxLen) => grownCap_le_maxLen w nd od 27 hh
  have hge := fun (nd od : Nat) => grownCap_ge w nd od 27
  cases ro with
  | none =>
    obtain rfl : n = 0 := hnil rfl
    obtain rfl : vs = [] := List.length_eq_zero_iff.1 V0.len
    have hrun := run_append_nil (P := Tryd.prog) w 49 o.type 27 i0 (.slice none 0 0) Tryd.underlying49 hi hz0 ⟨bo, 0, none⟩ 1 1 [.slice (some ⟨g1, 0, none⟩) m1 c1] (by simp [hz1]) hnews (by omega) (by omega) (by rw [hz2]; omega)
    unfold Oper.wp
    simp [execOp, hop, resolve, invoke, builtin, hs, hx, hrun, Result.andThen]
    refine hgo _ _ (fun j u hj => ?_) (hge 1 0) (by have := hmx 1 0 (by decide); unfold maxLen at this; omega)
    exact front_get [.slice (some ⟨g1, 0, none⟩) m1 c1] _ hj
  | some ad =>
    have holds : ∀ j v, vs[j]? = some v → w.cell? (ad.add j) = some v := fun j v hj => by
      have hjn : j < n := by rw [← V0.len]; exact (List.getElem?_eq_some_iff.1 hj).1
      obtain ⟨b, o', e, hc⟩ := V0.cells (by omega)
      simp only [Option.some.injEq] at e
      subst e
      have e2 : (Addr.mk b o' none).add j = ⟨b, o' + j, none⟩ := by simp [Addr.add]
      rw [e2]
      exact hc j v hj
    have hrun := run_append_grow (P := Tryd.prog) w 49 o.type 27 i0 (.slice none 0 0) Tryd.underlying49 hi hz0 ad n n vs (by rw [hz1, V0.len]; omega) holds ⟨bo, 0, none⟩ 1 1 [.slice (some ⟨g1, 0, none⟩) m1 c1] (by simp [hz1]) hnews (by omega) (by omega) (growslice_fits (by omega) (by rw [hz2]; omega))
    unfold Oper.wp
    simp [execOp, hop, resolve, invoke, builtin, hs, hx, hrun, Result.andThen]
    refine hgo _ _ (fun j u hj => ?_) (hge (n + 1) n) (by have := hmx (n + 1) n (by unfold maxLen; omega); unfold maxLen at this; omega)
    exact front_get (vs ++ [.slice (some ⟨g1, 0, none⟩) m1 c1]) _ hj
end Go.Proofs.YtlmdjhdlfdandaaDoor

/- Package step: goOn: the view behind one token more. -/
namespace Go.Proofs.YtlmdjhdlfdandaaDoor
open Go.ChangeShapes Go.WideShapes Go.ChangeAt Go.RowKit
def layD : Lay := ⟨[], [], [], [], [], [], [], []⟩
def layAt (M : Mdl) (l : Nat) : Lay := M.Ls.getD l layD
/-- The row that l layers make of a first one, behind the lists K and V of n rows each. -/
def xRow (M : Mdl) (D H Hd n : Nat) (K V : List (List (List Int))) (x : List Int) : Nat → List Int
  | 0 => x
  | l + 1 => oneR (layAt M l) D H Hd (xRow M D H Hd n K V x l) (K.getD l []) (V.getD l []) n
def newK (M : Mdl) (D H Hd n L : Nat) (K V : List (List (List Int))) (x : List Int) : List (List (List Int)) := (List.range L).map fun l => K.getD l [] ++ [keyR (layAt M l) D (xRow M D H Hd n K V x l)]
def newV (M : Mdl) (D H Hd n L : Nat) (K V : List (List (List Int))) (x : List Int) : List (List (List Int)) := (List.range L).map fun l => V.getD l [] ++ [valR (layAt M l) D (xRow M D H Hd n K V x l)]
theorem newK_at (M : Mdl) (D H Hd n L : Nat) (K V : List (List (List Int))) (x : List Int) {l : Nat} (h : l < L) : (newK M D H Hd n L K V x).getD l [] = K.getD l [] ++ [keyR (layAt M l) D (xRow M D H Hd n K V x l)] := by
  unfold newK
  rw [List.getD_eq_getElem?_getD, List.getElem?_map, List.getElem?_range h]
  rfl
theorem newV_at (M : Mdl) (D H Hd n L : Nat) (K V : List (List (List Int))) (x : List Int) {l : Nat} (h : l < L) : (newV M D H Hd n L K V x).getD l [] = V.getD l [] ++ [valR (layAt M l) D (xRow M D H Hd n K V x l)] := by
  unfold newV
  rw [List.getD_eq_getElem?_getD, List.getElem?_map, List.getElem?_range h]
  rfl
/-- The view behind one token more, and the row that the last layer makes of it. -/
def feedV (M : Mdl) (D H Hd L : Nat) (X : Vw) (tok : Nat) : Vw := ⟨X.T ++ [(tok : Int)], newK M D H Hd X.T.length L X.K X.V (begR M.E D tok X.T.length), newV M D H Hd X.T.length L X.K X.V (begR M.E D tok X.T.length)⟩
def feedX (M : Mdl) (D H Hd L : Nat) (X : Vw) (tok : Nat) : List Int := xRow M D H Hd X.T.length X.K X.V (begR M.E D tok X.T.length) L
/-- The blocks that a new view's lists may hang on. -/
def offB (w : World) (gk gv gN : Nat) (tv : Value) (b : Nat) : Prop := w.heap.size + 3 < b ∧ b ≠ gk ∧ b ≠ gv ∧ b ≠ gN ∧ tv.ownBlock ≠ some b
theorem load_b {w : World} {g : Nat} {cs : Array Value} (h : Blk w g 48 cs) (hs : cs.size = 20) : (loadVar 48 ⟨g, 0, none⟩).run Tryd.prog w = .ok (.agg cs) w :=
  run_loadVar_row w g _ _ cs _ _ h Tryd.underlying48 rfl (by rw [hs]; exact Tryd.infoB)
theorem yield_row {w : World} {a : Act} {o : Oper} (ty : TypeId) (x : Operand) (ho : o.op = .load ty x) (g : Nat) (hx : a.eval x = .pointer (some ⟨g, 0, none⟩)) (cs : Array Value) (hl : (loadVar ty ⟨g, 0, none⟩).run Tryd.prog w = .ok (.agg cs) w) : (execOp a.eval o).run Tryd.prog w = .ok (.value (.agg cs)) w := by
  unfold execOp
  simp only [ho, hx, Instr.loadAt, Instr.sureAddr, Sem.run_bind, Sem.run_pure, Result.andThen_ok, hl]
theorem Fresh.arg_off {wr w : World} {B g n c : Nat} {A : List Int} {gk gv gN : Nat} {tv : Value} (h : Fresh wr B g n c A) (hB : w.heap.size + 3 < B) (h1 : g ≠ gk) (h2 : g ≠ gv) (h3 : g ≠ gN) (h4 : tv.ownBlock ≠ some g) : Hangs (offB w gk gv gN tv) wr fun w => Arg w (some ⟨g, 0, none⟩) n c A :=
  (h.hangs.mono fun b _ e => by subst e; have := h.base; exact ⟨by omega, h1, h2, h3, h4⟩).imp fun _ h => h.arg
theorem kv_made (w : World) (L : Nat) (p : Nat → Prop) (A C : List (List (List Int))) (hC : C = []) : KV (w.alloc (.cells (madeCells #[.slice none 0 0] L) 49)) w.heap.size L 0 p A C := by
  subst hC
  refine ⟨_, heap_alloc_new _ _, by simp [madeCells], fun t ht => by omega, fun t _ ht => ⟨none, 0, [], ?_, fun _ => rfl, fun _ _ => gridV_nil _ _⟩⟩
  simp [madeCells, ht, Nat.mod_one]
theorem getD_set_true (l : Array Bool) (z : Nat) : (l.setIfInBounds z true).getD z true = true := by
  rcases Nat.lt_or_ge z l.size with h | h
  · simp [h]
  · simp [h]
theorem cell_keep {w w' : World} {a : Addr} {v : Value} (h : w.cell? a = some v) (hb : Below w.heap.size w w') : w'.cell? a = some v := by
  rw [World.cell?_of_block (hb.block _ (World.block_lt_of_cell? w _ h))]
  exact h
theorem Hangs.grown {p : Nat → Prop} {w w' : World} {Φ : World → Prop} (h : Hangs p w Φ) {r : Option Nat} (hg : w.grownBy w' r) (hr : ∀ b, p b → some b ≠ r) : Hangs p w' Φ := fun w2 h2 =>
  h w2 fun b h3 h4 => (h2 b h3 (Nat.lt_of_lt_of_le h4 hg.size)).trans (hg.block b h4 (hr b h3))
theorem KV.grown {w w' : World} {g m i : Nat} {p : Nat → Prop} {A C : List (List (List Int))} (h : KV w g m i p A C) {r : Option Nat} (hg : w.grownBy w' r) (hr : ∀ b, p b → some b ≠ r) (hgr : some g ≠ r) : KV w' g m i p A C := by
  have hl := h.lt
  obtain ⟨cs, h1, h2, h3, h4⟩ := h.row
  exact ⟨cs, (hg.block g hl hgr).trans h1, h2, fun t ht => let ⟨ro, n, c, vs, e, q1, q2, q3, N⟩ := h3 t ht; ⟨ro, n, c, vs, e, q1, q2, q3, N.grown hg hr⟩, fun t ht h5 => let ⟨ro, n, vs, e, q1, N⟩ := h4 t ht h5; ⟨ro, n, vs, e, q1, N.grown hg hr⟩⟩
/-- Lists that were all told anew, as they read. -/
theorem KV.cube {w : World} {g m : Nat} {p : Nat → Prop} {A C : List (List (List Int))} (h : KV w g m m p A C) (hl : A.length = m) (hm : m ≤ 9223372036854775807) {B : Nat} (hp : ∀ b, p b → B ≤ b) (hB : B ≤ g) : New B w fun w => CubeAt w (some ⟨g, 0, none⟩) m A := by
  intro w2 h2
  have hlt := h.lt
  obtain ⟨cs, h1, hs, h3, _⟩ := h.row
  have hg := (h2 g hB hlt).trans h1
  refine ⟨hl, hm, fun _ => ⟨g, 0, rfl, fun t R hR => ?_⟩⟩
  have ht : t < m := by rw [← hl]; exact (List.getElem?_eq_some_iff.1 hR).1
  obtain ⟨ro, n, c, vs, e, q1, q2, q3, N⟩ := h3 t ht
  have eR : A.getD t [] = R := by rw [List.getD_eq_getElem?_getD, hR]; rfl
  rw [eR] at N
  refine ⟨ro, n, c, ?_, q1, q2, q3, (N w2 fun b hb hb2 => h2 b (hp b hb) hb2).grid⟩
  rw [Nat.zero_add]
  unfold World.cell?
  simp only [hg]
  exact e
theorem owns_slice {w : World} {B n : Nat} {e : TypeId} {v : Value} {xs : List Value} (h : w.ownsRow B e 1 v n xs) : ∃ a c, v = .slice a n c := by
  rcases h.2 with ⟨h3, h4⟩ | ⟨g, cap, cur, hv, _⟩
  · exact ⟨none, 0, by rw [h3, h4]⟩
  · exact ⟨_, _, hv⟩
/-- What lists of a view that fits are like. -/
theorem fit_list {D L n : Nat} {K : List (List (List Int))} (hk : K.length = if n = 0 then 0 else L) (ks : ∀ R ∈ K, R.length = n ∧ ∀ t, t < n → (rowOf R t).length = D) {l : Nat} (hl : l < L) : (K.getD l []).length = n ∧ ∀ t, t < n → (rowOf (K.getD l []) t).length = D := by
  by_cases h0 : n = 0
  · rw [if_pos h0] at hk
    obtain rfl : K = [] := List.length_eq_zero_iff.1 hk
    subst h0
    exact ⟨rfl, fun t ht => by omega⟩
  · rw [if_neg h0] at hk
    have e : K.getD l [] = K[l]'(by omega) := by rw [List.getD_eq_getElem?_getD, List.getElem?_eq_getElem (by omega)]; rfl
    rw [e]
    exact ks _ (List.getElem_mem _)
end Go.Proofs.YtlmdjhdlfdandaaDoor

/- Lists of lists of rows that grow side by side: what each hangs on. -/
namespace Go.Proofs.YtlmdjhdlfdandaaDoor
open Go.ChangeShapes Go.WideShapes Go.ChangeAt Go.RowKit
theorem Arg.same {w w' : World} {ro : Option Addr} {m c : Nat} {A : List Int} (h : Arg w ro m c A) (hb : ∀ b, b < w.heap.size → w'.heap[b]? = w.heap[b]?) : Arg w' ro m c A := by
  refine ⟨⟨h.row.len, h.row.max, h.row.small, fun hn => ?_⟩, h.fit, h.max, h.nil, h.cold_of hb⟩
  obtain ⟨b, o, e, hc⟩ := h.row.cells hn
  refine ⟨b, o, e, fun t ht => ?_⟩
  have h1 := hc t ht
  rw [World.cell?_of_block (w := w) (hb b (by simpa using World.block_lt_of_cell? w _ h1))]
  exact h1
/-- From w to w' only blocks that aren't p's turned, and what was p's is p''s. -/
structure Tn (p p' : Nat → Prop) (w w' : World) : Prop where
  size : w.heap.size ≤ w'.heap.size
  keep : ∀ b, b < w.heap.size → p b → p' b ∧ w'.heap[b]? = w.heap[b]?
theorem Tn.below {p : Nat → Prop} {w w' : World} (h : Below w.heap.size w w') : Tn p p w w' := ⟨h.size, fun b hb hp => ⟨hp, h.block b hb⟩⟩
theorem Tn.trans {p p' p2 : Nat → Prop} {w w' w2 : World} (h : Tn p p' w w') (k : Tn p' p2 w' w2) : Tn p p2 w w2 :=
  ⟨Nat.le_trans h.size k.size, fun b hb hp => by
    obtain ⟨a1, a2⟩ := h.keep b hb hp
    obtain ⟨b1, b2⟩ := k.keep b (Nat.lt_of_lt_of_le hb h.size) a1
    exact ⟨b1, b2.trans a2⟩⟩
theorem Hangs.turn {p p' : Nat → Prop} {w w' : World} {Φ : World → Prop} (h : Hangs p w Φ) (t : Tn p p' w w') : Hangs p' w' Φ := fun w2 h2 =>
  h w2 fun b hb hl => by
    obtain ⟨q, e⟩ := t.keep b hl hb
    exact (h2 b q (Nat.lt_of_lt_of_le hl t.size)).trans e
/-- The blocks that aren't those of five values, nor block h, nor the one ahead of it. -/
def offO (q : Nat → Prop) (v1 v2 v3 v4 v5 : Value) (h : Nat) (b : Nat) : Prop := v1.ownBlock ≠ some b ∧ v2.ownBlock ≠ some b ∧ v3.ownBlock ≠ some b ∧ v4.ownBlock ≠ some b ∧ v5.ownBlock ≠ some b ∧ b ≠ h ∧ b + 1 ≠ h ∧ q b
theorem Tn.app1 {q : Nat → Prop} {v1 v1' v2 v3 v4 v5 : Value} {h : Nat} {w w' : World} (hG : w.grownBy w' v1.ownBlock) (hN : ∀ g, v1'.ownBlock = some g → v1.ownBlock = some g ∨ w.heap.size ≤ g) : Tn (offO q v1 v2 v3 v4 v5 h) (offO q v1' v2 v3 v4 v5 h) w w' :=
  ⟨hG.size, fun b hb hp => ⟨⟨fun e => by rcases hN b e with a | a; exact hp.1 a; omega, hp.2⟩, hG.block b hb (fun e => hp.1 e.symm)⟩⟩
theorem Tn.app2 {q : Nat → Prop} {v1 v2 v2' v3 v4 v5 : Value} {h : Nat} {w w' : World} (hG : w.grownBy w' v2.ownBlock) (hN : ∀ g, v2'.ownBlock = some g → v2.ownBlock = some g ∨ w.heap.size ≤ g) : Tn (offO q v1 v2 v3 v4 v5 h) (offO q v1 v2' v3 v4 v5 h) w w' :=
  ⟨hG.size, fun b hb hp => ⟨⟨hp.1, fun e => by rcases hN b e with a | a; exact hp.2.1 a; omega, hp.2.2⟩, hG.block b hb (fun e => hp.2.1 e.symm)⟩⟩
theorem Tn.app3 {q : Nat → Prop} {v1 v2 v3 v3' v4 v5 : Value} {h : Nat} {w w' : World} (hG : w.grownBy w' v3.ownBlock) (hN : ∀ g, v3'.ownBlock = some g → v3.ownBlock = some g ∨ w.heap.size ≤ g) : Tn (offO q v1 v2 v3 v4 v5 h) (offO q v1 v2 v3' v4 v5 h) w w' :=
  ⟨hG.size, fun b hb hp => ⟨⟨hp.1, hp.2.1, fun e => by rcases hN b e with a | a; exact hp.2.2.1 a; omega, hp.2.2.2⟩, hG.block b hb (fun e => hp.2.2.1 e.symm)⟩⟩
theorem Tn.app4 {q : Nat → Prop} {v1 v2 v3 v4 v4' v5 : Value} {h : Nat} {w w' : World} (hG : w.grownBy w' v4.ownBlock) (hN : ∀ g, v4'.ownBlock = some g → v4.ownBlock = some g ∨ w.heap.size ≤ g) : Tn (offO q v1 v2 v3 v4 v5 h) (offO q v1 v2 v3 v4' v5 h) w w' :=
  ⟨hG.size, fun b hb hp => ⟨⟨hp.1, hp.2.1, hp.2.2.1, fun e => by rcases hN b e with a | a; exact hp.2.2.2.1 a; omega, hp.2.2.2.2⟩, hG.block b hb (fun e => hp.2.2.2.1 e.symm)⟩⟩
theorem Tn.app5 {q : Nat → Prop} {v1 v2 v3 v4 v5 v5' : Value} {h : Nat} {w w' : World} (hG : w.grownBy w' v5.ownBlock) (hN : ∀ g, v5'.ownBlock = some g → v5.ownBlock = some g ∨ w.heap.size ≤ g) : Tn (offO q v1 v2 v3 v4 v5 h) (offO q v1 v2 v3 v4 v5' h) w w' :=
  ⟨hG.size, fun b hb hp => ⟨⟨hp.1, hp.2.1, hp.2.2.1, hp.2.2.2.1, fun e => by rcases hN b e with a | a; exact hp.2.2.2.2.1 a; omega, hp.2.2.2.2.2⟩, hG.block b hb (fun e => hp.2.2.2.2.1 e.symm)⟩⟩
theorem Tn.set {q : Nat → Prop} {v1 v2 v3 v4 v5 : Value} {h : Nat} (w : World) (o : Nat) (v : Value) : Tn (offO q v1 v2 v3 v4 v5 h) (offO q v1 v2 v3 v4 v5 h) w (w.setCell ⟨h, o, none⟩ v) :=
  ⟨by simp [World.setCell], fun b _ hp => ⟨hp, Below.heap_setCell _ _ _ b hp.2.2.2.2.2.1⟩⟩
/-- A new block as the fourth or the fifth. -/
theorem Tn.new4 {q : Nat → Prop} {v1 v2 v3 v5 : Value} {h k n c : Nat} (w : World) (hk : w.heap.size ≤ k) : Tn (offO q v1 v2 v3 (.slice none 0 0) v5 h) (offO q v1 v2 v3 (.slice (some ⟨k, 0, none⟩) n c) v5 h) w w :=
  ⟨Nat.le_refl _, fun b hb hp => ⟨⟨hp.1, hp.2.1, hp.2.2.1, fun e => by simp [Value.ownBlock] at e; omega, hp.2.2.2.2⟩, rfl⟩⟩
theorem Tn.new5 {q : Nat → Prop} {v1 v2 v3 v4 : Value} {h k n c : Nat} (w : World) (hk : w.heap.size ≤ k) : Tn (offO q v1 v2 v3 v4 (.slice none 0 0) h) (offO q v1 v2 v3 v4 (.slice (some ⟨k, 0, none⟩) n c) h) w w :=
  ⟨Nat.le_refl _, fun b hb hp => ⟨⟨hp.1, hp.2.1, hp.2.2.1, hp.2.2.2.1, fun e => by simp [Value.ownBlock] at e; omega, hp.2.2.2.2.2⟩, rfl⟩⟩
theorem Tn.drop {q : Nat → Prop} {v1 v2 v3 v4 v5 : Value} {h : Nat} (w : World) : Tn (offO q v1 v2 v3 v4 v5 h) (offO q v1 v2 v3 (.slice none 0 0) (.slice none 0 0) h) w w :=
  ⟨Nat.le_refl _, fun b _ hp => ⟨⟨hp.1, hp.2.1, hp.2.2.1, (fun e => by cases e), (fun e => by cases e), hp.2.2.2.2.2⟩, rfl⟩⟩
/-- The values of rows, and what they read as and hang on. -/
structure HRows (p : Nat → Prop) (w : World) (vs : List Value) (R : List (List Int)) : Prop where
  len : vs.length = R.length
  rows : ∀ t, t < R.length → ∃ ro m c, vs[t]? = some (.slice ro m c) ∧ Hangs p w (fun w => Arg w ro m c (rowOf R t))
theorem HRows.turn {p p' : Nat → Prop} {w w' : World} {vs : List Value} {R : List (List Int)} (h : HRows p w vs R) (t : Tn p p' w w') : HRows p' w' vs R :=
  ⟨h.len, fun k hk => let ⟨ro, m, c, e, A⟩ := h.rows k hk; ⟨ro, m, c, e, A.turn t⟩⟩
theorem HRows.now {p : Nat → Prop} {w : World} {vs : List Value} {R : List (List Int)} (h : HRows p w vs R) : RowsAt w vs R :=
  ⟨h.len, fun k hk => let ⟨ro, m, c, e, A⟩ := h.rows k hk; ⟨ro, m, c, e, A.now⟩⟩
theorem HRows.nil (p : Nat → Prop) (w : World) : HRows p w [] [] := ⟨rfl, fun t ht => by simp at ht⟩
theorem HRows.old {p : Nat → Prop} {w1 w : World} {vs : List Value} {R : List (List Int)} (h : RowsAt w1 vs R) (hb : Below w1.heap.size w1 w) (hp : ∀ b, b < w1.heap.size → p b) : HRows p w vs R :=
  ⟨h.len, fun k hk => let ⟨ro, m, c, e, A⟩ := h.rows k hk; ⟨ro, m, c, e, fun _ h2 => A.same fun b hb2 => (h2 b (hp b hb2) (Nat.lt_of_lt_of_le hb2 hb.size)).trans (hb.block b hb2)⟩⟩
theorem HRows.snoc {p : Nat → Prop} {w : World} {vs : List Value} {R : List (List Int)} (h : HRows p w vs R) {ro : Option Addr} {m c : Nat} {Y : List Int} (hY : Hangs p w (fun w => Arg w ro m c Y)) : HRows p w (vs ++ [.slice ro m c]) (R ++ [Y]) := by
  have hl := h.len
  refine ⟨by simp [hl], fun t ht => ?_⟩
  rw [List.length_append, List.length_singleton] at ht
  rcases Nat.lt_or_ge t R.length with h1 | h1
  · obtain ⟨ro', m', c', e, A⟩ := h.rows t h1
    refine ⟨ro', m', c', by rw [List.getElem?_append_left (by omega)]; exact e, ?_⟩
    have : rowOf (R ++ [Y]) t = rowOf R t := by unfold rowOf; simp only [List.getD_eq_getElem?_getD]; rw [List.getElem?_append_left h1]
    rw [this]
    exact A
  · obtain rfl : t = R.length := by omega
    refine ⟨ro, m, c, by rw [← hl]; simp, ?_⟩
    have : rowOf (R ++ [Y]) R.length = Y := by unfold rowOf; simp
    rw [this]
    exact hY
/-- A list of rows of the call's own hangs on its block and on what its rows hang on. -/
theorem HRows.grid {p : Nat → Prop} {w : World} {B g n cap : Nat} {vs : List Value} {R : List (List Int)} (h : HRows p w vs R) (O : w.ownsRow B 27 1 (.slice (some ⟨g, 0, none⟩) n cap) n vs) (hg : p g) (hn : n ≤ 9223372036854775807) : Hangs p w (fun w => GridAt w (some ⟨g, 0, none⟩) n R) := by
  intro w2 h2
  have hgl : g < w.heap.size := (O.lt g rfl).2
  have O2 : w2.ownsRow B 27 1 (.slice (some ⟨g, 0, none⟩) n cap) n vs := owns_mono O (Nat.le_refl _) (fun b hb => by
    simp [Value.ownBlock] at hb
    subst hb
    exact h2 _ hg hgl)
  exact grid_of_owns O2 ⟨h.len, fun k hk => let ⟨ro, m, c, e, A⟩ := h.rows k hk; ⟨ro, m, c, e, A w2 h2⟩⟩ hn
/-- Lists of lists of rows of the call's own. -/
structure OCu (w : World) (B : Nat) (p : Nat → Prop) (v : Value) (C : List (List (List Int))) : Prop where
  own : ∃ vs, w.ownsRow B 49 1 v C.length vs ∧ ∀ (t : Nat) (R : List (List Int)), C[t]? = some R → ∃ g m c, vs[t]? = some (.slice (some ⟨g, 0, none⟩) m c) ∧ m ≤ c ∧ c ≤ 9223372036854775807 ∧ p g ∧ g < w.heap.size ∧ Hangs p w (fun w => GridAt w (some ⟨g, 0, none⟩) m R)
theorem OCu.nil (w : World) (B : Nat) (p : Nat → Prop) : OCu w B p (.slice none 0 0) [] := ⟨[], World.ownsRow_nil _ _ _ _, fun t R hR => by simp at hR⟩
/-- Its own block stays, and what its lists hang on. -/
theorem OCu.turn {p p' : Nat → Prop} {w w' : World} {B : Nat} {v : Value} {C : List (List (List Int))} (h : OCu w B p v C) (t : Tn p p' w w') (hb : ∀ b, v.ownBlock = some b → w'.heap[b]? = w.heap[b]?) : OCu w' B p' v C := by
  obtain ⟨vs, h1, h2⟩ := h.own
  exact ⟨vs, owns_mono h1 (Nat.le_refl _) hb, fun k R hR => let ⟨g, m, c, e, h3, h4, hg, hl, h5⟩ := h2 k R hR; ⟨g, m, c, e, h3, h4, (t.keep g hl hg).1, Nat.lt_of_lt_of_le hl t.size, h5.turn t⟩⟩
theorem OCu.form {w : World} {B : Nat} {p : Nat → Prop} {v : Value} {C : List (List (List Int))} (h : OCu w B p v C) : ∃ a c, v = .slice a C.length c ∧ C.length ≤ c ∧ c ≤ 9223372036854775807 := by
  obtain ⟨vs, h1, _⟩ := h.own
  rcases h1.2 with ⟨h2, h3⟩ | ⟨g, cap, cur, h3, h4, h5, h6, h7, _⟩
  · rw [h3]; exact ⟨none, 0, h2, Nat.le_refl _, by omega⟩
  · exact ⟨_, _, h3, h6, by unfold maxLen at h7; exact h7⟩
theorem OCu.lt {w : World} {B : Nat} {p : Nat → Prop} {v : Value} {C : List (List (List Int))} (h : OCu w B p v C) : ∀ g, v.ownBlock = some g → B ≤ g ∧ g < w.heap.size := by
  obtain ⟨vs, h1, _⟩ := h.own
  exact fun g e => h1.lt g e
theorem OCu.ne_blk {w : World} {B b : Nat} {p : Nat → Prop} {T' : TypeId} {v : Value} {C : List (List (List Int))} {cs : Array Value} (h : OCu w B p v C) (h' : w.heap[b]? = some (.cells cs T' (0, 0))) (hT : (49 : TypeId) ≠ T') : v.ownBlock ≠ some b := by
  intro e
  obtain ⟨vs, h1, _⟩ := h.own
  rcases h1.2 with ⟨h2, h3⟩ | ⟨g', cap, cur, h3, h4, h5, _⟩
  · rw [h2] at e; cases e
  · rw [h3] at e
    simp only [Value.ownBlock, Option.some.injEq] at e
    subst e
    rw [h'] at h5
    injection h5 with h5
    injection h5 with _ e2 _
    exact hT e2.symm
/-- append of a list of rows onto lists of lists, in a region or out of it. -/
theorem wp_append_cu {w : World} {o : Oper} {a : Act} {K : Act → World → Prop} {Q : Exit → Act → World → Prop} (s x : Operand)
    (ho : o.op = .call { callee := .builtin .append, args := #[s, x], argTypes := #[39, 39] })
    (B : Nat) (p : Nat → Prop) (v : Value) (C : List (List (List Int))) (n : Nat) (hn : C.length = n) (hs : a.eval s = v) (hF : OCu w B p v C)
    (bo g1 m1 c1 : Nat) (R : List (List Int)) (hx : a.eval x = .slice (some ⟨bo, 0, none⟩) 1 1) (hX : w.cell? ⟨bo, 0, none⟩ = some (.slice (some ⟨g1, 0, none⟩) m1 c1)) (hm1 : m1 ≤ c1) (hc1 : c1 ≤ 9223372036854775807) (hpg : p g1) (hgl : g1 < w.heap.size) (hY : Hangs p w (fun w => GridAt w (some ⟨g1, 0, none⟩) m1 R))
    (hlen : n + 1 ≤ 1048576) (hB : B ≤ w.heap.size)
    (h : ∀ ea ec w', (∀ p', Tn p p' w w' → OCu w' B p' (.slice ea (n + 1) ec) (C ++ [R])) → w.grownBy w' v.ownBlock → (∀ g, (Value.slice ea (n + 1) ec).ownBlock = some g → v.ownBlock = some g ∨ w.heap.size ≤ g) → K (a.put o.dst (.slice ea (n + 1) ec)) w') : o.wp Tryd.prog a w K Q := by
  subst hn
  obtain ⟨i0, hi, hz0, hz1, hz2⟩ := info_parts Tryd.infoList
  obtain ⟨vs, h1, h2⟩ := hF.own
  refine wp_append_own2 w s x 39 ho B 49 i0 (.slice none 0 0) 1 24 Tryd.underlying39 hi hz0 hz1 hz2 rfl (by decide) v C.length vs hs h1 ⟨bo, 0, none⟩ 1 1 [.slice (some ⟨g1, 0, none⟩) m1 c1] hx rfl ?_ (by intro u hu; simp at hu; subst hu; rfl) (by unfold maxLen; omega) (by omega) hB ?_
  · intro j u hj
    match j, hj with
    | 0, hj =>
      simp at hj
      subst hj
      have e2 : (Addr.mk bo 0 none).add 0 = ⟨bo, 0, none⟩ := by simp [Addr.add]
      rw [e2, hX]
  · intro v' w' hown hg hnil hwh
    have hlv : vs.length = C.length := by have := h1.1; omega
    have hlen2 : (C ++ [R]).length = C.length + 1 := by simp
    have mk : ∀ p', Tn p p' w w' → OCu w' B p' v' (C ++ [R]) := fun p' t => ⟨vs ++ [.slice (some ⟨g1, 0, none⟩) m1 c1], by rw [hlen2]; exact hown, fun k R' hR' => by
      by_cases htk : k < C.length
      · rw [List.getElem?_append_left htk] at hR'
        obtain ⟨g3, m3, c3, e3, q1, q2, q4, q5, q3⟩ := h2 k R' hR'
        exact ⟨g3, m3, c3, by rw [List.getElem?_append_left (by omega)]; exact e3, q1, q2, (t.keep g3 q5 q4).1, Nat.lt_of_lt_of_le q5 t.size, q3.turn t⟩
      · rw [List.getElem?_append_right (by omega)] at hR'
        have e0 : k - C.length = 0 := by
          rcases Nat.eq_zero_or_pos (k - C.length) with e | e
          · exact e
          · rw [List.getElem?_eq_none (by simp; omega)] at hR'; cases hR'
        rw [e0] at hR'
        simp at hR'
        subst hR'
        exact ⟨g1, m1, c1, by rw [List.getElem?_append_right (by omega), hlv, e0]; rfl, hm1, hc1, (t.keep g1 hgl hpg).1, Nat.lt_of_lt_of_le hgl t.size, hY.turn t⟩⟩
    obtain ⟨ea, ec, e4⟩ := owns_slice hown
    subst e4
    exact h ea ec w' mk hg (fun g e => by rcases hwh g e with b | b; exact Or.inl b; exact Or.inr (by omega))
theorem wpList_append_cu {w : World} {ops : Array Oper} {rest : List Oper} {o : Oper} {a : Act} {Q : Exit → Act → World → Prop} (hgd : o.guard = none) (s x : Operand)
    (ho : o.op = .call { callee := .builtin .append, args := #[s, x], argTypes := #[39, 39] })
    (B : Nat) (p : Nat → Prop) (v : Value) (C : List (List (List Int))) (n : Nat) (hn : C.length = n) (hs : a.eval s = v) (hF : OCu w B p v C)
    (bo g1 m1 c1 : Nat) (R : List (List Int)) (hx : a.eval x = .slice (some ⟨bo, 0, none⟩) 1 1) (hX : w.cell? ⟨bo, 0, none⟩ = some (.slice (some ⟨g1, 0, none⟩) m1 c1)) (hm1 : m1 ≤ c1) (hc1 : c1 ≤ 9223372036854775807) (hpg : p g1) (hgl : g1 < w.heap.size) (hY : Hangs p w (fun w => GridAt w (some ⟨g1, 0, none⟩) m1 R))
    (hlen : n + 1 ≤ 1048576) (hB : B ≤ w.heap.size)
    (h : ∀ ea ec w', (∀ p', Tn p p' w w' → OCu w' B p' (.slice ea (n + 1) ec) (C ++ [R])) → w.grownBy w' v.ownBlock → (∀ g, (Value.slice ea (n + 1) ec).ownBlock = some g → v.ownBlock = some g ∨ w.heap.size ≤ g) → wpList Tryd.prog ops Q rest (a.put o.dst (.slice ea (n + 1) ec)) w') : wpList Tryd.prog ops Q (o :: rest) a w :=
  wpList_plain hgd fun _ hK => wp_append_cu s x ho B p v C n hn hs hF bo g1 m1 c1 R hx hX hm1 hc1 hpg hgl hY hlen hB fun ea ec w' h1 h2 h3 => hK _ _ (h ea ec w' h1 h2 h3)
/-- append of rows onto a row of rows of the call's own. -/
theorem wp_append_hr {w : World} {o : Oper} {a : Act} {K : Act → World → Prop} {Q : Exit → Act → World → Prop} (s x : Operand)
    (ho : o.op = .call { callee := .builtin .append, args := #[s, x], argTypes := #[49, 49] })
    (B : Nat) (v : Value) (n : Nat) (vs : List Value) (hs : a.eval s = v) (O : w.ownsRow B 27 1 v n vs)
    (ad : Addr) (m c : Nat) (ns : List Value) (hx : a.eval x = .slice (some ad) m c) (hl : ns.length = m) (hn : ∀ j u, ns[j]? = some u → w.cell? (ad.add j) = some u) (h1 : ∀ u ∈ ns, u.oneCell' = true)
    (hlen : n + m ≤ 1048576) (hB : B ≤ w.heap.size)
    (h : ∀ ea ec w', w'.ownsRow B 27 1 (.slice ea (n + m) ec) (n + m) (vs ++ ns) → w.grownBy w' v.ownBlock → (∀ g, (Value.slice ea (n + m) ec).ownBlock = some g → v.ownBlock = some g ∨ w.heap.size ≤ g) → (1 ≤ n + m → ∃ g, ea = some ⟨g, 0, none⟩) → K (a.put o.dst (.slice ea (n + m) ec)) w') : o.wp Tryd.prog a w K Q := by
  obtain ⟨i0, hi, hz0, hz1, hz2⟩ := info_parts Tryd.infoRow
  refine wp_append_own2 w s x 49 ho B 27 i0 (.slice none 0 0) 1 24 Tryd.underlying49 hi hz0 hz1 hz2 rfl (by decide) v n vs hs O ad m c ns hx (by omega) hn h1 (by unfold maxLen; omega) (by omega) hB ?_
  intro v' w' O1 G1 _ N1
  have O2 := O1
  rcases O2.2 with ⟨h2, h3⟩ | ⟨g, cap, cur, h3, h4⟩
  · subst h2
    have e0 : n + m = 0 := h3
    have q := h none 0 w' (by rw [e0]; rw [e0] at O1; exact O1) G1 (fun g e => by simp [Value.ownBlock] at e) (fun hh => absurd hh (by omega))
    rw [e0] at q
    exact q
  · subst h3
    exact h _ cap w' O1 G1 (fun g' e => by rcases N1 g' e with b | b; exact Or.inl b; exact Or.inr (by omega)) (fun _ => ⟨g, rfl⟩)
theorem wpList_append_hr {w : World} {ops : Array Oper} {rest : List Oper} {o : Oper} {a : Act} {Q : Exit → Act → World → Prop} (hgd : o.guard = none) (s x : Operand)
    (ho : o.op = .call { callee := .builtin .append, args := #[s, x], argTypes := #[49, 49] })
    (B : Nat) (v : Value) (n : Nat) (vs : List Value) (hs : a.eval s = v) (O : w.ownsRow B 27 1 v n vs)
    (ad : Addr) (m c : Nat) (ns : List Value) (hx : a.eval x = .slice (some ad) m c) (hl : ns.length = m) (hn : ∀ j u, ns[j]? = some u → w.cell? (ad.add j) = some u) (h1 : ∀ u ∈ ns, u.oneCell' = true)
    (hlen : n + m ≤ 1048576) (hB : B ≤ w.heap.size)
    (h : ∀ ea ec w', w'.ownsRow B 27 1 (.slice ea (n + m) ec) (n + m) (vs ++ ns) → w.grownBy w' v.ownBlock → (∀ g, (Value.slice ea (n + m) ec).ownBlock = some g → v.ownBlock = some g ∨ w.heap.size ≤ g) → (1 ≤ n + m → ∃ g, ea = some ⟨g, 0, none⟩) → wpList Tryd.prog ops Q rest (a.put o.dst (.slice ea (n + m) ec)) w') : wpList Tryd.prog ops Q (o :: rest) a w :=
  wpList_plain hgd fun _ hK => wp_append_hr s x ho B v n vs hs O ad m c ns hx hl hn h1 hlen hB fun ea ec w' h1 h2 h3 h4 => hK _ _ (h ea ec w' h1 h2 h3 h4)
/-- Lists of lists as they are handed in. -/
structure DCube (w : World) (s : Sl) (C : List (List (List Int))) : Prop where
  len : C.length = s.n
  fit : s.n ≤ s.c
  max : s.c ≤ 9223372036854775807
  small : s.n ≤ 1000
  cells : 0 < s.n → ∃ b o, s.ao = some ⟨b, o, none⟩ ∧ ∀ (t : Nat) (R : List (List Int)), C[t]? = some R → ∃ b1 o1 n c, w.cell? ⟨b, o + t, none⟩ = some (.slice (some ⟨b1, o1, none⟩) n c) ∧ n ≤ c ∧ c ≤ 9223372036854775807 ∧ GridAt w (some ⟨b1, o1, none⟩) n R
theorem DCube.below {w w' : World} {s : Sl} {C : List (List (List Int))} (h : DCube w s C) (hb : Below w.heap.size w w') : DCube w' s C := by
  refine ⟨h.len, h.fit, h.max, h.small, fun hn => ?_⟩
  obtain ⟨b, o, e, hc⟩ := h.cells hn
  refine ⟨b, o, e, fun t R hR => ?_⟩
  obtain ⟨b1, o1, n, c, h1, h2, h3, h4⟩ := hc t R hR
  have hlt : b < w.heap.size := by simpa using World.block_lt_of_cell? w _ h1
  exact ⟨b1, o1, n, c, by rw [hb.cell (by exact hlt)]; exact h1, h2, h3, h4.below hb⟩
theorem dcube_nil (w : World) : DCube w ⟨none, 0, 0⟩ [] := ⟨rfl, Nat.le_refl _, by decide, by decide, fun h => absurd h (by decide)⟩
theorem DCube.cube {w : World} {s : Sl} {C : List (List (List Int))} (h : DCube w s C) : CubeAt w s.ao s.n C := by
  refine ⟨h.len, by have := h.small; omega, fun hn => ?_⟩
  obtain ⟨b, o, e, hc⟩ := h.cells hn
  refine ⟨b, o, e, fun t R hR => ?_⟩
  obtain ⟨b1, o1, n, c, h1, h2, h3, h4⟩ := hc t R hR
  exact ⟨_, n, c, h1, (fun e => by cases e), h2, h3, h4⟩
/-- Lists of lists as they are handed in, and what they hang on. -/
structure PCube (p : Nat → Prop) (w : World) (s : Sl) (C : List (List (List Int))) : Prop where
  len : C.length = s.n
  fit : s.n ≤ s.c
  max : s.c ≤ 9223372036854775807
  small : s.n ≤ 1000
  cells : 0 < s.n → ∃ b o, s.ao = some ⟨b, o, none⟩ ∧ p b ∧ ∀ (t : Nat) (R : List (List Int)), C[t]? = some R → ∃ b1 o1 n c, w.cell? ⟨b, o + t, none⟩ = some (.slice (some ⟨b1, o1, none⟩) n c) ∧ n ≤ c ∧ c ≤ 9223372036854775807 ∧ p b1 ∧ Hangs p w (fun w => GridAt w (some ⟨b1, o1, none⟩) n R)
theorem PCube.dcube {p : Nat → Prop} {w : World} {s : Sl} {C : List (List (List Int))} (h : PCube p w s C) : DCube w s C := by
  refine ⟨h.len, h.fit, h.max, h.small, fun hn => ?_⟩
  obtain ⟨b, o, e, hp, hc⟩ := h.cells hn
  refine ⟨b, o, e, fun t R hR => ?_⟩
  obtain ⟨b1, o1, n, c, h1, h2, h3, h4, h5⟩ := hc t R hR
  exact ⟨b1, o1, n, c, h1, h2, h3, h5.now⟩
theorem PCube.turn {p p' : Nat → Prop} {w w' : World} {s : Sl} {C : List (List (List Int))} (h : PCube p w s C) (T : Tn p p' w w') (hpp : ∀ b, p b → p' b) : PCube p' w' s C := by
  refine ⟨h.len, h.fit, h.max, h.small, fun hn => ?_⟩
  obtain ⟨b, o, e, hp, hc⟩ := h.cells hn
  refine ⟨b, o, e, hpp b hp, fun t R hR => ?_⟩
  obtain ⟨b1, o1, n, c, h1, h2, h3, h4, h5⟩ := hc t R hR
  have hlt : b < w.heap.size := by simpa using World.block_lt_of_cell? w _ h1
  exact ⟨b1, o1, n, c, by rw [World.cell?_of_block (w := w) (a := ⟨b, o + t, none⟩) (T.keep b hlt hp).2]; exact h1, h2, h3, hpp b1 h4, h5.turn T⟩
theorem PCube.below {p : Nat → Prop} {w w' : World} {s : Sl} {C : List (List (List Int))} (h : PCube p w s C) (hb : Below w.heap.size w w') : PCube p w' s C := h.turn (Tn.below hb) fun _ h => h
theorem pcube_nil (p : Nat → Prop) (w : World) : PCube p w ⟨none, 0, 0⟩ [] := ⟨rfl, Nat.le_refl _, by decide, by decide, fun h => absurd h (by decide)⟩
theorem GridAt.same {w w' : World} {b1 o1 n : Nat} {R : List (List Int)} (h : GridAt w (some ⟨b1, o1, none⟩) n R) (hb : ∀ b, b < w.heap.size → w'.heap[b]? = w.heap[b]?) : GridAt w' (some ⟨b1, o1, none⟩) n R := by
  refine ⟨h.len, h.max, fun hn => ?_⟩
  obtain ⟨b, o, e, hc⟩ := h.cells hn
  refine ⟨b, o, e, fun t ht => ?_⟩
  obtain ⟨ro, m, c, h1, h2⟩ := hc t ht
  exact ⟨ro, m, c, by rw [World.cell?_of_block (w := w) (a := ⟨b, o + t, none⟩) (hb b (by simpa using World.block_lt_of_cell? w _ h1))]; exact h1, h2.same hb⟩
/-- Rows that hang on p, in a world in which p's blocks stand. -/
theorem HRows.oldp {p P : Nat → Prop} {w1 w : World} {vs : List Value} {b1 o1 n : Nat} {R : List (List Int)} (hr : RowsAt w1 vs R) (hv : ∀ j u, vs[j]? = some u → w1.cell? ((Addr.mk b1 o1 none).add j) = some u) (hG : Hangs p w1 (fun w => GridAt w (some ⟨b1, o1, none⟩) n R)) (hp1 : p b1) (hb : Below w1.heap.size w1 w) (hP : ∀ b, b < w1.heap.size → p b → P b) : HRows P w vs R := by
  refine ⟨hr.len, fun t ht => ?_⟩
  obtain ⟨ro, m, c, e, A⟩ := hr.rows t ht
  refine ⟨ro, m, c, e, fun w2 h2 => ?_⟩
  have hs : ∀ b, p b → b < w1.heap.size → w2.heap[b]? = w1.heap[b]? := fun b hpb hl => (h2 b (hP b hl hpb) (Nat.lt_of_lt_of_le hl hb.size)).trans (hb.block b hl)
  have hg := hG w2 hs
  have hn : R.length = n := hg.len
  obtain ⟨b', o', e', hc⟩ := hg.cells (by omega)
  simp only [Option.some.injEq, Addr.mk.injEq, and_true] at e'
  obtain ⟨rfl, rfl⟩ := e'
  obtain ⟨ro', m', c', k1, k2⟩ := hc t (by omega)
  have c0 := hv t _ e
  have e2 : (Addr.mk b1 o1 none).add t = ⟨b1, o1 + t, none⟩ := by simp [Addr.add]
  rw [e2] at c0
  have hl1 : b1 < w1.heap.size := by simpa using World.block_lt_of_cell? w1 _ c0
  rw [World.cell?_of_block (w := w1) (a := ⟨b1, o1 + t, none⟩) (hs b1 hp1 hl1), c0] at k1
  simp only [Option.some.injEq, Value.slice.injEq] at k1
  obtain ⟨rfl, rfl, rfl⟩ := k1
  exact k2
theorem OCu.pcube {w : World} {B : Nat} {p : Nat → Prop} {v : Value} {C : List (List (List Int))} (h : OCu w B p v C) (hl : C.length ≤ 1000) {P : Nat → Prop} (hP : ∀ b, p b → P b) (hB : ∀ b, B ≤ b → P b) : ∃ s : Sl, v = s.v ∧ s.n = C.length ∧ PCube P w s C := by
  obtain ⟨a, c, e, h1, h2⟩ := h.form
  refine ⟨⟨a, C.length, c⟩, e, rfl, rfl, h1, h2, hl, fun hn => ?_⟩
  obtain ⟨vs, O, hc⟩ := h.own
  rcases O.2 with ⟨h3, h4⟩ | ⟨g, cap, cur, h3, h4⟩
  · have : 0 < C.length := hn
    omega
  · rw [h3] at e
    simp only [Value.slice.injEq] at e
    refine ⟨g, 0, by rw [← e.1], hB g h4.1, fun t R hR => ?_⟩
    obtain ⟨g1, m, c1, e1, q1, q2, q4, q5, q3⟩ := hc t R hR
    have := O.cells (g := g) (by rw [h3]; rfl) t _ e1
    have e2 : (Addr.mk g 0 none).add t = ⟨g, t, none⟩ := by simp [Addr.add]; intro h; exact h.symm
    rw [e2] at this
    exact ⟨g1, 0, m, c1, by rw [Nat.zero_add]; exact this, q1, q2, hP g1 q4, q3.mono fun b _ hb => hP b hb⟩
theorem var3 (w : World) (T : TypeId) (z row : Array Value) : Blk (w.alloc (.cells z T)) w.heap.size T z ∧ Blk ((w.alloc (.cells z T)).setRow w.heap.size row) w.heap.size T row ∧ Below w.heap.size w ((w.alloc (.cells z T)).setRow w.heap.size row) ∧ ((w.alloc (.cells z T)).setRow w.heap.size row).heap.size = w.heap.size + 1 :=
  ⟨blk_new w T z, (blk_new w T z).row row, below_setRow ((Below.refl _ _).alloc (Nat.le_refl _) _) (Nat.le_refl _) _, by simp⟩
/-- Within the document's Go: what it makes lies behind wb. -/
structure GoS (q : Nat → Prop) (wb wr : World) (v1 v2 v3 v4 v5 : Value) (C1 C2 C3 : List (List (List Int))) : Prop where
  blk : Blk wr wb.heap.size 68 #[v1, v2, v3]
  c1 : OCu wr (wb.heap.size + 1) (offO q v1 v2 v3 v4 v5 wb.heap.size) v1 C1
  c2 : OCu wr (wb.heap.size + 1) (offO q v1 v2 v3 v4 v5 wb.heap.size) v2 C2
  c3 : OCu wr (wb.heap.size + 1) (offO q v1 v2 v3 v4 v5 wb.heap.size) v3 C3
  n12 : ∀ g, v1.ownBlock = some g → v2.ownBlock ≠ some g
  n13 : ∀ g, v1.ownBlock = some g → v3.ownBlock ≠ some g
  n23 : ∀ g, v2.ownBlock = some g → v3.ownBlock ≠ some g
  kp : Below wb.heap.size wb wr
theorem GoS.below {q : Nat → Prop} {wb wr w' : World} {v1 v2 v3 v4 v5 : Value} {C1 C2 C3 : List (List (List Int))} (h : GoS q wb wr v1 v2 v3 v4 v5 C1 C2 C3) (hb : Below wr.heap.size wr w') : GoS q wb w' v1 v2 v3 v4 v5 C1 C2 C3 :=
  ⟨h.blk.below hb, h.c1.turn (Tn.below hb) (fun b e => hb.block b (h.c1.lt b e).2), h.c2.turn (Tn.below hb) (fun b e => hb.block b (h.c2.lt b e).2), h.c3.turn (Tn.below hb) (fun b e => hb.block b (h.c3.lt b e).2), h.n12, h.n13, h.n23, h.kp.trans (hb.mono h.kp.size)⟩
theorem OCu.ne_rows {w : World} {B B' n : Nat} {p : Nat → Prop} {v u : Value} {vs : List Value} {C : List (List (List Int))} (h : OCu w B p v C) (O : w.ownsRow B' 27 1 u n vs) (g : Nat) (e : v.ownBlock = some g) : u.ownBlock ≠ some g := by
  intro e2
  rcases O.2 with ⟨h2, h3⟩ | ⟨g', cap, cur, h3, h4, h5, _⟩
  · rw [h2] at e2; cases e2
  · rw [h3] at e2
    simp only [Value.ownBlock, Option.some.injEq] at e2
    subst e2
    exact h.ne_blk (show w.heap[g']? = some (.cells cur 27 (0, 0)) from h5) (by decide) e
/-- The fourth or the fifth turned; the lists of lists stand. -/
theorem GoS.side {q : Nat → Prop} {wb wr w' : World} {v1 v2 v3 v4 v5 v4' v5' : Value} {C1 C2 C3 : List (List (List Int))} (h : GoS q wb wr v1 v2 v3 v4 v5 C1 C2 C3) (T : Tn (offO q v1 v2 v3 v4 v5 wb.heap.size) (offO q v1 v2 v3 v4' v5' wb.heap.size) wr w')
    (hs : ∀ b, b < wr.heap.size → (b = wb.heap.size ∨ v1.ownBlock = some b ∨ v2.ownBlock = some b ∨ v3.ownBlock = some b) → w'.heap[b]? = wr.heap[b]?) (hk : Below wb.heap.size wr w') : GoS q wb w' v1 v2 v3 v4' v5' C1 C2 C3 :=
  ⟨h.blk.of_block (hs _ h.blk.lt (Or.inl rfl)), h.c1.turn T (fun b e => hs b (h.c1.lt b e).2 (Or.inr (Or.inl e))), h.c2.turn T (fun b e => hs b (h.c2.lt b e).2 (Or.inr (Or.inr (Or.inl e)))), h.c3.turn T (fun b e => hs b (h.c3.lt b e).2 (Or.inr (Or.inr (Or.inr e)))), h.n12, h.n13, h.n23, h.kp.trans hk⟩
/-- A row of rows grew (it is the fourth or the fifth): what of the lists of lists it leaves. -/
theorem GoS.rows_off {q : Nat → Prop} {wb wr w' : World} {v1 v2 v3 v4 v5 u : Value} {n : Nat} {vs : List Value} {C1 C2 C3 : List (List (List Int))} (h : GoS q wb wr v1 v2 v3 v4 v5 C1 C2 C3) (O : wr.ownsRow (wb.heap.size + 1) 27 1 u n vs) (hG : wr.grownBy w' u.ownBlock) :
    (∀ b, b < wr.heap.size → (b = wb.heap.size ∨ v1.ownBlock = some b ∨ v2.ownBlock = some b ∨ v3.ownBlock = some b) → w'.heap[b]? = wr.heap[b]?) ∧ Below wb.heap.size wr w' := by
  refine ⟨fun b hb hh => hG.block b hb fun e => ?_, ⟨hG.os, hG.tape, hG.output, hG.size, fun b hb => hG.block b (Nat.lt_of_lt_of_le hb h.kp.size) fun e => ?_⟩⟩
  · rcases hh with rfl | q | q | q
    · have := (O.lt _ e.symm).1; omega
    · exact h.c1.ne_rows O b q e.symm
    · exact h.c2.ne_rows O b q e.symm
    · exact h.c3.ne_rows O b q e.symm
  · have := (O.lt _ e.symm).1; omega
/-- The first list of lists grew, and the store. -/
theorem GoS.put1 {q : Nat → Prop} {wb wr w' : World} {v1 v2 v3 v4 v5 v1' : Value} {C1 C2 C3 C1' : List (List (List Int))} (h : GoS q wb wr v1 v2 v3 v4 v5 C1 C2 C3) (mk : ∀ p', Tn (offO q v1 v2 v3 v4 v5 wb.heap.size) p' wr w' → OCu w' (wb.heap.size + 1) p' v1' C1') (hG : wr.grownBy w' v1.ownBlock) (hN : ∀ g, v1'.ownBlock = some g → v1.ownBlock = some g ∨ wr.heap.size ≤ g) :
    GoS q wb (w'.setCell ⟨wb.heap.size, 0, none⟩ v1') v1' v2 v3 v4 v5 C1' C2 C3 ∧ Tn (offO q v1 v2 v3 v4 v5 wb.heap.size) (offO q v1' v2 v3 v4 v5 wb.heap.size) wr (w'.setCell ⟨wb.heap.size, 0, none⟩ v1') := by
  have T1 : Tn (offO q v1 v2 v3 v4 v5 wb.heap.size) (offO q v1' v2 v3 v4 v5 wb.heap.size) wr w' := Tn.app1 hG hN
  have T2 : Tn (offO q v1' v2 v3 v4 v5 wb.heap.size) (offO q v1' v2 v3 v4 v5 wb.heap.size) w' (w'.setCell ⟨wb.heap.size, 0, none⟩ v1') := Tn.set w' 0 v1'
  have M := mk _ T1
  have nb : ∀ {v : Value} {C : List (List (List Int))} {p : Nat → Prop} {W : World}, OCu W (wb.heap.size + 1) p v C → v.ownBlock ≠ some wb.heap.size := fun hO e => by have := (hO.lt _ e).1; omega
  have hbk := h.blk.of_block (hG.block _ h.blk.lt (fun e => nb h.c1 e.symm))
  refine ⟨⟨hbk.set 0 v1', M.turn T2 (fun b e => Below.heap_setCell _ _ _ b (fun e2 => nb M (by have e3 : b = wb.heap.size := e2; rw [← e3]; exact e))), ?_, ?_, fun g e e2 => ?_, fun g e e2 => ?_, h.n23, ?_⟩, T1.trans T2⟩
  · exact h.c2.turn (T1.trans T2) (fun b e => by
      rw [Below.heap_setCell _ _ _ b (fun e2 => nb h.c2 (by have e3 : b = wb.heap.size := e2; rw [← e3]; exact e))]
      exact hG.block b (h.c2.lt b e).2 (fun e2 => h.n12 b e2.symm e))
  · exact h.c3.turn (T1.trans T2) (fun b e => by
      rw [Below.heap_setCell _ _ _ b (fun e2 => nb h.c3 (by have e3 : b = wb.heap.size := e2; rw [← e3]; exact e))]
      exact hG.block b (h.c3.lt b e).2 (fun e2 => h.n13 b e2.symm e))
  · rcases hN g e with a | a
    · exact h.n12 g a e2
    · have := (h.c2.lt g e2).2; omega
  · rcases hN g e with a | a
    · exact h.n13 g a e2
    · have := (h.c3.lt g e2).2; omega
  · refine Below.setCell ?_ (p := ⟨wb.heap.size, 0, none⟩) (Nat.le_refl _) v1'
    exact h.kp.trans ⟨hG.os, hG.tape, hG.output, hG.size, fun b hb => hG.block b (Nat.lt_of_lt_of_le hb h.kp.size) (fun e => by have := (h.c1.lt b e.symm).1; omega)⟩
theorem GoS.put2 {q : Nat → Prop} {wb wr w' : World} {v1 v2 v3 v4 v5 v2' : Value} {C1 C2 C3 C2' : List (List (List Int))} (h : GoS q wb wr v1 v2 v3 v4 v5 C1 C2 C3) (mk : ∀ p', Tn (offO q v1 v2 v3 v4 v5 wb.heap.size) p' wr w' → OCu w' (wb.heap.size + 1) p' v2' C2') (hG : wr.grownBy w' v2.ownBlock) (hN : ∀ g, v2'.ownBlock = some g → v2.ownBlock = some g ∨ wr.heap.size ≤ g) :
    GoS q wb (w'.setCell ⟨wb.heap.size, 1, none⟩ v2') v1 v2' v3 v4 v5 C1 C2' C3 ∧ Tn (offO q v1 v2 v3 v4 v5 wb.heap.size) (offO q v1 v2' v3 v4 v5 wb.heap.size) wr (w'.setCell ⟨wb.heap.size, 1, none⟩ v2') := by
  have T1 : Tn (offO q v1 v2 v3 v4 v5 wb.heap.size) (offO q v1 v2' v3 v4 v5 wb.heap.size) wr w' := Tn.app2 hG hN
  have T2 : Tn (offO q v1 v2' v3 v4 v5 wb.heap.size) (offO q v1 v2' v3 v4 v5 wb.heap.size) w' (w'.setCell ⟨wb.heap.size, 1, none⟩ v2') := Tn.set w' 1 v2'
  have M := mk _ T1
  have nb : ∀ {v : Value} {C : List (List (List Int))} {p : Nat → Prop} {W : World}, OCu W (wb.heap.size + 1) p v C → v.ownBlock ≠ some wb.heap.size := fun hO e => by have := (hO.lt _ e).1; omega
  have hbk := h.blk.of_block (hG.block _ h.blk.lt (fun e => nb h.c2 e.symm))
  refine ⟨⟨hbk.set 1 v2', ?_, M.turn T2 (fun b e => Below.heap_setCell _ _ _ b (fun e2 => nb M (by have e3 : b = wb.heap.size := e2; rw [← e3]; exact e))), ?_, fun g e e2 => ?_, h.n13, fun g e e2 => ?_, ?_⟩, T1.trans T2⟩
  · exact h.c1.turn (T1.trans T2) (fun b e => by
      rw [Below.heap_setCell _ _ _ b (fun e2 => nb h.c1 (by have e3 : b = wb.heap.size := e2; rw [← e3]; exact e))]
      exact hG.block b (h.c1.lt b e).2 (fun e2 => h.n12 b e e2.symm))
  · exact h.c3.turn (T1.trans T2) (fun b e => by
      rw [Below.heap_setCell _ _ _ b (fun e2 => nb h.c3 (by have e3 : b = wb.heap.size := e2; rw [← e3]; exact e))]
      exact hG.block b (h.c3.lt b e).2 (fun e2 => h.n23 b e2.symm e))
  · rcases hN g e2 with a | a
    · exact h.n12 g e a
    · have := (h.c1.lt g e).2; omega
  · rcases hN g e with a | a
    · exact h.n23 g a e2
    · have := (h.c3.lt g e2).2; omega
  · refine Below.setCell ?_ (p := ⟨wb.heap.size, 1, none⟩) (Nat.le_refl _) v2'
    exact h.kp.trans ⟨hG.os, hG.tape, hG.output, hG.size, fun b hb => hG.block b (Nat.lt_of_lt_of_le hb h.kp.size) (fun e => by have := (h.c2.lt b e.symm).1; omega)⟩
theorem GoS.put3 {q : Nat → Prop} {wb wr w' : World} {v1 v2 v3 v4 v5 v3' : Value} {C1 C2 C3 C3' : List (List (List Int))} (h : GoS q wb wr v1 v2 v3 v4 v5 C1 C2 C3) (mk : ∀ p', Tn (offO q v1 v2 v3 v4 v5 wb.heap.size) p' wr w' → OCu w' (wb.heap.size + 1) p' v3' C3') (hG : wr.grownBy w' v3.ownBlock) (hN : ∀ g, v3'.ownBlock = some g → v3.ownBlock = some g ∨ wr.heap.size ≤ g) :
    GoS q wb (w'.setCell ⟨wb.heap.size, 2, none⟩ v3') v1 v2 v3' v4 v5 C1 C2 C3' ∧ Tn (offO q v1 v2 v3 v4 v5 wb.heap.size) (offO q v1 v2 v3' v4 v5 wb.heap.size) wr (w'.setCell ⟨wb.heap.size, 2, none⟩ v3') := by
  have T1 : Tn (offO q v1 v2 v3 v4 v5 wb.heap.size) (offO q v1 v2 v3' v4 v5 wb.heap.size) wr w' := Tn.app3 hG hN
  have T2 : Tn (offO q v1 v2 v3' v4 v5 wb.heap.size) (offO q v1 v2 v3' v4 v5 wb.heap.size) w' (w'.setCell ⟨wb.heap.size, 2, none⟩ v3') := Tn.set w' 2 v3'
  have M := mk _ T1
  have nb : ∀ {v : Value} {C : List (List (List Int))} {p : Nat → Prop} {W : World}, OCu W (wb.heap.size + 1) p v C → v.ownBlock ≠ some wb.heap.size := fun hO e => by have := (hO.lt _ e).1; omega
  have hbk := h.blk.of_block (hG.block _ h.blk.lt (fun e => nb h.c3 e.symm))
  refine ⟨⟨hbk.set 2 v3', ?_, ?_, M.turn T2 (fun b e => Below.heap_setCell _ _ _ b (fun e2 => nb M (by have e3 : b = wb.heap.size := e2; rw [← e3]; exact e))), h.n12, fun g e e2 => ?_, fun g e e2 => ?_, ?_⟩, T1.trans T2⟩
  · exact h.c1.turn (T1.trans T2) (fun b e => by
      rw [Below.heap_setCell _ _ _ b (fun e2 => nb h.c1 (by have e3 : b = wb.heap.size := e2; rw [← e3]; exact e))]
      exact hG.block b (h.c1.lt b e).2 (fun e2 => h.n13 b e e2.symm))
  · exact h.c2.turn (T1.trans T2) (fun b e => by
      rw [Below.heap_setCell _ _ _ b (fun e2 => nb h.c2 (by have e3 : b = wb.heap.size := e2; rw [← e3]; exact e))]
      exact hG.block b (h.c2.lt b e).2 (fun e2 => h.n23 b e e2.symm))
  · rcases hN g e2 with a | a
    · exact h.n13 g e a
    · have := (h.c1.lt g e).2; omega
  · rcases hN g e2 with a | a
    · exact h.n23 g e a
    · have := (h.c2.lt g e).2; omega
  · refine Below.setCell ?_ (p := ⟨wb.heap.size, 2, none⟩) (Nat.le_refl _) v3'
    exact h.kp.trans ⟨hG.os, hG.tape, hG.output, hG.size, fun b hb => hG.block b (Nat.lt_of_lt_of_le hb h.kp.size) (fun e => by have := (h.c3.lt b e.symm).1; omega)⟩
end Go.Proofs.YtlmdjhdlfdandaaDoor

/- At most so many tokens, in memory of one's own. -/
namespace Go.Proofs.YtlmdjhdlfdandaaDoor
open Go.ChangeShapes Go.WideShapes Go.ChangeAt Go.RowKit
theorem IArg.take {w : World} {ao : Option Addr} {n ca : Nat} {A : List Int} (h : IArg w ao n ca A) {m : Nat} (hm : m ≤ n) : IArg w ao m ca (A.take m) := by
  have hl := h.row.len
  have hf := h.fit
  refine ⟨⟨by rw [List.length_take]; omega, by have := h.row.max; omega, fun k => ?_, fun hn => ?_⟩, by omega, h.max, h.nil⟩
  · rcases Nat.lt_or_ge k m with hk | hk
    · rw [el_take hk]; exact h.row.small k
    · rw [el_over (by rw [List.length_take]; omega)]; omega
  · obtain ⟨b, o, e, hc⟩ := h.row.cells (by omega)
    refine ⟨b, o, e, fun t ht => ?_⟩
    rw [el_take ht]
    exact hc t (by omega)
theorem few8_gen (ao : Option Addr) (n ca : Nat) (A Z : List Int) (lim : Nat) (w : World) (hA : IArg w ao n ca A) (hlim : lim ≤ 4096) (hZ : Z = A.take lim) :
   Calls Tryd.prog 6 #[.slice ao n ca, .int .i64 (lim : Int)] w fun e w' => ∃ b c, e = .returned (.slice (some ⟨b, 0, none⟩) Z.length c) ∧ IOwn w' w.heap.size (.slice (some ⟨b, 0, none⟩) Z.length c) Z.length Z ∧ Below w.heap.size w w' := by
  obtain ⟨i0, hi, hz0, hz1, hz2⟩ := info_parts Tryd.infoInt
  have hl := hA.row.len
  have hf := hA.fit
  have hmx := hA.max
  have B0 : Below w.heap.size w (w.alloc (.cells #[] 3)) := (Below.refl _ _).alloc (Nat.le_refl _) _
  have O0 : (w.alloc (.cells #[] 3)).ownsRow w.heap.size 3 1 (.slice (some ⟨w.heap.size, 0, none⟩) 0 0) 0 [] := World.ownsRow_made w #[] 0 (Nat.le_refl _) (by decide) rfl
  have key : ∀ (ao : Option Addr) (m : Nat) (Z' : List Int), IArg w ao m ca Z' → Z' = Z → m ≤ 4096 → ∀ (ops : Array Oper) (rest : List Oper) (o : Oper) (a : Act) (Q : Exit → Act → World → Prop) (s x : Operand), o.guard = none → o.op = .call { callee := .builtin .append, args := #[s, x], argTypes := #[25, 25] } → a.eval s = .slice (some ⟨w.heap.size, 0, none⟩) 0 0 → a.eval x = .slice ao m ca →
      (∀ b c w', IOwn w' w.heap.size (.slice (some ⟨b, 0, none⟩) Z.length c) Z.length Z → Below w.heap.size w w' → wpList Tryd.prog ops Q rest (a.put o.dst (.slice (some ⟨b, 0, none⟩) Z.length c)) w') → wpList Tryd.prog ops Q (o :: rest) a (w.alloc (.cells #[] 3)) := by
    intro ao m Z' hZ' eZ hm ops rest o a Q s x hg ho hs hx hK
    have hlz : Z'.length = m := hZ'.row.len
    cases ao with
    | none =>
      have hc0 := hZ'.nil rfl
      have hm0 : m = 0 := by have := hZ'.fit; omega
      subst hm0
      obtain rfl : Z' = [] := List.length_eq_zero_iff.1 hlz
      rw [hc0] at hx
      refine wpList_append_own_none hg s x 25 ho w.heap.size 3 i0 1 Tryd.underlying25 hi _ 0 [] hs O0 hx ?_
      have := hK w.heap.size 0 _ (by rw [← eZ]; exact O0) B0
      rw [← eZ] at this
      exact this
    | some ad =>
      refine wpList_append_own _ hg s x 25 ho w.heap.size 3 i0 (.int .i64 0) 1 8 Tryd.underlying25 hi hz0 hz1 hz2 rfl (by decide) _ 0 [] hs O0 ad m ca (Z'.map (Value.int .i64)) hx (by simp [hlz]) ((hZ'.row.below B0).vals) (ints_oneCell _ _) (by unfold maxLen; omega) (by omega) (by simp) ?_
      intro v' w' O1 G1 N1
      have hb : Below w.heap.size (w.alloc (.cells #[] 3)) w' := (Below.refl _ _).grown G1 (by simp) (fun k hk => (O0.lt k hk).1)
      rw [Nat.zero_add, List.nil_append] at O1
      have hv : ∃ b c, v' = .slice (some ⟨b, 0, none⟩) m c := by
        rcases O1.2 with ⟨h3, _⟩ | ⟨g, cap, cur, hv, _⟩
        · have := (N1.1 h3).1; cases this
        · exact ⟨_, _, hv⟩
      obtain ⟨b, c, rfl⟩ := hv
      have e : Z.length = m := by rw [← eZ, hlz]
      have := hK b c w' (by rw [e, ← eZ]; exact O1) (B0.trans hb)
      rw [e] at this
      exact this
  have hZl : Z.length ≤ lim := by rw [hZ, List.length_take]; omega
  by_cases h0 : lim < n
  · have hle : (lim : Int) ≤ (ca : Int) := by omega
    have KT := hA.take (m := lim) (by omega)
    rw [← hZ] at KT
    clear hl hA hZ
    go_enter Tryd.func6, Tryd.ntmps6
    go_wp2_with (at_builtin; refine key _ _ _ KT rfl (by omega) _ _ _ _ _ _ _ rfl rfl rfl rfl ?_; intro b c w' O1 B1)
    go_ret
    exact ⟨b, c, rfl, O1, B1⟩
  · have e1 : Hid (A = Z) := by show _ = _; rw [hZ, List.take_of_length_le (by omega)]
    have hn : n ≤ 4096 := by omega
    clear hl hZ
    go_enter Tryd.func6, Tryd.ntmps6
    go_wp2_with (at_builtin; refine key _ _ _ hA e1.out hn _ _ _ _ _ _ _ rfl rfl rfl rfl ?_; intro b c w' O1 B1)
    go_ret
    exact ⟨b, c, rfl, O1, B1⟩
theorem few8_any (ao : Option Addr) (n ca : Nat) (A : List Int) (lim : Nat) (w : World) (hA : IArg w ao n ca A) (hlim : lim ≤ 4096) :
   Calls Tryd.prog 6 #[.slice ao n ca, .int .i64 (lim : Int)] w fun e w' => ∃ b c, e = .returned (.slice (some ⟨b, 0, none⟩) (A.take lim).length c) ∧ IOwn w' w.heap.size (.slice (some ⟨b, 0, none⟩) (A.take lim).length c) (A.take lim).length (A.take lim) ∧ Below w.heap.size w w' := few8_gen ao n ca A _ lim w hA hlim rfl
end Go.Proofs.YtlmdjhdlfdandaaDoor

/- Package step: the first rows of lists. -/
namespace Go.Proofs.YtlmdjhdlfdandaaDoor
open Go.ChangeShapes Go.WideShapes Go.ChangeAt Go.RowKit
theorem rowOf_take9 {R : List (List Int)} {m t : Nat} (h : t < m) : rowOf (R.take m) t = rowOf R t := by
  unfold rowOf
  rw [List.getD_eq_getElem?_getD, List.getD_eq_getElem?_getD, List.getElem?_take_of_lt h]
theorem GridAt.take {w : World} {ao : Option Addr} {n : Nat} {R : List (List Int)} (h : GridAt w ao n R) {m : Nat} (hm : m ≤ n) : GridAt w ao m (R.take m) := by
  have hl := h.len
  have hx := h.max
  refine ⟨by rw [List.length_take]; omega, by omega, fun h0 => ?_⟩
  obtain ⟨b, o, e, hc⟩ := h.cells (by omega)
  refine ⟨b, o, e, fun t ht => ?_⟩
  rw [rowOf_take9 ht]
  exact hc t (by omega)
theorem Lists.cube {w : World} {g m : Nat} {C : List (List (List Int))} (h : Lists w g m m C) (hl : C.length = m) (hm : m ≤ 4096) {B : Nat} (hB : B ≤ g) : New B w (fun w => CubeAt w (some ⟨g, 0, none⟩) m C) := by
  have hlt := h.lt
  obtain ⟨cs, h1, hsz, h3⟩ := h.row
  intro w2 h2
  have hg := (h2 g hB hlt).trans h1
  refine ⟨hl, by omega, fun _ => ⟨g, 0, rfl, fun t R hR => ?_⟩⟩
  have htm : t < m := by rw [← hl]; exact (List.getElem?_eq_some_iff.1 hR).1
  obtain ⟨ro, n, vs, e, h4, N⟩ := h3 t R htm hR
  have GV := N w2 fun b hb hb2 => h2 b (Nat.le_trans (by omega) hb) hb2
  refine ⟨ro, n, n, ?_, h4, Nat.le_refl _, GV.max, GV.grid⟩
  rw [Nat.zero_add]
  unfold World.cell?
  simp only [hg]
  exact e
/-- The view of the first n tokens. -/
def cutV (X : Vw) (n : Nat) : Vw := ⟨X.T.take n, X.K.map (List.take n), X.V.map (List.take n)⟩
end Go.Proofs.YtlmdjhdlfdandaaDoor
