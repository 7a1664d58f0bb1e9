/- The document's net: Send, Take, Move. -/
import Derived.Test.YtgbljkbiigcofaaNRef1
namespace Go.Proofs.Ytgbljkbiigcofaa
open Go.ChangeShapes Go.WideShapes Go.ChangeAt Go.RowKit
theorem load_n {w : World} {g : Nat} {cs : Array Value} (h : Blk w g 28 cs) (hs : cs.size = 2) : (loadVar 28 ⟨g, 0, none⟩).run Try.prog w = .ok (.agg cs) w :=
  run_loadVar_row w g _ _ cs _ _ h Try.underlying28 rfl (by rw [hs]; exact Try.infoRNetS)
theorem load_rp {w : World} {g : Nat} {cs : Array Value} (h : Blk w g 42 cs) (hs : cs.size = 3) : (loadVar 42 ⟨g, 0, none⟩).run Try.prog w = .ok (.agg cs) w :=
  run_loadVar_row w g _ _ cs _ _ h Try.underlying42 rfl (by rw [hs]; exact Try.infoRParcelS)
theorem put_n {w : World} {g : Nat} {x y a b : Value} (h : Blk w g 28 #[x, y]) : Blk ((w.setCell ⟨g, 0, none⟩ a).setCell ⟨g, 1, none⟩ b) g 28 #[a, b] := (h.set 0 a).set 1 b
theorem below_put_n {B g : Nat} {w w' : World} (h : Below B w w') (hg : B ≤ g) (a b : Value) : Below B w ((w'.setCell ⟨g, 0, none⟩ a).setCell ⟨g, 1, none⟩ b) := (h.setCell hg a).setCell hg b
theorem RRow.put_n {w : World} {B g : Nat} {v : Value} {L : List Pc} (h : RRow w B v L) (hg : v.ownBlock ≠ some g) (a b : Value) : RRow ((w.setCell ⟨g, 0, none⟩ a).setCell ⟨g, 1, none⟩ b) B v L :=
  PRow.other (a := ⟨g, 1, none⟩) (PRow.other (a := ⟨g, 0, none⟩) h hg a) hg b
/-- A world with a net in a box, and room for an answer. -/
def W2 (w : World) (v : Value) (lost : Int) : World := (w.alloc (.cells #[v, .int .i64 lost] 28)).alloc (.cells #[.slice none 0 0, .int .i64 0] 28)
theorem W2.x0 (w : World) (v : Value) (lost : Int) : Blk (W2 w v lost) w.heap.size 28 #[v, .int .i64 lost] :=
  (blk_new w 28 #[v, .int .i64 lost]).below ((Below.refl _ _).alloc (Nat.le_refl _) _) (by simp)
theorem W2.x1 (w : World) (v : Value) (lost : Int) : Blk (W2 w v lost) (w.heap.size + 1) 28 #[.slice none 0 0, .int .i64 0] := by
  have h := blk_new (w.alloc (.cells #[v, .int .i64 lost] 28)) 28 #[.slice none 0 0, .int .i64 0]
  have e : (w.alloc (.cells #[v, .int .i64 lost] 28)).heap.size = w.heap.size + 1 := by simp
  rw [e] at h
  exact h
theorem W2.below (w : World) (v : Value) (lost : Int) : Below w.heap.size w (W2 w v lost) := ((Below.refl _ _).alloc (Nat.le_refl _) _).alloc (by simp) _
theorem W2.size (w : World) (v : Value) (lost : Int) : (W2 w v lost).heap.size = w.heap.size + 2 := by unfold W2; simp
theorem rsend_arg (to : Int) (s : ByteArray) (ao : Option Addr) (n c : Nat) (lost : Int) (w : World) (hi : to < 0 ∨ 8 ≤ to) :
   Calls Try.prog 19 #[.agg #[.slice ao n c, .int .i64 lost], .int .i64 to, .string s] w fun e w' => e = .returned (.tuple #[.agg #[.slice ao n c, .int .i64 lost], .int .i64 1]) ∧ Below w.heap.size w w' := by
  have X0 := W2.x0 w (.slice ao n c) lost
  have X1 := W2.x1 w (.slice ao n c) lost
  have B0 := W2.below w (.slice ao n c) lost
  have hw : (w.alloc (.cells #[.slice ao n c, .int .i64 lost] 28)).alloc (.cells #[.slice none 0 0, .int .i64 0] 28) = W2 w (.slice ao n c) lost := rfl
  generalize W2 w (.slice ao n c) lost = w0 at *
  have f0 := X1.frozen 0
  have f1 := X1.frozen 1
  have u0 := X1.cell 0 (v := .slice none 0 0) rfl
  have u1 := X1.cell 1 (v := .int .i64 0) rfl
  have v0 := X0.cell 0 (v := .slice ao n c) rfl
  have v1 := X0.cell 1 (v := .int .i64 lost) rfl
  have hcs : to < 0 ∨ (decide (to < 0) = false ∧ 7 < to) := by
    by_cases h : to < 0
    · exact Or.inl h
    · exact Or.inr ⟨decide_eq_false h, by omega⟩
  clear hi
  rcases hcs with h | ⟨h, h'⟩ <;>
  · go_enter Try.func19, Try.ntmps19
    go_wp2_with fail
    refine bodyPost_ret (results_blk2 rfl _ _ (w.heap.size + 1) _ rfl (load_n (put_n X1) rfl)) rfl ?_
    exact ⟨rfl, below_put_n B0 (by omega) _ _⟩
set_option maxHeartbeats 2000000 in
set_option maxRecDepth 100000 in
theorem rsend_ok (to : Int) (s : ByteArray) (ao : Option Addr) (c : Nat) (L : List Pc) (lost : Int) (w : World) (h : RRow w 0 (.slice ao L.length c) L) (h1 : 0 ≤ to) (h2 : to < 8) (hs : s.size ≤ 65536) (hl : L.length ≤ 255) :
   Calls Try.prog 19 #[.agg #[.slice ao L.length c, .int .i64 lost], .int .i64 to, .string s] w fun e w' => ∃ ao' c', e = .returned (.tuple #[.agg #[.slice ao' (L.length + 1) c', .int .i64 lost], .int .i64 0]) ∧ RRow w' w.heap.size (.slice ao' (L.length + 1) c') (L ++ [⟨to, s, false⟩]) ∧ Below w.heap.size w w' := by
  have X0 := W2.x0 w (.slice ao L.length c) lost
  have X1 := W2.x1 w (.slice ao L.length c) lost
  have B0 := W2.below w (.slice ao L.length c) lost
  have s0 := W2.size w (.slice ao L.length c) lost
  have hw : (w.alloc (.cells #[.slice ao L.length c, .int .i64 lost] 28)).alloc (.cells #[.slice none 0 0, .int .i64 0] 28) = W2 w (.slice ao L.length c) lost := rfl
  generalize W2 w (.slice ao L.length c) lost = w0 at *
  have v0 := X0.cell 0 (v := .slice ao L.length c) rfl
  have hd : decide (to < 0) = false := decide_eq_false (by omega)
  -- behind the empty row
  have B1 : Below w0.heap.size w0 (w0.alloc (.cells #[] 42)) := (Below.refl _ _).alloc (Nat.le_refl _) _
  have R1 := rrow_new w0 (w.heap.size + 2) (by omega)
  rw [s0] at R1
  have U1 := PRow.below h (below_then B0 B1)
  have X01 := X0.below B1 X0.lt
  have v01 := X01.cell 0 (v := .slice ao L.length c) rfl
  have HX : Hid (∀ W, Below (w.heap.size + 2) (w0.alloc (.cells #[] 42)) W → Blk W w.heap.size 28 #[.slice ao L.length c, .int .i64 lost] ∧ Blk W (w.heap.size + 1) 28 #[.slice none 0 0, .int .i64 0]) := fun W hW => ⟨X01.below hW (by omega), (X1.below B1 X1.lt).below hW (by omega)⟩
  have s1 : (w0.alloc (.cells #[] 42)).heap.size = w0.heap.size + 1 := by simp
  generalize hw1 : w0.alloc (.cells #[] 42) = w1 at *
  clear h X0 X1 X01
  generalize hn : L.length = n at *
  go_enter Try.func19, Try.ntmps19
  go_wp2_with first
    | (at_builtin; refine wpList_append_r1 rfl _ _ rfl (w.heap.size + 2) (.slice ao1 n c1) L ⟨to, s, false⟩ w2.heap.size rfl (by first | rfl | simp [Act.eval]) (by exact RA) (by exact XA) (by omega) (by have := BA.size; omega) ?_; intro ao4 c4 w4 R4 B4; rw [hn] at R4 ⊢; have B14 := (B2.trans (BA.mono (by omega))).trans B4; obtain ⟨Y0, Y1⟩ := HX.out w4 B14; have f0 := Y1.frozen 0; have f1 := Y1.frozen 1; have g0 := Y0.frozen 0; have u0 := Y1.cell 0 (v := .slice none 0 0) rfl; have u1 := Y1.cell 1 (v := .int .i64 0) rfl; have y0 := Y0.cell 0 (v := .slice ao n c) rfl; have y1 := Y0.cell 1 (v := .int .i64 lost) rfl)
    | (at_builtin; refine wpList_append_rall rfl _ _ rfl (w.heap.size + 2) (.slice (some ⟨w.heap.size + 2, 0, none⟩) 0 0) (.slice ao n c) L rfl rfl (by exact R1) (by exact U1) (by omega) (by omega) ?_; intro ao1 c1 w2 R2 B2; rw [hn] at R2 ⊢; have XA := blk_new w2 42 #[.int .i64 to, .string s, .bool false]; have BA : Below w2.heap.size w2 (w2.alloc (.cells #[.int .i64 to, .string s, .bool false] 42)) := (Below.refl _ _).alloc (Nat.le_refl _) _; have RA := PRow.below R2 BA; have s2 := B2.size)
  have Y1' := Y1.other (a := ⟨w.heap.size, 0, none⟩) (by show w.heap.size + 1 ≠ w.heap.size; omega) (.slice ao4 (n + 1) c4)
  refine bodyPost_ret (results_blk2 rfl _ _ (w.heap.size + 1) _ rfl (load_n (put_n Y1') rfl)) rfl ?_
  have hne : ∀ g, g < w.heap.size + 2 → (Value.slice ao4 (n + 1) c4).ownBlock ≠ some g := fun g hg e => by have := (PRow.lt R4 g e).1; omega
  refine ⟨ao4, c4, rfl, ?_, ?_⟩
  · refine PRow.mono (B := w.heap.size + 2) (RRow.put_n (PRow.other (a := ⟨w.heap.size, 0, none⟩) R4 (hne w.heap.size (by omega)) _) (hne (w.heap.size + 1) (by omega)) _ _) (fun g hg => ?_)
    have := (PRow.lt R4 g hg).1
    omega
  · exact below_put_n (((below_then B0 B1).trans (B14.mono (by omega))).setCell (p := ⟨w.heap.size, 0, none⟩) (Nat.le_refl _) _) (by omega) _ _
theorem results_blk22 {fn : Func} {p q u : Tmp} {ty ty2 : TypeId} (h : fn.results = #[.cell p ty, .cell q ty2, .tmp u]) (tmps : Array Value) (w : World) (g g2 : Nat) (cs cs2 : Array Value)
    (hp : tmps.getD p undef = .pointer (some ⟨g, 0, none⟩)) (hl : (loadVar ty ⟨g, 0, none⟩).run Try.prog w = .ok (.agg cs) w)
    (hq : tmps.getD q undef = .pointer (some ⟨g2, 0, none⟩)) (hl2 : (loadVar ty2 ⟨g2, 0, none⟩).run Try.prog w = .ok (.agg cs2) w) :
    (results fn tmps).run Try.prog w = .ok (.tuple #[.agg cs, .agg cs2, tmps.getD u undef]) w := by
  have hp' : tmps[p]?.getD undef = .pointer (some ⟨g, 0, none⟩) := by simpa using hp
  have hq' : tmps[q]?.getD undef = .pointer (some ⟨g2, 0, none⟩) := by simpa using hq
  simp [results, h, hp', hq', asAddr, hl, hl2]
/-- And room for a parcel. -/
def W3 (w : World) (v : Value) (lost : Int) : World := (W2 w v lost).alloc (.cells #[.int .i64 0, .string ⟨#[]⟩, .bool false] 42)
theorem W3.to (w : World) (v : Value) (lost : Int) : Below (W2 w v lost).heap.size (W2 w v lost) (W3 w v lost) := (Below.refl _ _).alloc (Nat.le_refl _) _
theorem W3.x0 (w : World) (v : Value) (lost : Int) : Blk (W3 w v lost) w.heap.size 28 #[v, .int .i64 lost] := (W2.x0 w v lost).below (W3.to w v lost) (W2.x0 w v lost).lt
theorem W3.x1 (w : World) (v : Value) (lost : Int) : Blk (W3 w v lost) (w.heap.size + 1) 28 #[.slice none 0 0, .int .i64 0] := (W2.x1 w v lost).below (W3.to w v lost) (W2.x1 w v lost).lt
theorem W3.x2 (w : World) (v : Value) (lost : Int) : Blk (W3 w v lost) (w.heap.size + 2) 42 #[.int .i64 0, .string ⟨#[]⟩, .bool false] := by
  have h := blk_new (W2 w v lost) 42 #[.int .i64 0, .string ⟨#[]⟩, .bool false]
  rw [W2.size] at h
  exact h
theorem W3.below (w : World) (v : Value) (lost : Int) : Below w.heap.size w (W3 w v lost) := below_then (W2.below w v lost) (W3.to w v lost)
theorem W3.size (w : World) (v : Value) (lost : Int) : (W3 w v lost).heap.size = w.heap.size + 3 := by unfold W3; simp [W2.size]
theorem put_rp {w : World} {g : Nat} {x y z a b c : Value} (h : Blk w g 42 #[x, y, z]) : Blk (((w.setCell ⟨g, 0, none⟩ a).setCell ⟨g, 1, none⟩ b).setCell ⟨g, 2, none⟩ c) g 42 #[a, b, c] := ((h.set 0 a).set 1 b).set 2 c
theorem RRow.put3 {w : World} {B g : Nat} {v : Value} {L : List Pc} (h : RRow w B v L) (hg : v.ownBlock ≠ some g) (a b c : Value) : RRow (((w.setCell ⟨g, 0, none⟩ a).setCell ⟨g, 1, none⟩ b).setCell ⟨g, 2, none⟩ c) B v L :=
  PRow.other (a := ⟨g, 2, none⟩) (PRow.other (a := ⟨g, 1, none⟩) (PRow.other (a := ⟨g, 0, none⟩) h hg a) hg b) hg c
theorem Blk.put_n {w : World} {g k : Nat} {T : TypeId} {cs : Array Value} (h : Blk w k T cs) (hg : k ≠ g) (a b : Value) : Blk ((w.setCell ⟨g, 0, none⟩ a).setCell ⟨g, 1, none⟩ b) k T cs := (h.other (a := ⟨g, 0, none⟩) hg a).other (a := ⟨g, 1, none⟩) hg b
theorem Blk.put3 {w : World} {g k : Nat} {T : TypeId} {cs : Array Value} (h : Blk w k T cs) (hg : k ≠ g) (a b c : Value) : Blk (((w.setCell ⟨g, 0, none⟩ a).setCell ⟨g, 1, none⟩ b).setCell ⟨g, 2, none⟩ c) k T cs := ((h.other (a := ⟨g, 0, none⟩) hg a).other (a := ⟨g, 1, none⟩) hg b).other (a := ⟨g, 2, none⟩) hg c
theorem Blk.drew {w : World} {k : Nat} {T : TypeId} {cs : Array Value} (h : Blk w k T cs) : Blk w.drew k T cs := h
theorem RRow.drew {w : World} {B : Nat} {v : Value} {L : List Pc} (h : RRow w B v L) : RRow w.drew B v L := PRow.of_block h fun _ _ => rfl
set_option maxHeartbeats 1000000 in
theorem rtake_none (i : Int) (ao : Option Addr) (n c : Nat) (lost : Int) (w : World) (hi : i < 0 ∨ (n : Int) ≤ i) :
   Calls Try.prog 20 #[.agg #[.slice ao n c, .int .i64 lost], .int .i64 i] w fun e w' => e = .returned (.tuple #[.agg #[.slice ao n c, .int .i64 lost], (default : Pc).val, .int .i64 8]) ∧ Below w.heap.size w w' := by
  have X0 := W3.x0 w (.slice ao n c) lost
  have X1 := W3.x1 w (.slice ao n c) lost
  have X2 := W3.x2 w (.slice ao n c) lost
  have B0 := W3.below w (.slice ao n c) lost
  have s0 := W3.size w (.slice ao n c) lost
  have hw : ((w.alloc (.cells #[.slice ao n c, .int .i64 lost] 28)).alloc (.cells #[.slice none 0 0, .int .i64 0] 28)).alloc (.cells #[.int .i64 0, .string ⟨#[]⟩, .bool false] 42) = W3 w (.slice ao n c) lost := rfl
  generalize W3 w (.slice ao n c) lost = w0 at *
  have C := there_no i n ao c lost w0 hi
  have v0 := X0.cell 0 (v := .slice ao n c) rfl
  have v1 := X0.cell 1 (v := .int .i64 lost) rfl
  have HX : Hid (∀ W, Below w0.heap.size w0 W → Blk W w.heap.size 28 #[.slice ao n c, .int .i64 lost] ∧ Blk W (w.heap.size + 1) 28 #[.slice none 0 0, .int .i64 0] ∧ Blk W (w.heap.size + 2) 42 #[.int .i64 0, .string ⟨#[]⟩, .bool false]) := fun W hW => ⟨X0.below hW X0.lt, X1.below hW X1.lt, X2.below hW X2.lt⟩
  clear hi X0 X1 X2
  go_enter Try.func20, Try.ntmps20
  go_wp2_with (go_at_call 31; refine C.mono ?_; rintro e w2 ⟨rfl, B2⟩; obtain ⟨Y0, Y1, Y2⟩ := HX.out w2 B2; have f0 := Y1.frozen 0; have f1 := Y1.frozen 1; have u0 := Y1.cell 0 (v := .slice none 0 0) rfl; have u1 := Y1.cell 1 (v := .int .i64 0) rfl; have y0 := Y0.cell 0 (v := .slice ao n c) rfl; have y1 := Y0.cell 1 (v := .int .i64 lost) rfl; have g0 := Y2.frozen 0; have g1 := Y2.frozen 1; have g2 := Y2.frozen 2; have t0 := Y2.cell 0 (v := .int .i64 0) rfl; have t1 := Y2.cell 1 (v := .string ⟨#[]⟩) rfl; have t2 := Y2.cell 2 (v := .bool false) rfl)
  refine bodyPost_ret (results_blk22 rfl _ _ (w.heap.size + 1) (w.heap.size + 2) _ _ rfl (load_n ((put_n Y1).put3 (by omega) _ _ _) rfl) rfl (load_rp (put_rp (Y2.put_n (by omega) _ _)) rfl)) rfl ?_
  exact ⟨rfl, below_put_p (below_put_n (below_then B0 B2) (by omega) _ _) (by omega) _ _ _⟩
set_option maxHeartbeats 2000000 in
set_option maxRecDepth 100000 in
theorem rtake_ok (j : Nat) (ao : Option Addr) (c : Nat) (L : List Pc) (lost : Int) (w : World) (h : RRow w 0 (.slice ao L.length c) L) (hj : j < L.length) (hl : L.length ≤ 1000) :
   Calls Try.prog 20 #[.agg #[.slice ao L.length c, .int .i64 lost], .int .i64 (j : Int)] w fun e w' => ∃ ao' c', e = .returned (.tuple #[.agg #[.slice ao' (L.eraseIdx j).length c', .int .i64 lost], (pc L j).val, .int .i64 0]) ∧ RRow w' w.heap.size (.slice ao' (L.eraseIdx j).length c') (L.eraseIdx j) ∧ Below w.heap.size w w' := by
  have X0 := W3.x0 w (.slice ao L.length c) lost
  have X1 := W3.x1 w (.slice ao L.length c) lost
  have X2 := W3.x2 w (.slice ao L.length c) lost
  have B0 := W3.below w (.slice ao L.length c) lost
  have s0 := W3.size w (.slice ao L.length c) lost
  have hw : ((w.alloc (.cells #[.slice ao L.length c, .int .i64 lost] 28)).alloc (.cells #[.slice none 0 0, .int .i64 0] 28)).alloc (.cells #[.int .i64 0, .string ⟨#[]⟩, .bool false] 42) = W3 w (.slice ao L.length c) lost := rfl
  generalize W3 w (.slice ao L.length c) lost = w0 at *
  have C := there_yes j L.length ao c lost w0 hj
  have D := fun W hW => without_any j ao c L W hW hl
  have v0 := X0.cell 0 (v := .slice ao L.length c) rfl
  have v1 := X0.cell 1 (v := .int .i64 lost) rfl
  have HX : Hid (∀ W, Below w0.heap.size w0 W → Blk W w.heap.size 28 #[.slice ao L.length c, .int .i64 lost] ∧ Blk W (w.heap.size + 1) 28 #[.slice none 0 0, .int .i64 0] ∧ Blk W (w.heap.size + 2) 42 #[.int .i64 0, .string ⟨#[]⟩, .bool false] ∧ RRow W 0 (.slice ao L.length c) L) := fun W hW => ⟨X0.below hW X0.lt, X1.below hW X1.lt, X2.below hW X2.lt, PRow.below h (below_then B0 hW)⟩
  obtain ⟨g, cap, e, z1, z2, z3, z4, z5, z6, z7⟩ := PRow.cells h (by omega)
  simp only [Value.slice.injEq, true_and] at e
  obtain ⟨rfl, rfl⟩ := e
  have HP : Hid (∀ W, Below w0.heap.size w0 W → W.cell? ⟨g, j * 3, none⟩ = some (.int .i64 (pc L j).to) ∧ W.cell? ⟨g, j * 3 + 1, none⟩ = some (.string (pc L j).fr) ∧ W.cell? ⟨g, j * 3 + 2, none⟩ = some (.bool (pc L j).tn)) := fun W hW => by
    obtain ⟨g', cap', e, _, _, _, _, _, _, r7⟩ := PRow.cells (HX.out W hW).2.2.2 (by omega)
    simp only [Value.slice.injEq, Option.some.injEq, Addr.mk.injEq, and_true, true_and] at e
    obtain ⟨rfl, rfl⟩ := e
    exact r7 j hj
  clear h X0 X1 X2 z5 z6 z7
  generalize hn : L.length = n at *
  generalize hm : (L.eraseIdx j).length = m at *
  generalize pc L j = p at *
  obtain ⟨pt, pf, pn⟩ := p
  unfold Pc.val
  simp only at HP
  go_enter Try.func20, Try.ntmps20
  go_wp2_with first
    | (go_at_call 31; refine C.mono ?_; rintro e w2 ⟨rfl, B2⟩; obtain ⟨Y0, Y1, Y2, RW⟩ := HX.out w2 B2; obtain ⟨p0, p1, p2⟩ := HP.out w2 B2; have y0 := Y0.cell 0 (v := .slice (some ⟨g, 0, none⟩) n c) rfl; have y1 := Y0.cell 1 (v := .int .i64 lost) rfl; have BA : Below w2.heap.size w2 (w2.alloc (.cells #[.int .i64 pt, .string pf, .bool pn] 42)) := (Below.refl _ _).alloc (Nat.le_refl _) _; have XA := blk_new w2 42 #[.int .i64 pt, .string pf, .bool pn]; have RA := PRow.below RW BA; obtain ⟨Y0', Y1', Y2', _⟩ := HX.out _ (below_then B2 BA); have y0' := Y0'.cell 0 (v := .slice (some ⟨g, 0, none⟩) n c) rfl; have s2 := B2.size)
    | (go_at_call 32; refine (D _ RA).mono ?_; rintro e w3 ⟨ao', c', rfl, R3, B3⟩; have X4 := XA.below B3 XA.lt; obtain ⟨V0, V1, V2, _⟩ := HX.out _ (below_then (below_then B2 BA) B3); have f0 := V1.frozen 0; have f1 := V1.frozen 1; have u0 := V1.cell 0 (v := .slice none 0 0) rfl; have u1 := V1.cell 1 (v := .int .i64 0) rfl; have b0 := V0.cell 0 (v := .slice (some ⟨g, 0, none⟩) n c) rfl; have b1 := V0.cell 1 (v := .int .i64 lost) rfl; have bf := V0.frozen 0; have g0 := V2.frozen 0; have g1 := V2.frozen 1; have g2 := V2.frozen 2; have t0 := V2.cell 0 (v := .int .i64 0) rfl; have t1 := V2.cell 1 (v := .string ⟨#[]⟩) rfl; have t2 := V2.cell 2 (v := .bool false) rfl; have x0 := X4.cell 0 (v := .int .i64 pt) rfl; have x1 := X4.cell 1 (v := .string pf) rfl; have x2 := X4.cell 2 (v := .bool pn) rfl)
  have sA : (w2.alloc (.cells #[.int .i64 pt, .string pf, .bool pn] 42)).heap.size = w2.heap.size + 1 := by simp
  rw [sA] at R3
  have hne : ∀ q, q < w.heap.size + 3 → (Value.slice ao' m c').ownBlock ≠ some q := fun q hq e => by have := (PRow.lt R3 q e).1; omega
  have R4 : RRow (w3.setCell ⟨w.heap.size, 0, none⟩ (.slice ao' m c')) (w2.heap.size + 1) (.slice ao' m c') (L.eraseIdx j) := PRow.other (a := ⟨w.heap.size, 0, none⟩) R3 (hne w.heap.size (by omega)) _
  have V0' : Blk (w3.setCell ⟨w.heap.size, 0, none⟩ (.slice ao' m c')) w.heap.size 28 #[.slice ao' m c', .int .i64 lost] := V0.set 0 _
  have V1' := V1.other (a := ⟨w.heap.size, 0, none⟩) (by show w.heap.size + 1 ≠ w.heap.size; omega) (.slice ao' m c')
  have V2' := V2.other (a := ⟨w.heap.size, 0, none⟩) (by show w.heap.size + 2 ≠ w.heap.size; omega) (.slice ao' m c')
  have X4' := X4.other (a := ⟨w.heap.size, 0, none⟩) (by show w2.heap.size ≠ w.heap.size; omega) (.slice ao' m c')
  have B4 : Below w.heap.size w (w3.setCell ⟨w.heap.size, 0, none⟩ (.slice ao' m c')) := (below_then (below_then (below_then B0 B2) BA) B3).setCell (p := ⟨w.heap.size, 0, none⟩) (Nat.le_refl _) _
  clear f0 f1 u0 u1 b0 b1 bf g0 g1 g2 t0 t1 t2 x0 x1 x2 V0 V1 V2 X4 R3
  generalize w3.setCell ⟨w.heap.size, 0, none⟩ (.slice ao' m c') = w4 at *
  have f0 := V1'.frozen 0
  have f1 := V1'.frozen 1
  have u0 := V1'.cell 0 (v := .slice none 0 0) rfl
  have u1 := V1'.cell 1 (v := .int .i64 0) rfl
  have b0 := V0'.cell 0 (v := .slice ao' m c') rfl
  have b1 := V0'.cell 1 (v := .int .i64 lost) rfl
  have g0 := V2'.frozen 0
  have g1 := V2'.frozen 1
  have g2 := V2'.frozen 2
  have t0 := V2'.cell 0 (v := .int .i64 0) rfl
  have t1 := V2'.cell 1 (v := .string ⟨#[]⟩) rfl
  have t2 := V2'.cell 2 (v := .bool false) rfl
  have x0 := X4'.cell 0 (v := .int .i64 pt) rfl
  have x1 := X4'.cell 1 (v := .string pf) rfl
  have x2 := X4'.cell 2 (v := .bool pn) rfl
  clear y0 y1 y0' p0 p1 p2 v0 v1 RA RW XA Y0 Y1 Y2 Y0' Y1' Y2' BA
  have dne : ¬ w2.heap.size = w.heap.size + 1 := by omega
  have dne2 : ¬ w2.heap.size = w.heap.size + 2 := by omega
  go_region
  all_goals
    go_wp2
    refine bodyPost_ret (results_blk22 rfl _ _ (w.heap.size + 1) (w.heap.size + 2) _ _ rfl (load_n (((put_n V1').put3 (g := w.heap.size + 2) (by omega) _ _ _).drew) rfl) rfl (load_rp ((put_rp (V2'.put_n (g := w.heap.size + 1) (by omega) _ _)).drew) rfl)) rfl ?_
    refine ⟨ao', c', rfl, ?_, (below_put_p (below_put_n B4 (g := w.heap.size + 1) (by omega) _ _) (g := w.heap.size + 2) (by omega) _ _ _).drew⟩
    refine RRow.drew (PRow.mono (B := w2.heap.size + 1) (RRow.put3 (g := w.heap.size + 2) (RRow.put_n (g := w.heap.size + 1) R4 (hne _ (by omega)) _ _) (hne _ (by omega)) _ _ _) (fun q hq => ?_))
    have := (PRow.lt R4 q hq).1
    omega
theorem rmove_none (i : Int) (ao : Option Addr) (n c : Nat) (lost : Int) (w : World) (hi : i < 0 ∨ (n : Int) ≤ i) :
   Calls Try.prog 22 #[.agg #[.slice ao n c, .int .i64 lost], .int .i64 i] w fun e w' => e = .returned (.tuple #[.agg #[.slice ao n c, .int .i64 lost], .int .i64 8]) ∧ Below w.heap.size w w' := by
  have X0 := W2.x0 w (.slice ao n c) lost
  have X1 := W2.x1 w (.slice ao n c) lost
  have B0 := W2.below w (.slice ao n c) lost
  have s0 := W2.size w (.slice ao n c) lost
  have hw : (w.alloc (.cells #[.slice ao n c, .int .i64 lost] 28)).alloc (.cells #[.slice none 0 0, .int .i64 0] 28) = W2 w (.slice ao n c) lost := rfl
  generalize W2 w (.slice ao n c) lost = w0 at *
  have C := rtake_none i ao n c lost w0 hi
  have e0 : (default : Pc).val = .agg #[.int .i64 0, .string ⟨#[]⟩, .bool false] := rfl
  rw [e0] at C
  have v0 := X0.cell 0 (v := .slice ao n c) rfl
  have v1 := X0.cell 1 (v := .int .i64 lost) rfl
  have HX : Hid (∀ W, Below w0.heap.size w0 W → Blk W w.heap.size 28 #[.slice ao n c, .int .i64 lost] ∧ Blk W (w.heap.size + 1) 28 #[.slice none 0 0, .int .i64 0]) := fun W hW => ⟨X0.below hW X0.lt, X1.below hW X1.lt⟩
  clear hi X0 X1 e0
  go_enter Try.func22, Try.ntmps22
  go_wp2_with (go_at_call 20; refine C.mono ?_; rintro e w2 ⟨rfl, B2⟩; have BA : Below w2.heap.size w2 ((w2.alloc (.cells #[.slice ao n c, .int .i64 lost] 28)).alloc (.cells #[.int .i64 0, .string ⟨#[]⟩, .bool false] 42)) := ((Below.refl _ _).alloc (Nat.le_refl _) _).alloc (by simp) _; obtain ⟨Y0, Y1⟩ := HX.out _ (below_then B2 BA); have f0 := Y1.frozen 0; have f1 := Y1.frozen 1; have u0 := Y1.cell 0 (v := .slice none 0 0) rfl; have u1 := Y1.cell 1 (v := .int .i64 0) rfl; have y0 := Y0.cell 0 (v := .slice ao n c) rfl; have y1 := Y0.cell 1 (v := .int .i64 lost) rfl)
  refine bodyPost_ret (results_blk2 rfl _ _ (w.heap.size + 1) _ rfl (load_n (put_n Y1) rfl)) rfl ?_
  exact ⟨rfl, below_put_n (below_then (below_then B0 B2) BA) (by omega) _ _⟩
end Go.Proofs.Ytgbljkbiigcofaa
