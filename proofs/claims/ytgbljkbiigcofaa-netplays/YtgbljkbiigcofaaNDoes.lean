/- A call on a net and on the document's: both go on alike. -/
import Derived.Test.YtgbljkbiigcofaaNRef5
import Derived.Test.YtgbljkbiigcofaaNOrd
import Derived.Test.YtgbljkbiigcofaaNCut2
namespace Go.Proofs.Ytgbljkbiigcofaa
open Go.ChangeShapes Go.WideShapes Go.ChangeAt Go.RowKit
/-- The document's row, apart from the net in b. -/
structure RN (b : Nat) (w : World) (v : Value) (L : List Pc) : Prop where
  row : RRow w 0 v L
  off : ∀ k, v.ownBlock = some k → Beside b w k
theorem RN.turns {b : Nat} {w w' : World} {v : Value} {L : List Pc} (h : RN b w v L) (t : Turns b w w') : RN b w' v L :=
  ⟨PRow.of_block h.row fun g hg => (h.off g hg).same t, fun k hk => (h.off k hk).turns t⟩
theorem RN.below {b : Nat} {w w' : World} {v : Value} {L : List Pc} (h : RN b w v L) (hb : b < w.heap.size) (t : Below w.heap.size w w') : RN b w' v L := h.turns (Turns.of_below t hb)
/-- A row that was laid anew. -/
theorem rn_new {b : Nat} {w w' : World} {v : Value} {L M : List Pc} {lost : Int} (N : NetAt w b M lost) (h : RRow w' w.heap.size v L) (hb : Below w.heap.size w w') : RN b w' v L := by
  refine ⟨PRow.mono h fun _ _ => Nat.zero_le _, fun k hk => ?_⟩
  have h1 := PRow.lt h k hk
  have e := rowBlk_same (hb.block b N.lt)
  have := N.lt
  exact ⟨h1.2, by omega, by rw [e]; intro e2; have := N.row_lt _ e2; omega⟩
/-- A block of one of the document's nets is written. -/
theorem NetAt.put2 {b k : Nat} {w : World} {L : List Pc} {lost : Int} {cs : Array Value} (h : NetAt w b L lost) (hk : Blk w k 28 cs) (x y : Value) : NetAt ((w.setCell ⟨k, 0, none⟩ x).setCell ⟨k, 1, none⟩ y) b L lost := by
  obtain ⟨ao, c, h1, h2, h3⟩ := h.parts
  have hbk : b ≠ k := by
    rintro rfl
    unfold Blk at hk h1
    rw [h1] at hk
    simp at hk
  have hrk := row_ne h2 hk (by decide)
  exact ⟨_, h1.put_n hbk x y, PRow.other (a := ⟨k, 1, none⟩) (PRow.other (a := ⟨k, 0, none⟩) h2 hrk x) hrk y⟩
theorem Turns.put2 {b k : Nat} {w w' : World} (t : Turns b w w') (hb : b < w.heap.size) (hk : w.heap.size ≤ k) (x y : Value) : Turns b w ((w'.setCell ⟨k, 0, none⟩ x).setCell ⟨k, 1, none⟩ y) :=
  (t.late hb (a := ⟨k, 0, none⟩) hk x).late hb (a := ⟨k, 1, none⟩) hk y
theorem RN.put2 {b k : Nat} {w : World} {v : Value} {L M : List Pc} {lost : Int} {cs : Array Value} (h : RN b w v L) (N : NetAt w b M lost) (hk : Blk w k 28 cs) (x y : Value) : RN b ((w.setCell ⟨k, 0, none⟩ x).setCell ⟨k, 1, none⟩ y) v L := by
  have hrk := row_ne h.row hk (by decide)
  have hbk : b ≠ k := by
    rintro rfl
    obtain ⟨ao, c, h1, _, _⟩ := N.parts
    unfold Blk at hk h1
    rw [h1] at hk
    simp at hk
  have e : rowBlk ((w.setCell ⟨k, 0, none⟩ x).setCell ⟨k, 1, none⟩ y) b = rowBlk w b := (rowBlk_same (Below.heap_setCell _ _ _ _ hbk)).trans (rowBlk_same (Below.heap_setCell _ _ _ _ hbk))
  refine ⟨RRow.put_n h.row hrk x y, fun q hq => ?_⟩
  have := h.off q hq
  exact ⟨by simpa [World.setCell] using this.lt, this.ne, by rw [e]; exact this.row⟩
theorem NetAt.drew {b : Nat} {w : World} {L : List Pc} {lost : Int} (h : NetAt w b L lost) : NetAt w.drew b L lost := h.below ((Below.refl _ _).drew)
/-- Both nets, and what is known of them. -/
structure PI (b : Nat) (w : World) (ao : Option Addr) (c : Nat) (L : List Pc) (lost : Int) : Prop where
  net : NetAt w b L lost
  ref : RN b w (.slice ao L.length c) L
  fr : ∀ p ∈ L, p.fr.size ≤ 40
theorem PI.turns {b : Nat} {w w' : World} {ao : Option Addr} {c : Nat} {L : List Pc} {lost : Int} (h : PI b w ao c L lost) (t : Below w.heap.size w w') : PI b w' ao c L lost := ⟨h.net.below t, h.ref.below h.net.lt t, h.fr⟩
theorem PI.put2 {b k : Nat} {w : World} {ao : Option Addr} {c : Nat} {L : List Pc} {lost : Int} {cs : Array Value} (h : PI b w ao c L lost) (hk : Blk w k 28 cs) (x y : Value) : PI b ((w.setCell ⟨k, 0, none⟩ x).setCell ⟨k, 1, none⟩ y) ao c L lost := ⟨h.net.put2 hk x y, h.ref.put2 h.net hk x y, h.fr⟩
theorem PI.set {b k i : Nat} {w : World} {ao : Option Addr} {c : Nat} {L : List Pc} {lost : Int} {cs : Array Value} (h : PI b w ao c L lost) (hk : Blk w k 28 cs) (x : Value) : PI b (w.setCell ⟨k, i, none⟩ x) ao c L lost := by
  obtain ⟨ao1, c1, h1, h2, h3⟩ := h.net.parts
  have hbk : b ≠ k := by
    rintro rfl
    unfold Blk at hk h1
    rw [h1] at hk
    simp at hk
  have hrk := row_ne h2 hk (by decide)
  have hqk := row_ne h.ref.row hk (by decide)
  have e : rowBlk (w.setCell ⟨k, i, none⟩ x) b = rowBlk w b := rowBlk_same (Below.heap_setCell _ _ _ _ hbk)
  refine ⟨⟨_, h1.other (a := ⟨k, i, none⟩) hbk x, PRow.other (a := ⟨k, i, none⟩) h2 hrk x⟩, ⟨PRow.other (a := ⟨k, i, none⟩) h.ref.row hqk x, fun q hq => ?_⟩, h.fr⟩
  have := h.ref.off q hq
  exact ⟨by simpa [World.setCell] using this.lt, this.ne, by rw [e]; exact this.row⟩
theorem PI.at {b : Nat} {w : World} {ao : Option Addr} {c : Nat} {L : List Pc} {lost : Int} (h : PI b w ao c L lost) {j : Nat} (hj : j < L.length) : (pc L j).fr.size ≤ 40 := by
  rw [← pc_get hj]; exact h.fr _ (List.getElem_mem _)
/-- What comes of a call on both. -/
def DR (b : Nat) (w : World) (L : List Pc) (lost : Int) (e : Ending) (w' : World) : Prop :=
  ∃ ao' c' L' lost', e = .returned (.tuple #[.agg #[.slice ao' L'.length c', .int .i64 lost'], .bool true]) ∧ PI b w' ao' c' L' lost' ∧ L'.length ≤ L.length + 1 ∧ 0 ≤ lost' ∧ lost' ≤ lost + 61 ∧ Turns b w w'
/-- The start of a call. -/
structure D0 (b : Nat) (w w0 : World) (ao : Option Addr) (c n : Nat) (lost : Int) (K I T : Int) (F : ByteArray) (X : Int) : Prop where
  bel : Below w.heap.size w w0
  s : w0.heap.size = w.heap.size + 3
  eq : ((w.alloc (.cells #[.slice ao n c, .int .i64 lost] 28)).alloc (.cells #[.int .i64 K, .int .i64 I, .int .i64 T, .string F, .int .u32 X] 35)).alloc (.cells #[.slice none 0 0, .int .i64 0] 28) = w0
  x0 : Blk w0 w.heap.size 28 #[.slice ao n c, .int .i64 lost]
  x1 : Blk w0 (w.heap.size + 1) 35 #[.int .i64 K, .int .i64 I, .int .i64 T, .string F, .int .u32 X]
  x2 : Blk w0 (w.heap.size + 2) 28 #[.slice none 0 0, .int .i64 0]
  off : Beside b w0 w.heap.size ∧ Beside b w0 (w.heap.size + 1) ∧ Beside b w0 (w.heap.size + 2)
theorem d0_any (b : Nat) (w : World) (ao : Option Addr) (c n : Nat) (lost : Int) (K I T : Int) (F : ByteArray) (X : Int) {L : List Pc} {l : Int} (N : NetAt w b L l) : ∃ w0, D0 b w w0 ao c n lost K I T F X := by
  have B1 : Below w.heap.size w (w.alloc (.cells #[.slice ao n c, .int .i64 lost] 28)) := (Below.refl _ _).alloc (Nat.le_refl _) _
  have X0 := blk_new w 28 #[.slice ao n c, .int .i64 lost]
  have s1 : (w.alloc (.cells #[.slice ao n c, .int .i64 lost] 28)).heap.size = w.heap.size + 1 := by simp
  have O0 := beside_new N (.cells #[.slice ao n c, .int .i64 lost] 28)
  have N1 := N.below B1
  generalize e1 : w.alloc (.cells #[.slice ao n c, .int .i64 lost] 28) = w1 at *
  have B2 : Below w1.heap.size w1 (w1.alloc (.cells #[.int .i64 K, .int .i64 I, .int .i64 T, .string F, .int .u32 X] 35)) := (Below.refl _ _).alloc (Nat.le_refl _) _
  have X1 := blk_new w1 35 #[.int .i64 K, .int .i64 I, .int .i64 T, .string F, .int .u32 X]
  have s2 : (w1.alloc (.cells #[.int .i64 K, .int .i64 I, .int .i64 T, .string F, .int .u32 X] 35)).heap.size = w1.heap.size + 1 := by simp
  have O1 := beside_new N1 (.cells #[.int .i64 K, .int .i64 I, .int .i64 T, .string F, .int .u32 X] 35)
  have N2 := N1.below B2
  have O0' := O0.turns (Turns.of_below B2 N1.lt)
  have X0' := X0.below B2 X0.lt
  generalize e2 : w1.alloc (.cells #[.int .i64 K, .int .i64 I, .int .i64 T, .string F, .int .u32 X] 35) = w2 at *
  have B3 : Below w2.heap.size w2 (w2.alloc (.cells #[.slice none 0 0, .int .i64 0] 28)) := (Below.refl _ _).alloc (Nat.le_refl _) _
  have X2 := blk_new w2 28 #[.slice none 0 0, .int .i64 0]
  have s3 : (w2.alloc (.cells #[.slice none 0 0, .int .i64 0] 28)).heap.size = w2.heap.size + 1 := by simp
  have O2 := beside_new N2 (.cells #[.slice none 0 0, .int .i64 0] 28)
  rw [s2, s1] at O2 X2
  rw [s1] at O1 X1
  exact ⟨_, below_then (below_then B1 B2) B3, by omega, by rw [e1, e2], X0'.below B3 X0'.lt, X1.below B3 X1.lt, X2, O0'.turns (Turns.of_below B3 N2.lt), O1.turns (Turns.of_below B3 N2.lt), O2⟩
/-- The boxes of a call, in any world that only the net turned. -/
theorem D0.keep {b : Nat} {w w0 W : World} {ao : Option Addr} {c n : Nat} {lost : Int} {K I T : Int} {F : ByteArray} {X : Int} (h : D0 b w w0 ao c n lost K I T F X) (t : Turns b w0 W) :
    Blk W w.heap.size 28 #[.slice ao n c, .int .i64 lost] ∧ Blk W (w.heap.size + 1) 35 #[.int .i64 K, .int .i64 I, .int .i64 T, .string F, .int .u32 X] ∧ Blk W (w.heap.size + 2) 28 #[.slice none 0 0, .int .i64 0] :=
  ⟨h.x0.of_block (h.off.1.same t), h.x1.of_block (h.off.2.1.same t), h.x2.of_block (h.off.2.2.same t)⟩
set_option maxHeartbeats 1000000 in
theorem does_other (b : Nat) (ao : Option Addr) (c : Nat) (L : List Pc) (lost K I T : Int) (F : ByteArray) (X : Int) (w : World) (h : PI b w ao c L lost) (hq : 0 ≤ lost) (h1 : ¬ K = 1) (h2 : ¬ K = 2) (h3 : ¬ K = 3) (h4 : ¬ K = 4) (h5 : ¬ K = 5) (h6 : ¬ K = 6) :
   Calls Try.prog 9 #[.pointer (some ⟨b, 0, none⟩), .agg #[.slice ao L.length c, .int .i64 lost], .agg #[.int .i64 K, .int .i64 I, .int .i64 T, .string F, .int .u32 X]] w (DR b w L lost) := by
  obtain ⟨w0, D⟩ := d0_any b w ao c L.length lost K I T F X h.net
  have hb := h.net.lt
  have P0 := h.turns D.bel
  have HD : Hid _ := D
  obtain ⟨B0, s0, hw, X0, X1, X2, _⟩ := D
  have HX2 : Hid _ := X2
  have c0 := X0.cell 0 (v := .slice ao L.length c) rfl
  have c1 := X0.cell 1 (v := .int .i64 lost) rfl
  have a0 := X1.cell 0 (v := .int .i64 K) rfl
  have r0 := X2.cell 0 (v := .slice none 0 0) rfl
  have r1 := X2.cell 1 (v := .int .i64 0) rfl
  have f0 := X2.frozen 0
  have f1 := X2.frozen 1
  clear h X0 X1 X2
  generalize hn : L.length = n at *
  go_enter Try.func9, Try.ntmps9
  go_wp2_with fail
  refine bodyPost_ret (results_blk2 rfl _ _ (w.heap.size + 2) _ rfl (load_n (put_n HX2.out) rfl)) rfl ?_
  refine ⟨ao, c, L, lost, by rw [hn]; rfl, P0.put2 HX2.out _ _, by omega, hq, by omega, (Turns.of_below B0 hb).put2 hb (by omega) _ _⟩
end Go.Proofs.Ytgbljkbiigcofaa
