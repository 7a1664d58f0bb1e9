/- Package frame's Why and Place: of no error, of a number, of a fault. Condition: the library's variable holds the handle of the type error. -/
import Derived.Test.YtmcjcmddijikbaaDoorFWhy
namespace Go.Proofs.YtmcjcmddijikbaaDoor
open Go.ChangeShapes Go.WideShapes Go.ChangeAt Go.RowKit
/-- The library's variable holds the handle of the type error. -/
def Hand (w : World) : Prop := w.cell? ⟨0, 0, none⟩ = some (.iface 113 (.agg #[hd 27]))
theorem Hand.lt {w : World} (h : Hand w) : 0 < w.heap.size := by
  rcases Nat.lt_or_ge 0 w.heap.size with k | k
  · exact k
  · simp [Hand, World.cell?, Array.getElem?_eq_none k] at h
theorem Hand.next {w w' : World} (h : Hand w) (hb : Below w.heap.size w w') : Hand w' := by
  unfold Hand
  rw [hb.cell h.lt]
  exact h
abbrev eN (n : Int) : Value := .iface 38 (.int .i64 n)
abbrev eF (p n : Int) : Value := .iface 56 (.agg #[.int .i64 p, .int .i64 n])
theorem below_alloc (w : World) (o : Obj) : Below w.heap.size w (w.alloc o) := (Below.refl _ w).alloc (Nat.le_refl _) o
theorem below_alloc2 {w v : World} (h : Below w.heap.size w v) (o : Obj) : Below w.heap.size w (v.alloc o) := h.alloc h.size o
theorem cell_lt {w : World} {a : Addr} {v : Value} (h : w.cell? a = some v) : a.block < w.heap.size := by
  rcases Nat.lt_or_ge a.block w.heap.size with k | k
  · exact k
  · simp [World.cell?, Array.getElem?_eq_none k] at h
theorem whyInN (n : Int) (a b : Addr) (w : World) (hh : Hand w) (ha : w.cell? a = some (eN n)) (hb : w.cell? b = some (.int .i64 0)) (hf : w.frozen? b = false) :
    Calls Tryd.prog 33 #[.pointer (some a), .pointer (some b)] w fun e w' => e = .returned (.bool true) ∧ ∃ wx, Below w.heap.size w wx ∧ w' = wx.setCell b (.int .i64 n) := by
  go_enter Tryd.func33, Tryd.ntmps33
  go_wp2_with (go_at_call 34; refine (asEE n b _ _ hh hb hf).mono ?_; rintro e w' ⟨rfl, rfl⟩)
  go_ret
  refine ⟨rfl, _, ?_, rfl⟩
  exact below_alloc2 (below_alloc2 (below_alloc2 (below_alloc _ _) _) _) _
theorem whyN (n : Int) (w : World) (hh : Hand w) :
    Calls Tryd.prog 15 #[eN n] w fun e w' => e = .returned (.int .i64 n) ∧ Below w.heap.size w w' := by
  have hmf : ∀ (fn : Fn) (first cap : Array Value) (w : World), (Instr.makeFunc fn first cap).run Tryd.prog w = .ok (.func fn first cap) w := fun _ _ _ _ => rfl
  obtain ⟨w2, hw2⟩ : ∃ w2, w2 = (w.alloc (Obj.cells #[eN n] 27)).alloc (Obj.cells #[Value.int .i64 0] 38) := ⟨_, rfl⟩
  have b2 : Below w.heap.size w w2 := by rw [hw2]; exact below_alloc2 (below_alloc _ _) _
  have s2 : w2.heap.size = w.heap.size + 1 + 1 := by rw [hw2]; simp
  have ca : w2.cell? ⟨w.heap.size, 0, none⟩ = some (eN n) := by
    rw [hw2, World.cell?_alloc_lt _ _ ⟨w.heap.size, 0, none⟩ (by simp), World.cell?_alloc_at _ _ _ _ (by simp)]; rfl
  have cb : w2.cell? ⟨w.heap.size + 1, 0, none⟩ = some (.int .i64 0) := by rw [hw2, World.cell?_alloc_at _ _ _ _ (by simp)]; rfl
  have fb : w2.frozen? ⟨w.heap.size + 1, 0, none⟩ = false := by rw [hw2, World.frozen?_alloc_at _ _ _ _ (by simp)]
  have HC := askedWhy #[.pointer (some ⟨w.heap.size, 0, none⟩), .pointer (some ⟨w.heap.size + 1, 0, none⟩)] true w2 _ (whyInN n ⟨w.heap.size, 0, none⟩ ⟨w.heap.size + 1, 0, none⟩ w2 (hh.next b2) ca cb fb)
  have HW : Hid (w2 = (w.alloc (Obj.cells #[eN n] 27)).alloc (Obj.cells #[Value.int .i64 0] 38)) := hw2
  have HX : ∀ wx, Below w2.heap.size w2 wx → (wx.setCell ⟨w.heap.size + 1, 0, none⟩ (.int .i64 n)).cell? ⟨w.heap.size + 1, 0, none⟩ = some (.int .i64 n) := fun wx hx =>
    World.cell?_setCell_same _ _ _ ((hx.cell (p := ⟨w.heap.size + 1, 0, none⟩) (by rw [s2]; simp)).trans cb)
  clear hw2 ca fb
  go_enter Tryd.func15, Tryd.ntmps15
  go_wp2_with (go_at_call 32; rw [← HW.out]; refine HC.mono ?_; rintro e w' ⟨rfl, wx, hx, rfl⟩; have cy := HX wx hx)
  go_ret
  exact ⟨rfl, (b2.trans (hx.mono (by rw [s2]; omega))).setCell (by simp) _⟩
theorem whyInF (p n : Int) (a b : Addr) (w : World) (hh : Hand w) (ha : w.cell? a = some (eF p n)) (hb : w.cell? b = some (.int .i64 0)) (hf : w.frozen? b = false) :
    Calls Tryd.prog 33 #[.pointer (some a), .pointer (some b)] w fun e w' => e = .returned (.bool true) ∧ ∃ wx, Below w.heap.size w wx ∧ w' = wx.setCell b (.int .i64 n) := by
  go_enter Tryd.func33, Tryd.ntmps33
  go_wp2_with (go_at_call 34; refine (asFE p n b _ _ hh hb hf).mono ?_; rintro e w' ⟨rfl, rfl⟩)
  go_ret
  refine ⟨rfl, _, ?_, rfl⟩
  exact below_alloc2 (below_alloc2 (below_alloc2 (below_alloc2 (below_alloc _ _) _) _) _) _
theorem whyF (p n : Int) (w : World) (hh : Hand w) :
    Calls Tryd.prog 15 #[eF p n] w fun e w' => e = .returned (.int .i64 n) ∧ Below w.heap.size w w' := by
  have hmf : ∀ (fn : Fn) (first cap : Array Value) (w : World), (Instr.makeFunc fn first cap).run Tryd.prog w = .ok (.func fn first cap) w := fun _ _ _ _ => rfl
  obtain ⟨w2, hw2⟩ : ∃ w2, w2 = (w.alloc (Obj.cells #[eF p n] 27)).alloc (Obj.cells #[Value.int .i64 0] 38) := ⟨_, rfl⟩
  have b2 : Below w.heap.size w w2 := by rw [hw2]; exact below_alloc2 (below_alloc _ _) _
  have s2 : w2.heap.size = w.heap.size + 1 + 1 := by rw [hw2]; simp
  have ca : w2.cell? ⟨w.heap.size, 0, none⟩ = some (eF p n) := by
    rw [hw2, World.cell?_alloc_lt _ _ ⟨w.heap.size, 0, none⟩ (by simp), World.cell?_alloc_at _ _ _ _ (by simp)]; rfl
  have cb : w2.cell? ⟨w.heap.size + 1, 0, none⟩ = some (.int .i64 0) := by rw [hw2, World.cell?_alloc_at _ _ _ _ (by simp)]; rfl
  have fb : w2.frozen? ⟨w.heap.size + 1, 0, none⟩ = false := by rw [hw2, World.frozen?_alloc_at _ _ _ _ (by simp)]
  have HC := askedWhy #[.pointer (some ⟨w.heap.size, 0, none⟩), .pointer (some ⟨w.heap.size + 1, 0, none⟩)] true w2 _ (whyInF p n ⟨w.heap.size, 0, none⟩ ⟨w.heap.size + 1, 0, none⟩ w2 (hh.next b2) ca cb fb)
  have HW : Hid (w2 = (w.alloc (Obj.cells #[eF p n] 27)).alloc (Obj.cells #[Value.int .i64 0] 38)) := hw2
  have HX : ∀ wx, Below w2.heap.size w2 wx → (wx.setCell ⟨w.heap.size + 1, 0, none⟩ (.int .i64 n)).cell? ⟨w.heap.size + 1, 0, none⟩ = some (.int .i64 n) := fun wx hx =>
    World.cell?_setCell_same _ _ _ ((hx.cell (p := ⟨w.heap.size + 1, 0, none⟩) (by rw [s2]; simp)).trans cb)
  clear hw2 ca fb
  go_enter Tryd.func15, Tryd.ntmps15
  go_wp2_with (go_at_call 32; rw [← HW.out]; refine HC.mono ?_; rintro e w' ⟨rfl, wx, hx, rfl⟩; have cy := HX wx hx)
  go_ret
  exact ⟨rfl, (b2.trans (hx.mono (by rw [s2]; omega))).setCell (by simp) _⟩
theorem whyO (w : World) : Calls Tryd.prog 15 #[.nilIface] w fun e w' => e = .returned (.int .i64 0) ∧ Below w.heap.size w w' := by
  have hb := below_alloc w (Obj.cells #[Value.nilIface] 27)
  go_enter Tryd.func15, Tryd.ntmps15
  go_wp2_with fail
  go_ret
  exact ⟨rfl, hb⟩
theorem placeInF (p n : Int) (a : Addr) (g : Nat) (w : World) (hh : Hand w) (ha : w.cell? a = some (eF p n)) (h0 : w.cell? ⟨g, 0, none⟩ = some (.int .i64 0)) (h1 : w.cell? ⟨g, 1, none⟩ = some (.int .i64 0)) (f0 : w.frozen? ⟨g, 0, none⟩ = false) (f1 : w.frozen? ⟨g, 1, none⟩ = false) :
    Calls Tryd.prog 36 #[.pointer (some a), .pointer (some ⟨g, 0, none⟩)] w fun e w' => e = .returned (.bool true) ∧ ∃ wx, Below w.heap.size w wx ∧ w' = (wx.setCell ⟨g, 0, none⟩ (.int .i64 p)).setCell ⟨g, 1, none⟩ (.int .i64 n) := by
  go_enter Tryd.func36, Tryd.ntmps36
  go_wp2_with (go_at_call 34; refine (asFF p n g _ _ _ hh h0 h1 f0 f1).mono ?_; rintro e w' ⟨rfl, rfl⟩)
  go_ret
  refine ⟨rfl, _, ?_, rfl⟩
  exact below_alloc2 (below_alloc2 (below_alloc2 (below_alloc _ _) _) _) _
theorem placeInN (n : Int) (a b : Addr) (w : World) (hh : Hand w) (ha : w.cell? a = some (eN n)) (v : Value) (hb : w.cell? b = some v) :
    Calls Tryd.prog 36 #[.pointer (some a), .pointer (some b)] w fun e w' => e = .returned (.bool false) ∧ Below w.heap.size w w' := by
  go_enter Tryd.func36, Tryd.ntmps36
  go_wp2_with (go_at_call 34; refine (asEF n b _ _ hh hb).mono ?_; rintro e w' ⟨rfl, rfl⟩)
  go_ret
  refine ⟨rfl, ?_⟩

  exact below_alloc2 (below_alloc2 (below_alloc _ _) _) _
theorem placeInO (a : Addr) (b : Value) (w : World) (ha : w.cell? a = some .nilIface) :
    Calls Tryd.prog 36 #[.pointer (some a), b] w fun e w' => e = .returned (.bool false) ∧ Below w.heap.size w w' := by
  go_enter Tryd.func36, Tryd.ntmps36
  go_wp2_with (go_at_call 34; refine (as_nil _ _).mono ?_; rintro e w' ⟨rfl, rfl⟩)
  go_ret
  exact ⟨rfl, Below.refl _ _⟩
theorem placeO (w : World) :
    Calls Tryd.prog 17 #[Value.nilIface] w fun e w' => e = .returned (.int .i64 (-1)) ∧ Below w.heap.size w w' := by
  have hmf : ∀ (fn : Fn) (first cap : Array Value) (w : World), (Instr.makeFunc fn first cap).run Tryd.prog w = .ok (.func fn first cap) w := fun _ _ _ _ => rfl
  obtain ⟨w2, hw2⟩ : ∃ w2, w2 = (w.alloc (Obj.cells #[Value.nilIface] 27)).alloc (Obj.cells #[Value.int .i64 0, Value.int .i64 0] 56) := ⟨_, rfl⟩
  have b2 : Below w.heap.size w w2 := by rw [hw2]; exact below_alloc2 (below_alloc _ _) _
  have s2 : w2.heap.size = w.heap.size + 1 + 1 := by rw [hw2]; simp
  have ca : w2.cell? ⟨w.heap.size, 0, none⟩ = some (Value.nilIface) := by
    rw [hw2, World.cell?_alloc_lt _ _ ⟨w.heap.size, 0, none⟩ (by simp), World.cell?_alloc_at _ _ _ _ (by simp)]; rfl
  have cb : w2.cell? ⟨w.heap.size + 1, 0, none⟩ = some (.int .i64 0) := by rw [hw2, World.cell?_alloc_at _ _ _ _ (by simp)]; rfl
  have cb1 : w2.cell? ⟨w.heap.size + 1, 1, none⟩ = some (.int .i64 0) := by rw [hw2, World.cell?_alloc_at _ _ _ _ (by simp)]; rfl
  have fb : w2.frozen? ⟨w.heap.size + 1, 0, none⟩ = false := by rw [hw2, World.frozen?_alloc_at _ _ _ _ (by simp)]
  have fb1 : w2.frozen? ⟨w.heap.size + 1, 1, none⟩ = false := by rw [hw2, World.frozen?_alloc_at _ _ _ _ (by simp)]
  have HC := askedPlace #[.pointer (some ⟨w.heap.size, 0, none⟩), .pointer (some ⟨w.heap.size + 1, 0, none⟩)] false w2 _ (placeInO ⟨w.heap.size, 0, none⟩ _ w2 ca)
  have HW : Hid (w2 = (w.alloc (Obj.cells #[Value.nilIface] 27)).alloc (Obj.cells #[Value.int .i64 0, Value.int .i64 0] 56)) := hw2
  have HX : ∀ wx, Below w2.heap.size w2 wx → ((wx.setCell ⟨w.heap.size + 1, 0, none⟩ (.int .i64 0)).setCell ⟨w.heap.size + 1, 1, none⟩ (.int .i64 0)).cell? ⟨w.heap.size + 1, 0, none⟩ = some (.int .i64 0) := fun wx hx => by
    rw [World.cell?_setCell_other _ _ _ _ (by simp)]
    exact World.cell?_setCell_same _ _ _ ((hx.cell (p := ⟨w.heap.size + 1, 0, none⟩) (by rw [s2]; simp)).trans cb)
  clear hw2 ca fb fb1 cb HX cb1
  go_enter Tryd.func17, Tryd.ntmps17
  go_wp2_with (go_at_call 32; rw [← HW.out]; refine HC.mono ?_; rintro e w' ⟨rfl, hx⟩)
  go_ret
  exact ⟨rfl, b2.trans (hx.mono (by rw [s2]; omega))⟩
theorem placeN (n : Int) (w : World) (hh : Hand w) :
    Calls Tryd.prog 17 #[eN n] w fun e w' => e = .returned (.int .i64 (-1)) ∧ Below w.heap.size w w' := by
  have hmf : ∀ (fn : Fn) (first cap : Array Value) (w : World), (Instr.makeFunc fn first cap).run Tryd.prog w = .ok (.func fn first cap) w := fun _ _ _ _ => rfl
  obtain ⟨w2, hw2⟩ : ∃ w2, w2 = (w.alloc (Obj.cells #[eN n] 27)).alloc (Obj.cells #[Value.int .i64 0, Value.int .i64 0] 56) := ⟨_, rfl⟩
  have b2 : Below w.heap.size w w2 := by rw [hw2]; exact below_alloc2 (below_alloc _ _) _
  have s2 : w2.heap.size = w.heap.size + 1 + 1 := by rw [hw2]; simp
  have ca : w2.cell? ⟨w.heap.size, 0, none⟩ = some (eN n) := by
    rw [hw2, World.cell?_alloc_lt _ _ ⟨w.heap.size, 0, none⟩ (by simp), World.cell?_alloc_at _ _ _ _ (by simp)]; rfl
  have cb : w2.cell? ⟨w.heap.size + 1, 0, none⟩ = some (.int .i64 0) := by rw [hw2, World.cell?_alloc_at _ _ _ _ (by simp)]; rfl
  have cb1 : w2.cell? ⟨w.heap.size + 1, 1, none⟩ = some (.int .i64 0) := by rw [hw2, World.cell?_alloc_at _ _ _ _ (by simp)]; rfl
  have fb : w2.frozen? ⟨w.heap.size + 1, 0, none⟩ = false := by rw [hw2, World.frozen?_alloc_at _ _ _ _ (by simp)]
  have fb1 : w2.frozen? ⟨w.heap.size + 1, 1, none⟩ = false := by rw [hw2, World.frozen?_alloc_at _ _ _ _ (by simp)]
  have HC := askedPlace #[.pointer (some ⟨w.heap.size, 0, none⟩), .pointer (some ⟨w.heap.size + 1, 0, none⟩)] false w2 _ (placeInN n ⟨w.heap.size, 0, none⟩ ⟨w.heap.size + 1, 0, none⟩ w2 (hh.next b2) ca _ cb)
  have HW : Hid (w2 = (w.alloc (Obj.cells #[eN n] 27)).alloc (Obj.cells #[Value.int .i64 0, Value.int .i64 0] 56)) := hw2
  have HX : ∀ wx, Below w2.heap.size w2 wx → ((wx.setCell ⟨w.heap.size + 1, 0, none⟩ (.int .i64 0)).setCell ⟨w.heap.size + 1, 1, none⟩ (.int .i64 0)).cell? ⟨w.heap.size + 1, 0, none⟩ = some (.int .i64 0) := fun wx hx => by
    rw [World.cell?_setCell_other _ _ _ _ (by simp)]
    exact World.cell?_setCell_same _ _ _ ((hx.cell (p := ⟨w.heap.size + 1, 0, none⟩) (by rw [s2]; simp)).trans cb)
  clear hw2 ca fb fb1 cb HX cb1
  go_enter Tryd.func17, Tryd.ntmps17
  go_wp2_with (go_at_call 32; rw [← HW.out]; refine HC.mono ?_; rintro e w' ⟨rfl, hx⟩)
  go_ret
  exact ⟨rfl, b2.trans (hx.mono (by rw [s2]; omega))⟩
theorem placeF (p n : Int) (w : World) (hh : Hand w) :
    Calls Tryd.prog 17 #[eF p n] w fun e w' => e = .returned (.int .i64 p) ∧ Below w.heap.size w w' := by
  have hmf : ∀ (fn : Fn) (first cap : Array Value) (w : World), (Instr.makeFunc fn first cap).run Tryd.prog w = .ok (.func fn first cap) w := fun _ _ _ _ => rfl
  obtain ⟨w2, hw2⟩ : ∃ w2, w2 = (w.alloc (Obj.cells #[eF p n] 27)).alloc (Obj.cells #[Value.int .i64 0, Value.int .i64 0] 56) := ⟨_, rfl⟩
  have b2 : Below w.heap.size w w2 := by rw [hw2]; exact below_alloc2 (below_alloc _ _) _
  have s2 : w2.heap.size = w.heap.size + 1 + 1 := by rw [hw2]; simp
  have ca : w2.cell? ⟨w.heap.size, 0, none⟩ = some (eF p n) := by
    rw [hw2, World.cell?_alloc_lt _ _ ⟨w.heap.size, 0, none⟩ (by simp), World.cell?_alloc_at _ _ _ _ (by simp)]; rfl
  have cb : w2.cell? ⟨w.heap.size + 1, 0, none⟩ = some (.int .i64 0) := by rw [hw2, World.cell?_alloc_at _ _ _ _ (by simp)]; rfl
  have cb1 : w2.cell? ⟨w.heap.size + 1, 1, none⟩ = some (.int .i64 0) := by rw [hw2, World.cell?_alloc_at _ _ _ _ (by simp)]; rfl
  have fb : w2.frozen? ⟨w.heap.size + 1, 0, none⟩ = false := by rw [hw2, World.frozen?_alloc_at _ _ _ _ (by simp)]
  have fb1 : w2.frozen? ⟨w.heap.size + 1, 1, none⟩ = false := by rw [hw2, World.frozen?_alloc_at _ _ _ _ (by simp)]
  have HC := askedPlace #[.pointer (some ⟨w.heap.size, 0, none⟩), .pointer (some ⟨w.heap.size + 1, 0, none⟩)] true w2 _ (placeInF p n ⟨w.heap.size, 0, none⟩ (w.heap.size + 1) w2 (hh.next b2) ca cb cb1 fb fb1)
  have HW : Hid (w2 = (w.alloc (Obj.cells #[eF p n] 27)).alloc (Obj.cells #[Value.int .i64 0, Value.int .i64 0] 56)) := hw2
  have HX : ∀ wx, Below w2.heap.size w2 wx → ((wx.setCell ⟨w.heap.size + 1, 0, none⟩ (.int .i64 p)).setCell ⟨w.heap.size + 1, 1, none⟩ (.int .i64 n)).cell? ⟨w.heap.size + 1, 0, none⟩ = some (.int .i64 p) := fun wx hx => by
    rw [World.cell?_setCell_other _ _ _ _ (by simp)]
    exact World.cell?_setCell_same _ _ _ ((hx.cell (p := ⟨w.heap.size + 1, 0, none⟩) (by rw [s2]; simp)).trans cb)
  clear hw2 ca fb fb1 cb1
  go_enter Tryd.func17, Tryd.ntmps17
  go_wp2_with (go_at_call 32; rw [← HW.out]; refine HC.mono ?_; rintro e w' ⟨rfl, wx, hx, rfl⟩; have cy := HX wx hx)
  go_ret
  exact ⟨rfl, ((b2.trans (hx.mono (by rw [s2]; omega))).setCell (by simp) _).setCell (by simp) _⟩
end Go.Proofs.YtmcjcmddijikbaaDoor
