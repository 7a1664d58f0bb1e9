/- Package frame's Why and Place, package wire's Part, of an error around another one. Condition: the library's variable holds the handle of the type error. -/
import Derived.Test.YtmcjcmddijikbaaDoorWrAs2
import Derived.Test.YtmcjcmddijikbaaDoorWrRead
namespace Go.Proofs.YtmcjcmddijikbaaDoor
open Go.ChangeShapes Go.WideShapes Go.ChangeAt Go.RowKit
theorem hushB (w : World) :
    CallsD Tryd.prog 54 #[] .returning w fun e u' w' => e = .returned (.tuple #[]) ∧ u' = .returning ∧ w' = w := by
  refine callsD_of_wpS Tryd.func54 rfl fun c₀ cs hu => ?_
  apply wpS_region
  simp [wpOpsS, go_sem, recoverD, hu, Tryd.ntmps54]
  cases c₀
  simp_all [bodyPostS, results, Tryd.results54]
theorem load_bad {w : World} {g : Nat} {q : Int} {x : Value} (h : Blk w g 58 #[.int .i64 q, x]) : (loadVar 58 ⟨g, 0, none⟩).run Tryd.prog w = .ok (.agg #[.int .i64 q, x]) w :=
  loadB g q x w (h.cell 0 rfl) (h.cell 1 rfl)
theorem Tryd.infoBad : (Tryd.prog.info? 58).map (·.size) = some 2 := by kernel_rfl
set_option maxHeartbeats 1000000 in
theorem findBad_yes (err : Value) (q : Int) (ty : TypeId) (x : Value) (w : World)
    (h : ∀ W tb, Below w.heap.size w W → W.cell? ⟨tb, 0, none⟩ = some (.int .i64 0) → W.cell? ⟨tb, 1, none⟩ = some .nilIface → W.frozen? ⟨tb, 0, none⟩ = false → W.frozen? ⟨tb, 1, none⟩ = false → Calls Tryd.prog 34 #[err, .iface 98 (.pointer (some ⟨tb, 0, none⟩))] W fun e w' => e = .returned (.bool true) ∧ ∃ wx, Below W.heap.size W wx ∧ w' = (wx.setCell ⟨tb, 0, none⟩ (.int .i64 q)).setCell ⟨tb, 1, none⟩ (.iface ty x)) :
    Calls Tryd.prog 35 #[err] w fun e w' => e = .returned (.tuple #[.agg #[.int .i64 q, .iface ty x], .bool true]) ∧ Below w.heap.size w w' := by
  have hmf : ∀ (fn : Fn) (first cap : Array Value) (w : World), (Instr.makeFunc fn first cap).run Tryd.prog w = .ok (.func fn first cap) w := fun _ _ _ _ => rfl
  have X0 := blk_new w 58 #[.int .i64 0, .nilIface]
  have B0 : Below w.heap.size w (w.alloc (.cells #[.int .i64 0, .nilIface] 58)) := below_alloc _ _
  generalize hw0 : w.alloc (.cells #[.int .i64 0, .nilIface] 58) = w0 at *
  have H := h w0 w.heap.size B0 (X0.cell 0 rfl) (X0.cell 1 rfl) (X0.frozen 0) (X0.frozen 1)
  have one : Array.all (#[.int .i64 q, .iface ty x] : Array Value) (fun v => v.oneCell') = true := by simp [Value.oneCell']
  clear h
  go_enter_defers Tryd.func35, Tryd.ntmps35
  go_wp2_with (first
    | (go_at_call 34; refine H.mono ?_; rintro e w1 ⟨rfl, wx, hx, hw1⟩; have X1 : Blk w1 w.heap.size 58 #[.int .i64 q, .iface ty x] := by { rw [hw1]; exact ((X0.next hx).set 0 _).set 1 _ }; have D1 : Below w.heap.size w w1 := by { rw [hw1]; exact ((below_then B0 hx).setCell (by simp) _).setCell (by simp) _ }; clear hw1 hx)
    | (refine wpList_load_row rfl 58 _ rfl w.heap.size rfl 58 #[.int .i64 q, .iface ty x] (0, 0) _ X1 Tryd.underlying58 rfl Tryd.infoBad ?_)
    | (refine wpList_store_row rfl 58 _ _ rfl w.heap.size #[.int .i64 q, .iface ty x] rfl rfl 58 _ X1 Tryd.infoBad rfl one ?_))
  refine leaves_cons (f := 54) (args := #[]) (by simp) (by simp [go_sem]) ?_
  refine (hushB _).mono ?_
  rintro e u' w'' ⟨rfl, rfl, rfl⟩
  have z0 := (X1.row #[.int .i64 q, .iface ty x]).cell 0 (v := .int .i64 q) rfl
  have z1 := (X1.row #[.int .i64 q, .iface ty x]).cell 1 (v := .iface ty x) rfl
  have D2 := below_setRow D1 (Nat.le_refl _) #[.int .i64 q, .iface ty x]
  simp [Leaves, settle, results, Tryd.results35, go_sem, asAddr, z0, z1, Result.andThen]
  exact D2
set_option maxHeartbeats 1000000 in
theorem findBad_no (err : Value) (w : World)
    (h : ∀ W tb, Below w.heap.size w W → W.cell? ⟨tb, 0, none⟩ = some (.int .i64 0) → Calls Tryd.prog 34 #[err, .iface 98 (.pointer (some ⟨tb, 0, none⟩))] W fun e w' => e = .returned (.bool false) ∧ Below W.heap.size W w') :
    Calls Tryd.prog 35 #[err] w fun e w' => e = .returned (.tuple #[.agg #[.int .i64 0, .nilIface], .bool false]) ∧ Below w.heap.size w w' := by
  have hmf : ∀ (fn : Fn) (first cap : Array Value) (w : World), (Instr.makeFunc fn first cap).run Tryd.prog w = .ok (.func fn first cap) w := fun _ _ _ _ => rfl
  have X0 := blk_new w 58 #[.int .i64 0, .nilIface]
  have B0 : Below w.heap.size w (w.alloc (.cells #[.int .i64 0, .nilIface] 58)) := below_alloc _ _
  generalize hw0 : w.alloc (.cells #[.int .i64 0, .nilIface] 58) = w0 at *
  have H := h w0 w.heap.size B0 (X0.cell 0 rfl)
  have one : Array.all (#[.int .i64 0, .nilIface] : Array Value) (fun v => v.oneCell') = true := by simp [Value.oneCell']
  clear h
  go_enter_defers Tryd.func35, Tryd.ntmps35
  go_wp2_with (first
    | (go_at_call 34; refine H.mono ?_; rintro e w1 ⟨rfl, hx⟩; have X1 := X0.next hx; have D1 := below_then B0 hx; clear hx)
    | (refine wpList_load_row rfl 58 _ rfl w.heap.size rfl 58 #[.int .i64 0, .nilIface] (0, 0) _ X1 Tryd.underlying58 rfl Tryd.infoBad ?_)
    | (refine wpList_store_row rfl 58 _ _ rfl w.heap.size #[.int .i64 0, .nilIface] rfl rfl 58 _ X1 Tryd.infoBad rfl one ?_))
  refine leaves_cons (f := 54) (args := #[]) (by simp) (by simp [go_sem]) ?_
  refine (hushB _).mono ?_
  rintro e u' w'' ⟨rfl, rfl, rfl⟩
  have z0 := (X1.row #[.int .i64 0, .nilIface]).cell 0 (v := .int .i64 0) rfl
  have z1 := (X1.row #[.int .i64 0, .nilIface]).cell 1 (v := .nilIface) rfl
  have D2 := below_setRow D1 (Nat.le_refl _) #[.int .i64 0, .nilIface]
  simp [Leaves, settle, results, Tryd.results35, go_sem, asAddr, z0, z1, Result.andThen]
  exact D2
theorem part_yes (err : Value) (q : Int) (ty : TypeId) (x : Value) (w : World)
    (H : Calls Tryd.prog 35 #[err] w fun e w' => e = .returned (.tuple #[.agg #[.int .i64 q, .iface ty x], .bool true]) ∧ Below w.heap.size w w') :
    Calls Tryd.prog 16 #[err] w fun e w' => e = .returned (.int .i64 q) ∧ Below w.heap.size w w' := by
  have one : Array.all (#[.int .i64 q, .iface ty x] : Array Value) (fun v => v.oneCell') = true := by simp [Value.oneCell']
  go_enter Tryd.func16, Tryd.ntmps16
  go_wp2_with (first
    | (go_at_call 35; refine H.mono ?_; rintro e w1 ⟨rfl, B1⟩; have X1 := blk_new w1 58 #[.int .i64 0, .nilIface]; have D1 := below_alloc2 B1 (.cells #[.int .i64 0, .nilIface] 58); generalize hw2 : w1.alloc (.cells #[.int .i64 0, .nilIface] 58) = w2 at *)
    | (refine wpList_store_row rfl 58 _ _ rfl w1.heap.size #[.int .i64 q, .iface ty x] rfl rfl 58 _ X1 Tryd.infoBad rfl one ?_; have X2 := X1.row #[.int .i64 q, .iface ty x]; have D2 := below_setRow D1 B1.size #[.int .i64 q, .iface ty x]; generalize hw3 : w2.setRow w1.heap.size #[.int .i64 q, .iface ty x] = w3 at *; have c0 : w3.cell? ⟨w1.heap.size, 0, none⟩ = some (.int .i64 q) := X2.cell 0 rfl))
  go_ret
  exact ⟨rfl, D2⟩
theorem part_no (err : Value) (w : World)
    (H : Calls Tryd.prog 35 #[err] w fun e w' => e = .returned (.tuple #[.agg #[.int .i64 0, .nilIface], .bool false]) ∧ Below w.heap.size w w') :
    Calls Tryd.prog 16 #[err] w fun e w' => e = .returned (.int .i64 (-1)) ∧ Below w.heap.size w w' := by
  have one : Array.all (#[.int .i64 0, .nilIface] : Array Value) (fun v => v.oneCell') = true := by simp [Value.oneCell']
  go_enter Tryd.func16, Tryd.ntmps16
  go_wp2_with (first
    | (go_at_call 35; refine H.mono ?_; rintro e w1 ⟨rfl, B1⟩; have X1 := blk_new w1 58 #[.int .i64 0, .nilIface]; have D1 := below_alloc2 B1 (.cells #[.int .i64 0, .nilIface] 58); generalize hw2 : w1.alloc (.cells #[.int .i64 0, .nilIface] 58) = w2 at *)
    | (refine wpList_store_row rfl 58 _ _ rfl w1.heap.size #[.int .i64 0, .nilIface] rfl rfl 58 _ X1 Tryd.infoBad rfl one ?_; have D2 := below_setRow D1 B1.size #[.int .i64 0, .nilIface]; generalize hw3 : w2.setRow w1.heap.size #[.int .i64 0, .nilIface] = w3 at *))
  go_ret
  exact ⟨rfl, D2⟩
theorem partBE (q n : Int) (w : World) (hh : Hand w) : Calls Tryd.prog 16 #[eB q (eN n)] w fun e w' => e = .returned (.int .i64 q) ∧ Below w.heap.size w w' :=
  part_yes _ q _ _ w (findBad_yes _ q _ _ w fun W tb hb t0 t1 f0 f1 => (as_BE_B q n tb _ _ W (hh.next hb) t0 t1 f0 f1).mono fun _ _ ⟨he, hw⟩ => ⟨he, _, below_alloc2 (below_alloc2 (below_alloc2 (below_alloc _ _) _) _) _, hw⟩)
theorem partBF (q p n : Int) (w : World) (hh : Hand w) : Calls Tryd.prog 16 #[eB q (eF p n)] w fun e w' => e = .returned (.int .i64 q) ∧ Below w.heap.size w w' :=
  part_yes _ q _ _ w (findBad_yes _ q _ _ w fun W tb hb t0 t1 f0 f1 => (as_BFE_B q p n tb _ _ W (hh.next hb) t0 t1 f0 f1).mono fun _ _ ⟨he, hw⟩ => ⟨he, _, below_alloc2 (below_alloc2 (below_alloc2 (below_alloc _ _) _) _) _, hw⟩)
theorem partF (p n : Int) (w : World) (hh : Hand w) : Calls Tryd.prog 16 #[eF p n] w fun e w' => e = .returned (.int .i64 (-1)) ∧ Below w.heap.size w w' :=
  part_no _ w (findBad_no _ w fun W tb hb t0 => (as_FE_B p n _ _ W (hh.next hb) t0).mono fun _ _ ⟨he, hw⟩ => ⟨he, by rw [hw]; exact below_alloc2 (below_alloc2 (below_alloc2 (below_alloc _ _) _) _) _⟩)
theorem partO (w : World) : Calls Tryd.prog 16 #[.nilIface] w fun e w' => e = .returned (.int .i64 (-1)) ∧ Below w.heap.size w w' :=
  part_no _ w (findBad_no _ w fun W tb _ _ => (as_nil _ W).mono fun _ _ ⟨he, hw⟩ => ⟨he, by rw [hw]; exact Below.refl _ _⟩)
theorem whyInBE (q n : Int) (a b : Addr) (w : World) (hh : Hand w) (ha : w.cell? a = some (eB q (eN n))) (hb : w.cell? b = some (.int .i64 0)) (hf : w.frozen? b = false) :
    Calls Tryd.prog 33 #[.pointer (some a), .pointer (some b)] w fun e w' => e = .returned (.bool true) ∧ ∃ wx, Below w.heap.size w wx ∧ w' = wx.setCell b (.int .i64 n) := by
  go_enter Tryd.func33, Tryd.ntmps33
  go_wp2_with (go_at_call 34; refine (as_BE_E q n b _ _ hh hb hf).mono ?_; rintro e w' ⟨rfl, rfl⟩)
  go_ret
  refine ⟨rfl, _, ?_, rfl⟩
  exact below_alloc2 (below_alloc2 (below_alloc2 (below_alloc2 (below_alloc _ _) _) _) _) _
theorem whyBE (q n : Int) (w : World) (hh : Hand w) :
    Calls Tryd.prog 15 #[eB q (eN n)] w fun e w' => e = .returned (.int .i64 n) ∧ Below w.heap.size w w' := by
  have hmf : ∀ (fn : Fn) (first cap : Array Value) (w : World), (Instr.makeFunc fn first cap).run Tryd.prog w = .ok (.func fn first cap) w := fun _ _ _ _ => rfl
  obtain ⟨w2, hw2⟩ : ∃ w2, w2 = (w.alloc (Obj.cells #[eB q (eN n)] 27)).alloc (Obj.cells #[Value.int .i64 0] 38) := ⟨_, rfl⟩
  have b2 : Below w.heap.size w w2 := by rw [hw2]; exact below_alloc2 (below_alloc _ _) _
  have s2 : w2.heap.size = w.heap.size + 1 + 1 := by rw [hw2]; simp
  have ca : w2.cell? ⟨w.heap.size, 0, none⟩ = some (eB q (eN n)) := by
    rw [hw2, World.cell?_alloc_lt _ _ ⟨w.heap.size, 0, none⟩ (by simp), World.cell?_alloc_at _ _ _ _ (by simp)]; rfl
  have cb : w2.cell? ⟨w.heap.size + 1, 0, none⟩ = some (.int .i64 0) := by rw [hw2, World.cell?_alloc_at _ _ _ _ (by simp)]; rfl
  have fb : w2.frozen? ⟨w.heap.size + 1, 0, none⟩ = false := by rw [hw2, World.frozen?_alloc_at _ _ _ _ (by simp)]
  have HC := askedWhy #[.pointer (some ⟨w.heap.size, 0, none⟩), .pointer (some ⟨w.heap.size + 1, 0, none⟩)] true w2 _ (whyInBE q n ⟨w.heap.size, 0, none⟩ ⟨w.heap.size + 1, 0, none⟩ w2 (hh.next b2) ca cb fb)
  have HW : Hid (w2 = (w.alloc (Obj.cells #[eB q (eN n)] 27)).alloc (Obj.cells #[Value.int .i64 0] 38)) := hw2
  have HX : ∀ wx, Below w2.heap.size w2 wx → (wx.setCell ⟨w.heap.size + 1, 0, none⟩ (.int .i64 n)).cell? ⟨w.heap.size + 1, 0, none⟩ = some (.int .i64 n) := fun wx hx =>
    World.cell?_setCell_same _ _ _ ((hx.cell (p := ⟨w.heap.size + 1, 0, none⟩) (by rw [s2]; simp)).trans cb)
  clear hw2 ca fb
  go_enter Tryd.func15, Tryd.ntmps15
  go_wp2_with (go_at_call 32; rw [← HW.out]; refine HC.mono ?_; rintro e w' ⟨rfl, wx, hx, rfl⟩; have cy := HX wx hx)
  go_ret
  exact ⟨rfl, (b2.trans (hx.mono (by rw [s2]; omega))).setCell (by simp) _⟩
theorem whyInBF (q p n : Int) (a b : Addr) (w : World) (hh : Hand w) (ha : w.cell? a = some (eB q (eF p n))) (hb : w.cell? b = some (.int .i64 0)) (hf : w.frozen? b = false) :
    Calls Tryd.prog 33 #[.pointer (some a), .pointer (some b)] w fun e w' => e = .returned (.bool true) ∧ ∃ wx, Below w.heap.size w wx ∧ w' = wx.setCell b (.int .i64 n) := by
  go_enter Tryd.func33, Tryd.ntmps33
  go_wp2_with (go_at_call 34; refine (as_BFE_E q p n b _ _ hh hb hf).mono ?_; rintro e w' ⟨rfl, rfl⟩)
  go_ret
  refine ⟨rfl, _, ?_, rfl⟩
  exact below_alloc2 (below_alloc2 (below_alloc2 (below_alloc2 (below_alloc2 (below_alloc _ _) _) _) _) _) _
theorem whyBF (q p n : Int) (w : World) (hh : Hand w) :
    Calls Tryd.prog 15 #[eB q (eF p n)] w fun e w' => e = .returned (.int .i64 n) ∧ Below w.heap.size w w' := by
  have hmf : ∀ (fn : Fn) (first cap : Array Value) (w : World), (Instr.makeFunc fn first cap).run Tryd.prog w = .ok (.func fn first cap) w := fun _ _ _ _ => rfl
  obtain ⟨w2, hw2⟩ : ∃ w2, w2 = (w.alloc (Obj.cells #[eB q (eF p n)] 27)).alloc (Obj.cells #[Value.int .i64 0] 38) := ⟨_, rfl⟩
  have b2 : Below w.heap.size w w2 := by rw [hw2]; exact below_alloc2 (below_alloc _ _) _
  have s2 : w2.heap.size = w.heap.size + 1 + 1 := by rw [hw2]; simp
  have ca : w2.cell? ⟨w.heap.size, 0, none⟩ = some (eB q (eF p n)) := by
    rw [hw2, World.cell?_alloc_lt _ _ ⟨w.heap.size, 0, none⟩ (by simp), World.cell?_alloc_at _ _ _ _ (by simp)]; rfl
  have cb : w2.cell? ⟨w.heap.size + 1, 0, none⟩ = some (.int .i64 0) := by rw [hw2, World.cell?_alloc_at _ _ _ _ (by simp)]; rfl
  have fb : w2.frozen? ⟨w.heap.size + 1, 0, none⟩ = false := by rw [hw2, World.frozen?_alloc_at _ _ _ _ (by simp)]
  have HC := askedWhy #[.pointer (some ⟨w.heap.size, 0, none⟩), .pointer (some ⟨w.heap.size + 1, 0, none⟩)] true w2 _ (whyInBF q p n ⟨w.heap.size, 0, none⟩ ⟨w.heap.size + 1, 0, none⟩ w2 (hh.next b2) ca cb fb)
  have HW : Hid (w2 = (w.alloc (Obj.cells #[eB q (eF p n)] 27)).alloc (Obj.cells #[Value.int .i64 0] 38)) := hw2
  have HX : ∀ wx, Below w2.heap.size w2 wx → (wx.setCell ⟨w.heap.size + 1, 0, none⟩ (.int .i64 n)).cell? ⟨w.heap.size + 1, 0, none⟩ = some (.int .i64 n) := fun wx hx =>
    World.cell?_setCell_same _ _ _ ((hx.cell (p := ⟨w.heap.size + 1, 0, none⟩) (by rw [s2]; simp)).trans cb)
  clear hw2 ca fb
  go_enter Tryd.func15, Tryd.ntmps15
  go_wp2_with (go_at_call 32; rw [← HW.out]; refine HC.mono ?_; rintro e w' ⟨rfl, wx, hx, rfl⟩; have cy := HX wx hx)
  go_ret
  exact ⟨rfl, (b2.trans (hx.mono (by rw [s2]; omega))).setCell (by simp) _⟩
theorem placeInBF (q p n : Int) (a : Addr) (g : Nat) (w : World) (hh : Hand w) (ha : w.cell? a = some (eB q (eF p n))) (h0 : w.cell? ⟨g, 0, none⟩ = some (.int .i64 0)) (h1 : w.cell? ⟨g, 1, none⟩ = some (.int .i64 0)) (f0 : w.frozen? ⟨g, 0, none⟩ = false) (f1 : w.frozen? ⟨g, 1, none⟩ = false) :
    Calls Tryd.prog 36 #[.pointer (some a), .pointer (some ⟨g, 0, none⟩)] w fun e w' => e = .returned (.bool true) ∧ ∃ wx, Below w.heap.size w wx ∧ w' = (wx.setCell ⟨g, 0, none⟩ (.int .i64 p)).setCell ⟨g, 1, none⟩ (.int .i64 n) := by
  go_enter Tryd.func36, Tryd.ntmps36
  go_wp2_with (go_at_call 34; refine (as_BFE_F q p n g _ _ _ hh h0 h1 f0 f1).mono ?_; rintro e w' ⟨rfl, rfl⟩)
  go_ret
  refine ⟨rfl, _, ?_, rfl⟩
  exact below_alloc2 (below_alloc2 (below_alloc2 (below_alloc2 (below_alloc _ _) _) _) _) _
theorem placeInBE (q n : Int) (a b : Addr) (w : World) (hh : Hand w) (ha : w.cell? a = some (eB q (eN n))) (v : Value) (hb : w.cell? b = some v) :
    Calls Tryd.prog 36 #[.pointer (some a), .pointer (some b)] w fun e w' => e = .returned (.bool false) ∧ Below w.heap.size w w' := by
  go_enter Tryd.func36, Tryd.ntmps36
  go_wp2_with (go_at_call 34; refine (as_BE_F q n b _ _ hh hb).mono ?_; rintro e w' ⟨rfl, rfl⟩)
  go_ret
  refine ⟨rfl, ?_⟩
  exact below_alloc2 (below_alloc2 (below_alloc2 (below_alloc _ _) _) _) _
theorem placeBE (q n : Int) (w : World) (hh : Hand w) :
    Calls Tryd.prog 17 #[eB q (eN n)] w fun e w' => e = .returned (.int .i64 (-1)) ∧ Below w.heap.size w w' := by
  have hmf : ∀ (fn : Fn) (first cap : Array Value) (w : World), (Instr.makeFunc fn first cap).run Tryd.prog w = .ok (.func fn first cap) w := fun _ _ _ _ => rfl
  obtain ⟨w2, hw2⟩ : ∃ w2, w2 = (w.alloc (Obj.cells #[eB q (eN n)] 27)).alloc (Obj.cells #[Value.int .i64 0, Value.int .i64 0] 56) := ⟨_, rfl⟩
  have b2 : Below w.heap.size w w2 := by rw [hw2]; exact below_alloc2 (below_alloc _ _) _
  have s2 : w2.heap.size = w.heap.size + 1 + 1 := by rw [hw2]; simp
  have ca : w2.cell? ⟨w.heap.size, 0, none⟩ = some (eB q (eN n)) := by
    rw [hw2, World.cell?_alloc_lt _ _ ⟨w.heap.size, 0, none⟩ (by simp), World.cell?_alloc_at _ _ _ _ (by simp)]; rfl
  have cb : w2.cell? ⟨w.heap.size + 1, 0, none⟩ = some (.int .i64 0) := by rw [hw2, World.cell?_alloc_at _ _ _ _ (by simp)]; rfl
  have cb1 : w2.cell? ⟨w.heap.size + 1, 1, none⟩ = some (.int .i64 0) := by rw [hw2, World.cell?_alloc_at _ _ _ _ (by simp)]; rfl
  have fb : w2.frozen? ⟨w.heap.size + 1, 0, none⟩ = false := by rw [hw2, World.frozen?_alloc_at _ _ _ _ (by simp)]
  have fb1 : w2.frozen? ⟨w.heap.size + 1, 1, none⟩ = false := by rw [hw2, World.frozen?_alloc_at _ _ _ _ (by simp)]
  have HC := askedPlace #[.pointer (some ⟨w.heap.size, 0, none⟩), .pointer (some ⟨w.heap.size + 1, 0, none⟩)] false w2 _ (placeInBE q n ⟨w.heap.size, 0, none⟩ ⟨w.heap.size + 1, 0, none⟩ w2 (hh.next b2) ca _ cb)
  have HW : Hid (w2 = (w.alloc (Obj.cells #[eB q (eN n)] 27)).alloc (Obj.cells #[Value.int .i64 0, Value.int .i64 0] 56)) := hw2
  have HX : ∀ wx, Below w2.heap.size w2 wx → ((wx.setCell ⟨w.heap.size + 1, 0, none⟩ (.int .i64 0)).setCell ⟨w.heap.size + 1, 1, none⟩ (.int .i64 0)).cell? ⟨w.heap.size + 1, 0, none⟩ = some (.int .i64 0) := fun wx hx => by
    rw [World.cell?_setCell_other _ _ _ _ (by simp)]
    exact World.cell?_setCell_same _ _ _ ((hx.cell (p := ⟨w.heap.size + 1, 0, none⟩) (by rw [s2]; simp)).trans cb)
  clear hw2 ca fb fb1 cb HX cb1
  go_enter Tryd.func17, Tryd.ntmps17
  go_wp2_with (go_at_call 32; rw [← HW.out]; refine HC.mono ?_; rintro e w' ⟨rfl, hx⟩)
  go_ret
  exact ⟨rfl, b2.trans (hx.mono (by rw [s2]; omega))⟩
theorem placeBF (q p n : Int) (w : World) (hh : Hand w) :
    Calls Tryd.prog 17 #[eB q (eF p n)] w fun e w' => e = .returned (.int .i64 p) ∧ Below w.heap.size w w' := by
  have hmf : ∀ (fn : Fn) (first cap : Array Value) (w : World), (Instr.makeFunc fn first cap).run Tryd.prog w = .ok (.func fn first cap) w := fun _ _ _ _ => rfl
  obtain ⟨w2, hw2⟩ : ∃ w2, w2 = (w.alloc (Obj.cells #[eB q (eF p n)] 27)).alloc (Obj.cells #[Value.int .i64 0, Value.int .i64 0] 56) := ⟨_, rfl⟩
  have b2 : Below w.heap.size w w2 := by rw [hw2]; exact below_alloc2 (below_alloc _ _) _
  have s2 : w2.heap.size = w.heap.size + 1 + 1 := by rw [hw2]; simp
  have ca : w2.cell? ⟨w.heap.size, 0, none⟩ = some (eB q (eF p n)) := by
    rw [hw2, World.cell?_alloc_lt _ _ ⟨w.heap.size, 0, none⟩ (by simp), World.cell?_alloc_at _ _ _ _ (by simp)]; rfl
  have cb : w2.cell? ⟨w.heap.size + 1, 0, none⟩ = some (.int .i64 0) := by rw [hw2, World.cell?_alloc_at _ _ _ _ (by simp)]; rfl
  have cb1 : w2.cell? ⟨w.heap.size + 1, 1, none⟩ = some (.int .i64 0) := by rw [hw2, World.cell?_alloc_at _ _ _ _ (by simp)]; rfl
  have fb : w2.frozen? ⟨w.heap.size + 1, 0, none⟩ = false := by rw [hw2, World.frozen?_alloc_at _ _ _ _ (by simp)]
  have fb1 : w2.frozen? ⟨w.heap.size + 1, 1, none⟩ = false := by rw [hw2, World.frozen?_alloc_at _ _ _ _ (by simp)]
  have HC := askedPlace #[.pointer (some ⟨w.heap.size, 0, none⟩), .pointer (some ⟨w.heap.size + 1, 0, none⟩)] true w2 _ (placeInBF q p n ⟨w.heap.size, 0, none⟩ (w.heap.size + 1) w2 (hh.next b2) ca cb cb1 fb fb1)
  have HW : Hid (w2 = (w.alloc (Obj.cells #[eB q (eF p n)] 27)).alloc (Obj.cells #[Value.int .i64 0, Value.int .i64 0] 56)) := hw2
  have HX : ∀ wx, Below w2.heap.size w2 wx → ((wx.setCell ⟨w.heap.size + 1, 0, none⟩ (.int .i64 p)).setCell ⟨w.heap.size + 1, 1, none⟩ (.int .i64 n)).cell? ⟨w.heap.size + 1, 0, none⟩ = some (.int .i64 p) := fun wx hx => by
    rw [World.cell?_setCell_other _ _ _ _ (by simp)]
    exact World.cell?_setCell_same _ _ _ ((hx.cell (p := ⟨w.heap.size + 1, 0, none⟩) (by rw [s2]; simp)).trans cb)
  clear hw2 ca fb fb1 cb1
  go_enter Tryd.func17, Tryd.ntmps17
  go_wp2_with (go_at_call 32; rw [← HW.out]; refine HC.mono ?_; rintro e w' ⟨rfl, wx, hx, rfl⟩; have cy := HX wx hx)
  go_ret
  exact ⟨rfl, ((b2.trans (hx.mono (by rw [s2]; omega))).setCell (by simp) _).setCell (by simp) _⟩
end Go.Proofs.YtmcjcmddijikbaaDoor
