/- errors.Is, and package frame's Is: of no error, of a number, of a fault. -/
import Derived.Test.YtmcjcmddijikbaaDoorFWhy2
namespace Go.Proofs.YtmcjcmddijikbaaDoor
open Go.RowKit Go.Extern.Stop Go.Stop Go.Extern
def compX : Array Value → Sem Value := ReflectliteType.method fun t => do Rtype.noPackHeld "Comparable" t; pure (.bool (← typeInfo t).comparable)
theorem compE (w : World) : (compX #[.agg #[hd 38]]).run Tryd.prog w = .ok (.bool true) w := by kernel_rfl
theorem methodComparable (v : Value) (w : World) : (Go.method 255 113 v "Comparable").run Tryd.prog w = .ok (91, v) w := by kernel_rfl
theorem infoComp : (Tryd.prog.info? 38).map (·.comparable) = some true := by kernel_rfl
theorem eqN (n m : Int) (w : World) : (binOp .eql 27 (eN n) (eN m)).run Tryd.prog w = .ok (.bool (decide (n = m))) w := by
  obtain ⟨i, hi, hc⟩ := Option.map_eq_some_iff.1 infoComp
  have h : ∀ d : Nat, (Op.equalIn (d + 2) 27 (eN n) (eN m)).run Tryd.prog w = .ok (decide (n = m)) w := fun d => by
    simp [Op.equalIn, run_underlying Tryd.underlying27, run_underlying Tryd.underlying38, typeInfo, hi, hc]
    try rfl
  simp only [binOp]
  simp [Op.equal, Op.maxDepth, h 9998]
theorem eqF (v : Value) (m : Int) (w : World) : (binOp .eql 27 (.iface 56 v) (eN m)).run Tryd.prog w = .ok (.bool false) w :=
  run_eql_iface_types 56 38 v _ Tryd.underlying27 (by decide) w
theorem noIsE (v : Value) (xT : TypeId) (w : World) : (Instr.typeAssert (.iface 38 v) xT 124 true).run Tryd.prog w = .ok (.tuple #[.nilIface, .bool false]) w := run_typeAssert_lacksB Tryd.underlying124 (by kernel_rfl) (by kernel_rfl) v xT w
theorem noIsF (v : Value) (xT : TypeId) (w : World) : (Instr.typeAssert (.iface 56 v) xT 124 true).run Tryd.prog w = .ok (.tuple #[.nilIface, .bool false]) w := run_typeAssert_lacksB Tryd.underlying124 (by kernel_rfl) (by kernel_rfl) v xT w
theorem is_nil (m : Int) (w : World) : Calls Tryd.prog 45 #[.nilIface, eN m] w fun e w' => e = .returned (.bool false) ∧ w' = w := by
  have hn := run_eql_iface_nil_left (P := Tryd.prog) w 38 (.int .i64 m) Tryd.underlying27
  go_enter Tryd.func45, Tryd.ntmps45
  go_wp2
  go_ret
  exact ⟨rfl, rfl⟩
set_option maxRecDepth 4000 in
theorem isN_same (n : Int) (w : World) :
    Calls Tryd.prog 45 #[eN n, eN n] w fun e w' => e = .returned (.bool true) ∧ w' = w := by
  have h8 := @run_callFunc_extern Tryd.prog 61 _ ReflectliteType.typeOf Tryd.func61 (by kernel_rfl) (by kernel_rfl) (by kernel_rfl) (by kernel_rfl)
  have h32 := @run_callFunc_extern Tryd.prog 91 _ compX Tryd.func91 (by kernel_rfl) (by kernel_rfl) (by kernel_rfl) (by kernel_rfl)
  have ztypeOfE := typeOfE
  have zcompE := compE
  have zmethodComparable := methodComparable
  have zeqN := eqN
  have zeqF := eqF
  have znoIsE := noIsE
  have znoIsF := noIsF
  have znoUnE := noUnE
  have znoUnsE := noUnsE
  have zhasUnF := hasUnF
  have zmethodUnwrap := methodUnwrap
  go_enter Tryd.func45, Tryd.ntmps45
  go_wp2
  refine wp_loop_rounds 1 ?_
  rw [rounds_succ]
  go_wp2
  go_ret
  exact ⟨rfl, rfl⟩
set_option maxRecDepth 4000 in
theorem isN_other (n m : Int) (w : World) (hne : ¬ n = m) :
    Calls Tryd.prog 45 #[eN n, eN m] w fun e w' => e = .returned (.bool false) ∧ w' = w := by
  have h8 := @run_callFunc_extern Tryd.prog 61 _ ReflectliteType.typeOf Tryd.func61 (by kernel_rfl) (by kernel_rfl) (by kernel_rfl) (by kernel_rfl)
  have h32 := @run_callFunc_extern Tryd.prog 91 _ compX Tryd.func91 (by kernel_rfl) (by kernel_rfl) (by kernel_rfl) (by kernel_rfl)
  have ztypeOfE := typeOfE
  have zcompE := compE
  have zmethodComparable := methodComparable
  have zeqN := eqN
  have zeqF := eqF
  have znoIsE := noIsE
  have znoIsF := noIsF
  have znoUnE := noUnE
  have znoUnsE := noUnsE
  have zhasUnF := hasUnF
  have zmethodUnwrap := methodUnwrap
  have hd1 : decide (n = m) = false := decide_eq_false hne
  go_enter Tryd.func45, Tryd.ntmps45
  go_wp2
  refine wp_loop_rounds 1 ?_
  rw [rounds_succ]
  go_wp2
  go_ret
  exact ⟨rfl, rfl⟩
set_option maxRecDepth 4000 in
theorem isF_same (p n : Int) (w : World) :
    Calls Tryd.prog 45 #[eF p n, eN n] w fun e w' => e = .returned (.bool true) ∧ w' = w.alloc (.cells #[.int .i64 p, .int .i64 n] 56) := by
  have h8 := @run_callFunc_extern Tryd.prog 61 _ ReflectliteType.typeOf Tryd.func61 (by kernel_rfl) (by kernel_rfl) (by kernel_rfl) (by kernel_rfl)
  have h32 := @run_callFunc_extern Tryd.prog 91 _ compX Tryd.func91 (by kernel_rfl) (by kernel_rfl) (by kernel_rfl) (by kernel_rfl)
  have ztypeOfE := typeOfE
  have zcompE := compE
  have zmethodComparable := methodComparable
  have zeqN := eqN
  have zeqF := eqF
  have znoIsE := noIsE
  have znoIsF := noIsF
  have znoUnE := noUnE
  have znoUnsE := noUnsE
  have zhasUnF := hasUnF
  have zmethodUnwrap := methodUnwrap
  go_enter Tryd.func45, Tryd.ntmps45
  go_wp2
  refine wp_loop_rounds 2 ?_
  rw [rounds_succ]
  go_wp2
  rw [rounds_succ]
  go_wp2
  go_ret
  exact ⟨rfl, rfl⟩
set_option maxRecDepth 4000 in
theorem isF_other (p n m : Int) (w : World) (hne : ¬ n = m) :
    Calls Tryd.prog 45 #[eF p n, eN m] w fun e w' => e = .returned (.bool false) ∧ w' = w.alloc (.cells #[.int .i64 p, .int .i64 n] 56) := by
  have h8 := @run_callFunc_extern Tryd.prog 61 _ ReflectliteType.typeOf Tryd.func61 (by kernel_rfl) (by kernel_rfl) (by kernel_rfl) (by kernel_rfl)
  have h32 := @run_callFunc_extern Tryd.prog 91 _ compX Tryd.func91 (by kernel_rfl) (by kernel_rfl) (by kernel_rfl) (by kernel_rfl)
  have ztypeOfE := typeOfE
  have zcompE := compE
  have zmethodComparable := methodComparable
  have zeqN := eqN
  have zeqF := eqF
  have znoIsE := noIsE
  have znoIsF := noIsF
  have znoUnE := noUnE
  have znoUnsE := noUnsE
  have zhasUnF := hasUnF
  have zmethodUnwrap := methodUnwrap
  have hd1 : decide (n = m) = false := decide_eq_false hne
  go_enter Tryd.func45, Tryd.ntmps45
  go_wp2
  refine wp_loop_rounds 2 ?_
  rw [rounds_succ]
  go_wp2
  rw [rounds_succ]
  go_wp2
  go_ret
  exact ⟨rfl, rfl⟩
theorem isN_any (n m : Int) (w : World) : Calls Tryd.prog 45 #[eN n, eN m] w fun e w' => e = .returned (.bool (decide (n = m))) ∧ Below w.heap.size w w' := by
  by_cases h : n = m
  · subst h
    exact (isN_same n w).mono fun _ _ ⟨a, b⟩ => ⟨by rw [a]; simp, b ▸ Below.refl _ _⟩
  · exact (isN_other n m w h).mono fun _ _ ⟨a, b⟩ => ⟨by rw [a, decide_eq_false h], b ▸ Below.refl _ _⟩
theorem isF_any (p n m : Int) (w : World) : Calls Tryd.prog 45 #[eF p n, eN m] w fun e w' => e = .returned (.bool (decide (n = m))) ∧ Below w.heap.size w w' := by
  by_cases h : n = m
  · subst h
    exact (isF_same p n w).mono fun _ _ ⟨a, b⟩ => ⟨by rw [a]; simp, b ▸ below_alloc _ _⟩
  · exact (isF_other p n m w h).mono fun _ _ ⟨a, b⟩ => ⟨by rw [a, decide_eq_false h], b ▸ below_alloc _ _⟩
theorem isO_any (m : Int) (w : World) : Calls Tryd.prog 45 #[.nilIface, eN m] w fun e w' => e = .returned (.bool false) ∧ Below w.heap.size w w' :=
  (is_nil m w).mono fun _ _ ⟨a, b⟩ => ⟨a, b ▸ Below.refl _ _⟩
theorem isInO (m : Int) (a b : Addr) (w : World) (ha : w.cell? a = some (Value.nilIface)) (hb : w.cell? b = some (.int .i64 m)) :
    Calls Tryd.prog 44 #[.pointer (some a), .pointer (some b)] w fun e w' => e = .returned (.bool false) ∧ Below w.heap.size w w' := by
  go_enter Tryd.func44, Tryd.ntmps44
  go_wp2_with (go_at_call 45; refine (isO_any m _).mono ?_; rintro e w' ⟨rfl, B1⟩)
  go_ret
  exact ⟨rfl, B1⟩
theorem fisO (m : Int) (w : World) : Calls Tryd.prog 24 #[Value.nilIface, .int .i64 m] w fun e w' => e = .returned (.bool false) ∧ Below w.heap.size w w' := by
  have hmf : ∀ (fn : Fn) (first cap : Array Value) (w : World), (Instr.makeFunc fn first cap).run Tryd.prog w = .ok (.func fn first cap) w := fun _ _ _ _ => rfl
  obtain ⟨w2, hw2⟩ : ∃ w2, w2 = (w.alloc (Obj.cells #[Value.nilIface] 27)).alloc (Obj.cells #[Value.int .i64 m] 38) := ⟨_, rfl⟩
  have b2 : Below w.heap.size w w2 := by rw [hw2]; exact below_alloc2 (below_alloc _ _) _
  have ca : w2.cell? ⟨w.heap.size, 0, none⟩ = some (Value.nilIface) := by
    rw [hw2, World.cell?_alloc_lt _ _ ⟨w.heap.size, 0, none⟩ (by simp), World.cell?_alloc_at _ _ _ _ (by simp)]; rfl
  have cb : w2.cell? ⟨w.heap.size + 1, 0, none⟩ = some (.int .i64 m) := by rw [hw2, World.cell?_alloc_at _ _ _ _ (by simp)]; rfl
  have HC := askedIs #[.pointer (some ⟨w.heap.size, 0, none⟩), .pointer (some ⟨w.heap.size + 1, 0, none⟩)] false w2 _ (isInO m ⟨w.heap.size, 0, none⟩ ⟨w.heap.size + 1, 0, none⟩ w2 ca cb)
  have HW : Hid (w2 = (w.alloc (Obj.cells #[Value.nilIface] 27)).alloc (Obj.cells #[Value.int .i64 m] 38)) := hw2
  clear hw2 ca cb
  go_enter Tryd.func24, Tryd.ntmps24
  go_wp2_with (go_at_call 32; rw [← HW.out]; refine HC.mono ?_; rintro e w' ⟨rfl, hx⟩)
  go_ret
  exact ⟨rfl, below_then b2 hx⟩
theorem isInN (n m : Int) (a b : Addr) (w : World) (ha : w.cell? a = some (eN n)) (hb : w.cell? b = some (.int .i64 m)) :
    Calls Tryd.prog 44 #[.pointer (some a), .pointer (some b)] w fun e w' => e = .returned (.bool (decide (n = m))) ∧ Below w.heap.size w w' := by
  go_enter Tryd.func44, Tryd.ntmps44
  go_wp2_with (go_at_call 45; refine (isN_any n m _).mono ?_; rintro e w' ⟨rfl, B1⟩)
  go_ret
  exact ⟨rfl, B1⟩
theorem fisN (n m : Int) (w : World) : Calls Tryd.prog 24 #[eN n, .int .i64 m] w fun e w' => e = .returned (.bool (decide (n = m))) ∧ Below w.heap.size w w' := by
  have hmf : ∀ (fn : Fn) (first cap : Array Value) (w : World), (Instr.makeFunc fn first cap).run Tryd.prog w = .ok (.func fn first cap) w := fun _ _ _ _ => rfl
  obtain ⟨w2, hw2⟩ : ∃ w2, w2 = (w.alloc (Obj.cells #[eN n] 27)).alloc (Obj.cells #[Value.int .i64 m] 38) := ⟨_, rfl⟩
  have b2 : Below w.heap.size w w2 := by rw [hw2]; exact below_alloc2 (below_alloc _ _) _
  have ca : w2.cell? ⟨w.heap.size, 0, none⟩ = some (eN n) := by
    rw [hw2, World.cell?_alloc_lt _ _ ⟨w.heap.size, 0, none⟩ (by simp), World.cell?_alloc_at _ _ _ _ (by simp)]; rfl
  have cb : w2.cell? ⟨w.heap.size + 1, 0, none⟩ = some (.int .i64 m) := by rw [hw2, World.cell?_alloc_at _ _ _ _ (by simp)]; rfl
  have HC := askedIs #[.pointer (some ⟨w.heap.size, 0, none⟩), .pointer (some ⟨w.heap.size + 1, 0, none⟩)] (decide (n = m)) w2 _ (isInN n m ⟨w.heap.size, 0, none⟩ ⟨w.heap.size + 1, 0, none⟩ w2 ca cb)
  have HW : Hid (w2 = (w.alloc (Obj.cells #[eN n] 27)).alloc (Obj.cells #[Value.int .i64 m] 38)) := hw2
  clear hw2 ca cb
  go_enter Tryd.func24, Tryd.ntmps24
  go_wp2_with (go_at_call 32; rw [← HW.out]; refine HC.mono ?_; rintro e w' ⟨rfl, hx⟩)
  go_ret
  exact ⟨rfl, below_then b2 hx⟩
theorem isInF (p n m : Int) (a b : Addr) (w : World) (ha : w.cell? a = some (eF p n)) (hb : w.cell? b = some (.int .i64 m)) :
    Calls Tryd.prog 44 #[.pointer (some a), .pointer (some b)] w fun e w' => e = .returned (.bool (decide (n = m))) ∧ Below w.heap.size w w' := by
  go_enter Tryd.func44, Tryd.ntmps44
  go_wp2_with (go_at_call 45; refine (isF_any p n m _).mono ?_; rintro e w' ⟨rfl, B1⟩)
  go_ret
  exact ⟨rfl, B1⟩
theorem fisF (p n m : Int) (w : World) : Calls Tryd.prog 24 #[eF p n, .int .i64 m] w fun e w' => e = .returned (.bool (decide (n = m))) ∧ Below w.heap.size w w' := by
  have hmf : ∀ (fn : Fn) (first cap : Array Value) (w : World), (Instr.makeFunc fn first cap).run Tryd.prog w = .ok (.func fn first cap) w := fun _ _ _ _ => rfl
  obtain ⟨w2, hw2⟩ : ∃ w2, w2 = (w.alloc (Obj.cells #[eF p n] 27)).alloc (Obj.cells #[Value.int .i64 m] 38) := ⟨_, rfl⟩
  have b2 : Below w.heap.size w w2 := by rw [hw2]; exact below_alloc2 (below_alloc _ _) _
  have ca : w2.cell? ⟨w.heap.size, 0, none⟩ = some (eF p n) := by
    rw [hw2, World.cell?_alloc_lt _ _ ⟨w.heap.size, 0, none⟩ (by simp), World.cell?_alloc_at _ _ _ _ (by simp)]; rfl
  have cb : w2.cell? ⟨w.heap.size + 1, 0, none⟩ = some (.int .i64 m) := by rw [hw2, World.cell?_alloc_at _ _ _ _ (by simp)]; rfl
  have HC := askedIs #[.pointer (some ⟨w.heap.size, 0, none⟩), .pointer (some ⟨w.heap.size + 1, 0, none⟩)] (decide (n = m)) w2 _ (isInF p n m ⟨w.heap.size, 0, none⟩ ⟨w.heap.size + 1, 0, none⟩ w2 ca cb)
  have HW : Hid (w2 = (w.alloc (Obj.cells #[eF p n] 27)).alloc (Obj.cells #[Value.int .i64 m] 38)) := hw2
  clear hw2 ca cb
  go_enter Tryd.func24, Tryd.ntmps24
  go_wp2_with (go_at_call 32; rw [← HW.out]; refine HC.mono ?_; rintro e w' ⟨rfl, hx⟩)
  go_ret
  exact ⟨rfl, below_then b2 hx⟩
end Go.Proofs.YtmcjcmddijikbaaDoor
