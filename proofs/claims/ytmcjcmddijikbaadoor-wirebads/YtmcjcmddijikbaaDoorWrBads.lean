/- Errors around others: errors.Is, Bad's Error and Unwrap. No condition. -/
import Derived.Test.YtmcjcmddijikbaaDoorWrView
import Derived.Test.YtmcjcmddijikbaaDoorFIs
import Derived.Test.YtmcjcmddijikbaaDoorFErr
namespace Go.Proofs.YtmcjcmddijikbaaDoor
open Go.ChangeShapes Go.WideShapes Go.ChangeAt Go.RowKit Go.Extern.Stop Go.Stop Go.Extern
theorem eqB (v : Value) (m : Int) (w : World) : (binOp .eql 27 (.iface 58 v) (eN m)).run Tryd.prog w = .ok (.bool false) w :=
  run_eql_iface_types 58 38 v _ Tryd.underlying27 (by decide) w
theorem noIsB (v : Value) (xT : TypeId) (w : World) : (Instr.typeAssert (.iface 58 v) xT 124 true).run Tryd.prog w = .ok (.tuple #[.nilIface, .bool false]) w := run_typeAssert_lacksB Tryd.underlying124 (by kernel_rfl) (by kernel_rfl) v xT w
set_option maxRecDepth 4000 in
set_option maxHeartbeats 1000000 in
theorem isBF_same (q p n : Int) (w : World) :
    Calls Tryd.prog 45 #[eB q (eF p n), eN n] w fun e w' => e = .returned (.bool true) ∧ w' = (w.alloc (.cells #[.int .i64 q, eF p n] 58)).alloc (.cells #[.int .i64 p, .int .i64 n] 56) := by
  have h8 := @run_callFunc_extern Tryd.prog 61 _ ReflectliteType.typeOf Tryd.func61 (by kernel_rfl) (by kernel_rfl) (by kernel_rfl) (by kernel_rfl)
  have h32 := @run_callFunc_extern Tryd.prog 91 _ compX Tryd.func91 (by kernel_rfl) (by kernel_rfl) (by kernel_rfl) (by kernel_rfl)
  have ztypeOfE := typeOfE
  have zcompE := compE
  have zmethodComparable := methodComparable
  have zeqN := eqN
  have zeqF := eqF
  have zeqB := eqB
  have znoIsE := noIsE
  have znoIsF := noIsF
  have znoIsB := noIsB
  have zhasUnF := hasUnF
  have zhasUnB := hasUnB
  have zmethodUnwrap := methodUnwrap
  have zmethodUnwrapB := methodUnwrapB
  go_enter Tryd.func45, Tryd.ntmps45
  go_wp2
  refine wp_loop_rounds 3 ?_
  rw [rounds_succ]
  go_wp2
  rw [rounds_succ]
  go_wp2
  rw [rounds_succ]
  go_wp2
  go_ret
  exact ⟨rfl, rfl⟩
theorem isInBF (q p n : Int) (a b : Addr) (w : World) (ha : w.cell? a = some (eB q (eF p n))) (hb : w.cell? b = some (.int .i64 n)) :
    Calls Tryd.prog 44 #[.pointer (some a), .pointer (some b)] w fun e w' => e = .returned (.bool true) ∧ Below w.heap.size w w' := by
  go_enter Tryd.func44, Tryd.ntmps44
  go_wp2_with (go_at_call 45; refine (isBF_same q p n _).mono ?_; rintro e w' ⟨rfl, rfl⟩)
  go_ret
  exact ⟨rfl, below_alloc2 (below_alloc _ _) _⟩
theorem fisBF (q p n : Int) (w : World) : Calls Tryd.prog 24 #[eB q (eF p n), .int .i64 n] w fun e w' => e = .returned (.bool true) ∧ Below w.heap.size w w' := by
  have hmf : ∀ (fn : Fn) (first cap : Array Value) (w : World), (Instr.makeFunc fn first cap).run Tryd.prog w = .ok (.func fn first cap) w := fun _ _ _ _ => rfl
  obtain ⟨w2, hw2⟩ : ∃ w2, w2 = (w.alloc (Obj.cells #[eB q (eF p n)] 27)).alloc (Obj.cells #[Value.int .i64 n] 38) := ⟨_, rfl⟩
  have b2 : Below w.heap.size w w2 := by rw [hw2]; exact below_alloc2 (below_alloc _ _) _
  have ca : w2.cell? ⟨w.heap.size, 0, none⟩ = some (eB q (eF p n)) := by
    rw [hw2, World.cell?_alloc_lt _ _ ⟨w.heap.size, 0, none⟩ (by simp), World.cell?_alloc_at _ _ _ _ (by simp)]; rfl
  have cb : w2.cell? ⟨w.heap.size + 1, 0, none⟩ = some (.int .i64 n) := by rw [hw2, World.cell?_alloc_at _ _ _ _ (by simp)]; rfl
  have HC := askedIs #[.pointer (some ⟨w.heap.size, 0, none⟩), .pointer (some ⟨w.heap.size + 1, 0, none⟩)] true w2 _ (isInBF q p n ⟨w.heap.size, 0, none⟩ ⟨w.heap.size + 1, 0, none⟩ w2 ca cb)
  have HW : Hid (w2 = (w.alloc (Obj.cells #[eB q (eF p n)] 27)).alloc (Obj.cells #[Value.int .i64 n] 38)) := hw2
  clear hw2 ca cb
  go_enter Tryd.func24, Tryd.ntmps24
  go_wp2_with (go_at_call 32; rw [← HW.out]; refine HC.mono ?_; rintro e w' ⟨rfl, hx⟩)
  go_ret
  exact ⟨rfl, below_then b2 hx⟩
theorem hushT (w : World) :
    CallsD Tryd.prog 63 #[] .returning w fun e u' w' => e = .returned (.tuple #[]) ∧ u' = .returning ∧ w' = w := by
  refine callsD_of_wpS Tryd.func63 rfl fun c₀ cs hu => ?_
  apply wpS_region
  simp [wpOpsS, go_sem, recoverD, hu, Tryd.ntmps63]
  cases c₀
  simp_all [bodyPostS, results, Tryd.results63]
theorem methodErrorF (a b : Value) (w : World) : (Go.method 255 56 (.agg #[a, b]) "Error").run Tryd.prog w = .ok (84, .agg #[a, b]) w := by kernel_rfl
theorem toldF (p n : Int) (w : World) (h1 : -9223372036854775808 ≤ n) (h2 : n ≤ 9223372036854775807) :
    Calls Tryd.prog 46 #[eF p n] w fun e w' => e = .returned (.string (faultS n)) ∧ Below w.heap.size w w' := by
  have hmf : ∀ (fn : Fn) (first cap : Array Value) (w : World), (Instr.makeFunc fn first cap).run Tryd.prog w = .ok (.func fn first cap) w := fun _ _ _ _ => rfl
  have FE := faultError_any p n w h1 h2
  have zm := methodErrorF
  generalize faultS n = X at *
  go_enter_defers Tryd.func46, Tryd.ntmps46
  go_wp2_with (go_at_call 84; refine FE.mono ?_; rintro e w1 ⟨rfl, B1⟩)
  refine leaves_cons (f := 63) (args := #[]) (by simp) (by simp [go_sem]) ?_
  refine (hushT _).mono ?_
  rintro e u' w'' ⟨rfl, rfl, rfl⟩
  simp [Leaves, settle, results, Tryd.results46, go_sem]
  exact B1
def msgPre : List UInt8 := [109, 101, 115, 115, 97, 103, 101, 58, 32]
def badS (n : Int) : ByteArray := txt (msgPre ++ (faultS n).data.toList)
theorem faultS_size (n : Int) : (faultS n).size ≤ 15 := by
  have h7 : (ByteArray.mk #[102, 114, 97, 109, 101, 58, 32]).size = 7 := rfl
  have := errS_size n
  unfold faultS
  rw [ByteArray.size_append]
  omega
theorem bad_add (n : Int) (w : World) : (Op.stringOp .add ⟨#[109, 101, 115, 115, 97, 103, 101, 58, 32]⟩ (faultS n)).run Tryd.prog w = .ok (.string (badS n)) w :=
  add_txt msgPre (faultS n).data.toList _ _ _ rfl (txt_of _).symm rfl (by have := faultS_size n; show 9 + (faultS n).size ≤ _; omega) w
theorem fault_list (n : Int) : (faultS n).data.toList = [102, 114, 97, 109, 101, 58, 32] ++ (errS n).data.toList := by
  have : faultS n = txt ([102, 114, 97, 109, 101, 58, 32] ++ (errS n).data.toList) := by
    rw [← txt_append, txt_of]; rfl
  rw [this, txt_list]
theorem law_add (n : Int) (w : World) : (Op.stringOp .add ⟨#[109, 101, 115, 115, 97, 103, 101, 58, 32, 102, 114, 97, 109, 101, 58, 32]⟩ (errS n)).run Tryd.prog w = .ok (.string (badS n)) w :=
  add_txt [109, 101, 115, 115, 97, 103, 101, 58, 32, 102, 114, 97, 109, 101, 58, 32] (errS n).data.toList _ _ _ rfl (txt_of _).symm (by unfold badS; rw [fault_list]; rfl) (by have := errS_size n; show 16 + (errS n).size ≤ _; omega) w
theorem badError_any (q p n : Int) (w : World) (h1 : -9223372036854775808 ≤ n) (h2 : n ≤ 9223372036854775807) :
    Calls Tryd.prog 25 #[.agg #[.int .i64 q, eF p n]] w fun e w' => e = .returned (.string (badS n)) ∧ Below w.heap.size w w' := by
  have BA := bad_add n
  have TF := fun W => toldF p n W h1 h2
  generalize faultS n = X at *
  generalize badS n = Y at *
  go_enter Tryd.func25, Tryd.ntmps25
  go_wp2_with (go_at_call 46; refine (TF _).mono ?_; rintro e w1 ⟨rfl, B1⟩)
  go_ret
  exact ⟨rfl, below_then (below_alloc _ _) B1⟩
theorem badUnwrap_any (q p n : Int) (w : World) :
    Calls Tryd.prog 27 #[.agg #[.int .i64 q, eF p n]] w fun e w' => e = .returned (eF p n) ∧ Below w.heap.size w w' := by
  have B := below_alloc w (.cells #[.int .i64 q, eF p n] 58)
  go_enter Tryd.func27, Tryd.ntmps27
  go_wp2_with fail
  go_ret
  exact ⟨rfl, B⟩
end Go.Proofs.YtmcjcmddijikbaaDoor
