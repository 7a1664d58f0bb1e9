/- errors.As where a Bad is in the chain, or is the target: the model's entries of internal/reflectlite at that type; no condition but the cells that are named. -/
import Derived.Test.YtmcjcmddijikbaaDoorFAs2
namespace Go.Proofs.YtmcjcmddijikbaaDoor
open Go.RowKit Go.Extern.Stop Go.Stop Go.Extern
theorem valueOfPB (t : Addr) (w : World) : (ReflectliteValue.unpack (.iface 98 (.pointer (some t)))).run Tryd.prog w
    = .ok (.agg #[hd 98, .pointer (some ⟨w.heap.size, 0, none⟩), .int .u64 150]) (w.alloc (.cells #[.pointer (some t)] 98)) := by kernel_rfl
theorem typePB (a : Addr) (w : World) : (ReflectliteValue.methodAny (ReflectliteValue.valueError "reflectlite.Value.Type" 0) (fun t _ _ _ => ReflectliteType.toType t) #[.agg #[hd 98, .pointer (some a), .int .u64 150]]).run Tryd.prog w
    = .ok (.iface 113 (.agg #[hd 98])) w := by kernel_rfl
theorem methodUnwrapB (a b : Value) (w : World) : (Go.method 255 58 (.agg #[a, b]) "Unwrap").run Tryd.prog w = .ok (27, .agg #[a, b]) w := by kernel_rfl
theorem kindPB (w : World) : ((ReflectliteType.abiMethod fun t => (fun a : Nat => Value.int IntKind.u8 (a : Int)) <$> Rtype.kind t) #[hd 98]).run Tryd.prog w = .ok (.int .u8 22) w := by kernel_rfl
theorem kindB (w : World) : ((ReflectliteType.abiMethod fun t => (fun a : Nat => Value.int IntKind.u8 (a : Int)) <$> Rtype.kind t) #[hd 58]).run Tryd.prog w = .ok (.int .u8 25) w := by kernel_rfl
theorem partsPB (a : Addr) (w : World) : (ReflectliteValue.parts (.agg #[hd 98, .pointer (some a), .int .u64 150])).run Tryd.prog w = .ok (some (98, a, 150)) w := by kernel_rfl
theorem isNilPB (a p : Addr) (W : World) (ha : W.cell? a = some (.pointer (some p))) :
    (ReflectliteValue.method (ReflectliteValue.valueError "reflectlite.Value.IsNil" 0) ReflectliteValue.isNil #[.agg #[hd 98, .pointer (some a), .int .u64 150]]).run Tryd.prog W = .ok (.bool false) W := by
  rw [rlm]
  simp only [Sem.run_bind, partsPB, Result.andThen]
  simp [ReflectliteValue.isNil, loadVar, isAgg, underlying, Tryd.underlying98, ha, Result.andThen]
theorem elemPB (w : World) : (ReflectliteType.method ReflectliteType.elem #[.agg #[hd 98]]).run Tryd.prog w = .ok (.iface 113 (.agg #[hd 58])) w := by kernel_rfl
theorem implementsB (w : World) : (ReflectliteType.relation "Implements" ReflectliteType.implements_ #[.agg #[hd 58], .iface 113 (.agg #[hd 27])]).run Tryd.prog w = .ok (.bool true) w := by kernel_rfl
theorem typeOfB (v : Value) (w : World) : (ReflectliteType.typeOf #[.iface 58 v]).run Tryd.prog w = .ok (.iface 113 (.agg #[hd 58])) w := by kernel_rfl
theorem assignBB (w : World) : (ReflectliteType.relation "AssignableTo" ReflectliteType.assignableTo #[.agg #[hd 58], .iface 113 (.agg #[hd 58])]).run Tryd.prog w = .ok (.bool true) w := by kernel_rfl
theorem assignBE (w : World) : (ReflectliteType.relation "AssignableTo" ReflectliteType.assignableTo #[.agg #[hd 58], .iface 113 (.agg #[hd 38])]).run Tryd.prog w = .ok (.bool false) w := by kernel_rfl
theorem assignBF (w : World) : (ReflectliteType.relation "AssignableTo" ReflectliteType.assignableTo #[.agg #[hd 58], .iface 113 (.agg #[hd 56])]).run Tryd.prog w = .ok (.bool false) w := by kernel_rfl
theorem assignEB (w : World) : (ReflectliteType.relation "AssignableTo" ReflectliteType.assignableTo #[.agg #[hd 38], .iface 113 (.agg #[hd 58])]).run Tryd.prog w = .ok (.bool false) w := by kernel_rfl
theorem assignFB (w : World) : (ReflectliteType.relation "AssignableTo" ReflectliteType.assignableTo #[.agg #[hd 56], .iface 113 (.agg #[hd 58])]).run Tryd.prog w = .ok (.bool false) w := by kernel_rfl
theorem elemOfPB (w : World) : (Rtype.elem? 98).run Tryd.prog w = .ok (some 58) w := by kernel_rfl
theorem mkB (p : Addr) (w : World) : (ReflectliteValue.mk 58 p ReflectliteValue.flagAddr).run Tryd.prog w = .ok (.agg #[hd 58, .pointer (some p), .int .u64 409]) w := by kernel_rfl
theorem elemVPB (a p : Addr) (W : World) (ha : W.cell? a = some (.pointer (some p))) :
    (ReflectliteValue.method (ReflectliteValue.valueError "reflectlite.Value.Elem" 0) ReflectliteValue.elem #[.agg #[hd 98, .pointer (some a), .int .u64 150]]).run Tryd.prog W
      = .ok (.agg #[hd 58, .pointer (some p), .int .u64 409]) W := by
  rw [rlm]
  simp only [Sem.run_bind, partsPB, Result.andThen]
  simp [ReflectliteValue.elem, loadVar, isAgg, underlying, Tryd.underlying98, ha, Result.andThen, elemOfPB, mkB]
theorem partsBa (a : Addr) (w : World) : (ReflectliteValue.parts (.agg #[hd 58, .pointer (some a), .int .u64 409])).run Tryd.prog w = .ok (some (58, a, 409)) w := by kernel_rfl
theorem partsB (a : Addr) (w : World) : (ReflectliteValue.parts (.agg #[hd 58, .pointer (some a), .int .u64 153])).run Tryd.prog w = .ok (some (58, a, 153)) w := by kernel_rfl
theorem directB (w : World) : (Rtype.directlyAssignable 58 58).run Tryd.prog w = .ok true w := by kernel_rfl
theorem noAsB (v : Value) (xT : TypeId) (w : World) : (Instr.typeAssert (.iface 58 v) xT 117 true).run Tryd.prog w = .ok (.tuple #[.nilIface, .bool false]) w := run_typeAssert_lacksB Tryd.underlying117 (by kernel_rfl) (by kernel_rfl) v xT w
theorem hasUnB (v : Value) (xT : TypeId) (w : World) : (Instr.typeAssert (.iface 58 v) xT 120 true).run Tryd.prog w = .ok (.tuple #[.iface 58 v, .bool true]) w := run_typeAssert_hasB Tryd.underlying120 (by kernel_rfl) v xT w
theorem valueOfBE (q n : Int) (w : World) : (ReflectliteValue.unpack (.iface 58 (.agg #[.int .i64 q, .iface 38 (.int .i64 n)]))).run Tryd.prog w
    = .ok (.agg #[hd 58, .pointer (some ⟨w.heap.size, 0, none⟩), .int .u64 153]) (w.alloc (.cells #[.int .i64 q, .iface 38 (.int .i64 n)] 58)) := by kernel_rfl
theorem valueOfBF (q p n : Int) (w : World) : (ReflectliteValue.unpack (.iface 58 (.agg #[.int .i64 q, .iface 56 (.agg #[.int .i64 p, .int .i64 n])]))).run Tryd.prog w
    = .ok (.agg #[hd 58, .pointer (some ⟨w.heap.size, 0, none⟩), .int .u64 153]) (w.alloc (.cells #[.int .i64 q, .iface 56 (.agg #[.int .i64 p, .int .i64 n])] 58)) := by kernel_rfl
theorem loadB (b : Nat) (q : Int) (x : Value) (W : World) (h0 : W.cell? ⟨b, 0, none⟩ = some (.int .i64 q)) (h1 : W.cell? ⟨b, 1, none⟩ = some x) :
    (loadVar 58 ⟨b, 0, none⟩).run Tryd.prog W = .ok (.agg #[.int .i64 q, x]) W := by
  have hagg : (isAgg 58).run Tryd.prog W = .ok true W := by kernel_rfl
  have hs : (sizeOf 58).run Tryd.prog W = .ok 2 W := by kernel_rfl
  have hl := run_loadCells_list (P := Tryd.prog) W ⟨b, 0, none⟩ [.int .i64 q, x] (fun j v hv => by
    rcases j with _ | _ | j
    · simp at hv; subst hv; simpa [Addr.add] using h0
    · simp at hv; subst hv; simpa [Addr.add] using h1
    · simp at hv)
  rw [show ([Value.int .i64 q, x] : List Value).length = 2 from rfl] at hl
  simp [loadVar, Sem.run_bind, hagg, hs, hl, Result.andThen]
theorem setB (tb b : Nat) (q : Int) (ty : TypeId) (x : Value) (o0 o1 : Value) (W : World) (h0 : W.cell? ⟨b, 0, none⟩ = some (.int .i64 q)) (h1 : W.cell? ⟨b, 1, none⟩ = some (.iface ty x))
    (t0 : W.cell? ⟨tb, 0, none⟩ = some o0) (t1 : W.cell? ⟨tb, 1, none⟩ = some o1) (f0 : W.frozen? ⟨tb, 0, none⟩ = false) (f1 : W.frozen? ⟨tb, 1, none⟩ = false) :
    (ReflectliteValue.set #[.agg #[hd 58, .pointer (some ⟨tb, 0, none⟩), .int .u64 409], .agg #[hd 58, .pointer (some ⟨b, 0, none⟩), .int .u64 153]]).run Tryd.prog W
      = .ok (.tuple #[]) ((W.setCell ⟨tb, 0, none⟩ (.int .i64 q)).setCell ⟨tb, 1, none⟩ (.iface ty x)) := by
  rw [rls]
  simp only [Sem.run_bind, partsBa, partsB, Result.andThen]
  have hs : (sizeOf 58).run Tryd.prog W = .ok 2 W := by kernel_rfl
  have hst := run_storeCells_cells (P := Tryd.prog) tb 0 [.int .i64 q, .iface ty x] 0 W
    (fun j hj => by
      rcases j with _ | _ | j
      · simp [t0]
      · simp [t1]
      · simp at hj; omega)
    (fun j hj => by
      rcases j with _ | _ | j
      · simp [f0]
      · simp [f1]
      · simp at hj; omega)
    (fun v hv => by
      simp at hv
      rcases hv with rfl | rfl <;> rfl)
  have hc : (Value.agg #[Value.int .i64 q, Value.iface ty x]).cells = #[Value.int .i64 q, Value.iface ty x] := by simp [Value.cells]
  simp [ReflectliteValue.flagAddr, loadB b q (.iface ty x) W h0 h1, Result.andThen, directB, storeVar, hs, hc, hst, World.setCells]
end Go.Proofs.YtmcjcmddijikbaaDoor
