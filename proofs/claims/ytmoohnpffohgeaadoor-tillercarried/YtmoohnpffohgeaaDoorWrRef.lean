/- The document's number, Text, Check and Same of messages. Condition: the tokens can be read. -/
import Derived.Test.YtmoohnpffohgeaaDoorWrLaw
import Derived.Test.YtmoohnpffohgeaaDoorKBit
import Derived.ChangeKeysEq
import Derived.Deep.MidRow
namespace Go.Proofs.YtmoohnpffohgeaaDoor
open Go.ChangeShapes Go.WideShapes Go.ChangeAt Go.RowKit
theorem conv_one (W : World) (g : Nat) (x : UInt8) (X : Int) (hX : X = (x.toNat : Int)) (h : W.cell? ⟨g, 0, none⟩ = some (.int .u8 X)) : (convert 57 9 (.slice (some ⟨g, 0, none⟩) 1 1)).run Tryd.prog W = .ok (.string (txt [x])) W := by
  subst hX
  exact run_convert_bytes_back (P := Tryd.prog) W 57 9 5 ⟨g, 0, none⟩ 1 [x] Tryd.underlying57 Tryd.underlying5 Tryd.underlying9 (fun j hj => by
    match j, hj with
    | 0, _ =>
      have hadd : (⟨g, 0, none⟩ : Addr).add 0 = ⟨g, 0, none⟩ := by simp [Addr.add]
      rw [hadd, h]; rfl)
theorem ten_at {w : World} {b : Nat} {g : Nat → Int} {tok : Value} {t : ByteArray} {T : TypeId} (h : Blk w b T (msgC g tok t)) : w.rangeAt b 0 [.int .i64 (g 0), .int .i64 (g 1), .int .i64 (g 2), .int .i64 (g 3), .int .i64 (g 4), .int .i64 (g 5), .int .i64 (g 6), .int .i64 (g 7), .int .i64 (g 8), .int .i64 (g 9)] := by
  intro j v hj
  rw [Nat.zero_add]
  refine h.cell j ?_
  have hj2 : j < 10 := by have := (List.getElem?_eq_some_iff.1 hj).1; simpa using this
  rw [← hj]
  match j, hj2 with
  | 0, _ => rfl
  | 1, _ => rfl
  | 2, _ => rfl
  | 3, _ => rfl
  | 4, _ => rfl
  | 5, _ => rfl
  | 6, _ => rfl
  | 7, _ => rfl
  | 8, _ => rfl
  | 9, _ => rfl
end Go.Proofs.YtmoohnpffohgeaaDoor
