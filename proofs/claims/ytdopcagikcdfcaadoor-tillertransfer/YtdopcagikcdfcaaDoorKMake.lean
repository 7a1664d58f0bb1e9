/- Rows of zero bytes, and texts made of them; no condition but the sizes. -/
import Derived.Test.YtdopcagikcdfcaaDoorKBack
import Derived.Test.YtdopcagikcdfcaaDoorFLin
namespace Go.Proofs.YtdopcagikcdfcaaDoor
open Go.ChangeShapes Go.WideShapes Go.ChangeAt Go.RowKit
theorem Tryd.infoU8 : (Tryd.prog.info? 5).map (fun i => (i.zero, i.size, i.bytes)) = some (some (.int .u8 0), 1, 1) := by kernel_rfl
theorem makeB (n : Nat) (h : n ≤ 281474976710656) (w : World) : (Instr.makeSlice 51 (.int .i64 (n : Int)) (.int .i64 (n : Int))).run Tryd.prog w = .ok (.slice (some ⟨w.heap.size, 0, none⟩) n n) (w.alloc (.cells (madeCells #[.int .u8 0] n) 5)) :=
  run_make_row' (P := Tryd.prog) 51 5 (.int .u8 0) 1 Tryd.underlying51 Tryd.infoU8 rfl .i64 .i64 n (by omega) (by omega) w
theorem made_get (n j : Nat) (h : j < n) : (madeCells #[Value.int .u8 0] n)[j]? = some (.int .u8 0) := by
  simp [madeCells, h, Nat.mod_one]
theorem conv_zero (n : Nat) (w : World) (g c : Nat) (h : ∀ j, j < n → w.cell? ⟨g, j, none⟩ = some (.int .u8 0)) :
    (convert 51 9 (.slice (some ⟨g, 0, none⟩) n c)).run Tryd.prog w = .ok (.string (txt (zeroL n))) w := by
  have hl : (zeroL n).length = n := by simp [zeroL]
  have := run_convert_bytes_back (P := Tryd.prog) w 51 9 5 ⟨g, 0, none⟩ c (zeroL n) Tryd.underlying51 Tryd.underlying5 Tryd.underlying9 (fun j hj => by
    have hadd : (⟨g, 0, none⟩ : Addr).add j = ⟨g, j, none⟩ := by unfold Addr.add; split <;> simp_all
    rw [hadd, h j (by omega)]
    simp [zeroL])
  rw [hl] at this
  exact this
theorem conv_made (n : Nat) (w : World) : (convert 51 9 (.slice (some ⟨w.heap.size, 0, none⟩) n n)).run Tryd.prog (w.alloc (.cells (madeCells #[.int .u8 0] n) 5)) = .ok (.string (txt (zeroL n))) (w.alloc (.cells (madeCells #[.int .u8 0] n) 5)) :=
  conv_zero n _ _ _ (fun j hj => by rw [World.cell?_alloc_at _ _ _ _ (by simp)]; exact made_get n j hj)
end Go.Proofs.YtdopcagikcdfcaaDoor
