/- FrameFaults' walk: a wrapped error is still that of its number. -/
import Derived.Test.YtfdofgjlipmglaaDoorFErr
import Derived.Test.YtfdofgjlipmglaaDoorFIs
import Derived.Test.YtfdofgjlipmglaaDoorFCut
namespace Go.Proofs.YtfdofgjlipmglaaDoor
open Go.ChangeShapes Go.WideShapes Go.ChangeAt Go.RowKit
theorem keptC {W W' : World} {a : Addr} {v : Value} (h : W.cell? a = some v) (B : Below W.heap.size W W') : W'.cell? a = some v :=
  (B.cell (cell_lt h)).trans h
set_option maxHeartbeats 1600000 in
theorem frameFaults_walk (p n m : Int) (_a1 : -9223372036854775808 ≤ p) (_a2 : p ≤ 9223372036854775807) (h1 : -9223372036854775808 ≤ n) (h2 : n ≤ 9223372036854775807) (_a3 : -9223372036854775808 ≤ m) (_a4 : m ≤ 9223372036854775807) (w : World) (h : Env w) :
   Calls Tryd.prog 3 #[.int .i64 p, .int .i64 n, .int .i64 m] w fun e w' => e = .returned (.bool true) ∧ Below w.heap.size w w' := by
  have AW := fun W (hW : Env W) => awake_any W hW
  have FA := fault_add n
  have ER := fun W => error_any n W h1 h2
  have FE := fun W => faultError_any p n W h1 h2
  have SS := txt_same (faultS n)
  have BB := below_alloc w (.cells #[.int .i64 p, .int .i64 n] 24)
  have V := h.next BB
  have C0 : (w.alloc (.cells #[.int .i64 p, .int .i64 n] 24)).cell? ⟨w.heap.size, 0, none⟩ = some (.int .i64 p) := by simp
  have C1 : (w.alloc (.cells #[.int .i64 p, .int .i64 n] 24)).cell? ⟨w.heap.size, 1, none⟩ = some (.int .i64 n) := by simp
  have FS := fun W => fisF p n n W
  have NS := fun W => fisN n n W
  have OS := fun W => fisO n W
  rw [decide_eq_true (rfl : n = n)] at FS NS
  have UW := fun W => unwrap_any p n W
  have PE := fun W (hW : Hand W) => placeN n W hW
  obtain ⟨E, hE⟩ : ∃ E, E = eN n := ⟨_, rfl⟩
  rw [← hE] at UW PE NS
  clear hE
  generalize errS n = X at *
  generalize faultS n = Y at *
  rcases Decidable.em (n = m) with rfl | hne
  · clear h
    go_enter Tryd.func3, Tryd.ntmps3
    go_wp2_with (first
      | (go_at_call 9; refine (AW _ V).mono ?_; rintro e w5 ⟨rfl, B⟩; replace V := V.next B; replace C0 := keptC C0 B; replace C1 := keptC C1 B; replace BB := below_then BB B; clear B)
      | (go_at_call_of 10 p; refine (whyF p n _ V.hand).mono ?_; rintro e w5 ⟨rfl, B⟩; replace V := V.next B; replace C0 := keptC C0 B; replace C1 := keptC C1 B; replace BB := below_then BB B; clear B)
      | (go_at_call_of 10 n; refine (whyN n _ V.hand).mono ?_; rintro e w5 ⟨rfl, B⟩; replace V := V.next B; replace C0 := keptC C0 B; replace C1 := keptC C1 B; replace BB := below_then BB B; clear B)
      | (go_at_call 10; refine (whyO _).mono ?_; rintro e w5 ⟨rfl, B⟩; replace V := V.next B; replace C0 := keptC C0 B; replace C1 := keptC C1 B; replace BB := below_then BB B; clear B)
      | (go_at_call_of 11 p; refine (placeF p n _ V.hand).mono ?_; rintro e w5 ⟨rfl, B⟩; replace V := V.next B; replace C0 := keptC C0 B; replace C1 := keptC C1 B; replace BB := below_then BB B; clear B)
      | (go_at_call_of 11 E; refine (PE _ V.hand).mono ?_; rintro e w5 ⟨rfl, B⟩; replace V := V.next B; replace C0 := keptC C0 B; replace C1 := keptC C1 B; replace BB := below_then BB B; clear B)
      | (go_at_call_of 11 n; refine (placeN n _ V.hand).mono ?_; rintro e w5 ⟨rfl, B⟩; replace V := V.next B; replace C0 := keptC C0 B; replace C1 := keptC C1 B; replace BB := below_then BB B; clear B)
      | (go_at_call 11; refine (placeO _).mono ?_; rintro e w5 ⟨rfl, B⟩; replace V := V.next B; replace C0 := keptC C0 B; replace C1 := keptC C1 B; replace BB := below_then BB B; clear B)
      | (go_at_call_of 12 p; refine (FS _).mono ?_; rintro e w5 ⟨rfl, B⟩; replace V := V.next B; replace C0 := keptC C0 B; replace C1 := keptC C1 B; replace BB := below_then BB B; clear B)
      | (go_at_call_of 12 E; refine (NS _).mono ?_; rintro e w5 ⟨rfl, B⟩; replace V := V.next B; replace C0 := keptC C0 B; replace C1 := keptC C1 B; replace BB := below_then BB B; clear B)
      | (go_at_call 12; refine (OS _).mono ?_; rintro e w5 ⟨rfl, B⟩; replace V := V.next B; replace C0 := keptC C0 B; replace C1 := keptC C1 B; replace BB := below_then BB B; clear B)
      | (go_at_call 13; refine (FE _).mono ?_; rintro e w5 ⟨rfl, B⟩; replace V := V.next B; replace C0 := keptC C0 B; replace C1 := keptC C1 B; replace BB := below_then BB B; clear B)
      | (go_at_call 14; refine (ER _).mono ?_; rintro e w5 ⟨rfl, B⟩; replace V := V.next B; replace C0 := keptC C0 B; replace C1 := keptC C1 B; replace BB := below_then BB B; clear B)
      | (go_at_call 15; refine (UW _).mono ?_; rintro e w5 ⟨rfl, B⟩; replace V := V.next B; replace C0 := keptC C0 B; replace C1 := keptC C1 B; replace BB := below_then BB B; clear B))
    go_ret
    exact ⟨rfl, BB⟩
  · have FO := fun W => fisF p n m W
    rw [decide_eq_false hne] at FO
    clear h
    go_enter Tryd.func3, Tryd.ntmps3
    go_wp2_with (first
      | (go_at_call 9; refine (AW _ V).mono ?_; rintro e w5 ⟨rfl, B⟩; replace V := V.next B; replace C0 := keptC C0 B; replace C1 := keptC C1 B; replace BB := below_then BB B; clear B)
      | (go_at_call_of 10 p; refine (whyF p n _ V.hand).mono ?_; rintro e w5 ⟨rfl, B⟩; replace V := V.next B; replace C0 := keptC C0 B; replace C1 := keptC C1 B; replace BB := below_then BB B; clear B)
      | (go_at_call_of 10 n; refine (whyN n _ V.hand).mono ?_; rintro e w5 ⟨rfl, B⟩; replace V := V.next B; replace C0 := keptC C0 B; replace C1 := keptC C1 B; replace BB := below_then BB B; clear B)
      | (go_at_call 10; refine (whyO _).mono ?_; rintro e w5 ⟨rfl, B⟩; replace V := V.next B; replace C0 := keptC C0 B; replace C1 := keptC C1 B; replace BB := below_then BB B; clear B)
      | (go_at_call_of 11 p; refine (placeF p n _ V.hand).mono ?_; rintro e w5 ⟨rfl, B⟩; replace V := V.next B; replace C0 := keptC C0 B; replace C1 := keptC C1 B; replace BB := below_then BB B; clear B)
      | (go_at_call_of 11 E; refine (PE _ V.hand).mono ?_; rintro e w5 ⟨rfl, B⟩; replace V := V.next B; replace C0 := keptC C0 B; replace C1 := keptC C1 B; replace BB := below_then BB B; clear B)
      | (go_at_call_of 11 n; refine (placeN n _ V.hand).mono ?_; rintro e w5 ⟨rfl, B⟩; replace V := V.next B; replace C0 := keptC C0 B; replace C1 := keptC C1 B; replace BB := below_then BB B; clear B)
      | (go_at_call 11; refine (placeO _).mono ?_; rintro e w5 ⟨rfl, B⟩; replace V := V.next B; replace C0 := keptC C0 B; replace C1 := keptC C1 B; replace BB := below_then BB B; clear B)
      | (go_at_call_of 12 m; refine (FO _).mono ?_; rintro e w5 ⟨rfl, B⟩; replace V := V.next B; replace C0 := keptC C0 B; replace C1 := keptC C1 B; replace BB := below_then BB B; clear B)
      | (go_at_call_of 12 p; refine (FS _).mono ?_; rintro e w5 ⟨rfl, B⟩; replace V := V.next B; replace C0 := keptC C0 B; replace C1 := keptC C1 B; replace BB := below_then BB B; clear B)
      | (go_at_call_of 12 E; refine (NS _).mono ?_; rintro e w5 ⟨rfl, B⟩; replace V := V.next B; replace C0 := keptC C0 B; replace C1 := keptC C1 B; replace BB := below_then BB B; clear B)
      | (go_at_call 12; refine (OS _).mono ?_; rintro e w5 ⟨rfl, B⟩; replace V := V.next B; replace C0 := keptC C0 B; replace C1 := keptC C1 B; replace BB := below_then BB B; clear B)
      | (go_at_call 13; refine (FE _).mono ?_; rintro e w5 ⟨rfl, B⟩; replace V := V.next B; replace C0 := keptC C0 B; replace C1 := keptC C1 B; replace BB := below_then BB B; clear B)
      | (go_at_call 14; refine (ER _).mono ?_; rintro e w5 ⟨rfl, B⟩; replace V := V.next B; replace C0 := keptC C0 B; replace C1 := keptC C1 B; replace BB := below_then BB B; clear B)
      | (go_at_call 15; refine (UW _).mono ?_; rintro e w5 ⟨rfl, B⟩; replace V := V.next B; replace C0 := keptC C0 B; replace C1 := keptC C1 B; replace BB := below_then BB B; clear B))
    go_ret
    exact ⟨rfl, BB⟩
end Go.Proofs.YtfdofgjlipmglaaDoor
