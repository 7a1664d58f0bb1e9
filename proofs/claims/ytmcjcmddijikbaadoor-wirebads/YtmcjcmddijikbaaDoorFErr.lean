/- The error numbers' texts, and a fault's; no condition. -/
import Derived.Test.YtmcjcmddijikbaaDoorFWhy2
import Derived.Test.YtmcjcmddijikbaaDoorFPack
namespace Go.Proofs.YtmcjcmddijikbaaDoor
open Go.ChangeShapes Go.WideShapes Go.ChangeAt Go.RowKit
def errL : List ByteArray := [⟨#[111, 107]⟩, ⟨#[97, 114, 103, 117, 109, 101, 110, 116]⟩, ⟨#[116, 111, 111, 32, 98, 105, 103]⟩, ⟨#[116, 101, 120, 116]⟩, ⟨#[102, 111, 114, 109]⟩, ⟨#[110, 111, 117, 103, 104, 116]⟩, ⟨#[108, 101, 110, 103, 116, 104, 115]⟩, ⟨#[116, 111, 107, 101, 110]⟩, ⟨#[110, 111, 110, 101]⟩, ⟨#[116, 104, 101, 114, 101]⟩, ⟨#[102, 117, 108, 108]⟩, ⟨#[101, 110, 100]⟩, ⟨#[115, 117, 109]⟩, ⟨#[107, 105, 110, 100]⟩, ⟨#[111, 108, 100]⟩, ⟨#[98, 117, 115, 121]⟩, ⟨#[108, 97, 116, 101]⟩, ⟨#[100, 111, 119, 110]⟩]
def errC : Array Value := #[Value.string ⟨#[111, 107]⟩, Value.string ⟨#[97, 114, 103, 117, 109, 101, 110, 116]⟩, Value.string ⟨#[116, 111, 111, 32, 98, 105, 103]⟩, Value.string ⟨#[116, 101, 120, 116]⟩, Value.string ⟨#[102, 111, 114, 109]⟩, Value.string ⟨#[110, 111, 117, 103, 104, 116]⟩, Value.string ⟨#[108, 101, 110, 103, 116, 104, 115]⟩, Value.string ⟨#[116, 111, 107, 101, 110]⟩, Value.string ⟨#[110, 111, 110, 101]⟩, Value.string ⟨#[116, 104, 101, 114, 101]⟩, Value.string ⟨#[102, 117, 108, 108]⟩, Value.string ⟨#[101, 110, 100]⟩, Value.string ⟨#[115, 117, 109]⟩, Value.string ⟨#[107, 105, 110, 100]⟩, Value.string ⟨#[111, 108, 100]⟩, Value.string ⟨#[98, 117, 115, 121]⟩, Value.string ⟨#[108, 97, 116, 101]⟩, Value.string ⟨#[100, 111, 119, 110]⟩]
def errAt (n : Nat) : ByteArray := errL.getD n ⟨#[]⟩
theorem errC_get (n : Nat) (h : n < 18) : errC[n]? = some (.string (errAt n)) := by
  have : ∀ i : Fin 18, errC[i.val]? = some (.string (errAt i.val)) := fun i => by
    rcases i with ⟨i, hi⟩
    rcases i with _ | _ | _ | _ | _ | _ | _ | _ | _ | _ | _ | _ | _ | _ | _ | _ | _ | _ | i
    all_goals first | rfl | omega
  exact this ⟨n, h⟩
theorem errAt_size (n : Nat) (h : n < 18) : (errAt n).size ≤ 8 := by
  have : ∀ i : Fin 18, (errAt i.val).size ≤ 8 := by decide +kernel
  exact this ⟨n, h⟩
/-- The text of an error's number. -/
def errS (n : Int) : ByteArray := if 0 ≤ n ∧ n < 18 then errAt n.toNat else ⟨#[117, 110, 107, 110, 111, 119, 110]⟩
theorem errS_size (n : Int) : (errS n).size ≤ 8 := by
  unfold errS
  split
  · exact errAt_size _ (by omega)
  · decide
set_option maxRecDepth 8000 in
set_option maxHeartbeats 1000000 in
theorem error_any (n : Int) (w : World) (h1 : -9223372036854775808 ≤ n) (h2 : n ≤ 9223372036854775807) :
   Calls Tryd.prog 26 #[.int .i64 n] w fun e w' => e = .returned (.string (errS n)) ∧ Below w.heap.size w w' := by
  by_cases c : 0 ≤ n ∧ n < 18
  · have HE : Hid (errS n = errAt n.toNat) := if_pos c
    obtain ⟨k, rfl⟩ : ∃ k : Nat, n = (k : Int) := ⟨n.toNat, by omega⟩
    rw [Int.toNat_natCast] at HE
    have hc : (w.alloc (.cells errC 9)).cell? ⟨w.heap.size, k, none⟩ = some (.string (errAt k)) := by
      rw [World.cell?_alloc_at _ _ _ _ (by simp)]
      exact errC_get k (by omega)
    have BA := below_alloc w (.cells errC 9)
    unfold errC at hc BA
    generalize errAt k = X at *
    go_enter Tryd.func26, Tryd.ntmps26
    go_wp2_with fail
    go_ret
    exact ⟨by rw [HE.out]; rfl, BA⟩
  · have HE : Hid (errS n = ⟨#[117, 110, 107, 110, 111, 119, 110]⟩) := if_neg c
    have BA := below_alloc w (.cells errC 9)
    unfold errC at BA
    by_cases c1 : n < 0
    · go_enter Tryd.func26, Tryd.ntmps26
      go_wp2_with fail
      go_ret
      exact ⟨by rw [HE.out]; rfl, BA⟩
    · have c2 : 18 ≤ n := by omega
      clear c
      go_enter Tryd.func26, Tryd.ntmps26
      go_wp2_with fail
      go_ret
      exact ⟨by rw [HE.out]; rfl, BA⟩
def faultS (n : Int) : ByteArray := ⟨#[102, 114, 97, 109, 101, 58, 32]⟩ ++ errS n
theorem fault_add (n : Int) (w : World) : (Op.stringOp .add ⟨#[102, 114, 97, 109, 101, 58, 32]⟩ (errS n)).run Tryd.prog w = .ok (.string (faultS n)) w := by
  rw [run_string_add_sum w _ _ (by have := errS_size n; have h7 : (ByteArray.mk #[102, 114, 97, 109, 101, 58, 32]).size = 7 := rfl; omega)]
  rfl
theorem faultError_any (p n : Int) (w : World) (h1 : -9223372036854775808 ≤ n) (h2 : n ≤ 9223372036854775807) :
   Calls Tryd.prog 84 #[.agg #[.int .i64 p, .int .i64 n]] w fun e w' => e = .returned (.string (faultS n)) ∧ Below w.heap.size w w' := by
  have FA := fault_add n
  have ER := fun W => error_any n W h1 h2
  generalize errS n = X at *
  generalize faultS n = Y at *
  go_enter Tryd.func84, Tryd.ntmps84
  go_wp2_with (go_at_call 26; refine (ER _).mono ?_; rintro e w2 ⟨rfl, B2⟩)
  go_ret
  exact ⟨rfl, below_then (below_alloc _ _) B2⟩
theorem unwrap_any (p n : Int) (w : World) :
   Calls Tryd.prog 85 #[.agg #[.int .i64 p, .int .i64 n]] w fun e w' => e = .returned (eN n) ∧ Below w.heap.size w w' := by
  have BA := below_alloc w (.cells #[.int .i64 p, .int .i64 n] 56)
  go_enter Tryd.func85, Tryd.ntmps85
  go_wp2_with fail
  go_ret
  exact ⟨rfl, BA⟩
end Go.Proofs.YtmcjcmddijikbaaDoor
