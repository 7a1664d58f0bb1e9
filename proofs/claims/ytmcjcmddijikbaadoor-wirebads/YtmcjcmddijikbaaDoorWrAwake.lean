/- awake of layer 15's statements: the answers that the document fixes are given. Condition: what the package's variables hold. -/
import Derived.Test.YtmcjcmddijikbaaDoorWrRef2
namespace Go.Proofs.YtmcjcmddijikbaaDoor
open Go.ChangeShapes Go.WideShapes Go.ChangeAt Go.RowKit
def g6 : Nat → Int := fun i => if i = 0 then 6 else 0
theorem vB_small (n : Nat) (h : n < 128) : vB n = [UInt8.ofNat n] := by
  unfold vB
  rw [show n / 128 = 0 by omega, grpH_zero, show n % 128 = n by omega]
  rfl
theorem mL_six : mL g6 [] ⟨#[]⟩ = [6, 0, 0, 0, 0, 0, 0, 0, 0, 0, 0, 0] := by
  rw [mL_eq]
  have e : nsB g6 10 = [6, 0, 0, 0, 0, 0, 0, 0, 0, 0] := by
    unfold nsB
    have : ∀ i, vB (g6 i).toNat = [UInt8.ofNat (g6 i).toNat] := fun i => vB_small _ (by unfold g6; split <;> decide)
    simp only [this]
    decide
  rw [e, show ([] : List Int).length = 0 from rfl, show (ByteArray.mk #[]).size = 0 from rfl, vB_small 0 (by decide)]
  rfl
theorem chk_six : (chkN g6 [] (ByteArray.mk #[]).size).1 = 0 := by decide
theorem zero_one : Array.all (#[.int .i64 0, .int .i64 0, .int .i64 0, .int .i64 0, .int .i64 0, .int .i64 0, .int .i64 0, .int .i64 0, .int .i64 0, .int .i64 0, .slice none 0 0, .string ⟨#[]⟩] : Array Value) (fun v => v.oneCell') = true := by simp [Value.oneCell']
set_option maxRecDepth 20000 in
set_option maxHeartbeats 1000000 in
theorem awake15_any (w : World) (hE : Env w) : Calls Tryd.prog 14 #[] w fun e w' => e = .returned (.bool true) ∧ Below w.heap.size w w' := by
  have W1 := write_ok g6 none 0 0 [] ⟨#[]⟩ w hE (iarg_nil w) (fun k _ => by unfold g6; split <;> omega) chk_six
  rw [show msgV g6 (.slice none 0 0) ⟨#[]⟩ = .agg #[.int .i64 6, .int .i64 0, .int .i64 0, .int .i64 0, .int .i64 0, .int .i64 0, .int .i64 0, .int .i64 0, .int .i64 0, .int .i64 0, .slice none 0 0, .string ⟨#[]⟩] from rfl, mL_six] at W1
  have RD := fun W (hW : Env W) => read_bad ⟨#[]⟩ 0 11 W hW (by decide) (by decide)
  rw [show ((0 : Nat) : Int) = 0 from rfl, show ((11 : Nat) : Int) = 11 from rfl] at RD
  have PK := fun W => refPack_any ⟨#[6, 0, 0, 0, 0, 0, 0, 0, 0, 0, 0, 0]⟩ W (by decide)
  rw [show (ByteArray.mk #[6, 0, 0, 0, 0, 0, 0, 0, 0, 0, 0, 0]).data.toList = [6, 0, 0, 0, 0, 0, 0, 0, 0, 0, 0, 0] from rfl] at PK
  generalize txt (packL [6, 0, 0, 0, 0, 0, 0, 0, 0, 0, 0, 0]) = S at *
  have SS := txt_same S
  have one := zero_one
  go_enter Tryd.func14, Tryd.ntmps14
  go_wp2_with (first
    | (go_at_call 10; refine W1.mono ?_; rintro e w1 ⟨rfl, B1⟩; have V1 := hE.next B1)
    | (go_at_call 18; refine (RD _ V1).mono ?_; rintro e w2 ⟨rfl, B2⟩; have V2 := V1.next B2; have X2 := blk_new w2 24 #[.int .i64 0, .int .i64 0, .int .i64 0, .int .i64 0, .int .i64 0, .int .i64 0, .int .i64 0, .int .i64 0, .int .i64 0, .int .i64 0, .slice none 0 0, .string ⟨#[]⟩]; have B3 : Below w2.heap.size w2 (w2.alloc (.cells #[.int .i64 0, .int .i64 0, .int .i64 0, .int .i64 0, .int .i64 0, .int .i64 0, .int .i64 0, .int .i64 0, .int .i64 0, .int .i64 0, .slice none 0 0, .string ⟨#[]⟩] 24)) := below_alloc _ _; have V3 := V2.next B3; generalize hw3 : w2.alloc (.cells #[.int .i64 0, .int .i64 0, .int .i64 0, .int .i64 0, .int .i64 0, .int .i64 0, .int .i64 0, .int .i64 0, .int .i64 0, .int .i64 0, .slice none 0 0, .string ⟨#[]⟩] 24) = w3 at *)
    | (refine wpList_store_row rfl 24 _ _ rfl w2.heap.size #[.int .i64 0, .int .i64 0, .int .i64 0, .int .i64 0, .int .i64 0, .int .i64 0, .int .i64 0, .int .i64 0, .int .i64 0, .int .i64 0, .slice none 0 0, .string ⟨#[]⟩] rfl rfl 24 _ X2 Tryd.infoMsg rfl one ?_; have B4 : Below w2.heap.size w2 (w3.setRow w2.heap.size #[.int .i64 0, .int .i64 0, .int .i64 0, .int .i64 0, .int .i64 0, .int .i64 0, .int .i64 0, .int .i64 0, .int .i64 0, .int .i64 0, .slice none 0 0, .string ⟨#[]⟩]) := below_setRow B3 (Nat.le_refl _) _; have V4 := V2.next B4; generalize hw4 : w3.setRow w2.heap.size #[.int .i64 0, .int .i64 0, .int .i64 0, .int .i64 0, .int .i64 0, .int .i64 0, .int .i64 0, .int .i64 0, .int .i64 0, .int .i64 0, .slice none 0 0, .string ⟨#[]⟩] = w4 at *)
    | (go_at_call 19; refine (PK _).mono ?_; rintro e w5 ⟨rfl, B5⟩; have V5 := V4.next B5)
    | (go_at_call 16; refine (partBF 0 0 11 _ V5.hand).mono ?_; rintro e w6 ⟨rfl, B6⟩; have V6 := V5.next B6)
    | (go_at_call 15; refine (whyBF 0 0 11 _ V6.hand).mono ?_; rintro e w7 ⟨rfl, B7⟩))
  go_ret
  exact ⟨rfl, below_then (below_then (below_then (below_then (below_then B1 B2) B4) B5) B6) B7⟩
end Go.Proofs.YtmcjcmddijikbaaDoor
