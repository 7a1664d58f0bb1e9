/- The statements' awake: the answers that the document fixes are given. Condition: what the package's variables hold. -/
import Derived.Test.YtfdofgjlipmglaaDoorFUnpack
namespace Go.Proofs.YtfdofgjlipmglaaDoor
open Go.ChangeShapes Go.WideShapes Go.ChangeAt Go.RowKit
def aL : List UInt8 := [84, 1, 1, 0, 0, 0, 97, 1, 185, 127, 134]
theorem pack_a : packL [97] = aL := by decide +kernel
theorem un_a : unT aL = [97] ∧ fltN aL = none := by decide +kernel
theorem un_ax : fltN (aL ++ [120]) = some (11, 6) := by decide +kernel
theorem sum_9 : sumN [49, 50, 51, 52, 53, 54, 55, 56, 57] = 3421780262 := by decide +kernel
set_option maxHeartbeats 1000000 in
theorem awake_any (w : World) (h : Env w) : Calls Tryd.prog 9 #[] w fun e w' => e = .returned (.bool true) ∧ Below w.heap.size w w' := by
  obtain ⟨A, hA⟩ : ∃ A, A = txt aL := ⟨_, rfl⟩
  obtain ⟨B, hB⟩ : ∃ B, B = txt (aL ++ [120]) := ⟨_, rfl⟩
  have P1 := pack_ok ⟨#[97]⟩ w h (by decide)
  rw [show (ByteArray.mk #[97]).data.toList = [97] from rfl, pack_a, ← hA] at P1
  have zA : A.size = 11 := by rw [hA, txt_size]; rfl
  have zB : B.size = 12 := by rw [hB, txt_size]; rfl
  have S1 := add_txt _ _ A ⟨#[120]⟩ B hA (show (⟨#[120]⟩ : ByteArray) = txt [120] from rfl) hB (by decide)
  have U1 := fun W (hW : Env W) => unpack_any A W hW (by omega)
  have U2 := fun W (hW : Env W) => unpack_any B W hW (by omega)
  have e1 : unE aL = .nilIface := by unfold unE; rw [un_a.2]
  have e2 : unE (aL ++ [120]) = eF 11 6 := by unfold unE; rw [un_ax]; rfl
  have e3 : unT (aL ++ [120]) = [] := by unfold unT; rw [un_ax]
  have lA : A.data.toList = aL := by rw [hA, txt_list]
  have lB : B.data.toList = aL ++ [120] := by rw [hB, txt_list]
  unfold UnR at U1 U2
  rw [lA, un_a.1, e1] at U1
  rw [lB, e2, e3] at U2
  rw [show txt [97] = ⟨#[97]⟩ from rfl] at U1
  rw [show txt [] = ⟨#[]⟩ from rfl] at U2
  have M1 := fun W (hW : Env W) => sum_any ⟨#[49, 50, 51, 52, 53, 54, 55, 56, 57]⟩ W hW.tab (by decide)
  rw [show (ByteArray.mk #[49, 50, 51, 52, 53, 54, 55, 56, 57]).data.toList = [49, 50, 51, 52, 53, 54, 55, 56, 57] from rfl, sum_9] at M1
  clear hA hB e1 e2 e3 lA lB zB
  go_enter Tryd.func9, Tryd.ntmps9
  go_wp2_with (first
    | (go_at_call 17; refine P1.mono ?_; rintro e w1 ⟨rfl, B1⟩; have V1 := h.next B1)
    | (go_at_call_of 19 A; refine (U1 _ V1).mono ?_; rintro e w2 ⟨rfl, B2⟩; have V2 := V1.next B2)
    | (go_at_call_of 19 B; refine (U2 _ V2).mono ?_; rintro e w3 ⟨rfl, B3⟩; have V3 := V2.next B3)
    | (go_at_call 18; refine (M1 _ V3).mono ?_; rintro e w4 ⟨rfl, rfl⟩)
    | (go_at_call 10; refine (whyF 11 6 _ V3.hand).mono ?_; rintro e w5 ⟨rfl, B5⟩; have V5 := V3.next B5)
    | (go_at_call 11; refine (placeF 11 6 _ V5.hand).mono ?_; rintro e w6 ⟨rfl, B6⟩))
  go_ret
  exact ⟨rfl, below_then (below_then (below_then (below_then B1 B2) B3) B5) B6⟩
end Go.Proofs.YtfdofgjlipmglaaDoor
