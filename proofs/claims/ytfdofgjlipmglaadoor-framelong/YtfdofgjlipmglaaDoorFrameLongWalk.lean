/- FrameLong's walk: texts are framed just up to the limit. -/
import Derived.Test.YtfdofgjlipmglaaDoorFMake
namespace Go.Proofs.YtfdofgjlipmglaaDoor
open Go.ChangeShapes Go.WideShapes Go.ChangeAt Go.RowKit
set_option maxHeartbeats 1000000 in
theorem frameLong_walk (n : Int) (_h1 : -9223372036854775808 ≤ n) (_h2 : n ≤ 9223372036854775807) (w : World) (h : Env w) :
   Calls Tryd.prog 6 #[.int .i64 n] w fun e w' => e = .returned (.bool true) ∧ Below w.heap.size w w' := by
  have AW := fun W (hW : Env W) => awake_any W hW
  by_cases c0 : n < 0
  · go_enter Tryd.func6, Tryd.ntmps6
    go_wp2_with (go_at_call 9; refine (AW _ h).mono ?_; rintro e w4 ⟨rfl, B4⟩)
    go_ret
    exact ⟨rfl, B4⟩
  by_cases c1 : 61000 < n
  · go_enter Tryd.func6, Tryd.ntmps6
    go_wp2_with (go_at_call 9; refine (AW _ h).mono ?_; rintro e w4 ⟨rfl, B4⟩)
    go_ret
    exact ⟨rfl, B4⟩
  obtain ⟨k, rfl⟩ : ∃ k : Nat, n = (k : Int) := ⟨n.toNat, by omega⟩
  have MK := makeB k (by omega)
  have CV := conv_made k
  obtain ⟨Z, hZ⟩ : ∃ Z, Z = txt (zeroL k) := ⟨_, rfl⟩
  rw [← hZ] at CV
  have lz : (zeroL k).length = k := by simp [zeroL]
  have zZ : Z.size = k := by rw [hZ, txt_size, lz]
  have BA := below_alloc w (.cells (madeCells #[.int .u8 0] k) 5)
  have V1 := h.next BA
  by_cases c2 : 60000 < k
  · have PB := fun W => pack_big Z W (by omega) (by omega)
    clear hZ
    go_enter Tryd.func6, Tryd.ntmps6
    go_wp2_with (first
      | (go_at_call 17; refine (PB _).mono ?_; rintro e w2 ⟨rfl, B2⟩; have V2 := V1.next B2)
      | (go_at_call 9; refine (AW _ V2).mono ?_; rintro e w4 ⟨rfl, B4⟩; have V4 := V2.next B4)
      | (go_at_call 10; refine (whyF 60000 2 _ V4.hand).mono ?_; rintro e w5 ⟨rfl, B5⟩; have V5 := V4.next B5)
      | (go_at_call 11; refine (placeF 60000 2 _ V5.hand).mono ?_; rintro e w6 ⟨rfl, B6⟩))
    go_ret
    exact ⟨rfl, below_then BA (below_then (below_then (below_then B2 B4) B5) B6)⟩
  · obtain ⟨X, hX⟩ : ∃ X, X = txt (packL (zeroL k)) := ⟨_, rfl⟩
    obtain ⟨Y, hY⟩ : ∃ X, X = txt ((packL (zeroL k)).take (k + 9)) := ⟨_, rfl⟩
    have P1 := fun W (hW : Env W) => pack_ok Z W hW (by omega)
    rw [show Z.data.toList = zeroL k by rw [hZ, txt_list], ← hX] at P1
    have zX : X.size = k + 10 := by rw [hX, txt_size, packL_length, lz]
    have zY : Y.size = k + 9 := by rw [hY, txt_size, List.length_take, packL_length, lz]; omega
    have U1 := fun W (hW : Env W) => unpack_any X W hW (by omega)
    have U2 := fun W (hW : Env W) => unpack_any Y W hW (by omega)
    unfold UnR at U1 U2
    have e1 : unE (packL (zeroL k)) = .nilIface := by unfold unE; rw [flt_pack _ (by omega)]
    have fs := flt_short (zeroL k) (by omega)
    rw [lz] at fs
    have e2 : unE ((packL (zeroL k)).take (k + 9)) = eF ((k + 9 : Nat) : Int) 11 := by unfold unE; rw [fs]; rfl
    have e3 : unT ((packL (zeroL k)).take (k + 9)) = [] := by unfold unT; rw [fs]
    rw [show X.data.toList = packL (zeroL k) by rw [hX, txt_list], e1, un_pack _ (by omega), ← hZ] at U1
    rw [show Y.data.toList = (packL (zeroL k)).take (k + 9) by rw [hY, txt_list], e2, e3, show txt [] = ⟨#[]⟩ from rfl] at U2
    have SL := slice_to X (k + 9) ((k : Int) + 10 - 1) (by omega) (by omega)
    rw [show X.data.toList = packL (zeroL k) by rw [hX, txt_list], ← hY] at SL
    have e9 : ((k + 9 : Nat) : Int) = (k : Int) + 10 - 1 := by omega
    rw [e9] at U2
    have SS := txt_same Z
    clear hZ hX hY e1 e2 e3 fs lz zY e9
    go_enter Tryd.func6, Tryd.ntmps6
    go_wp2_with (first
      | (go_at_call 17; refine (P1 _ V1).mono ?_; rintro e w2 ⟨rfl, B2⟩; have V2 := V1.next B2)
      | (go_at_call_of 19 X; refine (U1 _ V2).mono ?_; rintro e w3 ⟨rfl, B3⟩; have V3 := V2.next B3)
      | (go_at_call_of 19 Y; refine (U2 _ V3).mono ?_; rintro e w3' ⟨rfl, B3'⟩; have V3' := V3.next B3')
      | (go_at_call 9; refine (AW _ V3').mono ?_; rintro e w4 ⟨rfl, B4⟩; have V4 := V3'.next B4)
      | (go_at_call 10; refine (whyF _ 11 _ V4.hand).mono ?_; rintro e w5 ⟨rfl, B5⟩; have V5 := V4.next B5)
      | (go_at_call 11; refine (placeF _ 11 _ V5.hand).mono ?_; rintro e w6 ⟨rfl, B6⟩))
    go_ret
    exact ⟨rfl, below_then BA (below_then (below_then (below_then (below_then (below_then B2 B3) B3') B4) B5) B6)⟩
end Go.Proofs.YtfdofgjlipmglaaDoor
