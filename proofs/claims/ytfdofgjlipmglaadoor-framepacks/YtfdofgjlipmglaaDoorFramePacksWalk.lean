/- FramePacks' walk: texts are framed in one way, and any bytes read as the frame that they are, or the first fault told with its place. -/
import Derived.Test.YtfdofgjlipmglaaDoorFRef14c
namespace Go.Proofs.YtfdofgjlipmglaaDoor
open Go.ChangeShapes Go.WideShapes Go.ChangeAt Go.RowKit
theorem flt_why (l : List UInt8) (p n : Nat) (h : fltN l = some (p, n)) : n ≠ 0 := by
  unfold fltN at h
  split at h
  · injection h with h; injection h; omega
  split at h
  · injection h with h; injection h; omega
  split at h
  · injection h with h; injection h; omega
  split at h
  · injection h with h; injection h; omega
  split at h
  · injection h with h; injection h; omega
  split at h
  · injection h with h; injection h; omega
  split at h
  · injection h with h; injection h; omega
  cases h
set_option maxHeartbeats 1600000 in
theorem framePacks_walk (a b : ByteArray) (_ha : a.size ≤ maxLen) (_hb : b.size ≤ maxLen) (w : World) (h : Env w) :
   Calls Tryd.prog 8 #[.string a, .string b] w fun e w' => e = .returned (.bool true) ∧ Below w.heap.size w w' := by
  have AW := fun W (hW : Env W) => awake_any W hW
  have C1 := fun W => cut_any a 2000 W
  have C2 := fun W => cut_any b 2000 W
  obtain ⟨l, hl⟩ : ∃ l, l = a.data.toList.take 2000 := ⟨_, rfl⟩
  obtain ⟨m, hm⟩ : ∃ m, m = b.data.toList.take 2000 := ⟨_, rfl⟩
  rw [← hl] at C1
  rw [← hm] at C2
  have ll : l.length ≤ 2000 := by rw [hl, List.length_take]; omega
  have lm : m.length ≤ 2000 := by rw [hm, List.length_take]; omega
  obtain ⟨A, hA⟩ : ∃ A, A = txt l := ⟨_, rfl⟩
  obtain ⟨B, hB⟩ : ∃ A, A = txt m := ⟨_, rfl⟩
  obtain ⟨X, hX⟩ : ∃ A, A = txt (packL l) := ⟨_, rfl⟩
  obtain ⟨U, hU⟩ : ∃ A, A = txt (unT m) := ⟨_, rfl⟩
  have zA : A.size = l.length := by rw [hA, txt_size]
  have zB : B.size = m.length := by rw [hB, txt_size]
  have zX : X.size = l.length + 10 := by rw [hX, txt_size, packL_length]
  have lA : A.data.toList = l := by rw [hA, txt_list]
  have lB : B.data.toList = m := by rw [hB, txt_list]
  have lX : X.data.toList = packL l := by rw [hX, txt_list]
  have P1 := fun W (hW : Env W) => pack_ok A W hW (by omega)
  have P2 := fun W => refPack_any A W (by omega)
  have U1 := fun W (hW : Env W) => unpack_any X W hW (by omega)
  have U2 := fun W (hW : Env W) => unpack_any B W hW (by omega)
  have U3 := fun W => refUnpack_any B W (by omega)
  have M1 := fun W (hW : Env W) => sum_any B W hW.tab (by omega)
  have M2 := fun W => refSum_any B W (by omega)
  unfold UnR at U1 U2
  unfold RfR at U3
  rw [lA, ← hX] at P1 P2
  rw [lX, un_pack l (by omega), ← hA, show unE (packL l) = .nilIface by unfold unE; rw [flt_pack l (by omega)]] at U1
  rw [lB, ← hU] at U2 U3
  rw [lB] at M1 M2
  rw [← hA] at C1
  rw [← hB] at C2
  have S1 := txt_same A
  have S2 := txt_same X
  have S3 := txt_same U
  have hq := sumN_lt m
  generalize sumN m = sm at *
  rcases hf : fltN m with _ | ⟨p, n⟩
  · rw [show unE m = .nilIface by unfold unE; rw [hf]] at U2
    rw [show whyV m = 0 by unfold whyV; rw [hf], show plcV m = -1 by unfold plcV; rw [hf]] at U3
    clear hl hm hA hB hX hU lA lB lX hf
    have V := h
    have BB : Below w.heap.size w w := Below.refl _ _
    go_enter Tryd.func8, Tryd.ntmps8
    go_wp2_with (first
      | (go_at_call_of 16 a; refine (C1 _).mono ?_; rintro e w5 ⟨rfl, hw⟩; replace hw := hw.symm; subst hw)
      | (go_at_call_of 16 b; refine (C2 _).mono ?_; rintro e w5 ⟨rfl, hw⟩; replace hw := hw.symm; subst hw)
      | (go_at_call 17; refine (P1 _ V).mono ?_; rintro e w5 ⟨rfl, Bx⟩; replace V := V.next Bx; replace BB := below_then BB Bx; clear Bx)
      | (go_at_call_of 19 X; refine (U1 _ V).mono ?_; rintro e w5 ⟨rfl, Bx⟩; replace V := V.next Bx; replace BB := below_then BB Bx; clear Bx)
      | (go_at_call_of 19 B; refine (U2 _ V).mono ?_; rintro e w5 ⟨rfl, Bx⟩; replace V := V.next Bx; replace BB := below_then BB Bx; clear Bx)
      | (go_at_call 20; refine (U3 _).mono ?_; rintro e w5 ⟨rfl, Bx⟩; replace V := V.next Bx; replace BB := below_then BB Bx; clear Bx)
      | (go_at_call 9; refine (AW _ V).mono ?_; rintro e w5 ⟨rfl, Bx⟩; replace V := V.next Bx; replace BB := below_then BB Bx; clear Bx)
      | (go_at_call 21; refine (P2 _).mono ?_; rintro e w5 ⟨rfl, Bx⟩; replace V := V.next Bx; replace BB := below_then BB Bx; clear Bx)
      | (go_at_call 18; refine (M1 _ V).mono ?_; rintro e w5 ⟨rfl, hw⟩; replace hw := hw.symm; subst hw)
      | (go_at_call 22; refine (M2 _).mono ?_; rintro e w5 ⟨rfl, Bx⟩; replace V := V.next Bx; replace BB := below_then BB Bx; clear Bx)
      | (go_at_call 10; refine (whyO _).mono ?_; rintro e w5 ⟨rfl, Bx⟩; replace V := V.next Bx; replace BB := below_then BB Bx; clear Bx)
      | (go_at_call 11; refine (placeO _).mono ?_; rintro e w5 ⟨rfl, Bx⟩; replace V := V.next Bx; replace BB := below_then BB Bx; clear Bx))
    go_ret
    exact ⟨rfl, BB⟩
  · have hn0 := flt_why m p n hf
    have hn1 : ((n : Int) == 0) = false := by rw [beq_eq_false_iff_ne]; omega
    rw [show unE m = eF p n by unfold unE; rw [hf]] at U2
    rw [show whyV m = n by unfold whyV; rw [hf], show plcV m = p by unfold plcV; rw [hf]] at U3
    clear hl hm hA hB hX hU lA lB lX hf hn0
    have V := h
    have BB : Below w.heap.size w w := Below.refl _ _
    go_enter Tryd.func8, Tryd.ntmps8
    go_wp2_with (first
      | (go_at_call_of 16 a; refine (C1 _).mono ?_; rintro e w5 ⟨rfl, hw⟩; replace hw := hw.symm; subst hw)
      | (go_at_call_of 16 b; refine (C2 _).mono ?_; rintro e w5 ⟨rfl, hw⟩; replace hw := hw.symm; subst hw)
      | (go_at_call 17; refine (P1 _ V).mono ?_; rintro e w5 ⟨rfl, Bx⟩; replace V := V.next Bx; replace BB := below_then BB Bx; clear Bx)
      | (go_at_call_of 19 X; refine (U1 _ V).mono ?_; rintro e w5 ⟨rfl, Bx⟩; replace V := V.next Bx; replace BB := below_then BB Bx; clear Bx)
      | (go_at_call_of 19 B; refine (U2 _ V).mono ?_; rintro e w5 ⟨rfl, Bx⟩; replace V := V.next Bx; replace BB := below_then BB Bx; clear Bx)
      | (go_at_call 20; refine (U3 _).mono ?_; rintro e w5 ⟨rfl, Bx⟩; replace V := V.next Bx; replace BB := below_then BB Bx; clear Bx)
      | (go_at_call 9; refine (AW _ V).mono ?_; rintro e w5 ⟨rfl, Bx⟩; replace V := V.next Bx; replace BB := below_then BB Bx; clear Bx)
      | (go_at_call 21; refine (P2 _).mono ?_; rintro e w5 ⟨rfl, Bx⟩; replace V := V.next Bx; replace BB := below_then BB Bx; clear Bx)
      | (go_at_call 18; refine (M1 _ V).mono ?_; rintro e w5 ⟨rfl, hw⟩; replace hw := hw.symm; subst hw)
      | (go_at_call 22; refine (M2 _).mono ?_; rintro e w5 ⟨rfl, Bx⟩; replace V := V.next Bx; replace BB := below_then BB Bx; clear Bx)
      | (go_at_call 10; refine (whyF _ _ _ V.hand).mono ?_; rintro e w5 ⟨rfl, Bx⟩; replace V := V.next Bx; replace BB := below_then BB Bx; clear Bx)
      | (go_at_call 11; refine (placeF _ _ _ V.hand).mono ?_; rintro e w5 ⟨rfl, Bx⟩; replace V := V.next Bx; replace BB := below_then BB Bx; clear Bx))
    go_ret
    exact ⟨rfl, BB⟩
end Go.Proofs.YtfdofgjlipmglaaDoor
