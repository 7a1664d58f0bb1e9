/- FrameApart's walk: unlike texts have unlike frames, and no frame is another one's beginning. -/
import Derived.Test.YtfdofgjlipmglaaDoorFCut
namespace Go.Proofs.YtfdofgjlipmglaaDoor
open Go.ChangeShapes Go.WideShapes Go.ChangeAt Go.RowKit
set_option maxHeartbeats 1000000 in
theorem frameApart_walk (a b : ByteArray) (_ha : a.size ≤ maxLen) (_hb : b.size ≤ maxLen) (w : World) (h : Env w) :
   Calls Tryd.prog 4 #[.string a, .string b] w fun e w' => e = .returned (.bool true) ∧ Below w.heap.size w w' := by
  have C1 := fun W => cut_any a 300 W
  have C2 := fun W => cut_any b 300 W
  obtain ⟨l, hl⟩ : ∃ l, l = a.data.toList.take 300 := ⟨_, rfl⟩
  obtain ⟨m, hm⟩ : ∃ m, m = b.data.toList.take 300 := ⟨_, rfl⟩
  rw [← hl] at C1
  rw [← hm] at C2
  have ll : l.length ≤ 300 := by rw [hl, List.length_take]; omega
  have lm : m.length ≤ 300 := by rw [hm, List.length_take]; omega
  obtain ⟨A, hA⟩ : ∃ A, A = txt l := ⟨_, rfl⟩
  obtain ⟨B, hB⟩ : ∃ A, A = txt m := ⟨_, rfl⟩
  obtain ⟨X, hX⟩ : ∃ A, A = txt (packL l) := ⟨_, rfl⟩
  obtain ⟨Y, hY⟩ : ∃ A, A = txt (packL m) := ⟨_, rfl⟩
  have zA : A.size = l.length := by rw [hA, txt_size]
  have zB : B.size = m.length := by rw [hB, txt_size]
  have zX : X.size = l.length + 10 := by rw [hX, txt_size, packL_length]
  have zY : Y.size = m.length + 10 := by rw [hY, txt_size, packL_length]
  have P1 := fun W (hW : Env W) => pack_ok A W hW (by omega)
  have P2 := fun W (hW : Env W) => pack_ok B W hW (by omega)
  rw [show A.data.toList = l by rw [hA, txt_list], ← hX] at P1
  rw [show B.data.toList = m by rw [hB, txt_list], ← hY] at P2
  rw [← hA] at C1
  rw [← hB] at C2
  have AW := fun W (hW : Env W) => awake_any W hW
  rcases Decidable.em (l = m) with rfl | hne
  · obtain rfl : A = B := by rw [hA, hB]
    obtain rfl : X = Y := by rw [hX, hY]
    clear hl hm hA hB hX hY P2 zB zY _ha _hb
    go_enter Tryd.func4, Tryd.ntmps4
    go_wp2_with (first
      | (go_at_call_of 16 a; refine (C1 _).mono ?_; rintro e w1 ⟨rfl, hw⟩; obtain rfl := hw)
      | (go_at_call_of 16 b; refine (C2 _).mono ?_; rintro e w1 ⟨rfl, hw⟩; obtain rfl := hw))
    refine (P1 _ h).mono ?_
    rintro e w2 ⟨rfl, B2⟩
    have V2 := h.next B2
    go_wp2_with fail
    refine (P1 _ V2).mono ?_
    rintro e w3 ⟨rfl, B3⟩
    have V3 := V2.next B3
    go_wp2_with (go_at_call 9; refine (AW _ V3).mono ?_; rintro e w4 ⟨rfl, B4⟩)
    go_ret
    exact ⟨rfl, below_then (below_then B2 B3) B4⟩
  · have hAB := txt_ne (show ¬ A = B by rw [hA, hB]; exact fun he => hne (txt_inj he))
    have hXY := txt_ne (show ¬ X = Y by rw [hX, hY]; exact fun he => hne (packL_inj l m (by omega) (by omega) (txt_inj he)))
    have LS := fun W (hc : l.length < m.length) => slice_to Y X.size (X.size : Int) rfl (by omega) W
    obtain ⟨Z, hZ⟩ : ∃ Z, Z = txt (Y.data.toList.take X.size) := ⟨_, rfl⟩
    rw [← hZ] at LS
    have hZX : l.length < m.length → ¬ Z = X := by
      intro hc he
      rw [hZ, hX, hY, txt_list, txt_size] at he
      exact packL_not_front l m (by omega) (by omega) hc (txt_inj he)
    rcases Nat.lt_or_ge l.length m.length with hc | hc
    · have LS2 := fun W => LS W hc
      have hZX2 := txt_ne (hZX hc)
      rw [zX] at LS2
      have e10 : ((l.length + 10 : Nat) : Int) = (l.length : Int) + 10 := by omega
      rw [e10] at LS2
      clear hl hm hA hB hX hY LS hZX hZ _ha _hb hne e10
      go_enter Tryd.func4, Tryd.ntmps4
      go_wp2_with (first
        | (go_at_call_of 16 a; refine (C1 _).mono ?_; rintro e w1 ⟨rfl, hw⟩; obtain rfl := hw)
        | (go_at_call_of 16 b; refine (C2 _).mono ?_; rintro e w1 ⟨rfl, hw⟩; obtain rfl := hw))
      refine (P1 _ h).mono ?_
      rintro e w2 ⟨rfl, B2⟩
      have V2 := h.next B2
      go_wp2_with fail
      refine (P2 _ V2).mono ?_
      rintro e w3 ⟨rfl, B3⟩
      have V3 := V2.next B3
      go_wp2_with (go_at_call 9; refine (AW _ V3).mono ?_; rintro e w4 ⟨rfl, B4⟩)
      go_ret
      exact ⟨rfl, below_then (below_then B2 B3) B4⟩
    · clear hl hm hA hB hX hY LS hZX hZ _ha _hb hne
      go_enter Tryd.func4, Tryd.ntmps4
      go_wp2_with (first
        | (go_at_call_of 16 a; refine (C1 _).mono ?_; rintro e w1 ⟨rfl, hw⟩; obtain rfl := hw)
        | (go_at_call_of 16 b; refine (C2 _).mono ?_; rintro e w1 ⟨rfl, hw⟩; obtain rfl := hw))
      refine (P1 _ h).mono ?_
      rintro e w2 ⟨rfl, B2⟩
      have V2 := h.next B2
      go_wp2_with fail
      refine (P2 _ V2).mono ?_
      rintro e w3 ⟨rfl, B3⟩
      have V3 := V2.next B3
      go_wp2_with (go_at_call 9; refine (AW _ V3).mono ?_; rintro e w4 ⟨rfl, B4⟩)
      go_ret
      exact ⟨rfl, below_then (below_then B2 B3) B4⟩
end Go.Proofs.YtfdofgjlipmglaaDoor
