/- The document's Unpack, whole. Condition: a text of at most 60,000 bytes. -/
import Derived.Test.YtfdofgjlipmglaaDoorFRef14b
namespace Go.Proofs.YtfdofgjlipmglaaDoor
open Go.ChangeShapes Go.WideShapes Go.ChangeAt Go.RowKit
/-- The number, the place. -/
def whyV (l : List UInt8) : Int := match fltN l with
  | none => 0
  | some (_, n) => n
def plcV (l : List UInt8) : Int := match fltN l with
  | none => -1
  | some (p, _) => p
def RfR (s : ByteArray) (w : World) (e : Ending) (w' : World) : Prop := e = .returned (.tuple #[.string (txt (unT s.data.toList)), .int .i64 (whyV s.data.toList), .int .i64 (plcV s.data.toList)]) ∧ Below w.heap.size w w'
theorem RfR.of {s : ByteArray} {w : World} {w' : World} {p n : Nat} (h : fltN s.data.toList = some (p, n)) (hb : Below w.heap.size w w') : RfR s w (.returned (.tuple #[.string ⟨#[]⟩, .int .i64 (n : Int), .int .i64 (p : Int)])) w' := by
  refine ⟨?_, hb⟩
  unfold unT whyV plcV
  rw [h]
  rfl
theorem numSl (l : List UInt8) (h : 6 ≤ l.length) : numL ((l.drop 2).take 4) = numAt l 2 := by
  match l, h with
  | a :: b :: c :: d :: e :: f :: m, _ => exact numL_four c d e f
set_option maxHeartbeats 800000 in
theorem refUnpack_any (s : ByteArray) (w : World) (hs : s.size ≤ 60000) : Calls Tryd.prog 20 #[.string s] w (RfR s w) := by
  have hl : s.data.toList.length = s.size := rfl
  by_cases c1 : s.size < 10
  · have HF : Hid (fltN s.data.toList = some (s.size, 11)) := by show _ = _; unfold fltN; rw [if_pos (by omega), hl]
    go_enter Tryd.func20, Tryd.ntmps20
    go_wp2_with fail
    go_ret3
    exact RfR.of HF.out (Below.refl _ _)
  have i0 := index_at s 0 (by omega) 0 rfl
  have i1 := index_at s 1 (by omega) 1 rfl
  have l0 := (s.data.toList.getD 0 0).toNat_lt
  have l1 := (s.data.toList.getD 1 0).toNat_lt
  by_cases c2 : (s.data.toList.getD 0 0).toNat = 84
  rotate_left
  · have HF : Hid (fltN s.data.toList = some (0, 3)) := by show _ = _; unfold fltN; rw [if_neg (by omega), if_pos c2]
    generalize (s.data.toList.getD 0 0).toNat = x0 at *
    go_enter Tryd.func20, Tryd.ntmps20
    go_wp2_with fail
    go_ret3
    exact RfR.of HF.out (Below.refl _ _)
  rw [c2] at i0
  by_cases c3 : (s.data.toList.getD 1 0).toNat = 1
  rotate_left
  · have HF : Hid (fltN s.data.toList = some (1, 14)) := by show _ = _; unfold fltN; rw [if_neg (by omega), if_neg (by omega), if_pos c3]
    generalize (s.data.toList.getD 1 0).toNat = x0 at *
    clear c2 l0
    go_enter Tryd.func20, Tryd.ntmps20
    go_wp2_with fail
    go_ret3
    exact RfR.of HF.out (Below.refl _ _)
  rw [c3] at i1
  have SN := slice_mid s 2 6 2 6 rfl rfl (by omega) (by omega)
  obtain ⟨Q4, hQ4⟩ : ∃ Q, Q = txt ((s.data.toList.drop 2).take (6 - 2)) := ⟨_, rfl⟩
  have zQ : Q4.size = 4 := by rw [hQ4, txt_size, List.length_take, List.length_drop]; omega
  have N2 := refNumber_any Q4 w zQ
  rw [show Q4.data.toList = (s.data.toList.drop 2).take 4 by rw [hQ4, txt_list], numSl _ (by omega)] at N2
  rw [← hQ4] at SN
  clear hQ4 zQ
  have ln := numAt_lt s.data.toList 2
  obtain ⟨n, hn⟩ : ∃ n, n = numAt s.data.toList 2 := ⟨_, rfl⟩
  rw [← hn] at N2 ln
  by_cases c4 : 60000 < n
  · have HF : Hid (fltN s.data.toList = some (2, 2)) := by show _ = _; unfold fltN; rw [if_neg (by omega), if_neg (by omega), if_neg (by omega), if_pos (by omega)]
    clear c2 c3 l0 l1 hn
    go_enter Tryd.func20, Tryd.ntmps20
    go_wp2_with (go_at_call 32; refine N2.mono ?_; rintro e w2 ⟨rfl, hw⟩; replace hw := hw.symm; subst hw)
    go_ret3
    exact RfR.of HF.out (Below.refl _ _)
  by_cases c5 : s.size < n + 10
  · have HF : Hid (fltN s.data.toList = some (s.size, 11)) := by show _ = _; unfold fltN; rw [if_neg (by omega), if_neg (by omega), if_neg (by omega), if_neg (by omega), if_pos (by omega), hl]
    clear c2 c3 l0 l1 hn
    go_enter Tryd.func20, Tryd.ntmps20
    go_wp2_with (go_at_call 32; refine N2.mono ?_; rintro e w2 ⟨rfl, hw⟩; replace hw := hw.symm; subst hw)
    go_ret3
    exact RfR.of HF.out (Below.refl _ _)
  by_cases c6 : n + 10 < s.size
  · have HF : Hid (fltN s.data.toList = some (n + 10, 6)) := by show _ = _; unfold fltN; rw [if_neg (by omega), if_neg (by omega), if_neg (by omega), if_neg (by omega), if_neg (by omega), if_pos (by omega), ← hn]
    clear c2 c3 l0 l1 hn
    go_enter Tryd.func20, Tryd.ntmps20
    go_wp2_with (go_at_call 32; refine N2.mono ?_; rintro e w2 ⟨rfl, hw⟩; replace hw := hw.symm; subst hw)
    have e6 : ((n : Int) + 10) = ((n + 10 : Nat) : Int) := by omega
    go_ret3
    rw [e6]
    exact RfR.of HF.out (Below.refl _ _)
  have hz : s.size = n + 10 := by omega
  have SM := slice_mid s 6 (n + 6) 6 (6 + (n : Int)) rfl (by omega) (by omega) (by omega)
  obtain ⟨X2, hX2⟩ : ∃ X, X = txt ((s.data.toList.drop 6).take (n + 6 - 6)) := ⟨_, rfl⟩
  rw [← hX2] at SM
  have l2 : X2.data.toList = (s.data.toList.drop 6).take n := by rw [hX2, txt_list, Nat.add_sub_cancel]
  have z2 : X2.size = n := by rw [hX2, txt_size, List.length_take, List.length_drop]; omega
  have PK := fun W => refPack_any X2 W (by omega)
  rw [l2] at PK
  have PI := pack_iff s.data.toList c2 c3 (by rw [← hn]; omega)
  rw [← hn] at PI
  obtain ⟨Y2, hY2⟩ : ∃ Y, Y = txt (packL ((s.data.toList.drop 6).take n)) := ⟨_, rfl⟩
  rw [← hY2] at PK
  by_cases c7 : numAt s.data.toList (n + 6) = sumN (s.data.toList.take (n + 6))
  · have HF : Hid (fltN s.data.toList = none) := by show _ = _; unfold fltN; rw [if_neg (by omega), if_neg (by omega), if_neg (by omega), if_neg (by omega), if_neg (by omega), if_neg (by omega), if_neg (by rw [← hn]; omega)]
    have HB : Hid (unT s.data.toList = (s.data.toList.drop 6).take n) := by show _ = _; unfold unT; rw [HF.out, ← hn]
    have HX : Hid (txt ((s.data.toList.drop 6).take n) = X2) := by show _ = _; rw [hX2, Nat.add_sub_cancel]
    obtain rfl : Y2 = s := by rw [hY2, PI.2 c7, txt_of]
    have SS := txt_same Y2
    clear c2 c3 l0 l1 hn c7 hX2 PI l2 hY2
    go_enter Tryd.func20, Tryd.ntmps20
    go_wp2_with (first
      | (go_at_call 32; refine N2.mono ?_; rintro e w2 ⟨rfl, hw⟩; replace hw := hw.symm; subst hw)
      | (go_at_call 21; refine (PK _).mono ?_; rintro e w3 ⟨rfl, B3⟩))
    go_ret3
    refine ⟨?_, B3⟩
    have e8 : whyV Y2.data.toList = 0 := by unfold whyV; rw [HF.out]
    have e9 : plcV Y2.data.toList = -1 := by unfold plcV; rw [HF.out]
    rw [HB.out, HX.out, e8, e9]
    rfl
  · have HF : Hid (fltN s.data.toList = some (n + 6, 12)) := by show _ = _; unfold fltN; rw [if_neg (by omega), if_neg (by omega), if_neg (by omega), if_neg (by omega), if_neg (by omega), if_neg (by omega), if_pos (by rw [← hn]; omega), ← hn]
    have SS := txt_ne (show ¬ Y2 = s by
      intro he
      apply c7
      apply PI.1
      have := txt_list (packL ((s.data.toList.drop 6).take n))
      rw [← hY2, he] at this
      exact this.symm)
    have E3 : Hid (((n + 6 : Nat) : Int) = (n : Int) + 6) := by show _ = _; omega
    clear c2 c3 l0 l1 hn c7 hX2 PI l2 hY2
    go_enter Tryd.func20, Tryd.ntmps20
    go_wp2_with (first
      | (go_at_call 32; refine N2.mono ?_; rintro e w2 ⟨rfl, hw⟩; replace hw := hw.symm; subst hw)
      | (go_at_call 21; refine (PK _).mono ?_; rintro e w3 ⟨rfl, B3⟩))
    go_ret3
    rw [← E3.out]
    exact RfR.of HF.out B3
end Go.Proofs.YtfdofgjlipmglaaDoor
