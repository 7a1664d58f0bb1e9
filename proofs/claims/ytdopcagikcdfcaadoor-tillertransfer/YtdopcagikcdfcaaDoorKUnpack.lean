/- Package frame's Unpack, whole. Condition: the table of sums lies in its block; a text of at most 2^48 bytes. -/
import Derived.Test.YtdopcagikcdfcaaDoorKPack
import Derived.Test.YtdopcagikcdfcaaDoorShelf
namespace Go.Proofs.YtdopcagikcdfcaaDoor
open Go.ChangeShapes Go.WideShapes Go.ChangeAt Go.RowKit
theorem extract_txt (l : List UInt8) (a b : Nat) : (txt l).extract a b = txt ((l.drop a).take (b - a)) := ByteArray.extract_mk l a b
theorem slice_to (s : ByteArray) (n : Nat) (I : Int) (hI : I = (n : Int)) (h : n ≤ s.size) (W : World) :
    (Instr.slice 9 (.string s) none (some (.int .i64 I)) none).run Tryd.prog W = .ok (.string (txt (s.data.toList.take n))) W := by
  subst hI
  rw [run_slice_string_to_if W _ _ _ _ Tryd.underlying9, if_pos ⟨by omega, by omega⟩]
  conv => lhs; rw [← txt_of s, extract_txt]
  simp
theorem slice_mid (s : ByteArray) (a n : Nat) (A I : Int) (hA : A = (a : Int)) (hI : I = (n : Int)) (h0 : a ≤ n) (h : n ≤ s.size) (W : World) :
    (Instr.slice 9 (.string s) (some (.int .i64 A)) (some (.int .i64 I)) none).run Tryd.prog W = .ok (.string (txt ((s.data.toList.drop a).take (n - a)))) W := by
  subst hA
  subst hI
  rw [run_slice_string W _ _ _ _ _ _ Tryd.underlying9 (by omega) (by omega) (by omega)]
  conv => lhs; rw [← txt_of s, extract_txt]
  simp
theorem clone_any (s : ByteArray) (w : World) (h : s.size ≤ 281474976710656) :
   Calls Tryd.prog 15 #[.string s] w fun e w' => e = .returned (.string s) ∧ Below w.heap.size w w' := by
  go_enter Tryd.func15, Tryd.ntmps15
  go_wp2_with (go_at_call 30; refine (Tryd.stringslite_Clone s _ h).mono ?_; rintro e w2 ⟨rfl, B2⟩)
  go_ret
  exact ⟨rfl, B2⟩
/-- The place and the number of what is wrong with a frame. -/
def fltN (l : List UInt8) : Option (Nat × Nat) :=
  if l.length < 10 then some (l.length, 11)
  else if (l.getD 0 0).toNat ≠ 84 then some (0, 3)
  else if (l.getD 1 0).toNat ≠ 1 then some (1, 14)
  else if 60000 < numAt l 2 then some (2, 2)
  else if l.length < numAt l 2 + 10 then some (l.length, 11)
  else if numAt l 2 + 10 < l.length then some (numAt l 2 + 10, 6)
  else if numAt l (numAt l 2 + 6) ≠ sumN (l.take (numAt l 2 + 6)) then some (numAt l 2 + 6, 12)
  else none
def unT (l : List UInt8) : List UInt8 := match fltN l with
  | none => (l.drop 6).take (numAt l 2)
  | some _ => []
def unE (l : List UInt8) : Value := match fltN l with
  | none => .nilIface
  | some (p, n) => eF p n
def UnR (s : ByteArray) (w : World) (e : Ending) (w' : World) : Prop := e = .returned (.tuple #[.string (txt (unT s.data.toList)), unE s.data.toList]) ∧ Below w.heap.size w w'
theorem UnR.of {s : ByteArray} {w : World} {w' : World} {p n : Nat} (h : fltN s.data.toList = some (p, n)) (hb : Below w.heap.size w w') : UnR s w (.returned (.tuple #[.string ⟨#[]⟩, .iface 81 (.agg #[.int .i64 (p : Int), .int .i64 (n : Int)])])) w' := by
  refine ⟨?_, hb⟩
  unfold unT unE
  rw [h]
  rfl
set_option maxHeartbeats 800000 in
theorem unpack_any (s : ByteArray) (w : World) (h : Env w) (hs : s.size ≤ 281474976710656) : Calls Tryd.prog 21 #[.string s] w (UnR s w) := by
  have hl : s.data.toList.length = s.size := rfl
  by_cases c1 : s.size < 10
  · have HF : Hid (fltN s.data.toList = some (s.size, 11)) := by show _ = _; unfold fltN; rw [if_pos (by omega), hl]
    go_enter Tryd.func21, Tryd.ntmps21
    go_wp2_with fail
    go_ret2
    exact UnR.of HF.out (Below.refl _ _)
  have i0 := index_at s 0 (by omega) 0 rfl
  have i1 := index_at s 1 (by omega) 1 rfl
  have l0 := (s.data.toList.getD 0 0).toNat_lt
  have l1 := (s.data.toList.getD 1 0).toNat_lt
  by_cases c2 : (s.data.toList.getD 0 0).toNat = 84
  rotate_left
  · have HF : Hid (fltN s.data.toList = some (0, 3)) := by show _ = _; unfold fltN; rw [if_neg (by omega), if_pos c2]
    generalize (s.data.toList.getD 0 0).toNat = x0 at *
    go_enter Tryd.func21, Tryd.ntmps21
    go_wp2_with fail
    go_ret2
    exact UnR.of HF.out (Below.refl _ _)
  rw [c2] at i0
  by_cases c3 : (s.data.toList.getD 1 0).toNat = 1
  rotate_left
  · have HF : Hid (fltN s.data.toList = some (1, 14)) := by show _ = _; unfold fltN; rw [if_neg (by omega), if_neg (by omega), if_pos c3]
    generalize (s.data.toList.getD 1 0).toNat = x0 at *
    clear c2 l0
    go_enter Tryd.func21, Tryd.ntmps21
    go_wp2_with fail
    go_ret2
    exact UnR.of HF.out (Below.refl _ _)
  rw [c3] at i1
  have N2 := number_any s 2 w (by omega) hs
  have ln := numAt_lt s.data.toList 2
  obtain ⟨n, hn⟩ : ∃ n, n = numAt s.data.toList 2 := ⟨_, rfl⟩
  rw [← hn] at N2 ln
  by_cases c4 : 60000 < n
  · have HF : Hid (fltN s.data.toList = some (2, 2)) := by show _ = _; unfold fltN; rw [if_neg (by omega), if_neg (by omega), if_neg (by omega), if_pos (by omega)]
    clear c2 c3 l0 l1 hn
    go_enter Tryd.func21, Tryd.ntmps21
    go_wp2_with (go_at_call 33; refine N2.mono ?_; rintro e w2 ⟨rfl, m, rfl⟩)
    go_ret2
    exact UnR.of HF.out (below_drewN (Below.refl _ _) _)
  by_cases c5 : s.size < n + 10
  · have HF : Hid (fltN s.data.toList = some (s.size, 11)) := by show _ = _; unfold fltN; rw [if_neg (by omega), if_neg (by omega), if_neg (by omega), if_neg (by omega), if_pos (by omega), hl]
    clear c2 c3 l0 l1 hn
    go_enter Tryd.func21, Tryd.ntmps21
    go_wp2_with (go_at_call 33; refine N2.mono ?_; rintro e w2 ⟨rfl, m, rfl⟩)
    go_ret2
    exact UnR.of HF.out (below_drewN (Below.refl _ _) _)
  by_cases c6 : n + 10 < s.size
  · have HF : Hid (fltN s.data.toList = some (n + 10, 6)) := by show _ = _; unfold fltN; rw [if_neg (by omega), if_neg (by omega), if_neg (by omega), if_neg (by omega), if_neg (by omega), if_pos (by omega), ← hn]
    clear c2 c3 l0 l1 hn
    go_enter Tryd.func21, Tryd.ntmps21
    go_wp2_with (go_at_call 33; refine N2.mono ?_; rintro e w2 ⟨rfl, m, rfl⟩)
    have e6 : (6 + (n : Int) + 4) = ((n + 10 : Nat) : Int) := by omega
    go_ret2
    rw [e6]
    exact UnR.of HF.out (below_drewN (Below.refl _ _) _)
  have hz : s.size = n + 10 := by omega
  have N3 := fun W => number_any s (n + 6) W (by omega) hs
  have e3 : ((n + 6 : Nat) : Int) = 6 + (n : Int) := by omega
  rw [e3] at N3
  have SL := slice_to s (n + 6) (6 + (n : Int)) (by omega) (by omega)
  have SM := slice_mid s 6 (n + 6) 6 (6 + (n : Int)) rfl (by omega) (by omega) (by omega)
  have T3 := fun W (hW : Tab W) => sum_any (txt (s.data.toList.take (n + 6))) W hW (by rw [txt_size, List.length_take]; omega)
  rw [txt_list] at T3
  have CL := fun W => clone_any (txt ((s.data.toList.drop 6).take (n + 6 - 6))) W (by rw [txt_size, List.length_take, List.length_drop]; omega)
  have q1 := numAt_lt s.data.toList (n + 6)
  have q2 := sumN_lt (s.data.toList.take (n + 6))
  by_cases c7 : numAt s.data.toList (n + 6) = sumN (s.data.toList.take (n + 6))
  · have HF : Hid (fltN s.data.toList = none) := by show _ = _; unfold fltN; rw [if_neg (by omega), if_neg (by omega), if_neg (by omega), if_neg (by omega), if_neg (by omega), if_neg (by omega), if_neg (by rw [← hn]; omega)]
    have HB : Hid (unT s.data.toList = (s.data.toList.drop 6).take (n + 6 - 6)) := by show _ = _; unfold unT; rw [HF.out, ← hn]; simp
    rw [c7] at N3
    generalize sumN (s.data.toList.take (n + 6)) = q at *
    generalize txt (s.data.toList.take (n + 6)) = X1 at *
    obtain ⟨X2, hX2⟩ : ∃ X, X = txt ((s.data.toList.drop 6).take (n + 6 - 6)) := ⟨_, rfl⟩
    rw [← hX2] at SM CL
    have HX : Hid (X2 = txt ((s.data.toList.drop 6).take (n + 6 - 6))) := hX2
    clear c2 c3 l0 l1 hn c7 hX2 e3
    go_enter Tryd.func21, Tryd.ntmps21
    go_wp2_with (go_at_call 33; refine N2.mono ?_; rintro e w2 ⟨rfl, m, hw2⟩; have HW : Hid (w2 = w.drewN m) := hw2; clear hw2)
    have T2 : Tab w2 := by rw [HW.out]; exact h.tab.drewN _
    go_quiet (first
      | (go_at_call 33; exact Calls.quiet_of (N3 _))
      | (go_at_call 32; exact Calls.quiet_of_same (T3 _ (T2.drewN _))))
    go_wp2_with (go_at_call 15; refine (CL _).mono ?_; rintro e w3 ⟨rfl, B3⟩)
    go_ret2
    refine ⟨?_, below_then (below_drewN (by rw [HW.out]; exact below_drewN (Below.refl _ _) _) _) B3⟩
    have e9 : unE s.data.toList = .nilIface := by unfold unE; rw [HF.out]
    rw [e9, HB.out, ← HX.out]
    rfl
  · have HF : Hid (fltN s.data.toList = some (n + 6, 12)) := by show _ = _; unfold fltN; rw [if_neg (by omega), if_neg (by omega), if_neg (by omega), if_neg (by omega), if_neg (by omega), if_neg (by omega), if_pos (by rw [← hn]; omega), ← hn]
    generalize numAt s.data.toList (n + 6) = qq at *
    generalize sumN (s.data.toList.take (n + 6)) = q at *
    generalize txt (s.data.toList.take (n + 6)) = X1 at *
    clear c2 c3 l0 l1 hn SM CL
    go_enter Tryd.func21, Tryd.ntmps21
    go_wp2_with (go_at_call 33; refine N2.mono ?_; rintro e w2 ⟨rfl, m, hw2⟩; have HW : Hid (w2 = w.drewN m) := hw2; clear hw2)
    have T2 : Tab w2 := by rw [HW.out]; exact h.tab.drewN _
    have E3 : Hid (((n + 6 : Nat) : Int) = 6 + (n : Int)) := e3
    clear e3
    go_quiet (first
      | (go_at_call 33; exact Calls.quiet_of (N3 _))
      | (go_at_call 32; exact Calls.quiet_of_same (T3 _ (T2.drewN _))))
    go_wp2_with fail
    go_ret2
    rw [← E3.out]
    exact UnR.of HF.out (below_drewN (by rw [HW.out]; exact below_drewN (Below.refl _ _) _) _)
end Go.Proofs.YtdopcagikcdfcaaDoor
