/- The document's Four, Number and Pack: what they answer. Condition: texts of at most 100,000 bytes. -/
import Derived.Test.YtmcjcmddijikbaaDoorFRef14
namespace Go.Proofs.YtmcjcmddijikbaaDoor
open Go.ChangeShapes Go.WideShapes Go.ChangeAt Go.RowKit
set_option maxRecDepth 4000 in
theorem refFour_any (n : Nat) (w : World) (hn : n < 4294967296) :
   Calls Tryd.prog 39 #[.int .u32 (n : Int)] w fun e w' => e = .returned (.string (txt (fourB n))) ∧ Below w.heap.size w w' := by
  have hc := run_convert_bytes_back (P := Tryd.prog) (w.alloc (.cells #[Value.int .u8 ((n : Int) % 256), Value.int .u8 ((n : Int) / 256 % 256), Value.int .u8 ((n : Int) / 65536 % 256), Value.int .u8 ((n : Int) / 16777216)] 5)) 53 9 5 ⟨w.heap.size, 0, none⟩ 4 (fourB n) Tryd.underlying53 Tryd.underlying5 Tryd.underlying9 (bytes4 n hn w)
  rw [fourB_length] at hc
  rw [show (ByteArray.mk (fourB n).toArray) = txt (fourB n) from rfl] at hc
  have hb : Below w.heap.size w (w.alloc (.cells #[Value.int .u8 ((n : Int) % 256), Value.int .u8 ((n : Int) / 256 % 256), Value.int .u8 ((n : Int) / 65536 % 256), Value.int .u8 ((n : Int) / 16777216)] 5)) := (Below.refl _ w).alloc (Nat.le_refl _) _
  go_enter Tryd.func39, Tryd.ntmps39
  go_wp2_with fail
  go_ret
  exact ⟨rfl, hb⟩
theorem numL_drop (l : List UInt8) (m : Nat) (h : m < l.length) : numL (l.drop m) = (l.getD m 0).toNat + 256 * numL (l.drop (m + 1)) := by
  rw [List.drop_eq_getElem_cons h, numL_cons, List.getD_eq_getElem?_getD, List.getElem?_eq_getElem h]
  rfl
theorem refNumber_any (s : ByteArray) (w : World) (hs : s.size = 4) :
   Calls Tryd.prog 60 #[.string s] w fun e w' => e = .returned (.int .i64 (numL s.data.toList : Int)) ∧ w' = w := by
  have hl : s.data.toList.length = 4 := hs
  have hbd : ∀ m, numL (s.data.toList.drop m) < 4294967296 := fun m => by
    have := numL_lt (s.data.toList.drop m)
    rw [List.length_drop, hl] at this
    have h32 : 2 ^ (8 * (4 - m)) ≤ 2 ^ 32 := Nat.pow_le_pow_right (by decide) (by omega)
    exact Nat.lt_of_lt_of_le this h32
  go_enter Tryd.func60, Tryd.ntmps60
  go_wp2_with fail
  go_loopg [3, 4] 4 (fun r s3 s4 wr => ∃ m : Nat, m ≤ 4 ∧ r = m ∧ s4 = .int .i64 ((m : Int) - 1) ∧ s3 = .int .i64 (numL (s.data.toList.drop m) : Int) ∧ wr = w)
  case atStart => exact ⟨4, by omega, rfl, rfl, by rw [List.drop_of_length_le (by omega)]; rfl, rfl⟩
  case round =>
    obtain ⟨m, hm, hr, rfl, rfl, rfl⟩ := hrel
    rcases m with _ | m
    · rw [List.drop_zero]
      go_wp2_with fail
      go_ret
      exact ⟨rfl, rfl⟩
    · have ix := index_at s m (by omega) (m : Int) rfl
      have st : Hid (numL (s.data.toList.drop m) = (s.data.toList.getD m 0).toNat + 256 * numL (s.data.toList.drop (m + 1))) := numL_drop _ m (by omega)
      have b1 := hbd m
      have b2 := hbd (m + 1)
      have b3 := (s.data.toList.getD m 0).toNat_lt
      have em : (((m + 1 : Nat) : Int) - 1) = (m : Int) := by omega
      rw [em]
      clear em hbd
      generalize (s.data.toList.getD m 0) = y at *
      generalize hz : numL (s.data.toList.drop (m + 1)) = z at *
      clear hz
      generalize hz2 : numL (s.data.toList.drop m) = z2 at *
      have HZ : Hid (numL (s.data.toList.drop m) = z2) := hz2
      clear hz2
      go_wp2_with fail
      go_roundg m
      case measure => omega
      case rel => exact ⟨m, by omega, rfl, by go_num, by rw [HZ.out, st.out]; go_num, rfl⟩
set_option maxHeartbeats 1000000 in
theorem refPack_any (s : ByteArray) (w : World) (h1 : s.size ≤ 60000) :
   Calls Tryd.prog 19 #[.string s] w fun e w' => e = .returned (.string (txt (packL s.data.toList))) ∧ Below w.heap.size w w' := by
  have hwz : IntKind.u32.wrap (s.size : Int) = (s.size : Int) := by
    have : ∀ x : Int, 0 ≤ x → x ≤ 60000 → IntKind.u32.wrap x = x := fun x a b => by simp [IntKind.wrap, IntKind.bits, IntKind.signed]; omega
    exact this _ (by omega) (by omega)
  have BD : Below w.heap.size w w.drew := (Below.refl _ _).drew
  have hl : s.data.toList.length = s.size := rfl
  obtain ⟨X2, e2⟩ : ∃ X, X = txt (fourB s.size) := ⟨_, rfl⟩
  obtain ⟨X3, e3⟩ : ∃ X, X = txt ([84, 1] ++ fourB s.size) := ⟨_, rfl⟩
  obtain ⟨X4, e4⟩ : ∃ X, X = txt (headL s.data.toList) := ⟨_, rfl⟩
  obtain ⟨X5, e5⟩ : ∃ X, X = txt (fourB (sumN (headL s.data.toList))) := ⟨_, rfl⟩
  obtain ⟨X6, e6⟩ : ∃ X, X = txt (packL s.data.toList) := ⟨_, rfl⟩
  have S1 := add_txt _ _ ⟨#[84, 1]⟩ X2 X3 (show (⟨#[84, 1]⟩ : ByteArray) = txt [84, 1] from rfl) e2 e3 (by rw [fourB_length]; decide)
  have S2 := add_txt _ _ X3 s X4 e3 (txt_of s).symm (by rw [e4]; rfl) (by rw [List.length_append, fourB_length, hl]; simp; omega)
  have S3 := add_txt _ _ X4 X5 X6 e4 e5 (by rw [e6]; rfl) (by rw [headL_length, fourB_length, hl]; omega)
  have F1 := refFour_any s.size
  rw [← e2] at F1
  have F2 := refFour_any (sumN (headL s.data.toList))
  rw [← e5] at F2
  have M1 := refSum_any X4
  have z4 : X4.size = s.size + 6 := by rw [e4, txt_size, headL_length, hl]
  have hlt := sumN_lt (headL s.data.toList)
  rw [show X4.data.toList = headL s.data.toList by rw [e4, txt_list]] at M1
  rw [← e6]
  generalize sumN (headL s.data.toList) = q at *
  clear e2 e3 e4 e5 e6 hl
  go_enter Tryd.func19, Tryd.ntmps19
  go_wp2_with (first
    | (go_at_call 39; refine (F1 _ (by omega)).mono ?_; rintro e w2 ⟨rfl, B2⟩))
  refine (M1 _ (by omega)).mono ?_
  rintro e w3 ⟨rfl, B3⟩
  go_wp2_with (first
    | (go_at_call 39; refine (F2 _ hlt).mono ?_; rintro e w4 ⟨rfl, B4⟩))
  go_ret
  exact ⟨rfl, below_then (below_then B2 B3) B4⟩
/-- A frame is right just where it is what its text makes. -/
theorem pack_iff (l : List UInt8) (h0 : (l.getD 0 0).toNat = 84) (h1 : (l.getD 1 0).toNat = 1) (hl : l.length = numAt l 2 + 10) : packL ((l.drop 6).take (numAt l 2)) = l ↔ numAt l (numAt l 2 + 6) = sumN (l.take (numAt l 2 + 6)) := by
  obtain ⟨n, hn⟩ : ∃ n, n = numAt l 2 := ⟨_, rfl⟩
  rw [← hn] at hl ⊢
  match l, hl with
  | a :: b :: c :: d :: e :: f :: m, hl =>
    have ha : a = 84 := UInt8.toNat_inj.1 h0
    have hb : b = 1 := UInt8.toNat_inj.1 h1
    subst ha; subst hb
    have hm : m.length = n + 4 := by simp at hl; omega
    have hnn : n = numB c d e f := hn
    have hc := c.toNat_lt
    have hd := d.toNat_lt
    have he := e.toNat_lt
    have hf := f.toNat_lt
    have h4 : fourB n = [c, d, e, f] := by
      have := numL_four c d e f
      apply numL_inj _ _ (by rw [fourB_length]; rfl)
      rw [this, ← hnn]
      unfold fourB
      rw [numL_four, num_four n (by rw [hnn]; exact numB_lt _ _ _ _)]
    have hbody : (((84 : UInt8) :: 1 :: c :: d :: e :: f :: m).drop 6).take n = m.take n := rfl
    have hhead : headL (m.take n) = ((84 : UInt8) :: 1 :: c :: d :: e :: f :: m).take (n + 6) := by
      unfold headL
      rw [List.length_take, hm, Nat.min_eq_left (by omega), h4]
      rfl
    have hlast : (m.drop n).length = 4 := by rw [List.length_drop]; omega
    obtain ⟨p, q, r, t, hp⟩ : ∃ p q r t, m.drop n = [p, q, r, t] := by
      match hh : m.drop n, hlast with
      | [p, q, r, t], _ => exact ⟨p, q, r, t, rfl⟩
    have hnum : numAt ((84 : UInt8) :: 1 :: c :: d :: e :: f :: m) (n + 6) = numB p q r t := by
      have e1 : numAt ((84 : UInt8) :: 1 :: c :: d :: e :: f :: m) (n + 6) = numAt (m.drop n) 0 := by
        unfold numAt
        simp [List.getD_eq_getElem?_getD, List.getElem?_drop]
      rw [e1, hp]
      rfl
    rw [hbody, hnum]
    unfold packL
    rw [hhead]
    have hsplit : ((84 : UInt8) :: 1 :: c :: d :: e :: f :: m) = ((84 : UInt8) :: 1 :: c :: d :: e :: f :: m).take (n + 6) ++ [p, q, r, t] := by
      have := (List.take_append_drop (n + 6) ((84 : UInt8) :: 1 :: c :: d :: e :: f :: m)).symm
      rw [show ((84 : UInt8) :: 1 :: c :: d :: e :: f :: m).drop (n + 6) = m.drop n from rfl, hp] at this
      exact this
    have hS := sumN_lt (((84 : UInt8) :: 1 :: c :: d :: e :: f :: m).take (n + 6))
    constructor
    · intro h
      rw [hsplit] at h
      rw [show (((84 : UInt8) :: 1 :: c :: d :: e :: f :: m).take (n + 6) ++ [p, q, r, t]).take (n + 6) = ((84 : UInt8) :: 1 :: c :: d :: e :: f :: m).take (n + 6) by rw [← hsplit]] at h
      have h2 := List.append_cancel_left h
      have h3 := congrArg numL h2
      unfold fourB at h3
      rw [numL_four, numL_four, num_four _ hS] at h3
      exact h3.symm
    · intro h
      conv => rhs; rw [hsplit]
      congr 1
      apply numL_inj _ _ (by rw [fourB_length]; rfl)
      unfold fourB
      rw [numL_four, numL_four, num_four _ hS, h]
end Go.Proofs.YtmcjcmddijikbaaDoor
