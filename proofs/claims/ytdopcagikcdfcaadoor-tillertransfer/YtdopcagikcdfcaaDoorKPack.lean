/- Package frame's Pack. Condition: the table of sums lies in its block. -/
import Derived.Test.YtdopcagikcdfcaaDoorFFour
import Derived.Test.YtdopcagikcdfcaaDoorCBase
namespace Go.Proofs.YtdopcagikcdfcaaDoor
open Go.ChangeShapes Go.WideShapes Go.ChangeAt Go.RowKit
abbrev eF (p n : Int) : Value := .iface 81 (.agg #[.int .i64 p, .int .i64 n])
theorem below_alloc2 {w v : World} (h : Below w.heap.size w v) (o : Obj) : Below w.heap.size w (v.alloc o) := h.alloc h.size o
/-- What the package's variables hold. -/
structure Env (w : World) : Prop where
  tab : Tab w
theorem Env.next {w w' : World} (h : Env w) (hb : Below w.heap.size w w') : Env w' := ⟨h.tab.next hb⟩
theorem pack_big (s : ByteArray) (w : World) (h1 : 60000 < s.size) (hs : s.size ≤ 281474976710656) :
   Calls Tryd.prog 20 #[.string s] w fun e w' => e = .returned (.tuple #[.string ⟨#[]⟩, eF 60000 2]) ∧ Below w.heap.size w w' := by
  go_enter Tryd.func20, Tryd.ntmps20
  go_wp2_with fail
  go_ret2
  exact ⟨rfl, Below.refl _ _⟩
theorem conv2 (W : World) (g : Nat) (h0 : W.cell? ⟨g, 0, none⟩ = some (.int .u8 84)) (h1 : W.cell? ⟨g, 1, none⟩ = some (.int .u8 1)) :
    (convert 51 9 (.slice (some ⟨g, 0, none⟩) 2 2)).run Tryd.prog W = .ok (.string (txt [84, 1])) W := by
  exact run_convert_bytes_back (P := Tryd.prog) W 51 9 5 ⟨g, 0, none⟩ 2 [84, 1] Tryd.underlying51 Tryd.underlying5 Tryd.underlying9 (fun j hj => by
    have hadd : (⟨g, 0, none⟩ : Addr).add j = ⟨g, j, none⟩ := by unfold Addr.add; split <;> simp_all
    rw [hadd]
    rcases j with _ | _ | j
    · rw [h0]; rfl
    · rw [h1]; rfl
    · simp at hj; omega)
theorem conv2_new (W : World) : (convert 51 9 (.slice (some ⟨W.heap.size, 0, none⟩) 2 2)).run Tryd.prog (W.alloc (.cells #[.int .u8 84, .int .u8 1] 5)) = .ok (.string (txt [84, 1])) (W.alloc (.cells #[.int .u8 84, .int .u8 1] 5)) :=
  conv2 _ _ (by simp) (by simp)
theorem conv2_newd (W : World) : (convert 51 9 (.slice (some ⟨W.heap.size, 0, none⟩) 2 2)).run Tryd.prog (W.alloc (.cells #[.int .u8 84, .int .u8 1] 5)).drew = .ok (.string (txt [84, 1])) (W.alloc (.cells #[.int .u8 84, .int .u8 1] 5)).drew :=
  conv2 _ _ (by show (W.alloc _).cell? _ = _; simp) (by show (W.alloc _).cell? _ = _; simp)
theorem conv2_oldd (W w' : World) (hb : Below (W.alloc (.cells #[.int .u8 84, .int .u8 1] 5)).drew.heap.size (W.alloc (.cells #[.int .u8 84, .int .u8 1] 5)).drew w') :
    (convert 51 9 (.slice (some ⟨W.heap.size, 0, none⟩) 2 2)).run Tryd.prog w' = .ok (.string (txt [84, 1])) w' :=
  conv2 _ _ (by rw [hb.cell (p := ⟨W.heap.size, 0, none⟩) (by show _ < (W.alloc _).heap.size; simp)]; show (W.alloc _).cell? _ = _; simp) (by rw [hb.cell (p := ⟨W.heap.size, 1, none⟩) (by show _ < (W.alloc _).heap.size; simp)]; show (W.alloc _).cell? _ = _; simp)
theorem conv2_old (W w' : World) (hb : Below (W.alloc (.cells #[.int .u8 84, .int .u8 1] 5)).heap.size (W.alloc (.cells #[.int .u8 84, .int .u8 1] 5)) w') :
    (convert 51 9 (.slice (some ⟨W.heap.size, 0, none⟩) 2 2)).run Tryd.prog w' = .ok (.string (txt [84, 1])) w' :=
  conv2 _ _ (by rw [hb.cell (by simp)]; simp) (by rw [hb.cell (by simp)]; simp)
theorem add_txt (a b : List UInt8) (s t r : ByteArray) (hs : s = txt a) (ht : t = txt b) (hr : r = txt (a ++ b)) (hl : a.length + b.length ≤ 281474976710656) (w : World) : (Op.stringOp .add s t).run Tryd.prog w = .ok (.string r) w := by
  subst hs; subst ht; subst hr
  rw [run_string_add_sum w _ _ (by rw [txt_size, txt_size]; omega), txt_append]
theorem bb1 {w w2 : World} {C : Obj} (B2 : Below (w.alloc C).drew.heap.size (w.alloc C).drew w2) : Below w.heap.size w w2 :=
  ((below_alloc w C).drew).trans (B2.mono (by show w.heap.size ≤ (w.alloc C).heap.size; simp))
theorem bb2 {w w2 : World} (C : Obj) (B2 : Below w.drew.heap.size w.drew w2) : Below w.heap.size w (w2.alloc C) :=
  below_alloc2 (((Below.refl _ w).drew).trans B2) C
set_option maxRecDepth 4000 in
set_option maxHeartbeats 800000 in
theorem pack_ok (s : ByteArray) (w : World) (h : Env w) (h1 : s.size ≤ 60000) :
   Calls Tryd.prog 20 #[.string s] w fun e w' => e = .returned (.tuple #[.string (txt (packL s.data.toList)), .nilIface]) ∧ Below w.heap.size w w' := by
  have HN := conv2_new
  have HND := conv2_newd
  have hwz : IntKind.u32.wrap (s.size : Int) = (s.size : Int) := by
    have : ∀ x : Int, 0 ≤ x → x ≤ 60000 → IntKind.u32.wrap x = x := fun x a b => by simp [IntKind.wrap, IntKind.bits, IntKind.signed]; omega
    exact this _ (by omega) (by omega)
  have BD : Below w.heap.size w w.drew := (Below.refl _ _).drew
  have hl : s.data.toList.length = s.size := rfl
  obtain ⟨X1, e1⟩ : ∃ X, X = txt [84, 1] := ⟨_, rfl⟩
  obtain ⟨X2, e2⟩ : ∃ X, X = txt (fourB s.size) := ⟨_, rfl⟩
  obtain ⟨X3, e3⟩ : ∃ X, X = txt ([84, 1] ++ fourB s.size) := ⟨_, rfl⟩
  obtain ⟨X4, e4⟩ : ∃ X, X = txt (headL s.data.toList) := ⟨_, rfl⟩
  obtain ⟨X5, e5⟩ : ∃ X, X = txt (fourB (sumN (headL s.data.toList))) := ⟨_, rfl⟩
  obtain ⟨X6, e6⟩ : ∃ X, X = txt (packL s.data.toList) := ⟨_, rfl⟩
  have S1 := add_txt _ _ X1 X2 X3 e1 e2 e3 (by rw [fourB_length]; decide)
  have S2 := add_txt _ _ X3 s X4 e3 (txt_of s).symm (by rw [e4]; rfl) (by rw [List.length_append, fourB_length, hl]; simp; omega)
  have S3 := add_txt _ _ X4 X5 X6 e4 e5 (by rw [e6]; rfl) (by rw [headL_length, fourB_length, hl]; omega)
  have F1 := four_any s.size
  rw [← e2] at F1
  have F2 := four_any (sumN (headL s.data.toList))
  rw [← e5] at F2
  have M1 := sum_any X4
  have z4 : X4.size = s.size + 6 := by rw [e4, txt_size, headL_length, hl]
  have hlt := sumN_lt (headL s.data.toList)
  rw [show X4.data.toList = headL s.data.toList by rw [e4, txt_list]] at M1
  have C2 := conv2_oldd
  have C3 := conv2_old
  rw [← e1] at HN HND C2 C3
  rw [← e6]
  generalize sumN (headL s.data.toList) = q at *
  clear e1 e2 e3 e4 e5 e6 hl
  go_enter Tryd.func20, Tryd.ntmps20
  go_wp2_with fail
  go_region_with (first
      | (go_at_call 31; refine (F1 _ (by omega)).mono ?_; rintro e w2 ⟨rfl, B2⟩; first | (have hcv := C2 _ _ B2) | (have hcv := C3 _ _ B2) | skip))
  all_goals
    first
    | have BB := bb1 B2
    | have BB := bb2 (.cells #[.int .u8 84, .int .u8 1] 5) B2
    have T2 := h.tab.next BB
    go_wp2_with (first
      | (go_at_call 32; refine (M1 _ T2 (by omega)).mono ?_; rintro e w3 ⟨rfl, rfl⟩)
      | (go_at_call 31; refine (F2 _ hlt).mono ?_; rintro e w4 ⟨rfl, B4⟩))
    go_ret2
    exact ⟨rfl, below_then BB B4⟩
end Go.Proofs.YtdopcagikcdfcaaDoor
