/- What each call of package mat answers, and that it changes nothing of what was there. -/
import Derived.Test.YtklgaokhillinaaVecX
namespace Go.Proofs.Ytklgaokhillinaa
open Go.ChangeShapes Go.WideShapes Go.ChangeAt Go.RowKit
/-- A matrix as a value. -/
def matV (r c : Int) (ao : Option Addr) (n ca : Nat) : Value := .agg #[.int .i64 r, .int .i64 c, .slice ao n ca]
def sideN (r c : Int) : Int := if r < 1 ∨ c < 1 then 1 else if 128 < r ∨ 128 < c then 2 else 0
def chkN (r c : Int) (n : Nat) : Int := if sideN r c ≠ 0 then sideN r c else if (n : Int) ≠ r * c then 6 else 0
theorem side_zero {r c : Int} (h : sideN r c = 0) : 1 ≤ r ∧ r ≤ 128 ∧ 1 ≤ c ∧ c ≤ 128 := by
  unfold sideN at h
  split at h
  · omega
  · split at h <;> omega
theorem chk_zero {r c : Int} {n : Nat} (h : chkN r c n = 0) : ∃ r' c' : Nat, r = r' ∧ c = c' ∧ 1 ≤ r' ∧ r' ≤ 128 ∧ 1 ≤ c' ∧ c' ≤ 128 ∧ n = r' * c' := by
  unfold chkN at h
  split at h
  · rename_i h1; exact absurd h h1
  · rename_i h1
    have h2 := side_zero (Classical.not_not.1 h1)
    split at h
    · omega
    · rename_i h3
      have h3 := Classical.not_not.1 h3
      refine ⟨r.toNat, c.toNat, by omega, by omega, by omega, by omega, by omega, by omega, ?_⟩
      have e : ((r.toNat * c.toNat : Nat) : Int) = r * c := by rw [Int.natCast_mul]; congr 1 <;> omega
      omega
theorem chk_ok {r c : Nat} {n : Nat} (h1 : 1 ≤ r) (h2 : r ≤ 128) (h3 : 1 ≤ c) (h4 : c ≤ 128) (h : n = r * c) : chkN r c n = 0 := by
  have e : sideN r c = 0 := by unfold sideN; rw [if_neg (by omega), if_neg (by omega)]
  unfold chkN
  rw [e, if_neg (by omega), if_neg (by subst h; simp)]
theorem checkSides_any (r c : Int) (w : World) (h1 : -9223372036854775808 ≤ r ∧ r ≤ 9223372036854775807) (h2 : -9223372036854775808 ≤ c ∧ c ≤ 9223372036854775807) :
   Calls Try.prog 44 #[.int .i64 r, .int .i64 c] w fun e w' => e = .returned (.int .i64 (sideN r c)) ∧ w' = w := by
  by_cases a1 : r < 1
  · have HF : Hid (sideN r c = 1) := by show _ = _; unfold sideN; rw [if_pos (Or.inl a1)]
    go_enter Try.func44, Try.ntmps44
    go_wp2
    go_ret
    exact ⟨ret_int HF.out.symm, rfl⟩
  by_cases a2 : c < 1
  · have HF : Hid (sideN r c = 1) := by show _ = _; unfold sideN; rw [if_pos (Or.inr a2)]
    go_enter Try.func44, Try.ntmps44
    go_wp2
    go_ret
    exact ⟨ret_int HF.out.symm, rfl⟩
  by_cases a3 : 128 < r
  · have HF : Hid (sideN r c = 2) := by show _ = _; unfold sideN; rw [if_neg (by omega), if_pos (Or.inl a3)]
    go_enter Try.func44, Try.ntmps44
    go_wp2
    go_ret
    exact ⟨ret_int HF.out.symm, rfl⟩
  by_cases a4 : 128 < c
  · have HF : Hid (sideN r c = 2) := by show _ = _; unfold sideN; rw [if_neg (by omega), if_pos (Or.inr a4)]
    go_enter Try.func44, Try.ntmps44
    go_wp2
    go_ret
    exact ⟨ret_int HF.out.symm, rfl⟩
  · have HF : Hid (sideN r c = 0) := by show _ = _; unfold sideN; rw [if_neg (by omega), if_neg (by omega)]
    go_enter Try.func44, Try.ntmps44
    go_wp2
    go_ret
    exact ⟨ret_int HF.out.symm, rfl⟩
theorem mul_side {r c : Int} (h : 1 ≤ r ∧ r ≤ 128 ∧ 1 ≤ c ∧ c ≤ 128) : 1 ≤ r * c ∧ r * c ≤ 16384 := by
  have h1 := Int.mul_le_mul h.2.1 h.2.2.2 (by omega) (show (0 : Int) ≤ 128 by omega)
  have h2 := Int.mul_le_mul h.1 h.2.2.1 (by omega) (show (0 : Int) ≤ r by omega)
  omega
set_option maxHeartbeats 800000 in
theorem check_any (r c : Int) (ao : Option Addr) (n ca : Nat) (w : World) (h1 : -9223372036854775808 ≤ r ∧ r ≤ 9223372036854775807) (h2 : -9223372036854775808 ≤ c ∧ c ≤ 9223372036854775807) :
   Calls Try.prog 43 #[matV r c ao n ca] w fun e w' => e = .returned (.int .i64 (chkN r c n)) ∧ Below w.heap.size w w' := by
  unfold matV
  by_cases hs : sideN r c = 0
  · have hb := side_zero hs
    have hm := mul_side hb
    by_cases he : (n : Int) = r * c
    · have HF : Hid (chkN r c n = 0) := by show _ = _; unfold chkN; rw [if_neg (by omega), if_neg (by omega)]
      have he' : ((n : Int) == r * c) = true := by simpa using he
      clear he
      generalize hp : r * c = p at *
      go_enter Try.func43, Try.ntmps43
      go_wp2_with fail
      refine (checkSides_any r c _ h1 h2).mono ?_
      rintro e w' ⟨rfl, rfl⟩
      rw [hs]
      go_wp2
      go_ret
      exact ⟨ret_int HF.out.symm, (Below.refl _ _).alloc (Nat.le_refl _) _⟩
    · have HF : Hid (chkN r c n = 6) := by show _ = _; unfold chkN; rw [if_neg (by omega), if_pos he]
      have he' : ((n : Int) == r * c) = false := by simpa using he
      clear he
      generalize hp : r * c = p at *
      go_enter Try.func43, Try.ntmps43
      go_wp2_with fail
      refine (checkSides_any r c _ h1 h2).mono ?_
      rintro e w' ⟨rfl, rfl⟩
      rw [hs]
      go_wp2
      go_ret
      exact ⟨ret_int HF.out.symm, (Below.refl _ _).alloc (Nat.le_refl _) _⟩
  · have HF : Hid (chkN r c n = sideN r c) := by show _ = _; unfold chkN; rw [if_pos hs]
    have hs' : (sideN r c == 0) = false := by simpa using hs
    generalize hq : sideN r c = q at *
    go_enter Try.func43, Try.ntmps43
    go_wp2_with fail
    refine (checkSides_any r c _ h1 h2).mono ?_
    rintro e w' ⟨rfl, rfl⟩
    rw [hq]
    go_wp2
    go_ret
    exact ⟨ret_int HF.out.symm, (Below.refl _ _).alloc (Nat.le_refl _) _⟩
/-- Row i of a matrix of c columns; column j of one of r rows. -/
def rowN (D : List Int) (c i : Nat) : List Int := tab c fun j => el D (i * c + j)
def colN (D : List Int) (r c j : Nat) : List Int := tab r fun i => el D (i * c + j)
/-- A sound matrix in memory. -/
structure MatAt (w : World) (r c b o n ca : Nat) (D : List Int) : Prop where
  r1 : 1 ≤ r
  r2 : r ≤ 128
  c1 : 1 ≤ c
  c2 : c ≤ 128
  size : n = r * c
  fit : n ≤ ca
  max : ca ≤ 9223372036854775807
  row : RowAt w (some ⟨b, o, none⟩) n D
theorem MatAt.below {w w' : World} {r c b o n ca : Nat} {D : List Int} (h : MatAt w r c b o n ca D) (hb : Below w.heap.size w w') : MatAt w' r c b o n ca D := ⟨h.r1, h.r2, h.c1, h.c2, h.size, h.fit, h.max, h.row.below hb⟩
theorem row_in {r c i : Nat} (h : i < r) : i * c + c ≤ r * c := by
  have := Nat.mul_le_mul_right c (show i + 1 ≤ r from h)
  rw [Nat.add_mul, Nat.one_mul] at this
  exact this
theorem size_le {r c : Nat} (h1 : r ≤ 128) (h2 : c ≤ 128) : r * c ≤ 16384 := Nat.mul_le_mul h1 h2
theorem MatAt.rowAt {w : World} {r c b o n ca : Nat} {D : List Int} (h : MatAt w r c b o n ca D) {i : Nat} (hi : i < r) : RowAt w (some ⟨b, o + i * c, none⟩) c (rowN D c i) := by
  have h1 := row_in (c := c) hi
  have h2 := h.size
  have e : (D.drop (i * c)).take c = rowN D c i := by
    unfold rowN
    refine ext_el (by rw [tab_len, List.length_take, List.length_drop, h.row.len]; omega) fun k hk => ?_
    rw [List.length_take] at hk
    rw [el_take (by omega), el_drop, el_tab (by omega)]
  rw [← e]
  exact h.row.part (i * c) c (by omega)
theorem run_eql_nil (w : World) (t e : TypeId) (a : Option Addr) (l c : Nat) (h : Try.prog.underlying t = some (.slice e)) : (binOp .eql t (.slice a l c) (.slice none 0 0)).run Try.prog w = .ok (.bool a.isNone) w := by
  simp [binOp, run_equal_slice_nil w t e a l c h]
theorem clone_any (b o n ca : Nat) (A : List Int) (w : World) (hA : RowAt w (some ⟨b, o, none⟩) n A) (hn : n ≤ 1048576) :
   Calls Try.prog 36 #[.slice (some ⟨b, o, none⟩) n ca] w fun e w' => ∃ g cap, e = .returned (.slice (some ⟨g, 0, none⟩) n cap) ∧ Fresh w' w.heap.size g n cap A ∧ Below w.heap.size w w' := by
  have F0 := fresh_empty w
  have B0 : Below w.heap.size w (w.alloc (.cells #[] 55)) := (Below.refl _ _).alloc (Nat.le_refl _) _
  have R := hA.below B0
  have hq : ∀ w : World, (binOp .eql 24 (.slice (some ⟨b, o, none⟩) n ca) (.slice none 0 0)).run Try.prog w = .ok (.bool false) w := fun w => run_eql_nil w _ 55 _ _ _ Try.underlying24
  clear hA
  go_enter Try.func36, Try.ntmps36
  go_wp2_with (at_builtin; refine wpList_append_row rfl _ _ rfl w.heap.size w.heap.size 0 0 [] rfl F0 (some ⟨b, o, none⟩) n ca A rfl R (fun h => by cases h) (by omega) (by simp) ?_; intro g' cap' w' F1 B1)
  rw [Nat.zero_add, List.nil_append] at *
  go_ret
  exact ⟨_, _, rfl, F1, B0.trans B1⟩
/-- A matrix that was laid into a block of its own. -/
def Box (w : World) (g : Nat) (r c : Int) (ao : Option Addr) (n ca : Nat) : Prop := w.heap[g]? = some (.cells #[.int .i64 r, .int .i64 c, .slice ao n ca] 26 (0, 0))
theorem box_new (w : World) (r c : Int) (ao : Option Addr) (n ca : Nat) : Box (w.alloc (.cells #[.int .i64 r, .int .i64 c, .slice ao n ca] 26)) w.heap.size r c ao n ca := heap_alloc_new _ _
theorem Box.lt {w : World} {g : Nat} {r c : Int} {ao : Option Addr} {n ca : Nat} (h : Box w g r c ao n ca) : g < w.heap.size := (Array.getElem?_eq_some_iff.1 h).1
theorem Box.block {w w' : World} {g : Nat} {r c : Int} {ao : Option Addr} {n ca : Nat} (h : Box w g r c ao n ca) (e : w'.heap[g]? = w.heap[g]?) : Box w' g r c ao n ca := Eq.trans e h
theorem Box.below {w w' : World} {g : Nat} {r c : Int} {ao : Option Addr} {n ca : Nat} (h : Box w g r c ao n ca) (hb : Below w.heap.size w w') : Box w' g r c ao n ca := h.block (hb.block g h.lt)
theorem Box.c0 {w : World} {g : Nat} {r c : Int} {ao : Option Addr} {n ca : Nat} (h : Box w g r c ao n ca) : w.cell? ⟨g, 0, none⟩ = some (.int .i64 r) := by unfold Box at h; unfold World.cell?; simp only [h]; rfl
theorem Box.c1 {w : World} {g : Nat} {r c : Int} {ao : Option Addr} {n ca : Nat} (h : Box w g r c ao n ca) : w.cell? ⟨g, 1, none⟩ = some (.int .i64 c) := by unfold Box at h; unfold World.cell?; simp only [h]; rfl
theorem Box.c2 {w : World} {g : Nat} {r c : Int} {ao : Option Addr} {n ca : Nat} (h : Box w g r c ao n ca) : w.cell? ⟨g, 2, none⟩ = some (.slice ao n ca) := by unfold Box at h; unfold World.cell?; simp only [h]; rfl
theorem Box.frozen {w : World} {g : Nat} {r c : Int} {ao : Option Addr} {n ca : Nat} (h : Box w g r c ao n ca) (k : Nat) : w.frozen? ⟨g, k, none⟩ = false := by unfold Box at h; unfold World.frozen?; simp only [h]; rfl
end Go.Proofs.Ytklgaokhillinaa
