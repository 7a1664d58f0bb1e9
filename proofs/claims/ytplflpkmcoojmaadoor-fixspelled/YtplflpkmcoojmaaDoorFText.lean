/- What fix.Text answers of every number, where the library's table of powers of ten lies as its text lays it. -/
import Derived.Test.YtplflpkmcoojmaaDoorFix
import Derived.Test.YtplflpkmcoojmaaDoorShelf
import Derived.Lib.AppendIntMem
import Derived.Lib.ItoaLen
namespace Go.Proofs.YtplflpkmcoojmaaDoor
open Go.ChangeShapes Go.WideShapes Go.ChangeAt Go.RowKit
/-- The table of powers of ten lies in memory. -/
def Pw (w : World) : Prop := Lib.TabIs Tryd.prog w "internal/strconv.uint64pow10" .u64 Lib.pow10Tab
theorem Pw.next {w w' : World} (h : Pw w) (hb : Below w.heap.size w w') : Pw w' := by
  unfold Pw Lib.TabIs World.var? at *
  cases hg : Tryd.prog.globalNamed "internal/strconv.uint64pow10" with
  | none => rw [hg] at h; cases h
  | some g =>
    rw [hg] at h
    simp only [Option.bind_some] at h ⊢
    split at h
    · rename_i cs t fr hc
      rw [hb.block g (Array.getElem?_eq_some_iff.1 hc).1, hc]
      exact h
    · cases h
theorem fmt_any (n : Int) (w : World) (h0 : -9223372036854775808 ≤ n) (h1 : n ≤ 9223372036854775807) (hp : Pw w) :
    Calls Tryd.prog 7 #[.int .i64 n, .int .i64 10] w fun e w' => e = .returned (.string ⟨(Lib.itoa n).toArray⟩) ∧ Below w.heap.size w w' :=
  (Tryd.strconv_FormatInt_10 n h0 h1 w hp).mono fun _ _ ⟨he, k, os, hw⟩ => ⟨he, by rw [hw]; exact Lib.below_grow _ _ (Nat.le_refl _) _ _⟩
/-- A point and the digits behind it, of so many parts of 65536. -/
def partL (p : Nat) : List UInt8 := if p = 0 then [] else 46 :: fd 16 p
def textL (x : Int) : List UInt8 := (if x < 0 then [45] else []) ++ Lib.itoa ((x.natAbs / 65536 : Nat) : Int) ++ partL (x.natAbs % 65536)
theorem partL_any (p : Nat) (w : World) (h : p < 65536) : Calls Tryd.prog 8 #[.int .i64 (p : Int)] w fun e w' => e = .returned (.string ⟨(partL p).toArray⟩) ∧ Below w.heap.size w w' := by
  by_cases h0 : p = 0
  · subst h0
    exact (part_zero w).mono fun _ w' ⟨he, hw⟩ => ⟨he, by rw [hw]; exact Below.refl _ _⟩
  · have e : partL p = 46 :: fd 16 p := by unfold partL; rw [if_neg h0]
    rw [e]; exact part_any p w h h0
theorem fd_len : ∀ k p, (fd k p).length ≤ k
  | 0, _ => by simp [fd]
  | k + 1, p => by
    unfold fd
    split
    · simp
    · have := fd_len k (p * 10 % 65536); simp; omega
theorem partL_len (p : Nat) : (partL p).length ≤ 17 := by
  unfold partL
  split
  · simp
  · have := fd_len 16 p; simp; omega
set_option maxHeartbeats 1600000 in
theorem text_any (x : Int) (w : World) (h1 : -2147483648 ≤ x) (h2 : x ≤ 2147483647) (hp : Pw w) :
    Calls Tryd.prog 4 #[.int .i32 x] w fun e w' => e = .returned (.string ⟨(textL x).toArray⟩) ∧ Below w.heap.size w w' := by
  have hne := nxt_ne w
  obtain ⟨m, hm⟩ : ∃ m : Nat, m = x.natAbs := ⟨_, rfl⟩
  have hm2 : m ≤ 2147483648 := by omega
  have l1 := Lib.itoa_length_le ((m / 65536 : Nat) : Int) (by omega) (by omega)
  have l2 := partL_len (m % 65536)
  have HT : Hid (textL x = (if x < 0 then [45] else []) ++ Lib.itoa ((m / 65536 : Nat) : Int) ++ partL (m % 65536)) := by show _ = _; rw [hm]; rfl
  obtain ⟨A, hA⟩ : ∃ A : ByteArray, A = ⟨(Lib.itoa ((m / 65536 : Nat) : Int)).toArray⟩ := ⟨_, rfl⟩
  obtain ⟨B, hB⟩ : ∃ B : ByteArray, B = ⟨(partL (m % 65536)).toArray⟩ := ⟨_, rfl⟩
  have sA : A.size ≤ 21 := by rw [hA]; simpa [ByteArray.size] using l1
  have sB : B.size ≤ 17 := by rw [hB]; simpa [ByteArray.size] using l2
  have cA : ∀ w, Pw w → Calls Tryd.prog 7 #[.int .i64 ((m : Int) / 65536), .int .i64 10] w fun e w' => e = .returned (.string A) ∧ Below w.heap.size w w' := fun w hp => by
    rw [hA]; exact fmt_any _ w (by omega) (by omega) hp
  have cB : ∀ w, Calls Tryd.prog 8 #[.int .i64 ((m : Int) % 65536)] w fun e w' => e = .returned (.string B) ∧ Below w.heap.size w w' := fun w => by
    rw [hB]; exact partL_any (m % 65536) w (by omega)
  have HA : Hid (A = ⟨(Lib.itoa ((m / 65536 : Nat) : Int)).toArray⟩) := hA
  have HB : Hid (B = ⟨(partL (m % 65536)).toArray⟩) := hB
  clear hA hB l1 l2
  by_cases hx : x < 0
  · obtain rfl : x = -(m : Int) := by omega
    clear hm
    have s1 : ∀ w, (Op.stringOp .add ⟨#[45]⟩ A).run Tryd.prog w = .ok (.string (⟨#[45]⟩ ++ A)) w := fun w => run_string_add_sum w _ _ (by have : (⟨#[45]⟩ : ByteArray).size = 1 := rfl; omega)
    have s2 : ∀ w, (Op.stringOp .add (⟨#[45]⟩ ++ A) B).run Tryd.prog w = .ok (.string (⟨#[45]⟩ ++ A ++ B)) w := fun w => run_string_add_sum w _ _ (by have : (⟨#[45]⟩ : ByteArray).size = 1 := rfl; rw [ByteArray.size_append]; omega)
    go_enter Tryd.func4, Tryd.ntmps4
    go_wp2_with fail
    refine wp_region_nxt (by kernel_rfl) (by kernel_rfl) ?_
    repeat (first | go_big_quiet_skip | (go_big_quiet_want; go_big_quiet_op; first | go_big_quiet_on | (apply Exists.intro; refine ⟨fun pq => ?_, ?_⟩; (first | (go_at_call 7; exact calls_nxt (cA _ (hp.next pq.ok))) | (go_at_call 8; exact calls_nxt (cB _))); go_big_quiet_on)))
    refine wpQuiet_nil ?_
    intro _ hw'
    obtain ⟨⟨wq, hwq⟩, hw''⟩ := hw'
    subst hw''
    go_wp2
    go_ret
    exact ⟨by rw [HT.out, HA.out, HB.out, if_pos hx]; simp; rfl, hwq⟩
  · obtain rfl : x = (m : Int) := by omega
    clear hm
    have s1 : ∀ w, (Op.stringOp .add ⟨#[]⟩ A).run Tryd.prog w = .ok (.string A) w := fun w => by
      rw [run_string_add_sum w _ _ (by have : (⟨#[]⟩ : ByteArray).size = 0 := rfl; omega)]
      congr 2
    have s2 : ∀ w, (Op.stringOp .add A B).run Tryd.prog w = .ok (.string (A ++ B)) w := fun w => run_string_add_sum w _ _ (by omega)
    go_enter Tryd.func4, Tryd.ntmps4
    go_wp2_with fail
    refine wp_region_nxt (by kernel_rfl) (by kernel_rfl) ?_
    repeat (first | go_big_quiet_skip | (go_big_quiet_want; go_big_quiet_op; first | go_big_quiet_on | (apply Exists.intro; refine ⟨fun pq => ?_, ?_⟩; (first | (go_at_call 7; exact calls_nxt (cA _ (hp.next pq.ok))) | (go_at_call 8; exact calls_nxt (cB _))); go_big_quiet_on)))
    refine wpQuiet_nil ?_
    intro _ hw'
    obtain ⟨⟨wq, hwq⟩, hw''⟩ := hw'
    subst hw''
    go_wp2
    go_ret
    exact ⟨by rw [HT.out, HA.out, HB.out, if_neg (by omega)]; simp; rfl, hwq⟩
end Go.Proofs.YtplflpkmcoojmaaDoor
