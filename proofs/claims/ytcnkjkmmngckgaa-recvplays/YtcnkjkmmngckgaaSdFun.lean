/- send's Cut, Begin, Left and Over. -/
import Derived.Test.YtcnkjkmmngckgaaSdBase
namespace Go.Proofs.Ytcnkjkmmngckgaa
open Go.ChangeShapes Go.WideShapes Go.ChangeAt Go.RowKit
def strs (S : List ByteArray) : List Value := S.map Value.string
def bools (C : List Bool) : List Value := C.map Value.bool
def ints (A : List Int) : List Value := A.map (Value.int .i64)
theorem strs_one (S : List ByteArray) : ∀ u ∈ strs S, u.oneCell' = true := by
  intro u hu; unfold strs at hu; rw [List.mem_map] at hu; obtain ⟨a, _, rfl⟩ := hu; rfl
theorem bools_one (C : List Bool) : ∀ u ∈ bools C, u.oneCell' = true := by
  intro u hu; unfold bools at hu; rw [List.mem_map] at hu; obtain ⟨a, _, rfl⟩ := hu; rfl
def se (S : List ByteArray) (i : Nat) : ByteArray := S.getD i ⟨#[]⟩
def be (C : List Bool) (i : Nat) : Bool := C.getD i false
theorem strs_get {S : List ByteArray} {t : Nat} (h : t < S.length) : (strs S)[t]? = some (.string (se S t)) := by
  unfold strs se; simp [List.getD_eq_getElem?_getD, List.getElem?_eq_getElem h]
theorem bools_get {C : List Bool} {t : Nat} (h : t < C.length) : (bools C)[t]? = some (.bool (be C t)) := by
  unfold bools be; simp [List.getD_eq_getElem?_getD, List.getElem?_eq_getElem h]
theorem ints_get {A : List Int} {t : Nat} (h : t < A.length) : (ints A)[t]? = some (.int .i64 (el A t)) := by
  unfold ints el; simp [List.getD_eq_getElem?_getD, List.getElem?_eq_getElem h]
theorem strs_len (S : List ByteArray) : (strs S).length = S.length := by simp [strs]
theorem bools_len (C : List Bool) : (bools C).length = C.length := by simp [bools]
theorem ints_len (A : List Int) : (ints A).length = A.length := by simp [ints]
theorem be_over {C : List Bool} {k : Nat} (h : C.length ≤ k) : be C k = false := by
  unfold be; rw [List.getD_eq_getElem?_getD, List.getElem?_eq_none h]; rfl
/-- A state as a value. -/
def stV (num : Int) (p c : Value) : Value := .agg #[.int .i64 num, p, c]
theorem stall (num : Int) (a c : Option Addr) (i j k l : Nat) : Array.all (#[.int .i64 num, .slice a i j, .slice c k l] : Array Value) (fun v => v.oneCell') = true := by simp [Value.oneCell']
theorem Try.infoSs : (Try.prog.info? 64).map (·.size) = some 3 := by kernel_rfl
/-- A text's parts: all but the last one have z bytes. -/
def cutL (z : Nat) : Nat → List UInt8 → List (List UInt8)
  | 0, l => [l]
  | f + 1, l => if z < l.length then l.take z :: cutL z f (l.drop z) else [l]
def cutS (l : List UInt8) (z : Nat) : List ByteArray := (cutL z l.length l).map txt
theorem cutL_more {z f : Nat} {l : List UInt8} (hz : 1 ≤ z) (h : z < l.length) (hf : l.length ≤ f) : ∃ g, f = g + 1 ∧ cutL z f l = l.take z :: cutL z g (l.drop z) ∧ (l.drop z).length ≤ g := by
  cases f with
  | zero => omega
  | succ g => exact ⟨g, rfl, by simp [cutL, h], by rw [List.length_drop]; omega⟩
theorem cutL_end {z f : Nat} {l : List UInt8} (h : ¬ z < l.length) : cutL z f l = [l] := by
  cases f with
  | zero => rfl
  | succ g => simp [cutL, h]
def cutN (l : List UInt8) (I : Int) : Int := if I < 1 then 1 else if 4096 < I ∨ 512 * I < (l.length : Int) then 2 else 0
theorem snoc_assoc {P : List ByteArray} {x : List UInt8} {R F : List (List UInt8)} (h : P ++ (x :: R).map txt = F.map txt) : (P ++ [txt x]) ++ R.map txt = F.map txt := by
  rw [← h]; simp
end Go.Proofs.Ytcnkjkmmngckgaa
