/- The statements' Cut, and frames as lists: their lengths, their texts. -/
import Derived.Test.YtdopcagikcdfcaaDoorKUnpack
namespace Go.Proofs.YtdopcagikcdfcaaDoor
open Go.ChangeShapes Go.WideShapes Go.ChangeAt Go.RowKit
theorem cut_any (s : ByteArray) (n : Nat) (w : World) :
   Calls Tryd.prog 5 #[.string s, .int .i64 (n : Int)] w fun e w' => e = .returned (.string (txt (s.data.toList.take n))) ∧ w' = w := by
  have hl : s.data.toList.length = s.size := rfl
  by_cases c : n < s.size
  · have SL := slice_to s n (n : Int) rfl (by omega)
    generalize txt (s.data.toList.take n) = X at *
    go_enter Tryd.func5, Tryd.ntmps5
    go_wp2_with fail
    go_ret
    exact ⟨rfl, rfl⟩
  · have e : txt (s.data.toList.take n) = s := by rw [List.take_of_length_le (by omega), txt_of]
    rw [e]
    go_enter Tryd.func5, Tryd.ntmps5
    go_wp2_with fail
    go_ret
    exact ⟨rfl, rfl⟩
theorem sum_9 : sumN [49, 50, 51, 52, 53, 54, 55, 56, 57] = 3421780262 := by decide +kernel
theorem packL_head (l : List UInt8) : (packL l).take 6 = 84 :: 1 :: fourB l.length := by
  simp [packL, headL, fourB]
theorem packL_len_of (l m : List UInt8) (hl : l.length ≤ 60000) (hm : m.length ≤ 60000) (h : (packL l).take 6 = (packL m).take 6) : l.length = m.length := by
  rw [packL_head, packL_head] at h
  injection h with _ h
  injection h with _ h
  unfold fourB at h
  injection h with h0 h
  injection h with h1 h
  injection h with h2 h
  injection h with h3 _
  have := congrArg UInt8.toNat h0
  have := congrArg UInt8.toNat h1
  have := congrArg UInt8.toNat h2
  have := congrArg UInt8.toNat h3
  simp only [UInt8.toNat_ofNat'] at *
  omega
theorem packL_body (l : List UInt8) : ((packL l).drop 6).take l.length = l := by
  simp [packL, headL, fourB]
theorem packL_inj (l m : List UInt8) (hl : l.length ≤ 60000) (hm : m.length ≤ 60000) (h : packL l = packL m) : l = m := by
  have hh := packL_len_of l m hl hm (by rw [h])
  have := packL_body l
  rw [h, hh, packL_body m] at this
  exact this.symm
theorem packL_not_front (l m : List UInt8) (hl : l.length ≤ 60000) (hm : m.length ≤ 60000) (h : l.length < m.length) : (packL m).take (packL l).length ≠ packL l := by
  intro he
  have := packL_len_of l m hl hm (by
    rw [← he, List.take_take, packL_length, Nat.min_eq_left (by omega)])
  omega
theorem txt_inj {l m : List UInt8} (h : txt l = txt m) : l = m := by
  have := congrArg (fun s => s.data.toList) h
  simpa [txt] using this
theorem txt_ne {s t : ByteArray} (h : ¬ s = t) : (s.toList == t.toList) = false := by
  rw [beq_eq_false_iff_ne, ByteArray.toList_eq, ByteArray.toList_eq]
  intro he
  apply h
  rw [← txt_of s, ← txt_of t, he]
theorem txt_same (s : ByteArray) : (s.toList == s.toList) = true := by simp
end Go.Proofs.YtdopcagikcdfcaaDoor
