/- Package wire's addNumber: a number's bytes behind those that are there. Condition: the number is 0 to 2^40. -/
import Derived.Test.YtdopcagikcdfcaaDoorWrNum
import Derived.Test.YtdopcagikcdfcaaDoorWrInt
import Derived.Test.YtdopcagikcdfcaaDoorKPack
namespace Go.Proofs.YtdopcagikcdfcaaDoor
open Go.ChangeShapes Go.WideShapes Go.ChangeAt Go.RowKit
theorem bits_and127 (a : Nat) (ha : a < 4611686018427387904) : bits .and .i64 (a : Int) 127 = ((a % 128 : Nat) : Int) := by
  have h1 : (BitVec.ofInt 64 (a : Int)).toNat = a := by
    rw [BitVec.ofInt_natCast, BitVec.toNat_ofNat]; exact Nat.mod_eq_of_lt (by omega)
  show IntKind.i64.wrap ((BitVec.ofInt 64 (a : Int) &&& BitVec.ofInt 64 127).toNat : Int) = _
  have h2 : (BitVec.ofInt 64 127).toNat = 2 ^ 7 - 1 := by decide
  rw [BitVec.toNat_and, h1, h2, Nat.and_two_pow_sub_one_eq_mod]
  simp [IntKind.wrap, IntKind.bits, IntKind.signed]
  omega
theorem bits_or_i64_nat (a b : Nat) (ha : a < 4611686018427387904) (hb : b < 4611686018427387904) : bits .or .i64 (a : Int) (b : Int) = ((a ||| b : Nat) : Int) := by
  have hx : a ||| b < 2 ^ 62 := Nat.or_lt_two_pow (by omega) (by omega)
  have h1 : (BitVec.ofInt 64 (a : Int)).toNat = a := by
    rw [BitVec.ofInt_natCast, BitVec.toNat_ofNat]; exact Nat.mod_eq_of_lt (by omega)
  have h2 : (BitVec.ofInt 64 (b : Int)).toNat = b := by
    rw [BitVec.ofInt_natCast, BitVec.toNat_ofNat]; exact Nat.mod_eq_of_lt (by omega)
  show IntKind.i64.wrap ((BitVec.ofInt 64 (a : Int) ||| BitVec.ofInt 64 (b : Int)).toNat : Int) = _
  rw [BitVec.toNat_or, h1, h2]
  simp [IntKind.wrap, IntKind.bits, IntKind.signed]
  omega
theorem bits_or128 (a : Nat) (ha : a < 128) : bits .or .i64 (a : Int) 128 = ((a + 128 : Nat) : Int) := by
  have := bits_or_i64_nat a 128 (by omega) (by omega)
  rw [show ((128 : Nat) : Int) = 128 from rfl] at this
  rw [this, show (128 : Nat) = 1 * 2 ^ 7 from rfl, or_add a 1 7 (by omega)]
theorem wrap_u8 (x : Nat) (h : x < 256) : IntKind.u8.wrap (x : Int) = (x : Int) := by
  simp [IntKind.wrap, IntKind.bits, IntKind.signed]; omega
theorem sh7 (n k : Nat) : (n : Int) / 2 ^ (7 * k) = ((n / 128 ^ k : Nat) : Int) := by
  have e : (2 : Int) ^ (7 * k) = ((128 ^ k : Nat) : Int) := by rw [show (128 : Nat) = 2 ^ 7 from rfl, ← Nat.pow_mul]; simp
  rw [e]; rfl
theorem div_step (n k : Nat) (hk : 1 ≤ k) : n / 128 ^ k = n / 128 ^ (k - 1) / 128 := by
  obtain ⟨j, rfl⟩ : ∃ j, k = j + 1 := ⟨k - 1, by omega⟩
  rw [Nat.add_sub_cancel, Nat.pow_succ, Nat.div_div_eq_div_mul]
set_option maxHeartbeats 1000000 in
theorem add_any (n : Nat) (v : Value) (l : List UInt8) (B : Nat) (w : World) (hn : n ≤ 1099511627776) (hl : l.length ≤ 100000) (hO : BOwn w B v l) (hB : B ≤ w.heap.size) :
   Calls Tryd.prog 19 #[v, .int .i64 (n : Int)] w fun e w' => ∃ v', e = .returned v' ∧ BOwn w' B v' (l ++ vB n) ∧ Below B w w' := by
  go_enter Tryd.func19, Tryd.ntmps19
  go_wp2_with fail
  go_loop [5] (fun t => ∃ k : Nat, k ≤ 5 ∧ (1 ≤ k → 128 ≤ n / 128 ^ (k - 1)) ∧ t = .int .i64 (7 * (k : Int))) (fun t => (35 - intOf t).toNat)
  case atStart => exact ⟨0, by omega, fun h => by omega, rfl⟩
  case round =>
    obtain ⟨k, hk, hp, rfl⟩ := hrel
    have sv := sh7 n k
    by_cases hc : 127 < n / 128 ^ k
    · have hk4 : k ≤ 4 := by
        rcases Nat.lt_or_ge k 5 with h | h
        · omega
        · obtain rfl : k = 5 := by omega
          have : n / 128 ^ 5 ≤ 127 := by omega
          omega
      have hp' : Hid (128 ≤ n / 128 ^ (k + 1 - 1)) := by show 128 ≤ n / 128 ^ k; omega
      clear hp
      generalize n / 128 ^ k = c at *
      go_wp2_with fail
      go_round
      case rel => exact ⟨k + 1, by omega, fun _ => hp'.out, by go_num⟩
      case measure => simp [intOf]; omega
    · have hz : n / 128 ^ (k + 1) = 0 := by
        have := div_step n (k + 1) (by omega)
        rw [this, Nat.add_sub_cancel]; exact Nat.div_eq_of_lt (Nat.lt_of_le_of_lt (Nat.le_of_not_lt hc) (by decide))
      have hO1 : BOwn w B v (l ++ grpH (n / 128 ^ (k + 1))) := by rw [hz, grpH_zero, List.append_nil]; exact hO
      have hp1 : 1 ≤ k → 1 ≤ n / 128 ^ k := fun h => by have := hp h; rw [div_step n k h]; omega
      clear hO hz hp
      have HC : Hid (1 ≤ k → 1 ≤ n / 128 ^ k) := hp1
      clear hp1
      generalize n / 128 ^ k = c at sv hc
      go_wp2_with fail
      go_loopg [0, 5] k (fun r b t wr => ∃ j : Nat, j ≤ 5 ∧ r = j ∧ (1 ≤ j → 1 ≤ n / 128 ^ j) ∧ t = .int .i64 (7 * (j : Int)) ∧ BOwn wr B b (l ++ grpH (n / 128 ^ (j + 1))) ∧ Below B w wr)
      case atStart => exact ⟨k, hk, rfl, HC.out, rfl, hO1, Below.refl _ _⟩
      case round =>
        clear HC sv hc hk hO1
        obtain ⟨j, hj, hr, hq, rfl, hO2, hb⟩ := hrel
        have HR : Hid (gk = j) := hr
        clear hr
        have hB2 : B ≤ wr.heap.size := by have := hb.size; omega
        have hg := grpH_len 6 (n / 128 ^ (j + 1)) (Nat.lt_of_le_of_lt (Nat.div_le_self _ _) (by omega))
        have hlg : (l ++ grpH (n / 128 ^ (j + 1))).length ≤ 100006 := by rw [List.length_append]; omega
        by_cases hj0 : 1 ≤ j
        · have sj := sh7 n j
          have HG : Hid (l ++ grpH (n / 128 ^ j) = (l ++ grpH (n / 128 ^ (j + 1))) ++ [UInt8.ofNat (n / 128 ^ j % 128 + 128)]) := by
            show _ = _
            rw [grpH_pos (n / 128 ^ j) (by have := hq hj0; omega), List.append_assoc, div_step n (j + 1) (by omega), Nat.add_sub_cancel]
          have HQ : Hid (1 ≤ j - 1 → 1 ≤ n / 128 ^ (j - 1)) := fun h => by
            have := hq hj0
            rw [div_step n j hj0] at this
            omega
          have hcn : n / 128 ^ j ≤ n := Nat.div_le_self _ _
          clear hq
          have HJ : Hid (n / 128 ^ (j - 1 + 1) = n / 128 ^ j) := by show _ = _; rw [show j - 1 + 1 = j by omega]
          generalize n / 128 ^ j = c at sj HG hcn HJ
          generalize l ++ grpH (n / 128 ^ (j + 1)) = L at hO2 HG hlg
          have a1 := bits_and127 c (by omega)
          have hm : c % 128 < 128 := Nat.mod_lt _ (by decide)
          generalize c % 128 = x at a1 hm HG
          have a2 := bits_or128 x hm
          have a3 := wrap_u8 (x + 128) (by omega)
          have a4 : (UInt8.ofNat (x + 128)).toNat = x + 128 := by rw [UInt8.toNat_ofNat']; omega
          generalize UInt8.ofNat (x + 128) = y at a4 HG
          generalize x + 128 = z at a2 a3 a4
          go_wp2_with (at_builtin; refine wpList_append_byte rfl _ _ rfl B _ L rfl (hO2.below (below_alloc _ _)) _ y rfl (by rw [a4]; simp) (by omega) (by simp; omega) ?_; intro v2 w2 O2 B2)
          go_roundg (j - 1)
          case measure => have := HR.out; omega
          case rel => exact ⟨j - 1, by omega, rfl, HQ.out, by rw [show ((j - 1 : Nat) : Int) = (j : Int) - 1 by omega, Int.mul_sub]; go_num, by rw [HJ.out, HG.out]; exact O2, (hb.alloc hB2 _).trans B2⟩
        · obtain rfl : j = 0 := by omega
          have HG : Hid (l ++ vB n = (l ++ grpH (n / 128 ^ (0 + 1))) ++ [UInt8.ofNat (n % 128)]) := by
            show _ = _
            rw [vB, List.append_assoc]
          generalize l ++ grpH (n / 128 ^ (0 + 1)) = L at hO2 HG hlg
          have a1 := bits_and127 n (by omega)
          have hm : n % 128 < 128 := Nat.mod_lt _ (by decide)
          generalize n % 128 = x at a1 hm HG
          have a3 := wrap_u8 x (by omega)
          have a4 : (UInt8.ofNat x).toNat = x := by rw [UInt8.toNat_ofNat']; omega
          generalize UInt8.ofNat x = y at a4 HG
          clear hq hj0
          go_wp2_with (at_builtin; refine wpList_append_byte rfl _ _ rfl B _ L rfl (hO2.below (below_alloc _ _)) _ y rfl (by rw [a4]; simp) (by omega) (by simp; omega) ?_; intro v2 w2 O2 B2)
          go_ret
          exact ⟨v2, rfl, by rw [HG.out]; exact O2, (hb.alloc hB2 _).trans B2⟩
end Go.Proofs.YtdopcagikcdfcaaDoor
