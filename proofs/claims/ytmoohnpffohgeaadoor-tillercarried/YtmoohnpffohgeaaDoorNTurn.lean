/- A net's Turn: bits of a frame that are turned. -/
import Derived.Test.YtmoohnpffohgeaaDoorNLook
import Derived.Test.YtmoohnpffohgeaaDoorNText
import Derived.Test.YtmoohnpffohgeaaDoorLast
namespace Go.Proofs.YtmoohnpffohgeaaDoor
open Go.ChangeShapes Go.WideShapes Go.ChangeAt Go.RowKit
/-- Bit i of all bytes. -/
def bitL (l : List UInt8) (i : Nat) : Bool := (l.getD (i / 8) 0).toNat.testBit (i % 8)
theorem bitL_flip (l : List UInt8) (j i : Nat) (hj : j < 8 * l.length) : bitL (flip l j) i = (bitL l i ^^ decide (i = j)) := by
  unfold bitL flip
  by_cases e : i / 8 = j / 8
  · rw [e, List.getD_eq_getElem?_getD, List.getElem?_set_self (by omega)]
    simp only [Option.getD_some]
    rw [UInt8.toNat_xor, Nat.testBit_xor, oneB_toNat _ (by omega), Nat.testBit_two_pow]
    congr 1
    simp only [decide_eq_decide]
    omega
  · rw [List.getD_eq_getElem?_getD, List.getElem?_set_ne (by omega), ← List.getD_eq_getElem?_getD]
    have : decide (i = j) = false := decide_eq_false (by rintro rfl; exact e rfl)
    rw [this, Bool.xor_false]
/-- A frame of which the first k of the bits x are turned, from bit t on. -/
def turnK (l : List UInt8) (t x : Nat) : Nat → List UInt8
  | 0 => l
  | k + 1 => if x / 2 ^ k % 2 = 1 ∧ t + k < 8 * l.length then flip (turnK l t x k) (t + k) else turnK l t x k
theorem turnK_length (l : List UInt8) (t x : Nat) : ∀ k, (turnK l t x k).length = l.length
  | 0 => rfl
  | k + 1 => by
    unfold turnK
    split
    · rw [flip_length, turnK_length l t x k]
    · exact turnK_length l t x k
theorem bitL_turnK (l : List UInt8) (t x i : Nat) (hi : i < 8 * l.length) : ∀ k, bitL (turnK l t x k) i = (bitL l i ^^ decide (t ≤ i ∧ i < t + k ∧ x / 2 ^ (i - t) % 2 = 1))
  | 0 => by
    have : decide (t ≤ i ∧ i < t + 0 ∧ x / 2 ^ (i - t) % 2 = 1) = false := decide_eq_false (by omega)
    rw [this, Bool.xor_false]; rfl
  | k + 1 => by
    have ih := bitL_turnK l t x i hi k
    unfold turnK
    by_cases e : i = t + k
    · subst e
      have e0 : decide (t ≤ t + k ∧ t + k < t + k ∧ x / 2 ^ (t + k - t) % 2 = 1) = false := decide_eq_false (by omega)
      rw [e0, Bool.xor_false] at ih
      rw [Nat.add_sub_cancel_left]
      by_cases hx : x / 2 ^ k % 2 = 1
      · rw [if_pos ⟨hx, hi⟩, bitL_flip _ _ _ (by rw [turnK_length]; exact hi), ih]
        congr 1
        rw [decide_eq_decide]
        exact ⟨fun _ => ⟨by omega, by omega, hx⟩, fun _ => rfl⟩
      · rw [if_neg (fun h => hx h.1), ih]
        have : decide (t ≤ t + k ∧ t + k < t + (k + 1) ∧ x / 2 ^ k % 2 = 1) = false := decide_eq_false (fun h => hx h.2.2)
        rw [this, Bool.xor_false]
    · have e1 : decide (t ≤ i ∧ i < t + (k + 1) ∧ x / 2 ^ (i - t) % 2 = 1) = decide (t ≤ i ∧ i < t + k ∧ x / 2 ^ (i - t) % 2 = 1) := by
        rw [decide_eq_decide]
        exact ⟨fun h => ⟨h.1, by omega, h.2.2⟩, fun h => ⟨h.1, by omega, h.2.2⟩⟩
      rw [e1, ← ih]
      split
      · rename_i hc
        rw [bitL_flip _ _ _ (by rw [turnK_length]; exact hc.2), decide_eq_false e, Bool.xor_false]
      · rfl
/-- Bytes that have the same bits are the same. -/
theorem bitL_ext (l m : List UInt8) (hlen : l.length = m.length) (h : ∀ i, i < 8 * l.length → bitL l i = bitL m i) : l = m := by
  apply List.ext_getElem hlen
  intro j h1 h2
  apply UInt8.toNat_inj.1
  apply Nat.eq_of_testBit_eq
  intro r
  by_cases hr : r < 8
  · have := h (8 * j + r) (by omega)
    unfold bitL at this
    rw [show (8 * j + r) / 8 = j by omega, show (8 * j + r) % 8 = r by omega, List.getD_eq_getElem?_getD, List.getD_eq_getElem?_getD, List.getElem?_eq_getElem h1, List.getElem?_eq_getElem h2] at this
    exact this
  · have a1 := l[j].toNat_lt
    have a2 := m[j].toNat_lt
    have : 256 ≤ 2 ^ r := by
      have := Nat.pow_le_pow_right (n := 2) (by decide) (show 8 ≤ r by omega)
      omega
    rw [Nat.testBit_lt_two_pow (by omega), Nat.testBit_lt_two_pow (by omega)]
theorem and_one (q : Nat) (h : q < 4294967296) : bits .and .u32 (q : Int) 1 = ((q % 2 : Nat) : Int) := by
  have h1 : (BitVec.ofInt 32 (q : Int)).toNat = q := by
    rw [BitVec.ofInt_natCast, BitVec.toNat_ofNat]; exact Nat.mod_eq_of_lt (by omega)
  show IntKind.u32.wrap ((BitVec.ofInt 32 (q : Int) &&& BitVec.ofInt 32 1).toNat : Int) = _
  rw [BitVec.toNat_and, h1, show (BitVec.ofInt 32 1).toNat = 1 from rfl, Nat.and_one_is_mod]
  simp [IntKind.wrap, IntKind.bits, IntKind.signed]
  omega
theorem and_bit (x k : Nat) (hx : x ≤ 4294967295) : (bits .and .u32 ((x : Int) / 2 ^ k) 1 == 1) = decide (x / 2 ^ k % 2 = 1) := by
  have e : ((x : Int) / 2 ^ k) = ((x / 2 ^ k : Nat) : Int) := by norm_cast
  have : x / 2 ^ k ≤ x := Nat.div_le_self _ _
  rw [e, and_one _ (by omega)]
  by_cases h : x / 2 ^ k % 2 = 1
  · rw [h]; rfl
  · rw [show x / 2 ^ k % 2 = 0 by omega]; rfl
set_option maxHeartbeats 2000000 in
theorem turned_any (l : List UInt8) (t x : Nat) (w : World) (hl : l.length ≤ 65536) (ht : t < 8 * l.length) (hx : x ≤ 4294967295) :
   Calls Tryd.prog 23 #[.string (txt l), .int .i64 (t : Int), .int .u32 (x : Int)] w fun e w' => e = .returned (.string (txt (turnK l t x 32))) ∧ Below w.heap.size w w' := by
  obtain ⟨X, hX⟩ : ∃ X, X = txt l := ⟨_, rfl⟩
  rw [← hX]
  have zX : X.size = l.length := by rw [hX, txt_size]
  have CX := conv_bytes X
  rw [zX] at CX
  have BX : Below w.heap.size w (Lib.bytesWorld w 5 X) := bytes_below (Below.refl _ _) (Nat.le_refl _) X
  have Y0 : Byt (Lib.bytesWorld w 5 X) w.heap.size w.heap.size l.length l := by rw [hX]; exact bytC w l _ _ _ rfl rfl (Nat.le_refl _)
  generalize grownCap w l.length 0 5 = cg at *
  generalize hn : l.length = n at *
  clear hX
  go_enter Tryd.func23, Tryd.ntmps23
  go_wp2_with fail
  go_loopg [8, 9, 12] 32 (fun r _ _ s12 wr => ∃ k : Nat, k ≤ 32 ∧ r = 32 - k ∧ s12 = .int .i64 (k : Int) ∧ Byt wr w.heap.size w.heap.size n (turnK l t x k) ∧ Below w.heap.size w wr)
  case atStart => exact ⟨0, by omega, by omega, rfl, Y0, BX⟩
  case round =>
    clear Y0 BX
    obtain ⟨k, hk, rfl, rfl, YL, BB⟩ := hrel
    by_cases hlt : k < 32
    · have AB := and_bit x k hx
      by_cases c1 : x / 2 ^ k % 2 = 1
      · rw [decide_eq_true c1] at AB
        by_cases c2 : t + k < 8 * n
        · have HE : Hid (turnK l t x (k + 1) = flip (turnK l t x k) (t + k)) := by
            show _ = _
            conv => lhs; unfold turnK
            rw [if_pos ⟨c1, by omega⟩]
          obtain ⟨L, hL⟩ : ∃ L, L = turnK l t x k := ⟨_, rfl⟩
          rw [← hL] at HE YL
          have hj : (t + k) / 8 < n := by omega
          have cc : ∀ p : Nxt wr, p.to.cell? ⟨w.heap.size, (t + k) / 8, none⟩ = some (.int .u8 ((L.getD ((t + k) / 8) 0).toNat : Int)) := fun p => (YL.below p.ok).cell _ hj
          have e1 := bits_xor_u8_nat (L.getD ((t + k) / 8) 0) (oneB ((t + k) % 8))
          have ej : ((t : Int) + (k : Int)).tdiv 8 = (((t + k) / 8 : Nat) : Int) := by rw [Int.tdiv_eq_ediv_of_nonneg (by omega)]; omega
          have er : ((t : Int) + (k : Int)).tmod 8 = (((t + k) % 8 : Nat) : Int) := by rw [Int.tmod_eq_emod_of_nonneg (by omega)]; omega
          have ej2 : ((t : Int) + (k : Int)) / 8 = (((t + k) / 8 : Nat) : Int) := by omega
          have er2 : ((t : Int) + (k : Int)) % 8 = (((t + k) % 8 : Nat) : Int) := by omega
          have hr8 : (t + k) % 8 < 8 := by omega
          have SV : IntKind.u8.wrap ((2 : Int) ^ ((t + k) % 8)) = ((oneB ((t + k) % 8)).toNat : Int) := wrap_one _ hr8
          have HS : Hid (∀ w', Byt w' w.heap.size w.heap.size n L → Byt (w'.setCell ⟨w.heap.size, (t + k) / 8, none⟩ (.int .u8 ((L.getD ((t + k) / 8) 0 ^^^ oneB ((t + k) % 8)).toNat : Int))) w.heap.size w.heap.size n (turnK l t x (k + 1))) := fun w' h => by rw [HE.out]; exact h.set _ hj _
          have HC : Hid (∀ w', Byt w' w.heap.size w.heap.size n L → w'.cell? ⟨w.heap.size, (t + k) / 8, none⟩ = some (.int .u8 ((L.getD ((t + k) / 8) 0).toNat : Int)) ∧ w'.frozen? ⟨w.heap.size, (t + k) / 8, none⟩ = false) := fun w' h => ⟨h.cell _ hj, h.free _ hj⟩
          have c2' : (t : Int) + (k : Int) < 8 * (n : Int) := by omega
          clear hL HE c1 c2
          generalize L.getD ((t + k) / 8) 0 = y at *
          generalize oneB ((t + k) % 8) = z at *
          generalize (t + k) / 8 = j at *
          generalize (t + k) % 8 = r at *
          have wj : IntKind.i64.wrap (j : Int) = (j : Int) := wrap_small j (by omega)
          go_wp2_with fail
          haveI := nxt_ne wr
          refine wp_region_last_lit (by kernel_rfl) (List.cons_ne_nil _ _) (by kernel_rfl) (by kernel_rfl) (by kernel_rfl) (by kernel_rfl) (by kernel_rfl) ?_
          intro l' z' hl' hz'
          simp only [List.dropLast_cons_cons, List.dropLast_singleton] at hl'
          simp only [List.getLast_cons_cons, List.getLast_singleton] at hz'
          subst hl' hz'
          repeat (first | go_big_quiet_skip | (go_big_quiet_want; go_big_quiet_op; go_big_quiet_on))
          refine wpQuiet_nil ?_
          intro _ hw'
          obtain ⟨⟨w3, B3⟩, hw''⟩ := hw'
          subst hw''
          have Y3 := YL.below B3
          obtain ⟨fc, ff⟩ := HC.out _ Y3
          have Y4 := HS.out _ Y3
          have D4 := (below_then BB B3).setCell (p := ⟨w.heap.size, j, none⟩) (Nat.le_refl _) (.int .u8 ((y ^^^ z).toNat : Int))
          clear cc YL BB B3 Y3 HS HC
          go_wp2_with fail
          go_roundg (32 - (k + 1))
          case measure => omega
          case rel => exact ⟨k + 1, by omega, rfl, by go_num, Y4, D4⟩
        · have HE : Hid (turnK l t x (k + 1) = turnK l t x k) := by
            show _ = _
            conv => lhs; unfold turnK
            rw [if_neg (fun h => c2 (by omega))]
          have c2' : 8 * (n : Int) ≤ (t : Int) + (k : Int) := by omega
          clear c1 c2
          go_wp2_with fail
          go_roundg (32 - (k + 1))
          case measure => omega
          case rel => exact ⟨k + 1, by omega, rfl, by go_num, by rw [HE.out]; exact YL, BB⟩
      · rw [decide_eq_false c1] at AB
        have HE : Hid (turnK l t x (k + 1) = turnK l t x k) := by
          show _ = _
          conv => lhs; unfold turnK
          rw [if_neg (fun h => c1 h.1)]
        clear c1
        go_wp2_with fail
        go_roundg (32 - (k + 1))
        case measure => omega
        case rel => exact ⟨k + 1, by omega, rfl, by go_num, by rw [HE.out]; exact YL, BB⟩
    · obtain rfl : k = 32 := by omega
      have TX := YL.text
      go_wp2_with fail
      go_ret
      exact ⟨rfl, BB⟩
end Go.Proofs.YtmoohnpffohgeaaDoor
