/- FrameBursts' walk: a burst of turned bits in a frame is always told. -/
import Derived.Test.YtfdofgjlipmglaaDoorFBit
import Derived.Test.YtfdofgjlipmglaaDoorFByt
import Derived.Test.YtfdofgjlipmglaaDoorLast
import Derived.Deep.CutBlock
import Derived.Deep.CutRange
namespace Go.Proofs.YtfdofgjlipmglaaDoor
open Go.ChangeShapes Go.WideShapes Go.ChangeAt Go.RowKit
theorem tmod_x (x k : Nat) : ((x : Int) / 2 ^ k).tmod 2 = ((x / 2 ^ k % 2 : Nat) : Int) := by
  have e : ((x : Int) / 2 ^ k) = ((x / 2 ^ k : Nat) : Int) := by norm_cast
  rw [e, Int.tmod_eq_emod_of_nonneg (Int.natCast_nonneg _)]
  rfl
theorem shl_1 (r : Nat) (hr : r < 8) (R : Int) (hR : R = (r : Int)) : Op.shift .shl .u8 1 .i64 R = pure (.int .u8 ((oneB r).toNat : Int)) := by
  subst hR
  have : ∀ i : Fin 8, Op.shift .shl .u8 1 .i64 (i.val : Int) = pure (.int .u8 ((oneB i.val).toNat : Int)) := fun i => by
    rcases i with ⟨i, hi⟩
    rcases i with _ | _ | _ | _ | _ | _ | _ | _ | i
    all_goals first | omega | rfl
  exact this ⟨r, hr⟩
theorem wrap_one (r : Nat) (hr : r < 8) : IntKind.u8.wrap ((2 : Int) ^ r) = ((oneB r).toNat : Int) := by
  have : ∀ i : Fin 8, IntKind.u8.wrap ((2 : Int) ^ i.val) = ((oneB i.val).toNat : Int) := by decide
  exact this ⟨r, hr⟩
theorem wrap_small (j : Nat) (h : j ≤ 1000000) : IntKind.i64.wrap (j : Int) = (j : Int) := by
  have : ∀ x : Int, 0 ≤ x → x ≤ 1000000 → IntKind.i64.wrap x = x := fun x a b => by simp [IntKind.wrap, IntKind.bits, IntKind.signed]; omega
  exact this _ (by omega) (by omega)
/-- So many of the burst's bits are turned behind k rounds. -/
def bu (x M k : Nat) : Nat := x % 2 ^ (min k M)
theorem bu_zero (x M : Nat) : bu x M 0 = 0 := by simp [bu, Nat.mod_one]
theorem bu_on (x M k : Nat) (hk : k < M) (h1 : x / 2 ^ k % 2 = 1) : bu x M (k + 1) = bu x M k ^^^ 2 ^ k ∧ bu x M (k + 1) ≠ 0 := by
  unfold bu
  rw [Nat.min_eq_left (by omega), Nat.min_eq_left (by omega)]
  refine ⟨mod_xor x k h1, ?_⟩
  rw [mod_succ, if_pos h1]
  have := Nat.two_pow_pos k
  omega
theorem bu_off (x M k : Nat) (h1 : ¬ x / 2 ^ k % 2 = 1) : bu x M (k + 1) = bu x M k := by
  unfold bu
  rcases Nat.lt_or_ge k M with h | h
  · rw [Nat.min_eq_left (by omega), Nat.min_eq_left (by omega)]
    exact mod_same x k h1
  · rw [Nat.min_eq_right (by omega), Nat.min_eq_right (by omega)]
theorem bu_end (x M k : Nat) (h : M ≤ k) : bu x M (k + 1) = bu x M k := by
  unfold bu
  rw [Nat.min_eq_right (by omega), Nat.min_eq_right (by omega)]
theorem bu_lt (x M : Nat) (hx : x < 4294967296) : bu x M 32 < 4294967296 := Nat.lt_of_le_of_lt (Nat.mod_le _ _) hx
theorem flip_on (l L : List UInt8) (t k y z : Nat) (hn : numL L = numL l ^^^ 2 ^ t * y) (hz : z = y ^^^ 2 ^ k) (hj : t + k < 8 * L.length) : numL (flip L (t + k)) = numL l ^^^ 2 ^ t * z := by
  rw [numL_flip _ _ hj, hn, hz, mul_xor, ← Nat.pow_add]
  ac_rfl
set_option maxHeartbeats 1000000 in
theorem frameBursts_walk (s : ByteArray) (p : Int) (bits_ : Int) (_hs : s.size ≤ maxLen) (_p1 : -9223372036854775808 ≤ p) (_p2 : p ≤ 9223372036854775807) (b1 : 0 ≤ bits_) (b2 : bits_ ≤ 4294967295) (w : World) (h : Env w) :
   Calls Tryd.prog 7 #[.string s, .int .i64 p, .int .u32 bits_] w fun e w' => e = .returned (.bool true) ∧ Below w.heap.size w w' := by
  have AW := fun W (hW : Env W) => awake_any W hW
  have C1 := fun W => cut_any s 500 W
  obtain ⟨l, hl⟩ : ∃ l, l = s.data.toList.take 500 := ⟨_, rfl⟩
  rw [← hl] at C1
  have ll : l.length ≤ 500 := by rw [hl, List.length_take]; omega
  obtain ⟨A, hA⟩ : ∃ A, A = txt l := ⟨_, rfl⟩
  obtain ⟨X, hX⟩ : ∃ A, A = txt (packL l) := ⟨_, rfl⟩
  have zA : A.size = l.length := by rw [hA, txt_size]
  have zX : X.size = l.length + 10 := by rw [hX, txt_size, packL_length]
  have P1 := fun W (hW : Env W) => pack_ok A W hW (by omega)
  rw [show A.data.toList = l by rw [hA, txt_list], ← hX] at P1
  rw [← hA] at C1
  by_cases c0 : p < 0
  · clear hl hA hX
    go_enter Tryd.func7, Tryd.ntmps7
    go_wp2_with (first
      | (go_at_call 16; refine (C1 _).mono ?_; rintro e w1 ⟨rfl, hw⟩; replace hw := hw.symm; subst hw)
      | (go_at_call 17; refine (P1 _ h).mono ?_; rintro e w2 ⟨rfl, B2⟩; have V2 := h.next B2)
      | (go_at_call 9; refine (AW _ V2).mono ?_; rintro e w4 ⟨rfl, B4⟩))
    go_ret
    exact ⟨rfl, below_then B2 B4⟩
  obtain ⟨t, rfl⟩ : ∃ t : Nat, p = (t : Int) := ⟨p.toNat, by omega⟩
  obtain ⟨x, rfl⟩ : ∃ x : Nat, bits_ = (x : Int) := ⟨bits_.toNat, by omega⟩
  by_cases c1 : 8 * (l.length + 10) ≤ t
  · clear hl hA hX
    go_enter Tryd.func7, Tryd.ntmps7
    go_wp2_with (first
      | (go_at_call 16; refine (C1 _).mono ?_; rintro e w1 ⟨rfl, hw⟩; replace hw := hw.symm; subst hw)
      | (go_at_call 17; refine (P1 _ h).mono ?_; rintro e w2 ⟨rfl, B2⟩; have V2 := h.next B2)
      | (go_at_call 9; refine (AW _ V2).mono ?_; rintro e w4 ⟨rfl, B4⟩))
    go_ret
    exact ⟨rfl, below_then B2 B4⟩
  have CX := conv_bytes X
  have BS := fun W => bytesWorld_size W 5 X
  rw [zX] at CX
  have HX : Hid (X = txt (packL l)) := hX
  have HA : Hid (A = txt l) := hA
  clear hX hA hl
  go_enter Tryd.func7, Tryd.ntmps7
  go_wp2_with (first
    | (go_at_call 16; refine (C1 _).mono ?_; rintro e w1 ⟨rfl, hw⟩; replace hw := hw.symm; subst hw)
    | (go_at_call 17; refine (P1 _ h).mono ?_; rintro e w2 ⟨rfl, B2⟩; have V2 := h.next B2))
  have BX : Below w.heap.size w (Lib.bytesWorld w2 5 X) := bytes_below B2 B2.size X
  have Y0 : Byt (Lib.bytesWorld w2 5 X) w.heap.size w2.heap.size (l.length + 10) (packL l) := by rw [HX.out]; exact bytC w2 (packL l) _ _ _ rfl (packL_length l) B2.size
  obtain ⟨g, hg⟩ : ∃ g, g = w2.heap.size := ⟨_, rfl⟩
  obtain ⟨cg, hcg⟩ : ∃ c, c = grownCap w2 (l.length + 10) 0 5 := ⟨_, rfl⟩
  obtain ⟨N, hN⟩ : ∃ N, N = l.length + 10 := ⟨_, rfl⟩
  rw [← hcg, ← hg, ← hN]
  rw [← hg, ← hN] at Y0
  have HN : Hid (N = l.length + 10) := hN
  have hNb : N ≤ 510 := by omega
  have htN : t < 8 * N := by omega
  have C9 := C1
  clear hN hcg hg CX BS C1 P1 zX
  go_loopg [10, 11] 32 (fun r s10 s11 wr => ∃ (k : Nat) (L : List UInt8), k ≤ 32 ∧ r = 32 - k ∧ s11 = .int .i64 (k : Int) ∧ s10 = .bool (decide (bu x (8 * N - t) k ≠ 0)) ∧ numL L = numL (packL l) ^^^ 2 ^ t * bu x (8 * N - t) k ∧ Byt wr w.heap.size g N L ∧ Below w.heap.size w wr)
  case atStart => exact ⟨0, packL l, by omega, by omega, rfl, by rw [bu_zero]; rfl, by rw [bu_zero]; simp, Y0, BX⟩
  case round =>
    clear Y0 BX
    obtain ⟨k, L, hk, rfl, rfl, rfl, hn, YL, BB⟩ := hrel
    have hL := YL.len
    by_cases hlt : k < 32
    · have eq := tmod_x x k
      obtain ⟨q, hq⟩ : ∃ q, q = x / 2 ^ k := ⟨_, rfl⟩
      rw [← hq] at eq
      by_cases c1 : q % 2 = 1
      · have eb : ((((x : Int) / 2 ^ k).tmod 2) == 1) = true := by rw [eq, c1]; rfl
        clear eq
        by_cases c2 : t + k < 8 * N
        · have HF := flip_on (packL l) L t k _ _ hn (bu_on x (8 * N - t) k (by omega) (by rw [← hq]; exact c1)).1 (by omega)
          have HT : Hid (bu x (8 * N - t) (k + 1) ≠ 0) := (bu_on x (8 * N - t) k (by omega) (by rw [← hq]; exact c1)).2
          have hj : (t + k) / 8 < N := by omega
          have cc : ∀ p : Nxt wr, p.to.cell? ⟨g, (t + k) / 8, none⟩ = some (.int .u8 ((L.getD ((t + k) / 8) 0).toNat : Int)) := fun p => (YL.below p.ok).cell _ hj
          have e1 := bits_xor_u8_nat (L.getD ((t + k) / 8) 0) (oneB ((t + k) % 8))
          have SL := shl_1 ((t + k) % 8) (by omega) (((t + k) % 8 : Nat) : Int) rfl
          have ej : ((t : Int) + (k : Int)).tdiv 8 = (((t + k) / 8 : Nat) : Int) := by rw [Int.tdiv_eq_ediv_of_nonneg (by omega)]; omega
          have er : ((t : Int) + (k : Int)).tmod 8 = (((t + k) % 8 : Nat) : Int) := by rw [Int.tmod_eq_emod_of_nonneg (by omega)]; omega
          have ej2 : ((t : Int) + (k : Int)) / 8 = (((t + k) / 8 : Nat) : Int) := by omega
          have er2 : ((t : Int) + (k : Int)) % 8 = (((t + k) % 8 : Nat) : Int) := by omega
          have hr8 : (t + k) % 8 < 8 := by omega
          have SW := oneB_toNat ((t + k) % 8) hr8
          have SV : IntKind.u8.wrap ((2 : Int) ^ ((t + k) % 8)) = ((oneB ((t + k) % 8)).toNat : Int) := wrap_one _ hr8
          have HF2 : Hid (numL (L.set ((t + k) / 8) (L.getD ((t + k) / 8) 0 ^^^ oneB ((t + k) % 8))) = _) := HF
          have HS : Hid (∀ w', Byt w' w.heap.size g N L → Byt (w'.setCell ⟨g, (t + k) / 8, none⟩ (.int .u8 ((L.getD ((t + k) / 8) 0 ^^^ oneB ((t + k) % 8)).toNat : Int))) w.heap.size g N (L.set ((t + k) / 8) (L.getD ((t + k) / 8) 0 ^^^ oneB ((t + k) % 8)))) := fun w' h => h.set _ hj _
          have HC : Hid (∀ w', Byt w' w.heap.size g N L → w'.cell? ⟨g, (t + k) / 8, none⟩ = some (.int .u8 ((L.getD ((t + k) / 8) 0).toNat : Int)) ∧ w'.frozen? ⟨g, (t + k) / 8, none⟩ = false) := fun w' h => ⟨h.cell _ hj, h.free _ hj⟩
          clear HF hn hq
          generalize L.getD ((t + k) / 8) 0 = y at *
          generalize oneB ((t + k) % 8) = z at *
          generalize (t + k) / 8 = j at *
          generalize (t + k) % 8 = r at *
          have wj : IntKind.i64.wrap (j : Int) = (j : Int) := wrap_small j (by omega)
          clear SW SL
          go_wp2_with fail
          haveI := nxt_ne wr
          refine wp_region_last_lit (by kernel_rfl) (List.cons_ne_nil _ _) (by kernel_rfl) (by kernel_rfl) (by kernel_rfl) (by kernel_rfl) (by kernel_rfl) ?_
          intro l' z' hl' hz'
          simp only [List.dropLast_cons_cons, List.dropLast_singleton] at hl'
          simp only [List.getLast_cons_cons, List.getLast_singleton] at hz'
          subst hl' hz'
          repeat (first | go_big_quiet_skip | (go_big_quiet_want; go_big_quiet_op; go_big_quiet_on))
          refine wpQuiet_nil ?_
          intro _ hw'
          obtain ⟨⟨w3, B3⟩, hw''⟩ := hw'
          subst hw''
          have Y3 := YL.below B3
          obtain ⟨fc, ff⟩ := HC.out _ Y3
          have Y4 := HS.out _ Y3
          have D4 := (below_then BB B3).setCell (p := ⟨g, j, none⟩) YL.base (.int .u8 ((y ^^^ z).toNat : Int))
          clear cc YL BB B3 Y3 HS HC
          go_wp2_with fail
          go_roundg (32 - (k + 1))
          case measure => omega
          case rel => exact ⟨k + 1, L.set j (y ^^^ z), by omega, rfl, by go_num, by rw [decide_eq_true HT.out], HF2.out, Y4, D4⟩
        · have e9 : Hid (bu x (8 * N - t) (k + 1) = bu x (8 * N - t) k) := bu_end x _ k (by omega)
          have e8 : Hid (numL L = numL (packL l) ^^^ 2 ^ t * bu x (8 * N - t) k) := hn
          clear hn hq
          generalize bu x (8 * N - t) k = bk at *
          go_wp2_with fail
          go_roundg (32 - (k + 1))
          case measure => omega
          case rel => exact ⟨k + 1, L, by omega, rfl, by go_num, by rw [e9.out], by rw [e9.out]; exact e8.out, YL, BB⟩
      · have e9 : Hid (bu x (8 * N - t) (k + 1) = bu x (8 * N - t) k) := bu_off x _ k (by rw [← hq]; exact c1)
        have e8 : Hid (numL L = numL (packL l) ^^^ 2 ^ t * bu x (8 * N - t) k) := hn
        have eb : ((((x : Int) / 2 ^ k).tmod 2) == 1) = false := by rw [eq, show q % 2 = 0 by omega]; rfl
        clear hn hq eq
        generalize bu x (8 * N - t) k = bk at *
        go_wp2_with fail
        go_roundg (32 - (k + 1))
        case measure => omega
        case rel => exact ⟨k + 1, L, by omega, rfl, by go_num, by rw [e9.out], by rw [e9.out]; exact e8.out, YL, BB⟩
    · obtain rfl : k = 32 := by omega
      have TX := YL.text cg
      have V3 := h.next BB
      have hbl := bu_lt x (8 * N - t) (by omega)
      have Lb : L.length = (packL l).length := by rw [hL, HN.out, packL_length]
      have tl : t ≤ 8 * (packL l).length := by rw [packL_length, ← HN.out]; omega
      obtain ⟨Z, hZ⟩ : ∃ Z, Z = txt L := ⟨_, rfl⟩
      have zZ : Z.size = N := by rw [hZ, txt_size, hL]
      have U1 := fun W (hW : Env W) => unpack_any Z W hW (by omega)
      unfold UnR at U1
      rw [show Z.data.toList = L by rw [hZ, txt_list]] at U1
      rw [← hZ] at TX
      clear hZ
      by_cases h0 : bu x (8 * N - t) 32 = 0
      · rw [h0, Nat.mul_zero, Nat.xor_zero] at hn
        have hE := numL_inj L (packL l) Lb hn
        rw [hE, show unE (packL l) = .nilIface by unfold unE; rw [flt_pack l (by omega)], un_pack l (by omega), ← HA.out] at U1
        have SS := txt_same A
        rw [show decide (bu x (8 * N - t) 32 ≠ 0) = false by rw [h0]; rfl]
        clear hn hE YL Lb tl hL h0
        go_wp2_with (first
          | (go_at_call 19; refine (U1 _ V3).mono ?_; rintro e w3 ⟨rfl, B3⟩; have V4 := V3.next B3)
          | (go_at_call 9; refine (AW _ V4).mono ?_; rintro e w4 ⟨rfl, B4⟩)
          | (go_at_call 16; refine (C9 _).mono ?_; rintro e w5 ⟨rfl, hw⟩; replace hw := hw.symm; subst hw))
        go_ret
        exact ⟨rfl, below_then (below_then BB B3) B4⟩
      · have hb := burst_told (packL l) L t _ (flt_pack l (by omega)) Lb hn tl hbl h0
        obtain ⟨⟨fp, fn⟩, hf⟩ := Option.ne_none_iff_exists'.1 hb
        rw [show unE L = eF fp fn by unfold unE; rw [hf], show unT L = [] by unfold unT; rw [hf], show txt [] = ⟨#[]⟩ from rfl] at U1
        rw [show decide (bu x (8 * N - t) 32 ≠ 0) = true by rw [decide_eq_true h0]]
        clear hn YL Lb tl hL h0 hb hf hbl
        go_wp2_with (first
          | (go_at_call 19; refine (U1 _ V3).mono ?_; rintro e w3 ⟨rfl, B3⟩; have V4 := V3.next B3)
          | (go_at_call 9; refine (AW _ V4).mono ?_; rintro e w4 ⟨rfl, B4⟩))
        go_ret
        exact ⟨rfl, below_then (below_then BB B3) B4⟩
end Go.Proofs.YtfdofgjlipmglaaDoor
