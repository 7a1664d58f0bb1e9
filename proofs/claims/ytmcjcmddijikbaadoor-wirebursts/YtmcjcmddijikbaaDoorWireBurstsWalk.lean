/- WireBursts' walk: a burst of turned bits in a message is told as the frame's. -/
import Derived.Test.YtmcjcmddijikbaaDoorWrView
import Derived.Test.YtmcjcmddijikbaaDoorWrBur
namespace Go.Proofs.YtmcjcmddijikbaaDoor
open Go.ChangeShapes Go.WideShapes Go.ChangeAt Go.RowKit
set_option maxRecDepth 20000 in
set_option maxHeartbeats 2000000 in
theorem wireBursts_walk (g : Nat → Int) (ao : Option Addr) (n ca : Nat) (A : List Int) (tx : ByteArray) (p : Int) (bits_ : Int) (w : World) (hg : ∀ k, k < 10 → -9223372036854775808 ≤ g k ∧ g k ≤ 9223372036854775807) (hA : IArg w ao n ca A) (hp : -9223372036854775808 ≤ p ∧ p ≤ 9223372036854775807) (hb : 0 ≤ bits_ ∧ bits_ ≤ 4294967295) (hE : Env w) :
   Calls Tryd.prog 5 #[msgV g (.slice ao n ca) tx, .int .i64 p, .int .u32 bits_] w fun e w' => e = .returned (.bool true) ∧ Below w.heap.size w w' := by
  have AW := fun W (hW : Env W) => awake15_any W hW
  have X0 := blk_new w 24 (msgC g (.slice ao n ca) tx)
  have B0 : Below w.heap.size w (w.alloc (.cells (msgC g (.slice ao n ca) tx) 24)) := below_alloc _ _
  generalize hw0 : w.alloc (.cells (msgC g (.slice ao n ca) tx) 24) = w0 at *
  have V0 := hE.next B0
  have FW := fewM_any g ao n ca A tx w0 (hA.below B0)
  have e0 := txt_same ⟨#[]⟩
  have hA1 : (cutA A).length ≤ 140 := by rw [List.length_take]; omega
  have hT1 := cutT_size tx
  clear hA
  generalize cutA A = A1 at *
  generalize cutT tx = t1 at *
  by_cases hc : (chkN g A1 t1.size).1 = 0
  rotate_left
  · have W0 := fun b c W (_ : Env W) (hW : IArg W (some ⟨b, 0, none⟩) A1.length c A1) => write_bad g (some ⟨b, 0, none⟩) A1.length c A1 t1 W hW hg hc
    generalize (chkN g A1 t1.size).2 = q2 at *
    generalize (chkN g A1 t1.size).1 = q1 at *
    clear hE hc hp hb
    go_enter Tryd.func5, Tryd.ntmps5
    go_wp2_with (first
    | (refine wpList_load_row rfl 24 _ rfl w.heap.size rfl 24 (msgC g (.slice ao n ca) tx) (0, 0) _ X0 Tryd.underlying24 rfl Tryd.infoMsg ?_)
    | (go_at_call 9; refine FW.mono ?_; rintro e w1 ⟨b, c, rfl, A1, nb, B1⟩; have V1 := V0.next B1; have WR := W0 b c w1 V1 A1)
    | (go_at_call 10; refine WR.mono ?_; rintro e w2 ⟨rfl, B2⟩; have V2 := V1.next B2)
    | (go_at_call 14; refine (AW _ V2).mono ?_; rintro e w4 ⟨rfl, B4⟩))
    go_ret
    exact ⟨rfl, below_then (below_then (below_then B0 B1) B2) B4⟩
  have W0 := fun b c W (hE : Env W) (hW : IArg W (some ⟨b, 0, none⟩) A1.length c A1) => write_ok g (some ⟨b, 0, none⟩) A1.length c A1 t1 W hE hW hg hc
  have hR := (rt_of_chk hc).1
  have hml : (mL g A1 t1).length ≤ 1300 := by
    have h1 := nsB_len hR 10 (by omega)
    have h2 := tsB_len A1 A1.length (by omega)
    have h3 := vB_len A1.length (by omega)
    have h4 := vB_len t1.size (by omega)
    rw [mL_eq]
    simp only [List.length_append, h2]
    rw [show t1.data.toList.length = t1.size from rfl]
    omega
  obtain ⟨l, hl⟩ : ∃ l, l = mL g A1 t1 := ⟨_, rfl⟩
  rw [← hl] at W0 hml
  obtain ⟨X, hX⟩ : ∃ X, X = txt (packL l) := ⟨_, rfl⟩
  have zX : X.size = l.length + 10 := by rw [hX, txt_size, packL_length]
  rw [← hX] at W0
  have hX48 : X.size ≤ 2000 := by omega
  clear hg hc hR hl hE
  by_cases c0 : bits_ = 0
  · clear hX hA1 hT1
    subst c0
    go_enter Tryd.func5, Tryd.ntmps5
    go_wp2_with (first
    | (refine wpList_load_row rfl 24 _ rfl w.heap.size rfl 24 (msgC g (.slice ao n ca) tx) (0, 0) _ X0 Tryd.underlying24 rfl Tryd.infoMsg ?_)
    | (go_at_call 9; refine FW.mono ?_; rintro e w1 ⟨b, c, rfl, A1, nb, B1⟩; have V1 := V0.next B1; have WR := W0 b c w1 V1 A1)
    | (go_at_call 10; refine WR.mono ?_; rintro e w2 ⟨rfl, B2⟩; have V2 := V1.next B2)
    | (go_at_call 14; refine (AW _ V2).mono ?_; rintro e w4 ⟨rfl, B4⟩))
    go_ret
    exact ⟨rfl, below_then (below_then (below_then B0 B1) B2) B4⟩
  by_cases c1 : p < 0
  · clear hX hA1 hT1
    have c0i : ¬ bits_ = 0 := c0
    go_enter Tryd.func5, Tryd.ntmps5
    go_wp2_with (first
    | (refine wpList_load_row rfl 24 _ rfl w.heap.size rfl 24 (msgC g (.slice ao n ca) tx) (0, 0) _ X0 Tryd.underlying24 rfl Tryd.infoMsg ?_)
    | (go_at_call 9; refine FW.mono ?_; rintro e w1 ⟨b, c, rfl, A1, nb, B1⟩; have V1 := V0.next B1; have WR := W0 b c w1 V1 A1)
    | (go_at_call 10; refine WR.mono ?_; rintro e w2 ⟨rfl, B2⟩; have V2 := V1.next B2)
    | (go_at_call 14; refine (AW _ V2).mono ?_; rintro e w4 ⟨rfl, B4⟩))
    go_ret
    exact ⟨rfl, below_then (below_then (below_then B0 B1) B2) B4⟩
  by_cases c2 : 8 * ((l.length + 10 : Nat) : Int) - 31 ≤ p
  · clear hX hA1 hT1
    have c9 : (8 * (X.size : Int)) - 31 ≤ p := by omega
    go_enter Tryd.func5, Tryd.ntmps5
    go_wp2_with (first
    | (refine wpList_load_row rfl 24 _ rfl w.heap.size rfl 24 (msgC g (.slice ao n ca) tx) (0, 0) _ X0 Tryd.underlying24 rfl Tryd.infoMsg ?_)
    | (go_at_call 9; refine FW.mono ?_; rintro e w1 ⟨b, c, rfl, A1, nb, B1⟩; have V1 := V0.next B1; have WR := W0 b c w1 V1 A1)
    | (go_at_call 10; refine WR.mono ?_; rintro e w2 ⟨rfl, B2⟩; have V2 := V1.next B2)
    | (go_at_call 14; refine (AW _ V2).mono ?_; rintro e w4 ⟨rfl, B4⟩))
    go_ret
    exact ⟨rfl, below_then (below_then (below_then B0 B1) B2) B4⟩
  obtain ⟨t, rfl⟩ : ∃ t : Nat, p = (t : Int) := ⟨p.toNat, by omega⟩
  obtain ⟨x, rfl⟩ : ∃ x : Nat, bits_ = (x : Int) := ⟨bits_.toNat, by omega⟩
  have c9 : decide (8 * ((l.length : Int) + 10) - 31 ≤ (t : Int)) = false := decide_eq_false (by omega)
  have c7 : decide ((t : Int) < 0) = false := decide_eq_false (by omega)
  have c6 : ((x : Int) == 0) = false := by simpa using c0
  have C8 : Hid (¬ (x : Int) = 0) := c0
  have CT : Hid ((t : Int) < 8 * ((l.length + 10 : Nat) : Int) - 31) := by show _ < _; omega
  have CX := conv_bytes X
  have BS := fun W => bytesWorld_size W 5 X
  rw [zX] at CX
  have HX : Hid (X = txt (packL l)) := hX
  clear hX c0 c1 c2
  go_enter Tryd.func5, Tryd.ntmps5
  go_wp2_with (first
    | (refine wpList_load_row rfl 24 _ rfl w.heap.size rfl 24 (msgC g (.slice ao n ca) tx) (0, 0) _ X0 Tryd.underlying24 rfl Tryd.infoMsg ?_)
    | (go_at_call 9; refine FW.mono ?_; rintro e w1 ⟨b, c, rfl, A1, nb, B1⟩; have V1 := V0.next B1; have WR := W0 b c w1 V1 A1)
    | (go_at_call 10; refine WR.mono ?_; rintro e w2 ⟨rfl, B2⟩; have V2 := V1.next B2))
  have D2 := below_then (below_then B0 B1) B2
  have BX : Below w.heap.size w (Lib.bytesWorld w2 5 X) := bytes_below D2 D2.size X
  have Y0 : Byt (Lib.bytesWorld w2 5 X) w.heap.size w2.heap.size (l.length + 10) (packL l) := by rw [HX.out]; exact bytC w2 (packL l) _ _ _ rfl (packL_length l) D2.size
  have HV : Hid (∀ W, Below w0.heap.size w0 W → Env W) := fun W h => V0.next h
  have BX2 : Below w0.heap.size w0 (Lib.bytesWorld w2 5 X) := bytes_below (below_then B1 B2) (below_then B1 B2).size X
  obtain ⟨gb, hgb⟩ : ∃ g, g = w2.heap.size := ⟨_, rfl⟩
  obtain ⟨cg, hcg⟩ : ∃ c, c = grownCap w2 (l.length + 10) 0 5 := ⟨_, rfl⟩
  obtain ⟨N, hN⟩ : ∃ N, N = l.length + 10 := ⟨_, rfl⟩
  rw [← hcg, ← hgb, ← hN]
  rw [← hgb, ← hN] at Y0
  have Y1 : Byt (Lib.bytesWorld w2 5 X) w0.heap.size gb N (packL l) := by rw [HX.out, hgb, hN]; exact bytC w2 (packL l) _ _ _ rfl (packL_length l) (below_then B1 B2).size
  have HN : Hid (N = l.length + 10) := hN
  have hNb : N ≤ 1310 := by omega
  have htN : t + 31 < 8 * N := by have := CT.out; omega
  clear hN hcg hgb CX BS zX c9 c7 c6 FW W0 Y0
  go_loopg [10] 32 (fun r s10 wr => ∃ (k : Nat) (L : List UInt8), k ≤ 32 ∧ r = 32 - k ∧ s10 = .int .i64 (k : Int) ∧ numL L = numL (packL l) ^^^ 2 ^ t * bu x (8 * N - t) k ∧ Byt wr w0.heap.size gb N L ∧ Below w0.heap.size w0 wr)
  case atStart => exact ⟨0, packL l, by omega, by omega, rfl, by rw [bu_zero]; simp, Y1, BX2⟩
  case round =>
    clear Y1 BX2 BX
    obtain ⟨k, L, hk, rfl, rfl, hn, YL, BB⟩ := hrel
    have hL := YL.len
    by_cases hlt : k < 32
    · have eq := tmod_x x k
      obtain ⟨q, hq⟩ : ∃ q, q = x / 2 ^ k := ⟨_, rfl⟩
      rw [← hq] at eq
      by_cases c1 : q % 2 = 1
      · have eb : ((((x : Int) / 2 ^ k).tmod 2) == 1) = true := by rw [eq, c1]; rfl
        clear eq
        have HF := flip_on (packL l) L t k _ _ hn (bu_on x (8 * N - t) k (by omega) (by rw [← hq]; exact c1)).1 (by omega)
        have hj : (t + k) / 8 < N := by omega
        have cc : ∀ p : Nxt wr, p.to.cell? ⟨gb, (t + k) / 8, none⟩ = some (.int .u8 ((L.getD ((t + k) / 8) 0).toNat : Int)) := fun p => (YL.below p.ok).cell _ hj
        have e1 := bits_xor_u8_nat (L.getD ((t + k) / 8) 0) (oneB ((t + k) % 8))
        have ej : ((t : Int) + (k : Int)).tdiv 8 = (((t + k) / 8 : Nat) : Int) := by rw [Int.tdiv_eq_ediv_of_nonneg (by omega)]; omega
        have er : ((t : Int) + (k : Int)).tmod 8 = (((t + k) % 8 : Nat) : Int) := by rw [Int.tmod_eq_emod_of_nonneg (by omega)]; omega
        have ej2 : ((t : Int) + (k : Int)) / 8 = (((t + k) / 8 : Nat) : Int) := by omega
        have er2 : ((t : Int) + (k : Int)) % 8 = (((t + k) % 8 : Nat) : Int) := by omega
        have hr8 : (t + k) % 8 < 8 := by omega
        have SV : IntKind.u8.wrap ((2 : Int) ^ ((t + k) % 8)) = ((oneB ((t + k) % 8)).toNat : Int) := wrap_one _ hr8
        have HF2 : Hid (numL (L.set ((t + k) / 8) (L.getD ((t + k) / 8) 0 ^^^ oneB ((t + k) % 8))) = _) := HF
        have HS : Hid (∀ w', Byt w' w0.heap.size gb N L → Byt (w'.setCell ⟨gb, (t + k) / 8, none⟩ (.int .u8 ((L.getD ((t + k) / 8) 0 ^^^ oneB ((t + k) % 8)).toNat : Int))) w0.heap.size gb N (L.set ((t + k) / 8) (L.getD ((t + k) / 8) 0 ^^^ oneB ((t + k) % 8)))) := fun w' h => h.set _ hj _
        have HC : Hid (∀ w', Byt w' w0.heap.size gb N L → w'.cell? ⟨gb, (t + k) / 8, none⟩ = some (.int .u8 ((L.getD ((t + k) / 8) 0).toNat : Int)) ∧ w'.frozen? ⟨gb, (t + k) / 8, none⟩ = false) := fun w' h => ⟨h.cell _ hj, h.free _ hj⟩
        clear HF hn hq
        generalize L.getD ((t + k) / 8) 0 = y at *
        generalize oneB ((t + k) % 8) = z at *
        generalize (t + k) / 8 = j at *
        generalize (t + k) % 8 = r at *
        have wj : IntKind.i64.wrap (j : Int) = (j : Int) := wrap_small j (by omega)
        go_wp2_with fail
        haveI := nxt_ne wr
        refine wp_region_last_lit (by kernel_rfl) (List.cons_ne_nil _ _) (by kernel_rfl) (by kernel_rfl) (by kernel_rfl) (by kernel_rfl) (by kernel_rfl) ?_
        intro l' z' hl' hz'
        simp only [List.dropLast_cons_cons, List.dropLast_singleton] at hl'
        simp only [List.getLast_cons_cons, List.getLast_singleton] at hz'
        subst hl' hz'
        repeat (first | go_big_quiet_skip | (go_big_quiet_want; go_big_quiet_op; go_big_quiet_on))
        refine wpQuiet_nil ?_
        intro _ hw'
        obtain ⟨⟨w3, B3⟩, hw''⟩ := hw'
        subst hw''
        have Y3 := YL.below B3
        obtain ⟨fc, ff⟩ := HC.out _ Y3
        have Y4 := HS.out _ Y3
        have D4 := (below_then BB B3).setCell (p := ⟨gb, j, none⟩) YL.base (.int .u8 ((y ^^^ z).toNat : Int))
        clear cc YL BB B3 Y3 HS HC
        go_wp2_with fail
        go_roundg (32 - (k + 1))
        case measure => omega
        case rel => exact ⟨k + 1, L.set j (y ^^^ z), by omega, rfl, by go_num, HF2.out, Y4, D4⟩
      · have e9 : Hid (bu x (8 * N - t) (k + 1) = bu x (8 * N - t) k) := bu_off x _ k (by rw [← hq]; exact c1)
        have e8 : Hid (numL L = numL (packL l) ^^^ 2 ^ t * bu x (8 * N - t) k) := hn
        have eb : ((((x : Int) / 2 ^ k).tmod 2) == 1) = false := by rw [eq, show q % 2 = 0 by omega]; rfl
        clear hn hq eq
        generalize bu x (8 * N - t) k = bk at *
        go_wp2_with fail
        go_roundg (32 - (k + 1))
        case measure => omega
        case rel => exact ⟨k + 1, L, by omega, rfl, by go_num, by rw [e9.out]; exact e8.out, YL, BB⟩
    · obtain rfl : k = 32 := by omega
      have TX := YL.text cg
      have V3 := HV.out wr BB
      have hbl := bu_lt x (8 * N - t) (by omega)
      have Lb : L.length = (packL l).length := by rw [hL, HN.out, packL_length]
      have tl : t ≤ 8 * (packL l).length := by rw [packL_length, ← HN.out]; omega
      obtain ⟨Z, hZ⟩ : ∃ Z, Z = txt L := ⟨_, rfl⟩
      have zZ : Z.size = N := by rw [hZ, txt_size, hL]
      have h0 : bu x (8 * N - t) 32 ≠ 0 := by
        unfold bu
        rw [Nat.min_eq_left (by omega), Nat.mod_eq_of_lt (by omega)]
        intro e9
        exact C8.out (by omega)
      have hbt := burst_told (packL l) L t _ (flt_pack l (by omega)) Lb hn tl hbl h0
      obtain ⟨⟨fp, fn⟩, hf⟩ := Option.ne_none_iff_exists'.1 hbt
      have RB := fun W (hW : Env W) => read_bad Z fp fn W hW (by omega) (by rw [hZ, txt_list]; exact hf)
      rw [← hZ] at TX
      have one := zero_one
      have hfp : ¬ (fp : Int) < 0 := by omega
      clear hZ hn YL Lb tl hL h0 hbt hf hbl
      go_wp2_with (first
        | (go_at_call 18; refine (RB _ V3).mono ?_; rintro e w3 ⟨rfl, B3⟩; have V4 := V3.next B3; have X4 := blk_new w3 24 #[.int .i64 0, .int .i64 0, .int .i64 0, .int .i64 0, .int .i64 0, .int .i64 0, .int .i64 0, .int .i64 0, .int .i64 0, .int .i64 0, .slice none 0 0, .string ⟨#[]⟩]; have B4 : Below w3.heap.size w3 (w3.alloc (.cells #[.int .i64 0, .int .i64 0, .int .i64 0, .int .i64 0, .int .i64 0, .int .i64 0, .int .i64 0, .int .i64 0, .int .i64 0, .int .i64 0, .slice none 0 0, .string ⟨#[]⟩] 24)) := below_alloc _ _; generalize hw4 : w3.alloc (.cells #[.int .i64 0, .int .i64 0, .int .i64 0, .int .i64 0, .int .i64 0, .int .i64 0, .int .i64 0, .int .i64 0, .int .i64 0, .int .i64 0, .slice none 0 0, .string ⟨#[]⟩] 24) = w4 at *)
        | (refine wpList_store_row rfl 24 _ _ rfl w3.heap.size #[.int .i64 0, .int .i64 0, .int .i64 0, .int .i64 0, .int .i64 0, .int .i64 0, .int .i64 0, .int .i64 0, .int .i64 0, .int .i64 0, .slice none 0 0, .string ⟨#[]⟩] rfl rfl 24 _ X4 Tryd.infoMsg rfl one ?_; have B5 : Below w3.heap.size w3 (w4.setRow w3.heap.size #[.int .i64 0, .int .i64 0, .int .i64 0, .int .i64 0, .int .i64 0, .int .i64 0, .int .i64 0, .int .i64 0, .int .i64 0, .int .i64 0, .slice none 0 0, .string ⟨#[]⟩]) := below_setRow B4 (Nat.le_refl _) _; have V5 := V4.next B5; have X5 := X4.row #[.int .i64 0, .int .i64 0, .int .i64 0, .int .i64 0, .int .i64 0, .int .i64 0, .int .i64 0, .int .i64 0, .int .i64 0, .int .i64 0, .slice none 0 0, .string ⟨#[]⟩]; generalize hw5 : w4.setRow w3.heap.size #[.int .i64 0, .int .i64 0, .int .i64 0, .int .i64 0, .int .i64 0, .int .i64 0, .int .i64 0, .int .i64 0, .int .i64 0, .int .i64 0, .slice none 0 0, .string ⟨#[]⟩] = w5 at *)
        | (go_at_call 14; refine (AW _ V5).mono ?_; rintro e w6 ⟨rfl, B6⟩; have V6 := V5.next B6; have X6 := X5.next B6)
        | (go_at_call 16; refine (partBF 0 fp fn _ V6.hand).mono ?_; rintro e w7 ⟨rfl, B7⟩; have V7 := V6.next B7; have X7 := X6.next B7)
        | (go_at_call 17; refine (placeBF 0 fp fn _ V7.hand).mono ?_; rintro e w8 ⟨rfl, B8⟩; have X8 := X7.next B8; have c0 : w8.cell? ⟨w3.heap.size, 0, none⟩ = some (.int .i64 0) := X8.cell 0 rfl; have c10 : w8.cell? ⟨w3.heap.size, 10, none⟩ = some (.slice none 0 0) := X8.cell 10 rfl; have c11 : w8.cell? ⟨w3.heap.size, 11, none⟩ = some (.string ⟨#[]⟩) := X8.cell 11 rfl))
      go_ret
      exact ⟨rfl, below_then (below_then (below_then (below_then (below_then (below_then B0 BB) B3) B5) B6) B7) B8⟩
end Go.Proofs.YtmcjcmddijikbaaDoor
