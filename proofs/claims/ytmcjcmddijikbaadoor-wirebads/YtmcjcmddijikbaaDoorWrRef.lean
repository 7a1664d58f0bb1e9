/- The document's number, Text, Check and Same of messages. Condition: the tokens can be read. -/
import Derived.Test.YtmcjcmddijikbaaDoorWrLaw
import Derived.Test.YtmcjcmddijikbaaDoorFRef14b
import Derived.ChangeKeysEq
import Derived.Deep.MidRow
namespace Go.Proofs.YtmcjcmddijikbaaDoor
open Go.ChangeShapes Go.WideShapes Go.ChangeAt Go.RowKit
theorem conv_one (W : World) (g : Nat) (x : UInt8) (X : Int) (hX : X = (x.toNat : Int)) (h : W.cell? ⟨g, 0, none⟩ = some (.int .u8 X)) : (convert 53 9 (.slice (some ⟨g, 0, none⟩) 1 1)).run Tryd.prog W = .ok (.string (txt [x])) W := by
  subst hX
  exact run_convert_bytes_back (P := Tryd.prog) W 53 9 5 ⟨g, 0, none⟩ 1 [x] Tryd.underlying53 Tryd.underlying5 Tryd.underlying9 (fun j hj => by
    match j, hj with
    | 0, _ =>
      have hadd : (⟨g, 0, none⟩ : Addr).add 0 = ⟨g, 0, none⟩ := by simp [Addr.add]
      rw [hadd, h]; rfl)
set_option maxRecDepth 20000 in
set_option maxHeartbeats 1000000 in
theorem number_ref (n : Nat) (w : World) (hn : n ≤ 1099511627776) :
   Calls Tryd.prog 41 #[.int .i64 (n : Int)] w fun e w' => e = .returned (.string (txt (vB n))) ∧ Below w.heap.size w w' := by
  have e1 : (n : Int) % 128 = ((n % 128 : Nat) : Int) := rfl
  have e2 : (n : Int) / 128 = ((n / 128 : Nat) : Int) := rfl
  have h2 : n / 128 ≤ 8589934592 := by omega
  have a3 := wrap_u8 (n % 128) (by omega)
  have cv := fun W => conv_one (W.alloc (.cells #[.int .u8 ((n % 128 : Nat) : Int)] 5)) W.heap.size (UInt8.ofNat (n % 128)) ((n % 128 : Nat) : Int) (by rw [UInt8.toNat_ofNat']; omega) ((blk_new W 5 _).cell 0 rfl)
  have HV : Hid (vB n = grpH (n / 128) ++ [UInt8.ofNat (n % 128)]) := rfl
  have hlv := vB_len n hn
  generalize n / 128 = m0 at *
  generalize UInt8.ofNat (n % 128) = x0 at *
  generalize n % 128 = r0 at *
  go_enter Tryd.func41, Tryd.ntmps41
  go_wp2_with fail
  have B0 := below_alloc w (.cells #[.int .u8 (r0 : Int)] 5)
  generalize w.alloc (.cells #[.int .u8 (r0 : Int)] 5) = w0 at *
  clear cv a3 e1 e2
  go_loopg [0, 3] m0 (fun r a b wr => ∃ (m : Nat) (l : List UInt8), m ≤ 8589934592 ∧ r = m + 0 ∧ a = .int .i64 (m : Int) ∧ b = .string (txt l) ∧ vB n = grpH m ++ l ∧ Below w.heap.size w wr)
  case atStart => exact ⟨m0, [x0], h2, rfl, rfl, rfl, HV.out, B0⟩
  case round =>
    clear HV B0 h2
    obtain ⟨m, l, hm, hr, rfl, rfl, hv, D⟩ := hrel
    have HR : Hid (gk = m + 0) := hr
    have hll : l.length ≤ 6 := by rw [hv, List.length_append] at hlv; omega
    have HV : Hid (vB n = grpH m ++ l) := hv
    clear hr hv
    by_cases hm0 : m = 0
    · subst hm0
      have e9 : Hid (vB n = l) := by show _ = _; rw [HV.out, grpH_zero]; rfl
      go_wp2_with fail
      go_ret
      rw [e9.out]
      exact ⟨rfl, D⟩
    · have hpos : (0 : Int) < (m : Int) := by omega
      have HN : Hid (vB n = grpH (m / 128) ++ (UInt8.ofNat (m % 128 + 128) :: l)) := by show _ = _; rw [HV.out, grpH_pos m hm0, List.append_assoc]; rfl
      have e1 : (m : Int) % 128 = ((m % 128 : Nat) : Int) := rfl
      have e2 : (m : Int) / 128 = ((m / 128 : Nat) : Int) := rfl
      have h3 : m / 128 ≤ 8589934592 := by omega
      have HM : Hid (m / 128 < m) := by show _ < _; omega
      have hr2 : m % 128 < 128 := Nat.mod_lt _ (by decide)
      have hx : (UInt8.ofNat (m % 128 + 128)).toNat = m % 128 + 128 := by rw [UInt8.toNat_ofNat']; omega
      generalize UInt8.ofNat (m % 128 + 128) = x at *
      generalize m % 128 = r at *
      generalize m / 128 = m1 at *
      have a3 : IntKind.u8.wrap ((r : Int) + 128) = (r : Int) + 128 := by have := wrap_u8 (r + 128) (by omega); rwa [show ((r + 128 : Nat) : Int) = (r : Int) + 128 by omega] at this
      have cv := fun W => conv_one (W.alloc (.cells #[.int .u8 ((r : Int) + 128)] 5)) W.heap.size x ((r : Int) + 128) (by omega) ((blk_new W 5 _).cell 0 rfl)
      have ad := add_txt [x] l (txt [x]) (txt l) (txt (x :: l)) rfl rfl rfl (by simp; omega)
      generalize txt [x] = Y at *
      generalize txt l = Y2 at *
      have HY : Hid (txt (x :: l) = txt (x :: l)) := rfl
      obtain ⟨Z, hZ⟩ : ∃ Z, txt (x :: l) = Z := ⟨_, rfl⟩
      rw [hZ] at ad
      have HZ : Hid (txt (x :: l) = Z) := hZ
      clear hZ HY hx hm0 hm
      go_wp2_with fail
      go_roundg m1
      case measure => have := HR.out; have := HM.out; omega
      case rel => exact ⟨m1, x :: l, h3, rfl, rfl, by rw [HZ.out], HN.out, D.alloc D.size _⟩
theorem ten_at {w : World} {b : Nat} {g : Nat → Int} {tok : Value} {t : ByteArray} {T : TypeId} (h : Blk w b T (msgC g tok t)) : w.rangeAt b 0 [.int .i64 (g 0), .int .i64 (g 1), .int .i64 (g 2), .int .i64 (g 3), .int .i64 (g 4), .int .i64 (g 5), .int .i64 (g 6), .int .i64 (g 7), .int .i64 (g 8), .int .i64 (g 9)] := by
  intro j v hj
  rw [Nat.zero_add]
  refine h.cell j ?_
  have hj2 : j < 10 := by have := (List.getElem?_eq_some_iff.1 hj).1; simpa using this
  rw [← hj]
  match j, hj2 with
  | 0, _ => rfl
  | 1, _ => rfl
  | 2, _ => rfl
  | 3, _ => rfl
  | 4, _ => rfl
  | 5, _ => rfl
  | 6, _ => rfl
  | 7, _ => rfl
  | 8, _ => rfl
  | 9, _ => rfl
set_option maxRecDepth 20000 in
set_option maxHeartbeats 2000000 in
theorem text_ref (g : Nat → Int) (ao : Option Addr) (n ca : Nat) (A : List Int) (t : ByteArray) (w : World) (hA : IArg w ao n ca A) (hR : Rt g A t.size) :
   Calls Tryd.prog 20 #[msgV g (.slice ao n ca) t] w fun e w' => e = .returned (.string (txt (mL g A t))) ∧ Below w.heap.size w w' := by
  have X0 := blk_new w 35 (msgC g (.slice ao n ca) t)
  have B0 : Below w.heap.size w (w.alloc (.cells (msgC g (.slice ao n ca) t) 35)) := below_alloc _ _
  generalize hw0 : w.alloc (.cells (msgC g (.slice ao n ca) t) 35) = w0 at *
  have hl := hA.row.len
  have hn128 := hR.few
  have ht5 := hR.len
  rw [hl] at hn128
  have RG := ten_at X0
  have HA : Hid (∀ W, Below w.heap.size w W → IArg W ao n ca A) := fun W h => hA.below h
  have HX : Hid (∀ W, Below w0.heap.size w0 W → Blk W w.heap.size 35 (msgC g (.slice ao n ca) t)) := fun W h => X0.next h
  clear hA X0
  go_enter Tryd.func20, Tryd.ntmps20
  go_wp2_with (refine wpList_load_mid rfl 33 _ rfl w.heap.size 0 rfl [.int .i64 (g 0), .int .i64 (g 1), .int .i64 (g 2), .int .i64 (g 3), .int .i64 (g 4), .int .i64 (g 5), .int .i64 (g 6), .int .i64 (g 7), .int .i64 (g 8), .int .i64 (g 9)] _ RG Tryd.underlying33 rfl Tryd.infoTen ?_)
  clear hw0 RG
  go_loopg [3, 10] 10 (fun r b i wr => ∃ k : Nat, k ≤ 10 ∧ r = 10 - k ∧ i = .int .i64 (k : Int) ∧ b = .string (txt (nsB g k)) ∧ Below w0.heap.size w0 wr)
  case atStart => exact ⟨0, by omega, by omega, rfl, rfl, Below.refl _ _⟩
  case round =>
    obtain ⟨k, hk, rfl, rfl, rfl, H1⟩ := hrel
    have hlen := nsB_len hR k hk
    by_cases hk1 : k < 10
    · have ix := idx10 g k hk1
      have hr := hR.num k hk1
      obtain ⟨m, hm⟩ : ∃ m : Nat, m = (g k).toNat := ⟨_, rfl⟩
      have HS : Hid (nsB g (k + 1) = nsB g k ++ vB m) := by show _ = _; rw [nsB_succ, hm]
      have hgm : g k = (m : Int) := by omega
      rw [hgm] at ix hr
      have NB := fun W => number_ref m W (by omega)
      have hvl := vB_len m (by omega)
      have ad := add_txt (nsB g k) (vB m) (txt (nsB g k)) (txt (vB m)) (txt (nsB g k ++ vB m)) rfl rfl rfl (by omega)
      rw [← HS.out] at ad
      obtain ⟨Z, hZ⟩ : ∃ Z, txt (nsB g (k + 1)) = Z := ⟨_, rfl⟩
      rw [hZ] at ad
      have HZ : Hid (txt (nsB g (k + 1)) = Z) := hZ
      generalize txt (nsB g k) = Y1 at *
      generalize txt (vB m) = Y2 at *
      clear hm hgm hZ HS hlen hvl
      go_wp2_with (go_at_call 41; refine (NB _).mono ?_; rintro e w3 ⟨rfl, B3⟩)
      go_roundg (10 - (k + 1))
      case measure => omega
      case rel => exact ⟨k + 1, by omega, rfl, by go_num, by rw [HZ.out], below_then H1 B3⟩
    · obtain rfl : k = 10 := by omega
      have X3 := HX.out wr H1
      have c10 : wr.cell? ⟨w.heap.size, 10, none⟩ = some (.slice ao n ca) := X3.cell 10 rfl
      have NB := fun W => number_ref n W (by omega)
      have hvl := vB_len n (by omega)
      have ad := add_txt (nsB g 10) (vB n) (txt (nsB g 10)) (txt (vB n)) (txt (nsB g 10 ++ vB n)) rfl rfl rfl (by omega)
      generalize hl0 : nsB g 10 = l0 at *
      have HL0 : Hid (nsB g 10 = l0) := hl0
      clear hl0
      obtain ⟨Z, hZ⟩ : ∃ Z, txt (l0 ++ vB n) = Z := ⟨_, rfl⟩
      rw [hZ] at ad
      have HZ : Hid (txt (l0 ++ vB n) = Z) := hZ
      generalize txt l0 = Y1 at *
      generalize txt (vB n) = Y2 at *
      clear hZ
      go_wp2_with (go_at_call 41; refine (NB _).mono ?_; rintro e w3 ⟨rfl, B3⟩; have X4 := HX.out w3 (below_then H1 B3); have d10 : w3.cell? ⟨w.heap.size, 10, none⟩ = some (.slice ao n ca) := X4.cell 10 rfl)
      have H3 := below_then H1 B3
      clear ad NB c10 d10 X3 X4 H1 B3
      go_loopg [3, 27] n (fun r b i wr => ∃ k : Nat, k ≤ n ∧ r = n - k ∧ i = .int .i64 (k : Int) ∧ b = .string (txt ((l0 ++ vB n) ++ tsB A k)) ∧ Below w0.heap.size w0 wr)
      case atStart => exact ⟨0, by omega, by omega, rfl, by rw [← HZ.out]; simp [tsB], H3⟩
      case round =>
        clear H3 HZ
        obtain ⟨k, hk, rfl, rfl, rfl, H1⟩ := hrel
        have hlk : ((l0 ++ vB n) ++ tsB A k).length ≤ 300 := by
          have := tsB_len A k (by omega)
          simp only [List.length_append]; omega
        by_cases hk1 : k < n
        · have hA3 := HA.out wr (below_then B0 H1)
          obtain ⟨b, o, rfl, hcl⟩ := hA3.row.cells (by omega)
          have hck := hcl k hk1
          have hr := hR.tok k
          have HS : Hid ((l0 ++ vB n) ++ tsB A (k + 1) = ((l0 ++ vB n) ++ tsB A k) ++ [UInt8.ofNat (el A k).toNat]) := by show _ = _; rw [tsB_succ (by omega), List.append_assoc, List.append_assoc, List.append_assoc]
          obtain ⟨m, hm⟩ : ∃ m : Nat, el A k = (m : Int) := ⟨(el A k).toNat, by omega⟩
          rw [hm] at hck hr
          have a3 := wrap_u8 m (by omega)
          have a4 : (UInt8.ofNat (el A k).toNat).toNat = m := by rw [hm, UInt8.toNat_ofNat', Int.toNat_natCast]; omega
          generalize UInt8.ofNat (el A k).toNat = y at a4 HS
          generalize (l0 ++ vB n) ++ tsB A k = l1 at HS hlk
          have cv := fun W => conv_one (W.alloc (.cells #[.int .u8 (m : Int)] 5)) W.heap.size y (m : Int) (by omega) ((blk_new W 5 _).cell 0 rfl)
          have ad := add_txt l1 [y] (txt l1) (txt [y]) (txt (l1 ++ [y])) rfl rfl rfl (by simp; omega)
          rw [← HS.out] at ad
          obtain ⟨Z, hZ⟩ : ∃ Z, txt ((l0 ++ vB n) ++ tsB A (k + 1)) = Z := ⟨_, rfl⟩
          rw [hZ] at ad
          have HZ : Hid (txt ((l0 ++ vB n) ++ tsB A (k + 1)) = Z) := hZ
          generalize txt l1 = Y1 at *
          generalize txt [y] = Y2 at *
          clear hcl hm hA3 hZ HS
          go_wp2_with fail
          go_roundg (n - (k + 1))
          case measure => omega
          case rel => exact ⟨k + 1, by omega, rfl, by go_num, by rw [HZ.out], below_alloc2 H1 _⟩
        · obtain rfl : k = n := by omega
          have X3 := HX.out wr H1
          have hv2 := vB_len t.size (by omega)
          have HM : Hid (mL g A t = (((l0 ++ vB k) ++ tsB A k) ++ vB t.size) ++ t.data.toList) := by show _ = _; rw [mL_eq, HL0.out, hl]
          have NB := fun W => number_ref t.size W (by omega)
          generalize (l0 ++ vB k) ++ tsB A k = l1 at HM hlk
          have ad := add_txt l1 (vB t.size) (txt l1) (txt (vB t.size)) (txt (l1 ++ vB t.size)) rfl rfl rfl (by omega)
          have htl : t.data.toList.length = t.size := rfl
          have ad2 := add_txt (l1 ++ vB t.size) t.data.toList (txt (l1 ++ vB t.size)) t (txt ((l1 ++ vB t.size) ++ t.data.toList)) rfl (txt_of t).symm rfl (by rw [List.length_append]; omega)
          obtain ⟨Z, hZ⟩ : ∃ Z, txt (mL g A t) = Z := ⟨_, rfl⟩
          rw [← HM.out, hZ] at ad2
          have HZ : Hid (txt (mL g A t) = Z) := hZ
          generalize txt (l1 ++ vB t.size) = Y3 at *
          generalize txt l1 = Y1 at *
          generalize txt (vB t.size) = Y2 at *
          clear hZ HM hlk hv2 htl
          have HC : ∀ p : Nxt wr, p.to.cell? ⟨w.heap.size, 11, none⟩ = some (.string t) := fun p => (X3.next p.ok).cell 11 rfl
          go_wp2_with fail
          refine wp_region_nxt (by kernel_rfl) (by kernel_rfl) ?_
          repeat (first | go_big_quiet_skip | (go_big_quiet_want; go_big_quiet_op; first | go_big_quiet_on | (apply Exists.intro; refine ⟨fun pq => ?_, ?_⟩; (first | (go_at_call 41; exact calls_nxt (NB _)) | exact rfl); go_big_quiet_on)))
          refine wpQuiet_nil ?_
          rintro _ ⟨p, rfl⟩
          go_wp2_with fail
          go_ret
          rw [HZ.out]
          exact ⟨rfl, below_then B0 (below_then H1 p.ok)⟩
end Go.Proofs.YtmcjcmddijikbaaDoor
