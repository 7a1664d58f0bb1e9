/- SendRaw. Written by tools/gensdraw.py. -/
import Derived.Test.YtmblaigiipjmfaaSendJoinsWalk
import Derived.Laws.AppendOwnNone
namespace Go.Proofs.Ytmblaigiipjmfaa
open Go.ChangeShapes Go.WideShapes Go.ChangeAt Go.RowKit
/-- append of a row of bools onto an own empty one. -/
theorem wpList_append_bools {ops : Array Oper} {rest : List Oper} {o : Oper} {a : Act} {Q : Exit → Act → World → Prop} {w : World} (hg : o.guard = none) (s x : Operand)
    (ho : o.op = .call { callee := .builtin .append, args := #[s, x], argTypes := #[28, 28] }) (B : Nat) (v : Value) (hs : a.eval s = v) (hO : VOwn w B 4 v 0 [])
    (ao : Option Addr) (n ca : Nat) (L : List Value) (hx : a.eval x = .slice ao n ca) (hA : VArg w ao n ca L) (h1 : ∀ u ∈ L, u.oneCell' = true) (hn : n ≤ 4096) (hB : B ≤ w.heap.size)
    (hK : ∀ a' c' w', VOwn w' B 4 (.slice a' n c') n L → Below B w w' → wpList Try.prog ops Q rest (a.put o.dst (.slice a' n c')) w') : wpList Try.prog ops Q (o :: rest) a w := by
  obtain ⟨i0, hi, hz0, hz1, hz2⟩ := info_parts Try.infoBool
  have hl := hA.len
  cases ao with
  | none =>
    have hc0 := hA.nil rfl
    obtain rfl : n = 0 := by have := hA.fit; omega
    obtain rfl : L = [] := List.length_eq_zero_iff.1 hl
    rw [hc0] at hx
    obtain ⟨a', c', rfl, _⟩ := hO.arg
    exact wpList_append_own_none hg s x 28 ho B 4 i0 1 Try.underlying28 hi _ 0 [] hs hO hx (hK a' c' w hO (Below.refl _ _))
  | some ad =>
    refine wpList_append_own _ hg s x 28 ho B 4 i0 (.bool false) 1 1 Try.underlying28 hi hz0 hz1 hz2 rfl (by decide) _ 0 [] hs hO ad n ca L hx (by simp [hl]) hA.vals h1 (by unfold maxLen; omega) (by omega) hB ?_
    intro v' w' O1 G1 _
    rw [Nat.zero_add, List.nil_append] at O1
    obtain ⟨a', c', rfl, _⟩ := VOwn.arg O1
    exact hK a' c' w' O1 ((Below.refl _ _).grown G1 hB (fun k hk => (World.ownsRow.lt hO k hk).1))
theorem var3 (W : World) (T : TypeId) (z R : Array Value) : Blk (W.alloc (.cells z T)) W.heap.size T z ∧ Blk ((W.alloc (.cells z T)).setRow W.heap.size R) W.heap.size T R ∧ Below W.heap.size W ((W.alloc (.cells z T)).setRow W.heap.size R) ∧ ((W.alloc (.cells z T)).setRow W.heap.size R).heap.size = W.heap.size + 1 :=
  ⟨blk_new W T z, (blk_new W T z).row R, belowR (belowA W _) (Nat.le_refl _) _, by simp⟩
theorem strs_take (S : List ByteArray) (n : Nat) : (strs S).take n = strs (S.take n) := by unfold strs; rw [List.map_take]
theorem bools_take (C : List Bool) (n : Nat) : (bools C).take n = bools (C.take n) := by unfold bools; rw [List.map_take]
set_option maxRecDepth 100000 in
set_option maxHeartbeats 64000000 in
theorem sendRaw_walk (num : Int) (ap ac : Option Addr) (n cp m cc : Nat) (S : List ByteArray) (C : List Bool) (nu I : Int) (w : World) (hS : VArg w ap n cp (strs S)) (hC : VArg w ac m cc (bools C)) (_hn : n * 16 ≤ 140737488351232) (_hm : m ≤ 140737488351232) (hz : ∀ s ∈ S, s.size ≤ 140737488351232) (_hnu : -9223372036854775808 ≤ nu ∧ nu ≤ 9223372036854775807) (_hI : -9223372036854775808 ≤ I ∧ I ≤ 9223372036854775807) :
    Calls Try.prog 4 #[stV num (.slice ap n cp) (.slice ac m cc), .int .i64 nu, .int .i64 I] w fun e w' => e = .returned (.bool true) ∧ Below w.heap.size w w' := by
  have AW := sawake_any
  have hf1 := hS.fit
  have hf2 := hC.fit
  have hx1 := hS.max
  have hx2 := hC.max
  have X0 := blk_new w 30 #[.int .i64 num, .slice ap n cp, .slice ac m cc]
  have B0 := belowA w (.cells #[.int .i64 num, .slice ap n cp, .slice ac m cc] 30)
  unfold stV
  generalize hw0 : w.alloc (.cells #[.int .i64 num, .slice ap n cp, .slice ac m cc] 30) = w0 at *
  have c1 : w0.cell? ⟨w.heap.size, 1, none⟩ = some (.slice ap n cp) := X0.cell 1 rfl
  have g1 := X0.frozen 1
  have HS : Hid (VArg w ap n cp (strs S)) := hS
  have HC : Hid (VArg w ac m cc (bools C)) := hC
  clear hS hC
  go_enter Try.func4, Try.ntmps4
  go_upto_if 18 with fail
  go_cut [] from 13 (fun wc => ∃ n1, n1 ≤ 40 ∧ n1 ≤ n ∧ Blk wc w.heap.size 30 #[.int .i64 num, .slice ap n1 cp, .slice ac m cc] ∧ Below w.heap.size w wc)
  case first =>
    by_cases e1 : 40 < n
    · have e1' : (40 : Int) < (n : Int) := by omega
      have e2' : (40 : Int) ≤ (cp : Int) := by omega
      go_wp2_with fail
      go_meet
      case rel => exact ⟨40, by omega, by omega, X0.set 1 _, belowS B0 (Nat.le_refl _) _⟩
    · have e1' : ¬ (40 : Int) < (n : Int) := by omega
      go_wp2_with fail
      go_meet
      case rel => exact ⟨n, by omega, by omega, X0, B0⟩
  case rest =>
  obtain ⟨n1, hn1, hn1n, X1, B1⟩ := hcut
  clear X0 B0 c1 g1 hw0
  have c2 : wc.cell? ⟨w.heap.size, 2, none⟩ = some (.slice ac m cc) := X1.cell 2 rfl
  have g2 := X1.frozen 2
  go_upto_if 26 with fail
  go_cut [] from 13 (fun wd => ∃ m1, m1 ≤ 60 ∧ m1 ≤ m ∧ Blk wd w.heap.size 30 #[.int .i64 num, .slice ap n1 cp, .slice ac m1 cc] ∧ Below w.heap.size w wd)
  case first =>
    by_cases e1 : 60 < m
    · have e1' : (60 : Int) < (m : Int) := by omega
      have e2' : (60 : Int) ≤ (cc : Int) := by omega
      go_wp2_with fail
      go_meet
      case rel => exact ⟨60, by omega, by omega, X1.set 2 _, belowS B1 (Nat.le_refl _) _⟩
    · have e1' : ¬ (60 : Int) < (m : Int) := by omega
      go_wp2_with fail
      go_meet
      case rel => exact ⟨m, by omega, by omega, X1, B1⟩
  case rest =>
  obtain ⟨m1, hm1, hm1m, X2, B2⟩ := hcut
  clear X1 B1 c2 g2
  generalize wc = w2 at *
  have PA := HS.out.take hn1n
  have CA := HC.out.take hm1m
  rw [strs_take] at PA
  rw [bools_take] at CA
  have hz1 : ∀ s ∈ S.take n1, s.size ≤ 140737488355328 := fun s hs => by have := hz s (List.mem_of_mem_take hs); omega
  generalize S.take n1 = S1 at *
  generalize C.take m1 = C1 at *
  have hlS : S1.length = n1 := by rw [← strs_len]; exact PA.len
  have hlC : C1.length = m1 := by rw [← bools_len]; exact CA.len
  have HP : Hid (VArg w ap n1 cp (strs S1)) := PA
  have HD : Hid (VArg w ac m1 cc (bools C1)) := CA
  clear HS HC hz hf1 hf2
  have O0 := vown_new w2 4
  have BN := belowA w2 (.cells #[] 4)
  have XN := X2.below BN
  have BBN := below_then B2 BN
  have CN := HD.out.below BBN
  have zN : (w2.alloc (.cells #[] 4)).heap.size = w2.heap.size + 1 := by simp
  generalize hwN : w2.alloc (.cells #[] 4) = wN at *
  have cN : wN.cell? ⟨w.heap.size, 2, none⟩ = some (.slice ac m1 cc) := XN.cell 2 rfl
  have zb := X2.lt
  obtain ⟨md, D, r, hr, hok, GT⟩ : ∃ (md : Nat) (D : List Bool) (r : Int), r = gotN num nu I n1 ∧ (r = 0 → ∃ k : Nat, I = (k : Int) ∧ k < n1 ∧ md = n1 ∧ D = gotB C1 n1 k) ∧ ∀ W, VArg W ap n1 cp (strs S1) → VArg W ac m1 cc (bools C1) → Calls Try.prog 13 #[stV num (.slice ap n1 cp) (.slice ac m1 cc), .int .i64 nu, .int .i64 I] W fun e w' => ∃ x y u v, e = .returned (.tuple #[stV num (.slice x n1 y) (.slice u md v), .int .i64 r]) ∧ VOwn w' W.heap.size 9 (.slice x n1 y) n1 (strs S1) ∧ VOwn w' W.heap.size 4 (.slice u md v) md (bools D) ∧ Below W.heap.size W w' := by
    by_cases hg : gotN num nu I n1 = 0
    · have hnum : nu = num ∧ 0 ≤ I ∧ I < (n1 : Int) := by
        unfold gotN at hg
        by_cases q1 : nu = num
        · rw [if_neg (not_not_intro q1)] at hg
          by_cases q2 : I < 0 ∨ (n1 : Int) ≤ I
          · rw [if_pos q2] at hg; omega
          · omega
        · rw [if_pos q1] at hg; omega
      obtain ⟨h1, h2, h3⟩ := hnum
      obtain ⟨k, rfl⟩ : ∃ k : Nat, I = (k : Int) := ⟨I.toNat, by omega⟩
      subst h1
      exact ⟨n1, gotB C1 n1 k, 0, hg.symm, fun _ => ⟨k, rfl, by omega, rfl, rfl⟩, fun W h4 h5 => sgot_ok nu ap ac n1 cp m1 cc k S1 C1 W h4 h5 (by omega) (by omega) hz1 (by omega)⟩
    · exact ⟨m1, C1, gotN num nu I n1, rfl, fun h => absurd h hg, fun W h4 h5 => sgot_bad num nu I ap ac n1 cp m1 cc S1 C1 W h4 h5 (by omega) (by omega) hz1 hg⟩
  have HR : Hid (r = gotN num nu I n1) := hr
  have HOK : Hid _ := hok
  have GT' : Hid _ := GT
  have RL : Hid (∀ (W : World) (a : Option Addr) (c : Nat), VArg W a m1 c (bools C1) → _) := fun W a c h => rleft_any n1 m1 c a C1 W h (by omega)
  have SL : Hid (∀ (W : World), VArg W ac m1 cc (bools C1) → _) := fun W h => sleft_any num ap ac n1 cp m1 cc C1 W h (by omega)
  have OV : Hid (∀ (W : World), VArg W ac m1 cc (bools C1) → _) := fun W h => sover_any num ap ac n1 cp m1 cc C1 W h (by omega)
  have hkl := leftL_len C1 n1
  obtain ⟨A, hA⟩ : ∃ A, A = leftL C1 n1 := ⟨_, rfl⟩
  obtain ⟨q, hq⟩ : ∃ q, q = A.length := ⟨_, rfl⟩
  have HA : Hid (A = leftL C1 n1) := hA
  have HQ : Hid (q = A.length) := hq
  rw [← hA, ← hq] at RL SL OV hkl
  unfold stV at GT' SL OV
  clear hr hok GT hz1 hA hq PA CA X2 B2 BN
  go_upto_region 8 with (first
    | (at_builtin; refine wpList_append_bools rfl _ _ rfl w2.heap.size _ rfl O0 ac m1 cc _ rfl CN (bools_one _) (by omega) (by omega) ?_; intro a3 c3 w3 O3 B3; have z3 := B3.size; have X3 := XN.of_block (B3.block w.heap.size (by omega)); have BB3 := BBN.trans (B3.mono (by omega)); have P3 := HP.out.below BB3; have C3 := HD.out.below BB3; have j1 : w3.cell? ⟨w.heap.size, 1, none⟩ = some (.slice ap n1 cp) := X3.cell 1 rfl; have RLw := RL.out w3 a3 c3 (VOwn.varg O3))
    | (go_at_call 14; refine RLw.mono ?_; clear RLw; rintro e w4 ⟨a4, c4, rfl, O4, B4⟩; have z4 := B4.size; have X4 := X3.below B4; have P4 := P3.below B4; have C4 := C3.below B4; have O34 := VOwn.below O3 B4; have BB4 := below_then BB3 B4; have GTw := GT'.out w4 P4 C4)
    | (refine wpList_load_row rfl 30 _ rfl w.heap.size rfl 30 _ (0, 0) _ X4 Try.underlying30 rfl Try.infoSs ?_)
    | (go_at_call 13; refine GTw.mono ?_; clear GTw; rintro e w5 ⟨x, y, u, v, rfl, P5, D5, B5⟩; obtain ⟨XA6, XB6, VB6, vz6⟩ := var3 w5 30 #[.int .i64 0, .slice none 0 0, .slice none 0 0] #[.int .i64 num, .slice x n1 y, .slice u md v]; generalize hwA6 : w5.alloc (.cells #[.int .i64 0, .slice none 0 0, .slice none 0 0] 30) = wA6 at *; generalize hwB6 : wA6.setRow w5.heap.size #[.int .i64 num, .slice x n1 y, .slice u md v] = w6 at *; have B46 := below_then B5 VB6; have X6 := X4.below B46; have C6 := C4.below B46; have O36 := VOwn.below O34 B46; have O46 := VOwn.below O4 B46; have D6 := VOwn.below D5 VB6; have BB6 := below_then BB4 B46)
    | (refine wpList_store_row rfl 30 _ _ rfl w5.heap.size _ rfl rfl 30 _ XA6 Try.infoSs rfl (stall _ _ _ _ _ _ _) ?_; rw [hwB6]))
  go_cut [63] from 47 (fun s63 wc => s63 = .bool false ∧ Below w6.heap.size w6 wc)
  case first =>
    by_cases e1 : q = 0
    · subst e1
      rw [show decide (((0 : Nat) : Int) = 0) = true from rfl] at OV
      go_wp2_with (first
        | (go_at_call 11; refine (AW _).mono ?_; rintro e w7 ⟨rfl, B7⟩; have X7 := X6.below B7; have u0 : w7.cell? ⟨w.heap.size, 0, none⟩ = some (.int .i64 num) := X7.cell 0 rfl; have u1 : w7.cell? ⟨w.heap.size, 1, none⟩ = some (.slice ap n1 cp) := X7.cell 1 rfl; have u2 : w7.cell? ⟨w.heap.size, 2, none⟩ = some (.slice ac m1 cc) := X7.cell 2 rfl; have SLw := SL.out w7 (HD.out.below (below_then BB6 B7)))
        | (go_at_call 16; refine SLw.mono ?_; clear SLw; rintro e w8 ⟨a8, c8, rfl, O8, B8⟩; have X8 := X7.below B8; have B78 := below_then B7 B8; have SMw := same_yes 0 c8 c4 a8 a4 A w8 (VOwn.varg O8) ((VOwn.varg O46).below B78))
        | (go_at_call 15; refine SMw.mono ?_; clear SMw; rintro e w9 ⟨rfl, B9⟩; have X9 := X8.below B9; have v0 : w9.cell? ⟨w.heap.size, 0, none⟩ = some (.int .i64 num) := X9.cell 0 rfl; have v1 : w9.cell? ⟨w.heap.size, 1, none⟩ = some (.slice ap n1 cp) := X9.cell 1 rfl; have v2 : w9.cell? ⟨w.heap.size, 2, none⟩ = some (.slice ac m1 cc) := X9.cell 2 rfl; have B69 := below_then B78 B9; have OVw := OV.out w9 (HD.out.below (below_then BB6 B69)))
        | (go_at_call 17; refine OVw.mono ?_; clear OVw; rintro e wA ⟨rfl, BA⟩; have BF := below_then B69 BA))
      go_meet
      case rel => exact ⟨by simp, BF⟩
    · have e1' : ¬ (q : Int) = 0 := by omega
      rw [decide_eq_false e1'] at OV
      clear e1
      go_wp2_with (first
        | (go_at_call 11; refine (AW _).mono ?_; rintro e w7 ⟨rfl, B7⟩; have X7 := X6.below B7; have u0 : w7.cell? ⟨w.heap.size, 0, none⟩ = some (.int .i64 num) := X7.cell 0 rfl; have u1 : w7.cell? ⟨w.heap.size, 1, none⟩ = some (.slice ap n1 cp) := X7.cell 1 rfl; have u2 : w7.cell? ⟨w.heap.size, 2, none⟩ = some (.slice ac m1 cc) := X7.cell 2 rfl; have SLw := SL.out w7 (HD.out.below (below_then BB6 B7)))
        | (go_at_call 16; refine SLw.mono ?_; clear SLw; rintro e w8 ⟨a8, c8, rfl, O8, B8⟩; have X8 := X7.below B8; have B78 := below_then B7 B8; have SMw := same_yes q c8 c4 a8 a4 A w8 (VOwn.varg O8) ((VOwn.varg O46).below B78))
        | (go_at_call 15; refine SMw.mono ?_; clear SMw; rintro e w9 ⟨rfl, B9⟩; have X9 := X8.below B9; have v0 : w9.cell? ⟨w.heap.size, 0, none⟩ = some (.int .i64 num) := X9.cell 0 rfl; have v1 : w9.cell? ⟨w.heap.size, 1, none⟩ = some (.slice ap n1 cp) := X9.cell 1 rfl; have v2 : w9.cell? ⟨w.heap.size, 2, none⟩ = some (.slice ac m1 cc) := X9.cell 2 rfl; have B69 := below_then B78 B9; have OVw := OV.out w9 (HD.out.below (below_then BB6 B69)))
        | (go_at_call 17; refine OVw.mono ?_; clear OVw; rintro e wA ⟨rfl, BA⟩; have BF := below_then B69 BA))
      go_meet
      case rel => exact ⟨by simp; omega, BF⟩
  case rest =>
  obtain ⟨rfl, BG⟩ := hcut
  clear OV RL
  go_wp2_with fail
  go_loopg [66] m1 (fun r s66 wr => ∃ i : Nat, r = m1 - i ∧ i ≤ m1 ∧ s66 = .int .i64 (i : Int) ∧ Below w6.heap.size w6 wr)
  case atStart => exact ⟨0, rfl, by omega, rfl, BG⟩
  case round =>
  obtain ⟨i, rfl, hi, rfl, BI⟩ := hrel
  have XI := X6.below BI
  by_cases d1 : i < m1
  case pos =>
    have d1' : (i : Int) < (m1 : Int) := by omega
    have CI := HD.out.below (below_then BB6 BI)
    obtain ⟨b1, o1, rfl, kc⟩ := CI.cells (by omega)
    have t1 := kc i d1
    obtain ⟨b2, o2, rfl, kd⟩ := ((VOwn.varg O36).below BI).cells (by omega)
    have t2 := kd i d1
    rw [bools_get (by omega)] at t1 t2
    have j2 : wr.cell? ⟨w.heap.size, 2, none⟩ = some (.slice (some ⟨b1, o1, none⟩) m1 cc) := XI.cell 2 rfl
    clear kc kd CI
    generalize be C1 i = bb at *
    have hbb : (bb == bb) = true := by simp
    go_upto_region 13 with fail
    go_quiet (fail)
    go_wp2_with fail
    go_roundg (m1 - (i + 1))
    case measure => omega
    case rel => exact ⟨i + 1, rfl, by omega, by go_num, below_drewN BI _⟩
  case neg =>
  obtain rfl : m1 = i := by omega
  generalize hwr : wr = wI at *
  clear hwr
  have j0 : wI.cell? ⟨w.heap.size, 0, none⟩ = some (.int .i64 num) := XI.cell 0 rfl
  have j1' : wI.cell? ⟨w.heap.size, 1, none⟩ = some (.slice ap n1 cp) := XI.cell 1 rfl
  have BBI := below_then BB6 BI
  have hr := HR.out
  unfold gotN at hr
  by_cases q1 : nu = num
  case neg =>
    rw [if_pos q1] at hr
    subst hr
    go_wp2_with fail
    go_ret
    exact ⟨by simp, BBI⟩
  rw [if_neg (not_not_intro q1)] at hr
  have q1s := q1.symm
  subst q1s
  clear q1
  by_cases q2 : I < 0
  · rw [if_pos (Or.inl q2)] at hr
    subst hr
    go_wp2_with fail
    go_ret
    exact ⟨by simp, BBI⟩
  by_cases q3 : (n1 : Int) ≤ I
  · rw [if_pos (Or.inr q3)] at hr
    subst hr
    go_wp2_with fail
    go_ret
    exact ⟨by simp, BBI⟩
  rw [if_neg (by omega)] at hr
  obtain ⟨k, rfl, hk, hmd, hD⟩ := HOK.out hr
  have hmd2 := hmd.symm
  subst hmd2
  subst hD
  subst hr
  clear hmd
  have hflt := leftL_filter C1 n1 k n1 (Nat.le_refl _)
  rw [← HA.out] at hflt
  have HF : Hid (leftL (gotB C1 n1 k) n1 = A.filter (fun i => decide (i ≠ (k : Int)))) := hflt
  have DI := (VOwn.varg D6).below BI
  have LT : Hid (∀ W, Below wI.heap.size wI W → _) := fun W hW => sleft_any num x u n1 y n1 v (gotB C1 n1 k) W (DI.below hW) (by omega)
  rw [hflt] at LT
  unfold stV at LT
  have XT := XB6.below BI
  have OL := (VOwn.varg O46).below BI
  have hfo := OL.fit
  have hmo := OL.max
  have HOL : Hid (VArg wI a4 q c4 (ints A)) := OL
  have ON := vown_new wI 3
  have BN2 := belowA wI (.cells #[] 3)
  have zN2 : (wI.alloc (.cells #[] 3)).heap.size = wI.heap.size + 1 := by simp
  generalize hwM : wI.alloc (.cells #[] 3) = wM at *
  clear hflt DI OL HOK HR GT' SL D6 D5 P5
  go_wp2_with fail
  go_loopg [12, 100] q (fun r s12 s100 wr => ∃ (t : Nat) (a : Option Addr) (c j : Nat), r = q - t ∧ t ≤ q ∧ j = ((A.take t).filter (fun i => decide (i ≠ (k : Int)))).length ∧ j ≤ t ∧ s12 = .slice a j c ∧ s100 = .int .i64 (t : Int) ∧ VOwn wr wI.heap.size 3 (.slice a j c) j (ints ((A.take t).filter (fun i => decide (i ≠ (k : Int))))) ∧ Below wI.heap.size wI wr)
  case atStart => exact ⟨0, _, 0, 0, rfl, by omega, by simp, by omega, rfl, rfl, by simpa [ints] using ON, BN2⟩
  case round =>
  obtain ⟨t, a, c, j, rfl, ht, hj, hjt, rfl, rfl, OR, BR⟩ := hrel
  have HJ : Hid (j = ((A.take t).filter (fun i => decide (i ≠ (k : Int)))).length) := hj
  have zr := BR.size
  clear hj ON BN2 hwM zN2
  by_cases d1 : t < q
  case pos =>
    have d1' : (t : Int) < (q : Int) := by omega
    obtain ⟨b1, o1, rfl, kc⟩ := (HOL.out.below BR).cells (by omega)
    have t1 := kc t d1
    have htA : t < A.length := by have := HQ.out; omega
    rw [ints_get htA] at t1
    clear kc
    have hsn : (A.take (t + 1)).filter (fun i => decide (i ≠ (k : Int))) = (A.take t).filter (fun i => decide (i ≠ (k : Int))) ++ (if el A t = (k : Int) then [] else [el A t]) := by
      rw [List.take_succ_eq_append_getElem htA, List.filter_append]
      have e9 : A[t] = el A t := by unfold el; simp [List.getD_eq_getElem?_getD, List.getElem?_eq_getElem htA]
      rw [e9]
      by_cases e : el A t = (k : Int)
      · simp [e]
      · simp [e]
    have HSN : Hid _ := hsn
    by_cases e1 : el A t = (k : Int)
    · rw [e1] at t1
      rw [if_pos e1, List.append_nil] at hsn
      have HS2 : Hid _ := hsn
      clear hsn HSN e1
      go_wp2_with fail
      go_roundg (q - (t + 1))
      case measure => omega
      case rel => exact ⟨t + 1, a, c, j, rfl, by omega, by rw [HS2.out]; exact HJ.out, by omega, rfl, by go_num, by rw [HS2.out]; exact OR, BR⟩
    · rw [if_neg e1] at hsn
      have HS2 : Hid _ := hsn
      clear hsn HSN
      obtain ⟨x9, hx9⟩ : ∃ x9, x9 = el A t := ⟨_, rfl⟩
      have HX9 : Hid (x9 = el A t) := hx9
      rw [← hx9] at t1 e1
      clear hx9
      have Bu := belowA wr (.cells #[.int .i64 x9] 3)
      have Ou := OR.below Bu
      have BBu := below_then BR Bu
      have X9 : (wr.alloc (.cells #[.int .i64 x9] 3)).cell? ⟨wr.heap.size, 0, none⟩ = some (.int .i64 x9) := (blk_new wr _ _).cell 0 rfl
      have zu : wr.heap.size ≤ (wr.alloc (.cells #[.int .i64 x9] 3)).heap.size := by simp
      generalize hwu : wr.alloc (.cells #[.int .i64 x9] 3) = wu at *
      go_wp2_with (at_builtin; refine wpList_append_val rfl _ _ 3 22 (.int .i64 0) 8 Try.underlying22 Try.infoInt rfl rfl wI.heap.size _ _ _ rfl Ou wr.heap.size (.int .i64 x9) rfl X9 rfl (by omega) (by omega) (by omega) ?_; intro v' w7 O7 B7 G7; obtain ⟨a7, c7, rfl, _⟩ := VOwn.arg O7)
      go_roundg (q - (t + 1))
      case measure => omega
      case rel =>
        refine ⟨t + 1, a7, c7, j + 1, rfl, by omega, by rw [HS2.out, List.length_append, ← HJ.out]; rfl, by omega, rfl, by go_num, ?_, BBu.trans B7⟩
        rw [HS2.out]
        have e9 : ints ((A.take t).filter (fun i => decide (i ≠ (k : Int))) ++ [el A t]) = ints ((A.take t).filter (fun i => decide (i ≠ (k : Int)))) ++ [.int .i64 x9] := by rw [HX9.out]; simp [ints]
        rw [e9]
        exact O7
  case neg =>
  obtain rfl : q = t := by omega
  have htk : A.take q = A := List.take_of_length_le (by have := HQ.out; omega)
  rw [htk] at OR HJ
  have XW := XT.below BR
  have l0 : wr.cell? ⟨w5.heap.size, 0, none⟩ = some (.int .i64 num) := XW.cell 0 rfl
  have l1 : wr.cell? ⟨w5.heap.size, 1, none⟩ = some (.slice x n1 y) := XW.cell 1 rfl
  have l2 : wr.cell? ⟨w5.heap.size, 2, none⟩ = some (.slice u n1 v) := XW.cell 2 rfl
  have LW := LT.out wr BR
  rw [← HJ.out] at LW
  have OV2 := VOwn.varg OR
  clear htk LT
  go_wp2_with (first
    | (go_at_call 16; refine LW.mono ?_; clear LW; rintro e wX ⟨aX, cX, rfl, OX, BX⟩; have SMw := same_yes j cX c aX a (A.filter (fun i => decide (i ≠ (k : Int)))) wX (VOwn.varg OX) (OV2.below BX))
    | (go_at_call 15; refine SMw.mono ?_; clear SMw; rintro e wY ⟨rfl, BY⟩))
  go_ret
  exact ⟨rfl, below_then BBI (below_then BR (below_then BX BY))⟩
end Go.Proofs.Ytmblaigiipjmfaa
