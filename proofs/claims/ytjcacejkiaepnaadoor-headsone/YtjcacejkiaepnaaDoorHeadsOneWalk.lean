/- The Go text of HeadsOne returns true at every input, where the table of steps lies as the program's text lays it. -/
import Derived.Test.YtjcacejkiaepnaaDoorHRows2
import Derived.Test.YtjcacejkiaepnaaDoorHAwake
import Derived.Deep.CutRange
namespace Go.Proofs.YtjcacejkiaepnaaDoor
open Go.ChangeShapes Go.WideShapes Go.ChangeAt Go.RowKit
theorem lit_pair {w w1 w2 : World} {B C gk mk kk gv mv kv : Nat} {A E : List Int} (F2 : Fresh w B gk mk kk A) (F3 : Fresh w C gv mv kv E) (e1 : w.alloc (.cells #[.slice (some ⟨gk, 0, none⟩) mk kk] 22) = w1) (e2 : w1.alloc (.cells #[.slice (some ⟨gv, 0, none⟩) mv kv] 22) = w2) :
    GridAt w2 (some ⟨w.heap.size, 0, none⟩) 1 [A] ∧ GridAt w2 (some ⟨w.heap.size + 1, 0, none⟩) 1 [E] ∧ Below w.heap.size w w2 := by
  have s1 : w1.heap.size = w.heap.size + 1 := by rw [← e1]; simp
  have b1 : Below w.heap.size w w1 := by rw [← e1]; exact (Below.refl _ _).alloc (Nat.le_refl _) _
  have b2 : Below w1.heap.size w1 w2 := by rw [← e2]; exact (Below.refl _ _).alloc (Nat.le_refl _) _
  have g1 := grid_lit1 F2
  rw [e1] at g1
  have g2 := grid_lit1 (F3.below b1)
  rw [e2, s1] at g2
  exact ⟨g1.below b2, g2, below_then b1 b2⟩
set_option maxRecDepth 100000 in
set_option maxHeartbeats 3200000 in
theorem headsOne_walk (ao : Option Addr) (n0 ca : Nat) (Z : List Int) (ko : Option Addr) (nk ck : Nat) (Y : List Int) (vo : Option Addr) (nv cv : Nat) (X : List Int) (h times : Int) (w : World) (hA : Arg w ao n0 ca Z) (hK : Arg w ko nk ck Y) (hV : Arg w vo nv cv X) (bh : -9223372036854775808 ≤ h ∧ h ≤ 9223372036854775807) (bt : -9223372036854775808 ≤ times ∧ times ≤ 9223372036854775807) (hT : Tab w) :
    Calls Tryd.prog 6 #[.slice ao n0 ca, .slice ko nk ck, .slice vo nv cv, .int .i64 h, .int .i64 times] w fun e w' => e = .returned (.bool true) ∧ Below w.heap.size w w' := by
  have T0 := hT
  go_enter Tryd.func6, Tryd.ntmps6
  go_wp2_with fail
  refine (few_any _ _ _ _ 32 _ _ rfl hA (by omega)).mono ?_
  rintro e w1 ⟨g, n, cap, rfl, hn, F1, B1⟩
  replace hK := hK.below B1
  replace hV := hV.below B1
  clear hA hT
  go_wp2_with fail
  refine (few_any _ _ _ _ 32 _ _ rfl hK (by omega)).mono ?_
  rintro e w2 ⟨gk, mk, kk, rfl, hmk, F2, B2⟩
  replace F1 := F1.below B2
  replace hV := hV.below B2
  replace B2 := below_then B1 B2
  clear hK B1
  go_wp2_with fail
  refine (few_any _ _ _ _ 32 _ _ rfl hV (by omega)).mono ?_
  rintro e w3 ⟨gv, mv, kv, rfl, hmv, F3, B3⟩
  replace F1 := F1.below B3
  replace F2 := F2.below B3
  replace B3 := below_then B2 B3
  clear hV B2
  have tK : (Y.take 32).take 32 = Y.take 32 := by rw [List.take_take, Nat.min_self]
  have tV : (X.take 32).take 32 = X.take 32 := by rw [List.take_take, Nat.min_self]
  generalize Z.take 32 = Q at *
  generalize Y.take 32 = Kr at *
  generalize X.take 32 = Vr at *
  go_wp2_with fail
  obtain ⟨GK, GV, B4⟩ := lit_pair F2 F3 rfl rfl
  by_cases hf : chkN n 1 1 [Kr] [Vr] h = 0
  · have ok := chkN_ok hf
    obtain ⟨hh, hn2, -, hd, -, hlk, hlv⟩ := ok
    have e1 : Vr.length = n := hlv 0 (by omega)
    have e2 : Kr.length = n := hlk 0 (by omega)
    obtain rfl : mv = n := by rw [← e1]; exact F3.len.symm
    obtain rfl : mk = mv := by rw [← e2]; exact F2.len.symm
    refine (attend_any _ _ _ _ _ _ _ _ _ _ _ _ _ _ (T0.next (below_then B3 B4)) (F1.below B4).arg GK GV hf).mono ?_
    rintro e w4 ⟨g4, c4, rfl, F4, B5⟩
    replace B5 := below_then B4 B5
    replace F1 := F1.below B5
    replace F2 := F2.below B5
    replace F3 := F3.below B5
    replace B5 := below_then B3 B5
    have sV := F3.small
    have HX : Hid (∀ j, attEl Q [Kr] [Vr] 1 (mk / h.toNat) j = max (el Vr j) (-2147483647)) := fun j => att_one Q Kr Vr _ j sV
    clear GK GV B4 B3 hf hlk hlv
    go_wp2_with fail
    go_loopg [53] mk (fun r i wr => ∃ k : Nat, k ≤ mk ∧ r = mk - k ∧ i = .int .i64 k ∧ ∃ d, wr = w4.drewN d)
    case atStart => exact ⟨0, by omega, by omega, rfl, 0, rfl⟩
    case round =>
      obtain ⟨j, hj, rfl, rfl, d, hwr⟩ := hrel
      replace F1 : Fresh wr _ _ _ _ _ := hwr ▸ F1.drewN d
      replace F2 : Fresh wr _ _ _ _ _ := hwr ▸ F2.drewN d
      replace F3 : Fresh wr _ _ _ _ _ := hwr ▸ F3.drewN d
      replace F4 : Fresh wr _ _ _ _ _ := hwr ▸ F4.drewN d
      replace B5 : Below w.heap.size w wr := hwr ▸ below_drewN B5 d
      have HW : Hid (wr = w4.drewN d) := hwr
      clear hwr
      by_cases hlt : j < mk
      · have c1 := F4.cell hlt
        rw [el_tab hlt, HX.out j] at c1
        have c2 := F3.cell hlt
        have b1 := sV.el j
        clear F1 F2 F3 F4 B5 sV HX tK tV
        by_cases hq : el Vr j < -2147483647
        · rw [show max (el Vr j) (-2147483647) = -2147483647 by omega] at c1
          generalize el Vr j = v at *
          go_wp2_with fail
          go_quiet (fail)
          go_wp2
          go_roundg (mk - (j + 1))
          case measure => omega
          case rel => exact ⟨j + 1, by omega, rfl, by go_num, d + nq, by rw [HW.out, World.drewN_drewN]⟩
        · rw [show max (el Vr j) (-2147483647) = el Vr j by omega] at c1
          generalize el Vr j = v at *
          go_wp2_with fail
          go_quiet (fail)
          go_wp2
          go_roundg (mk - (j + 1))
          case measure => omega
          case rel => exact ⟨j + 1, by omega, rfl, by go_num, d + nq, by rw [HW.out, World.drewN_drewN]⟩
      · obtain rfl : j = mk := by omega
        clear F4 HW HX
        generalize wr = w5 at *
        by_cases hin : 2 ≤ times ∧ times ≤ 40
        · obtain ⟨M, rfl⟩ : ∃ M : Nat, times = M := ⟨times.toNat, by omega⟩
          have hM : 2 ≤ M ∧ M ≤ 40 := by omega
          clear hin bt
          have OK0 := (ownGrid_empty w5).below ((Below.refl _ (w5.alloc (.cells #[] 22))).alloc (Nat.le_refl _) (.cells #[] 22))
          have OV0 := (ownGrid_empty (w5.alloc (.cells #[] 22))).mono (B' := w5.heap.size) (by simp)
          have sz0 : (w5.alloc (.cells #[] 22)).heap.size = w5.heap.size + 1 := by simp
          rw [sz0] at OV0
          have B6 : Below w5.heap.size w5 ((w5.alloc (.cells #[] 22)).alloc (.cells #[] 22)) := ((Below.refl _ w5).alloc (Nat.le_refl _) _).alloc (by simp) _
          have l1 := F1.lt
          have l2 := F2.lt
          have l3 := F3.lt
          have s5 := B5.size
          have HA : Hid (∀ wv, Below w5.heap.size w5 wv → Fresh wv _ _ _ _ _) := fun wv hb => F2.below hb
          have HB : Hid (∀ wv, Below w5.heap.size w5 wv → Fresh wv _ _ _ _ _) := fun wv hb => F3.below hb
          go_wp2_with fail
          clear sz0
          generalize (w5.alloc (.cells #[] 22)).alloc (.cells #[] 22) = w6 at *
          go_loopg [14, 15, 16] M (fun r s1 s2 i wr => ∃ (k gK cK gV cV : Nat), k ≤ M ∧ r = M - k ∧ i = .int .i64 k ∧ s1 = .slice (some ⟨gK, 0, none⟩) k cK ∧ s2 = .slice (some ⟨gV, 0, none⟩) k cV ∧ OwnGrid wr w5.heap.size gK k cK (List.replicate k Kr) ∧ OwnGrid wr w5.heap.size gV k cV (List.replicate k Vr) ∧ gK ≠ gV ∧ Below w5.heap.size w5 wr)
          case atStart => exact ⟨0, _, _, _, _, by omega, by omega, rfl, rfl, rfl, OK0, OV0, by omega, B6⟩
          case round =>
            clear OK0 OV0 B6
            obtain ⟨k, gK, cK, gV, cV, hk, rfl, rfl, rfl, rfl, OK, OV, hne, B6⟩ := hrel
            by_cases hlt : k < M
            · have HK : Hid (List.replicate (k + 1) Kr = List.replicate k Kr ++ [Kr]) := List.replicate_succ'
              have HV : Hid (List.replicate (k + 1) Vr = List.replicate k Vr ++ [Vr]) := List.replicate_succ'
              have s6 := B6.size
              have lK := OK.lt
              have lV := OV.lt
              generalize wr = w7 at *
              go_wp2_with fail
              refine (few_any _ _ _ _ 32 _ _ rfl (HA.out _ B6).arg (by omega)).mono ?_
              rw [tK]
              rintro e w8 ⟨g8, n8, c8, rfl, hm8, F8, B8⟩
              have BL : Below w8.heap.size w8 (w8.alloc (.cells #[.slice (some ⟨g8, 0, none⟩) n8 c8] 22)) := (Below.refl _ _).alloc (Nat.le_refl _) _
              have cX := cellRow_new w8 (.slice (some ⟨g8, 0, none⟩) n8 c8)
              have F9 := (F8.mono s6).below BL
              have s8 := B8.size
              have s9 := BL.size
              have BO := below_then B8 BL
              have hg8 := F8.base
              have OV9 := OV.below BO
              have OK9 := OK.below BO
              have B9 := below_then B6 BO
              clear F8 B8 BL B6
              generalize hw9 : w8.alloc (.cells #[.slice (some ⟨g8, 0, none⟩) n8 c8] 22) = w9 at *
              go_wp2_with (at_builtin; refine wpList_append_grid2 rfl _ _ rfl w5.heap.size gK k cK _ rfl w7 (by exact OK) (by exact BO) w8.heap.size g8 n8 c8 _ rfl (by exact cX) (by exact F9) (by exact hg8) (by omega) (by omega) ?_; intro gK' cK' w10 OK10 B10 K10 W10)
              have OV10 := OV9.keep OK9 (fun e => hne e.symm) K10
              have s10 := B10.size
              have hne10 : gK' ≠ gV := by omega
              replace B10 := B9.trans B10
              have s10' := B10.size
              have lK10 := OK10.lt
              have lV10 := OV10.lt
              clear OK OV OV9 OK9 B9 BO cX F9 hw9 K10 W10 hg8
              refine (few_any _ _ _ _ 32 _ _ rfl (HB.out _ B10).arg (by omega)).mono ?_
              rw [tV]
              rintro e w11 ⟨g11, n11, c11, rfl, hm11, F11, B11⟩
              have BL : Below w11.heap.size w11 (w11.alloc (.cells #[.slice (some ⟨g11, 0, none⟩) n11 c11] 22)) := (Below.refl _ _).alloc (Nat.le_refl _) _
              have cX := cellRow_new w11 (.slice (some ⟨g11, 0, none⟩) n11 c11)
              have F12 := (F11.mono s10').below BL
              have s11 := B11.size
              have s12 := BL.size
              have BO := below_then B11 BL
              have hg11 := F11.base
              have OV12 := OV10.below BO
              have OK12 := OK10.below BO
              have B12 := below_then B10 BO
              clear F11 B11 BL B10
              generalize hw12 : w11.alloc (.cells #[.slice (some ⟨g11, 0, none⟩) n11 c11] 22) = w12 at *
              go_wp2_with (at_builtin; refine wpList_append_grid2 rfl _ _ rfl w5.heap.size gV k cV _ rfl w10 (by exact OV10) (by exact BO) w11.heap.size g11 n11 c11 _ rfl (by exact cX) (by exact F12) (by exact hg11) (by omega) (by omega) ?_; intro gV' cV' w13 OV13 B13 K13 W13)
              have OK13 := OK12.keep OV12 hne10 K13
              have hne13 : gK' ≠ gV' := by omega
              go_roundg (M - (k + 1))
              case measure => omega
              case rel => exact ⟨k + 1, gK', cK', gV', cV', by omega, rfl, by go_num, rfl, rfl, by rw [HK.out]; exact OK13, by rw [HV.out]; exact OV13, hne13, B12.trans B13⟩
            · obtain rfl : k = M := by omega
              generalize wr = w7 at *
              have GK := OK.grid (by omega)
              have GV := OV.grid (by omega)
              replace F1 := F1.below B6
              replace F3 := F3.below B6
              replace B6 := below_then B5 B6
              have hf2 : chkN j k k (List.replicate k Kr) (List.replicate k Vr) h = 0 := chkN_of hh hn2 (by omega) hd (fun t ht => by rw [rowOf_rep ht]; exact e2) (fun t ht => by rw [rowOf_rep ht]; exact e1)
              clear OK OV F2 HA HB B5
              go_wp2_with fail
              refine (attend_any _ _ _ _ _ _ _ _ _ _ _ _ _ _ (T0.next B6) F1.arg GK GV hf2).mono ?_
              rintro e w8 ⟨g8, c8, rfl, F8, B8⟩
              replace F3 := F3.below B8
              replace B8 := below_then B6 B8
              clear GK GV F1 B6 hf2
              have HX : Hid (∀ t, ∃ T : Int, T = (if el Vr t < 0 then -(el Vr t) else el Vr t) * k ∧ 0 ≤ T ∧ T ≤ 85899345920 ∧ el Vr t - attEl Q (List.replicate k Kr) (List.replicate k Vr) k (j / h.toNat) t ≤ T / 65536 + 1 ∧ -(T / 65536 + 1) ≤ el Vr t - attEl Q (List.replicate k Kr) (List.replicate k Vr) k (j / h.toNat) t) := fun t => by
                obtain ⟨c, hc1, hc2, hc3⟩ := att_rep Q Kr Vr (j / h.toNat) t k hM sV
                rw [hc3]
                exact near_rep (sV.el t) hc1 hc2 hM
              go_wp2_with fail
              go_loopg [110] j (fun r i wr => ∃ t : Nat, t ≤ j ∧ r = j - t ∧ i = .int .i64 t ∧ ∃ d, wr = w8.drewN d)
              case atStart => exact ⟨0, by omega, by omega, rfl, 0, rfl⟩
              case round =>
                obtain ⟨t, ht, rfl, rfl, d, hwr⟩ := hrel
                replace F3 : Fresh wr _ _ _ _ _ := hwr ▸ F3.drewN d
                replace F8 : Fresh wr _ _ _ _ _ := hwr ▸ F8.drewN d
                replace B8 : Below w.heap.size w wr := hwr ▸ below_drewN B8 d
                have HW : Hid (wr = w8.drewN d) := hwr
                clear hwr
                by_cases hlt : t < j
                · obtain ⟨T, hT, t0, t1, t2, t3⟩ := HX.out t
                  have c1 := F8.cell hlt
                  rw [el_tab hlt] at c1
                  have c2 := F3.cell hlt
                  have b1 := sV.el t
                  have b2 := attEl_bd Q (List.replicate k Kr) (List.replicate k Vr) k (j / h.toNat) t
                  clear F3 F8 B8 HX sV tK tV
                  generalize attEl Q (List.replicate k Kr) (List.replicate k Vr) k (j / h.toNat) t = y at *
                  generalize el Vr t = v at *
                  have q1 : 0 ≤ T / 65536 := Int.ediv_nonneg t0 (by omega)
                  by_cases hv : v < 0
                  · rw [if_pos hv] at hT
                    by_cases hm : v - y < 0
                    · go_wp2_with fail
                      go_quiet (fail)
                      go_wp2
                      go_roundg (j - (t + 1))
                      case measure => omega
                      case rel => exact ⟨t + 1, by omega, rfl, by go_num, d + nq, by rw [HW.out, World.drewN_drewN]⟩
                    · go_wp2_with fail
                      go_quiet (fail)
                      go_wp2
                      go_roundg (j - (t + 1))
                      case measure => omega
                      case rel => exact ⟨t + 1, by omega, rfl, by go_num, d + nq, by rw [HW.out, World.drewN_drewN]⟩
                  · rw [if_neg hv] at hT
                    by_cases hm : v - y < 0
                    · go_wp2_with fail
                      go_quiet (fail)
                      go_wp2
                      go_roundg (j - (t + 1))
                      case measure => omega
                      case rel => exact ⟨t + 1, by omega, rfl, by go_num, d + nq, by rw [HW.out, World.drewN_drewN]⟩
                    · go_wp2_with fail
                      go_quiet (fail)
                      go_wp2
                      go_roundg (j - (t + 1))
                      case measure => omega
                      case rel => exact ⟨t + 1, by omega, rfl, by go_num, d + nq, by rw [HW.out, World.drewN_drewN]⟩
                · obtain rfl : t = j := by omega
                  clear F3 F8 HX
                  go_wp2_with (go_at_call 13; refine (hawake_any _ (T0.next B8)).mono ?_; rintro e w9 ⟨rfl, B9⟩)
                  go_ret
                  exact ⟨rfl, below_then B8 B9⟩
        · have hor : times < 2 ∨ (2 ≤ times ∧ 40 < times) := by omega
          clear hin F1 F2 F3
          rcases hor with hq | hq
          all_goals
            go_wp2_with (go_at_call 13; refine (hawake_any _ (T0.next B5)).mono ?_; rintro e w6 ⟨rfl, B6⟩)
            go_ret
            exact ⟨rfl, below_then B5 B6⟩
  · have hf' : (chkN n 1 1 [Kr] [Vr] h == 0) = false := by simpa using hf
    refine (attend_bad _ _ _ _ _ _ _ _ _ _ _ _ _ (by omega) GK GV bh.1 bh.2 hf).mono ?_
    rintro e w5 ⟨rfl, rfl⟩
    replace B3 := below_then B3 B4
    clear GK GV B4 F1 F2 F3
    generalize chkN n 1 1 [Kr] [Vr] h = q at *
    go_wp2_with (go_at_call 13; refine (hawake_any _ (T0.next B3)).mono ?_; rintro e w6 ⟨rfl, B6⟩)
    go_ret
    exact ⟨rfl, below_then B3 B6⟩
end Go.Proofs.YtjcacejkiaepnaaDoor
