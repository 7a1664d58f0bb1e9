/- The document's own answers of layer 7: the errors' numbers, and Attend, number by number. -/
import Derived.Test.YtjcacejkiaepnaaDoorHeads3
import Derived.Test.YtjcacejkiaepnaaDoorHRef
import Derived.Test.YtjcacejkiaepnaaDoorSoftRW
import Derived.Test.YtjcacejkiaepnaaDoorApp2
namespace Go.Proofs.YtjcacejkiaepnaaDoor
open Go.ChangeShapes Go.WideShapes Go.ChangeAt Go.RowKit
set_option maxHeartbeats 1600000 in
theorem refFit7_any (qo ko vo : Option Addr) (n m mv cq ck cv : Nat) (K V : List (List Int)) (h : Int) (w : World) (hn : n ≤ 9223372036854775807) (hK : GridAt w ko m K) (hV : GridAt w vo mv V) (b1 : -9223372036854775808 ≤ h) (b2 : h ≤ 9223372036854775807) :
   Calls Tryd.prog 12 #[.slice qo n cq, .slice ko m ck, .slice vo mv cv, .int .i64 h] w fun e w' => e = .returned (.int .i64 (chkN n m mv K V h)) ∧ ∃ d, w' = w.drewN d := by
  have hm := hK.max
  have hmv := hV.max
  by_cases c1 : h < 1
  · have HF : Hid (chkN n m mv K V h = 1) := by show _ = _; unfold chkN; rw [if_pos (Or.inl c1)]
    go_enter Tryd.func12, Tryd.ntmps12
    go_wp2
    go_ret
    exact ⟨ret_int HF.out.symm, 0, rfl⟩
  by_cases c2 : 4 < h
  · have HF : Hid (chkN n m mv K V h = 1) := by show _ = _; unfold chkN; rw [if_pos (Or.inr c2)]
    go_enter Tryd.func12, Tryd.ntmps12
    go_wp2
    go_ret
    exact ⟨ret_int HF.out.symm, 0, rfl⟩
  by_cases c3 : n = 0
  · subst c3
    have HF : Hid (chkN 0 m mv K V h = 8) := by show _ = _; unfold chkN; rw [if_neg (by omega), if_pos (Or.inl rfl)]
    go_enter Tryd.func12, Tryd.ntmps12
    go_wp2
    go_ret
    exact ⟨ret_int HF.out.symm, 0, rfl⟩
  have z1 : ((n : Int) == 0) = false := by simp; omega
  by_cases c4 : m = 0
  · subst c4
    have HF : Hid (chkN n 0 mv K V h = 8) := by show _ = _; unfold chkN; rw [if_neg (by omega), if_pos (Or.inr rfl)]
    go_enter Tryd.func12, Tryd.ntmps12
    go_wp2
    go_ret
    exact ⟨ret_int HF.out.symm, 0, rfl⟩
  have z2 : ((m : Int) == 0) = false := by simp; omega
  by_cases c5 : 32 < n
  · have HF : Hid (chkN n m mv K V h = 2) := by show _ = _; unfold chkN; rw [if_neg (by omega), if_neg (by omega), if_pos (Or.inl c5)]
    go_enter Tryd.func12, Tryd.ntmps12
    go_wp2
    go_ret
    exact ⟨ret_int HF.out.symm, 0, rfl⟩
  by_cases c6 : 128 < m
  · have HF : Hid (chkN n m mv K V h = 2) := by show _ = _; unfold chkN; rw [if_neg (by omega), if_neg (by omega), if_pos (Or.inr c6)]
    go_enter Tryd.func12, Tryd.ntmps12
    go_wp2
    go_ret
    exact ⟨ret_int HF.out.symm, 0, rfl⟩
  obtain ⟨H, rfl⟩ : ∃ H : Nat, h = H := ⟨h.toNat, by omega⟩
  have hz : (H : Int) ≠ 0 := by omega
  have HC : Hid (chkN n m mv K V H = if n % H ≠ 0 ∨ mv ≠ m ∨ longs K n m = false ∨ longs V n mv = false then 6 else 0) := by show _ = _; unfold chkN; rw [if_neg (by omega), if_neg (by omega), if_neg (by omega), Int.toNat_natCast]
  by_cases c7 : n % H = 0
  · have z3 : (n : Int) % (H : Int) = 0 := by omega
    rcases Decidable.em (mv = m) with rfl | c8
    · go_enter Tryd.func12, Tryd.ntmps12
      go_wp2_with fail
      go_loopg [46] mv (fun r i wr => ∃ k : Nat, k ≤ mv ∧ r = mv - k ∧ i = .int .i64 k ∧ longs K n k = true ∧ longs V n k = true ∧ wr = w)
      case atStart => exact ⟨0, by omega, by omega, rfl, rfl, rfl, rfl⟩
      case round =>
        obtain ⟨k, hk, rfl, rfl, hlk, hlv, rfl⟩ := hrel
        by_cases hlt : k < mv
        · obtain ⟨b, o, rfl, hc⟩ := hK.cells (by omega)
          obtain ⟨r1, m1, k1, q1, A1⟩ := hc k hlt
          obtain ⟨b', o', rfl, hc'⟩ := hV.cells (by omega)
          obtain ⟨r2, m2, k2, q2, A2⟩ := hc' k hlt
          have l1 := A1.row.len
          have x1 := A1.row.max
          have l2 := A2.row.len
          have x2 := A2.row.max
          rcases Decidable.em (m1 = n) with rfl | hne
          · rcases Decidable.em (m2 = m1) with rfl | hne2
            · have HA : Hid (longs K m2 (k + 1) = true) := by show _ = _; unfold longs; rw [hlk, l1]; simp
              have HB : Hid (longs V m2 (k + 1) = true) := by show _ = _; unfold longs; rw [hlv, l2]; simp
              clear hK hV hc hc' A1 A2 hlk hlv l1 l2 HC
              go_wp2
              go_roundg (mv - (k + 1))
              case measure => omega
              case rel => exact ⟨k + 1, by omega, rfl, by go_num, HA.out, HB.out, rfl⟩
            · have HF : Hid (chkN m1 mv mv K V H = 6) := by show _ = _; rw [HC.out, if_pos (Or.inr (Or.inr (Or.inr (longs_not hlt (by omega)))))]
              have z4 : ((m2 : Int) == (m1 : Int)) = false := by simp; omega
              clear hK hV hc hc' A1 A2 hlk hlv l1 l2 HC
              go_wp2
              go_ret
              exact ⟨ret_int HF.out.symm, 0, rfl⟩
          · have HF : Hid (chkN n mv mv K V H = 6) := by show _ = _; rw [HC.out, if_pos (Or.inr (Or.inr (Or.inl (longs_not hlt (by omega)))))]
            have z4 : ((m1 : Int) == (n : Int)) = false := by simp; omega
            clear hK hV hc hc' A1 A2 hlk hlv l1 l2 HC
            go_wp2
            go_ret
            exact ⟨ret_int HF.out.symm, 0, rfl⟩
        · obtain rfl : k = mv := by omega
          have HF : Hid (chkN n k k K V H = 0) := by show _ = _; rw [HC.out, if_neg (by simp [c7, hlk, hlv])]
          clear hK hV hlk hlv HC
          go_wp2
          go_ret
          exact ⟨ret_int HF.out.symm, 0, rfl⟩
    · have HF : Hid (chkN n m mv K V H = 6) := by show _ = _; rw [HC.out, if_pos (Or.inr (Or.inl c8))]
      have z4 : ((m : Int) == (mv : Int)) = false := by simp; omega
      clear HC
      go_enter Tryd.func12, Tryd.ntmps12
      go_wp2
      go_ret
      exact ⟨ret_int HF.out.symm, 0, rfl⟩
  · have HF : Hid (chkN n m mv K V H = 6) := by show _ = _; rw [HC.out, if_pos (Or.inl c7)]
    have z3 : 0 < (n : Int) % (H : Int) := by omega
    clear HC
    go_enter Tryd.func12, Tryd.ntmps12
    go_wp2
    go_ret
    exact ⟨ret_int HF.out.symm, 0, rfl⟩
theorem tab_snoc8 (n : Nat) (f : Nat → Int) : tab (n + 1) f = tab n f ++ [f n] := by unfold tab; rw [List.range_succ, List.map_append]; rfl
set_option maxHeartbeats 3200000 in
theorem refAttend_any (ko vo : Option Addr) (q o0 n m cq ck cv : Nat) (Q : List Int) (K V : List (List Int)) (h : Int) (w : World) (hQ : Arg w (some ⟨q, o0, none⟩) n cq Q) (hK : GridAt w ko m K) (hV : GridAt w vo m V) (hf : chkN n m m K V h = 0) :
   Calls Tryd.prog 15 #[.slice (some ⟨q, o0, none⟩) n cq, .slice ko m ck, .slice vo m cv, .int .i64 h] w fun e w' => ∃ g cap, e = .returned (.slice (some ⟨g, 0, none⟩) n cap) ∧ Fresh w' w.heap.size g n cap (tab n (attEl Q K V m (n / h.toNat))) ∧ Below w.heap.size w w' := by
  obtain ⟨hh, hn, hm, hd, -, hlk, hlv⟩ := chkN_ok hf
  obtain ⟨H, rfl⟩ : ∃ H : Nat, h = H := ⟨h.toNat, by omega⟩
  rw [Int.toNat_natCast] at hd ⊢
  obtain ⟨s, hs⟩ : ∃ s, s = n / H := ⟨_, rfl⟩
  have hns : H * s = n := by rw [hs]; exact Nat.mul_div_cancel' (Nat.dvd_of_mod_eq_zero hd)
  have h1 : 1 ≤ s := by
    rcases Nat.eq_zero_or_pos s with e | e
    · rw [e] at hns; omega
    · exact e
  have hsn : s ≤ n := by rw [hs]; exact Nat.div_le_self _ _
  have hdiv : (n : Int) / (H : Int) = s := by rw [hs]; rfl
  rw [← hs]
  have F0 := fresh_empty w
  have B0 : Below w.heap.size w (w.alloc (.cells #[] 35)) := (Below.refl _ _).alloc (Nat.le_refl _) _
  have HK : Hid (∀ wv, Below w.heap.size w wv → GridAt wv ko m K) := fun wv hb => hK.below hb
  have HV : Hid (∀ wv, Below w.heap.size w wv → GridAt wv vo m V) := fun wv hb => hV.below hb
  have HQ : Hid (∀ wv, Below w.heap.size w wv → Arg wv (some ⟨q, o0, none⟩) n cq Q) := fun wv hb => hQ.below hb
  have hz : (H : Int) ≠ 0 := by omega
  clear hs hf hK hV hQ
  go_enter Tryd.func15, Tryd.ntmps15
  go_wp2_with fail
  generalize w.alloc (.cells #[] 35) = w0 at *
  go_loopg [10, 23] n (fun r s0 i wr => ∃ (j g cap : Nat), j ≤ n ∧ r = n - j ∧ i = .int .i64 j ∧ s0 = .slice (some ⟨g, 0, none⟩) j cap ∧ Fresh wr w.heap.size g j cap (tab j (attEl Q K V m s)) ∧ Below w.heap.size w wr)
  case atStart => exact ⟨0, _, _, by omega, by omega, rfl, rfl, F0, B0⟩
  case round =>
    obtain ⟨j, g, cap, hj, rfl, rfl, rfl, F1, B1⟩ := hrel
    clear F0 B0
    generalize wr = w1 at *
    by_cases hlt : j < n
    · obtain ⟨f, hfe⟩ : ∃ f, f = j / s * s := ⟨_, rfl⟩
      obtain ⟨r0, hre⟩ : ∃ r, r = j % s := ⟨_, rfl⟩
      have hdm : f + r0 = j := by rw [hfe, hre, Nat.mul_comm]; exact Nat.div_add_mod j s
      have hfs : f + s ≤ n := by
        have : j / s < H := (Nat.div_lt_iff_lt_mul (by omega)).2 (by omega)
        rw [hfe, ← hns, ← Nat.succ_mul]
        exact Nat.mul_le_mul_right _ this
      have hmod : (j : Int) % (s : Int) = (r0 : Int) := by rw [hre]; rfl
      have hsub : (j : Int) - (r0 : Int) = (f : Int) := by omega
      have hs0 : (s : Int) ≠ 0 := by omega
      have HE : Hid (attEl Q K V m s j = dotN (tab m (wgt (tab m fun i => scoreN (partOf Q f s) (partOf (rowOf K i) f s) s) m)) (tab m fun i => el (rowOf V i) j) m) := by
        show _ = _
        unfold attEl headEl scrs colOf
        rw [← hfe]
        congr 3
        refine tab_congr fun i hi => ?_
        rw [rowOf_parts (by rw [(HK.out _ B1).len]; exact hi)]
      have HX : Hid (tab (j + 1) (attEl Q K V m s) = tab j (attEl Q K V m s) ++ [attEl Q K V m s j]) := tab_snoc8 j _
      have ab := attEl_bd Q K V m s j
      clear hfe hre
      have FS := (fresh_empty w1).below ((Below.refl _ (w1.alloc (.cells #[] 35))).alloc (Nat.le_refl _) (.cells #[] 35))
      have FC := (fresh_empty (w1.alloc (.cells #[] 35))).mono (B' := w1.heap.size) (by simp)
      have sz0 : (w1.alloc (.cells #[] 35)).heap.size = w1.heap.size + 1 := by simp
      rw [sz0] at FC
      have B2 : Below w1.heap.size w1 ((w1.alloc (.cells #[] 35)).alloc (.cells #[] 35)) := ((Below.refl _ w1).alloc (Nat.le_refl _) _).alloc (by simp) _
      have s1 := B1.size
      have g1 := F1.lt
      go_wp2_with fail
      clear sz0 hmod hsub hs0 hdiv hz hd
      generalize (w1.alloc (.cells #[] 35)).alloc (.cells #[] 35) = w2 at *
      go_loopg [13, 14, 35] m (fun r a1 a2 i wr => ∃ (k gS cS gC cC : Nat), k ≤ m ∧ r = m - k ∧ i = .int .i64 k ∧ a1 = .slice (some ⟨gS, 0, none⟩) k cS ∧ a2 = .slice (some ⟨gC, 0, none⟩) k cC ∧ Fresh wr w1.heap.size gS k cS (tab k fun i => scoreN (partOf Q f s) (partOf (rowOf K i) f s) s) ∧ Fresh wr w1.heap.size gC k cC (tab k fun i => el (rowOf V i) j) ∧ gS ≠ gC ∧ Below w1.heap.size w1 wr)
      case atStart => exact ⟨0, _, _, _, _, by omega, by omega, rfl, rfl, rfl, FS, FC, by omega, B2⟩
      case round =>
        clear FS FC B2
        obtain ⟨k, gS, cS, gC, cC, hk, rfl, rfl, rfl, rfl, FS, FC, hne, B2⟩ := hrel
        generalize wr = w3 at *
        have B3 := below_then B1 B2
        by_cases hlk2 : k < m
        · have RK := HK.out _ B3
          have RV := HV.out w (Below.refl _ _)
          have AQ := HQ.out _ B3
          obtain ⟨bk, ok, rfl, hck⟩ := RK.cells (by omega)
          obtain ⟨ro, m1, c1, q1, A1⟩ := hck k hlk2
          have l1 := A1.row.len
          rw [hlk k hlk2] at l1
          subst l1
          obtain ⟨b3, o3, rfl, -⟩ := A1.row.cells (by omega)
          obtain ⟨bv, ov, rfl, hcv⟩ := RV.cells (by omega)
          obtain ⟨ro2, m2, c2, q2, A2⟩ := hcv k hlk2
          have l2 := A2.row.len
          rw [hlv k hlk2] at l2
          subst l2
          obtain ⟨b4, o4, rfl, hc4⟩ := A2.row.cells (by omega)
          have q3 := hc4 j hlt
          have vb := A2.row.small.el j
          have CS := refScore_any q o0 n cq b3 o3 n c1 f s Q (rowOf K k) w3 AQ A1 hfs hfs (by omega) (Or.inl h1)
          have HS : Hid (tab (k + 1) (fun i => scoreN (partOf Q f s) (partOf (rowOf K i) f s) s) = tab k (fun i => scoreN (partOf Q f s) (partOf (rowOf K i) f s) s) ++ [scoreN (partOf Q f s) (partOf (rowOf K k) f s) s]) := tab_snoc8 k _
          have HC : Hid (tab (k + 1) (fun i => el (rowOf V i) j) = tab k (fun i => el (rowOf V i) j) ++ [el (rowOf V k) j]) := tab_snoc8 k _
          have sb := scoreN_bd (partOf Q f s) (partOf (rowOf K k) f s) s
          have lv1 : bv < w.heap.size := by simpa using World.block_lt_of_cell? w _ q2
          have lv2 : b4 < w.heap.size := by simpa using World.block_lt_of_cell? w _ q3
          have s3 := B2.size
          have lS := FS.lt
          have lC := FC.lt
          generalize scoreN (partOf Q f s) (partOf (rowOf K k) f s) s = x at *
          generalize el (rowOf V k) j = y at *
          clear hck hcv hc4 A1 A2 RK RV AQ
          have HQ2 : Hid (w.cell? ⟨bv, ov + k, none⟩ = some (.slice (some ⟨b4, o4, none⟩) n c2)) := q2
          have HQ3 : Hid (w.cell? ⟨b4, o4 + j, none⟩ = some (.int .i32 y)) := q3
          clear q2 q3
          go_wp2_with fail
          refine CS.mono ?_
          rintro e w4 ⟨rfl, d, hw4⟩
          have B4 : Below w3.heap.size w3 w4 := hw4 ▸ below_drewN (Below.refl _ _) d
          clear hw4 CS q1
          have RX := rowAt_one w4 x (by omega)
          have BX : Below w4.heap.size w4 (w4.alloc (.cells #[.int .i32 x] 35)) := (Below.refl _ _).alloc (Nat.le_refl _) _
          have B5 := below_then B4 BX
          have FS5 := FS.below B5
          have FC5 := FC.below B5
          have s4 := B4.size
          have s5 := BX.size
          have B6 := below_then B2 B5
          clear BX B4 FS FC B2
          generalize hw5 : w4.alloc (.cells #[.int .i32 x] 35) = w5 at *
          go_wp2_with (first
            | (at_builtin; refine wpList_append_one2 rfl (.tmp 38) _ rfl w1.heap.size gS k cS _ rfl (by exact FS5) w4.heap.size x rfl (by exact RX) (by omega) (by omega) ?_; intro gS' cS' w6 FS6 B7 K6 W6; have FC6 := FC5.of_block (K6 gC (by omega) (by omega)); have D6 := below_then B1 (B6.trans B7); have q2 := (D6.cell (p := ⟨bv, ov + k, none⟩) (by exact lv1)).trans HQ2.out; have q3 := (D6.cell (p := ⟨b4, o4 + j, none⟩) (by exact lv2)).trans HQ3.out; have RY := rowAt_one w6 y (by omega); have BY : Below w6.heap.size w6 (w6.alloc (.cells #[.int .i32 y] 35)) := (Below.refl _ _).alloc (Nat.le_refl _) _; have FS7 := FS6.below BY; have FC7 := FC6.below BY; have s6 := B7.size; have lS6 := FS6.lt; have lC6 := FC6.lt; have s7 := BY.size; have B8 := below_then (B6.trans B7) BY; clear BY K6 D6 B7; generalize hw7 : w6.alloc (.cells #[.int .i32 y] 35) = w7 at *)
            | (at_builtin; refine wpList_append_one2 rfl (.tmp 49) _ rfl w1.heap.size gC k cC _ rfl (by exact FC7) w6.heap.size y rfl (by exact RY) (by omega) (by omega) ?_; intro gC' cC' w8 FC8 B9 K8 W8; have FS8 := FS7.of_block (K8 gS' (by omega) (by omega))))
          go_roundg (m - (k + 1))
          case measure => omega
          case rel => exact ⟨k + 1, gS', cS', gC', cC', by omega, rfl, by go_num, rfl, rfl, by rw [HS.out]; exact FS8, by rw [HC.out]; exact FC8, by omega, B8.trans B9⟩
        · obtain rfl : k = m := by omega
          have s3 := B2.size
          replace F1 := F1.below B2
          clear HK HV HQ hne B2
          go_wp2_with fail
          refine (refWeights_any _ _ _ _ _ FS.rowAt (by omega) (by omega)).mono ?_
          rintro e w4 ⟨g4, c4, rfl, F4, B4⟩
          replace F1 := F1.below B4
          replace FC := FC.below B4
          replace B4 := below_then B3 B4
          clear FS B3
          go_wp2_with fail
          refine (refDot_any _ _ _ _ _ _ _ _ F4.rowAt FC.rowAt).mono ?_
          rw [← HE.out]
          rintro e w5 ⟨rfl, d, hw5⟩
          have B5 : Below w4.heap.size w4 w5 := hw5 ▸ below_drewN (Below.refl _ _) d
          clear hw5 F4 FC HE
          generalize attEl Q K V k s j = x at *
          have RX := rowAt_one w5 x (by omega)
          have BX : Below w5.heap.size w5 (w5.alloc (.cells #[.int .i32 x] 35)) := (Below.refl _ _).alloc (Nat.le_refl _) _
          have B6 := below_then B5 BX
          have F6 := F1.below B6
          have s5 := B5.size
          have s6 := BX.size
          have s4 := B4.size
          replace B6 := below_then B4 B6
          clear BX B5 F1 B4
          generalize hw6 : w5.alloc (.cells #[.int .i32 x] 35) = w6 at *
          go_wp2_with (at_builtin; refine wpList_append_one2 rfl _ _ rfl w.heap.size g j cap _ rfl (by exact F6) w5.heap.size x rfl (by exact RX) (by omega) (by omega) ?_; intro g' cap' w7 F7 B7 K7 W7)
          go_roundg (n - (j + 1))
          case measure => omega
          case rel => exact ⟨j + 1, g', cap', by omega, rfl, by go_num, rfl, by rw [HX.out]; exact F7, B6.trans B7⟩
    · obtain rfl : j = n := by omega
      go_wp2
      go_ret
      exact ⟨_, _, rfl, F1, B1⟩
end Go.Proofs.YtjcacejkiaepnaaDoor
