/- HolderLives. Written by tools/genhlives.py. -/
import Derived.Test.YtjnegbjgkngkaaaHdBools
namespace Go.Proofs.Ytjnegbjgkngkaaa
open Go.ChangeShapes Go.WideShapes Go.ChangeAt Go.RowKit Go.Maps
theorem iown_row {w : World} {B : Nat} {ao : Option Addr} {n c : Nat} {A : List Int} (h : IOwn w B (.slice ao n c) n A) (hs : ∀ k, -9223372036854775808 ≤ el A k ∧ el A k ≤ 9223372036854775807) : IRowAt w ao n A := by
  obtain ⟨a, c', e, R⟩ := h.arg hs
  injection e with e1 e2 e3
  subst e1
  exact R.row
theorem el_snoc (A : List Int) (y : Int) (k : Nat) : el (A ++ [y]) k = if k < A.length then el A k else if k = A.length then y else 0 := by
  unfold el
  rw [List.getD_eq_getElem?_getD, List.getD_eq_getElem?_getD]
  by_cases h : k < A.length
  · rw [if_pos h, List.getElem?_append_left h]
  · rw [if_neg h, List.getElem?_append_right (by omega)]
    by_cases e : k = A.length
    · rw [if_pos e, e]; simp
    · rw [if_neg e, List.getElem?_eq_none (by simp; omega)]; rfl
theorem wpList_append_int2 {ops : Array Oper} {rest : List Oper} {o : Oper} {a : Act} {Q : Exit → Act → World → Prop} {w : World} (hg : o.guard = none) (s x : Operand)
    (ho : o.op = .call { callee := .builtin .append, args := #[s, x], argTypes := #[31, 31] }) (B : Nat) (v : Value) (n : Nat) (A : List Int) (hs : a.eval s = v) (hO : IOwn w B v n A)
    (c : Nat) (y : Int) (hx : a.eval x = .slice (some ⟨c, 0, none⟩) 1 1) (hc : w.cell? ⟨c, 0, none⟩ = some (.int .i64 y)) (hn : n ≤ 4096) (hB : B ≤ w.heap.size)
    (hK : ∀ v' w', IOwn w' B v' (n + 1) (A ++ [y]) → Below B w w' → w.grownBy w' v.ownBlock → wpList Try.prog ops Q rest (a.put o.dst v') w') : wpList Try.prog ops Q (o :: rest) a w := by
  obtain ⟨i0, hi, hz0, hz1, hz2⟩ := info_parts Try.infoInt
  refine wpList_append_own _ hg s x 31 ho B 3 i0 (.int .i64 0) 1 8 Try.underlying31 hi hz0 hz1 hz2 rfl (by decide) v n (A.map (Value.int .i64)) hs hO ⟨c, 0, none⟩ 1 1 [.int .i64 y] hx (by simp) (fun j u hj => ?_) (fun u hu => by simp at hu; subst hu; rfl) (by unfold maxLen; omega) (by omega) hB ?_
  · cases j with
    | zero => simp at hj; subst hj; simpa [Addr.add] using hc
    | succ j => simp at hj
  · intro v' w' O1 G1 _
    have O2 : IOwn w' B v' (n + 1) (A ++ [y]) := by
      unfold IOwn
      rw [List.map_append]
      exact O1
    exact hK v' w' O2 ((Below.refl _ _).grown G1 hB (fun k hk => (hO.lt k hk).1)) G1
theorem put_len (W : List (Int × Wn)) (x : Int) (v : Wn) : (putM W x v).length ≤ W.length + 1 := by
  unfold putM delM
  rw [List.length_append]
  have := List.length_filter_le (fun p : Int × Wn => decide (p.1 ≠ x)) W
  simp only [List.length_cons, List.length_nil]
  omega
set_option maxRecDepth 100000 in
set_option maxHeartbeats 32000000 in
theorem holderLives_walk (ao : Option Addr) (n ca : Nat) (Z : Nat → Bool) (p : Plan) (w : World) (hA : BArg w ao n ca Z) (_hp : p.Ok) :
    Calls Try.prog 5 #[.slice ao n ca, p.val] w fun e w' => e = .returned (.bool true) ∧ Below w.heap.size w w' := by
  obtain ⟨te, ma⟩ := p
  unfold Plan.val
  simp only
  have XP := blk_new w 43 #[.int .i64 te, .int .i64 ma]
  have B0 := belowA w (.cells #[.int .i64 te, .int .i64 ma] 43)
  have s0 : (w.alloc (.cells #[.int .i64 te, .int .i64 ma] 43)).heap.size = w.heap.size + 1 := by simp
  generalize hw0 : w.alloc (.cells #[.int .i64 te, .int .i64 ma] 43) = w0 at *
  have X1 := blk_new w0 26 #[.int .i64 0, .int .i64 0, .map none, .map none]
  have B1 := belowA w0 (.cells #[.int .i64 0, .int .i64 0, .map none, .map none] 26)
  have s1 : (w0.alloc (.cells #[.int .i64 0, .int .i64 0, .map none, .map none] 26)).heap.size = w.heap.size + 1 + 1 := by simp [s0]
  have XP1 := XP.below B1
  rw [s0] at X1
  generalize hw1 : w0.alloc (.cells #[.int .i64 0, .int .i64 0, .map none, .map none] 26) = w1 at *
  have X2 := X1.row #[.int .i64 0, .int .i64 0, .map none, .map none]
  have XP2 := XP1.of_block (setRow_other w1 (w.heap.size + 1) w.heap.size #[.int .i64 0, .int .i64 0, .map none, .map none] (by omega))
  have B2 := belowR (below_then B0 B1) (show w.heap.size ≤ w.heap.size + 1 by omega) #[.int .i64 0, .int .i64 0, .map none, .map none]
  have s2 : (w1.setRow (w.heap.size + 1) #[.int .i64 0, .int .i64 0, .map none, .map none]).heap.size = w.heap.size + 1 + 1 := by rw [setRow_size]; exact s1
  generalize hw2 : w1.setRow (w.heap.size + 1) #[.int .i64 0, .int .i64 0, .map none, .map none] = w2 at *
  have O3 := iown_new w2
  have BN := belowA w2 (.cells #[] 3)
  have X3 := X2.below BN
  have XP3 := XP2.below BN
  have B3 := below_then B2 BN
  rw [s2] at O3
  have z3 : w.heap.size + 1 + 1 ≤ (w2.alloc (.cells #[] 3)).heap.size := by simp; omega
  generalize hw3 : w2.alloc (.cells #[] 3) = w3 at *
  have AW := hawake_any
  have HA0 : Hid (BArg w ao n ca Z) := hA
  have HV : Hid (∀ (W : World) (a b : Int) (m n : Option Nat), _) := svar
  have HB3 : Hid (Below w.heap.size w w3) := B3
  clear B0 B1 BN hA B3
  go_enter Try.func5, Try.ntmps5
  go_wp2_with (first
    | (refine wpList_store_row rfl 26 _ _ rfl (w.heap.size + 1) _ rfl rfl 26 _ X1 Try.infoHs rfl (sall _ _ _ _) ?_; rw [hw2]))
  go_loopg [6, 7] 30 (fun r s6 s7 wr => ∃ (j k c : Nat) (ax : Option Addr) (N : List Int) (li cn : Int) (mw mh : Option Nat) (W : List (Int × Wn)), j ≤ 30 ∧ r = 30 - j ∧ s6 = .slice ax k c ∧ s7 = .int .i64 (j : Int) ∧ Blk wr (w.heap.size + 1) 26 #[.int .i64 li, .int .i64 cn, .map mw, .map mh] ∧ Blk wr w.heap.size 43 #[.int .i64 te, .int .i64 ma] ∧ WnM wr mw W ∧ HvM wr mh [] ∧ W.length ≤ j ∧ IOwn wr (w.heap.size + 1 + 1) (.slice ax k c) k N ∧ k ≤ j ∧ 0 ≤ li ∧ li ≤ j ∧ 0 ≤ cn ∧ cn ≤ j ∧ (∀ t, 0 ≤ el N t ∧ el N t ≤ li * 1048576 + cn) ∧ w.heap.size + 1 + 1 ≤ wr.heap.size ∧ Below w.heap.size w wr)
  case atStart => exact ⟨0, 0, 0, _, [], 0, 0, none, none, [], by omega, by omega, rfl, rfl, X3, XP3, WnM.nil _, HvM.nil _, by simp, O3, by omega, by omega, by omega, by omega, by omega, fun t => by unfold el; simp, z3, HB3.out⟩
  case round =>
  obtain ⟨j, k, c, ax, N, li, cn, mw, mh, W, hj, rfl, rfl, rfl, XS, XQ, hW, hH, hWl, ON, hkj, l0, l1, c0, c1, hN, zr, BR⟩ := hrel
  obtain ⟨wo, hwo⟩ : ∃ wo, wo = wr := ⟨_, rfl⟩
  subst hwo
  have hs : ∀ t, -9223372036854775808 ≤ el N t ∧ el N t ≤ 9223372036854775807 := fun t => by have := hN t; omega
  clear X1 X2 X3 XP XP1 XP2 XP3 O3 B2 HB3 hw0 hw1 hw2 hw3 s0 s1 s2 z3
  by_cases d1 : j < n
  case neg =>
    have d1' : ¬ (j : Int) < (n : Int) := by omega
    go_wp2_with (first | (go_at_call 7; refine (AW _).mono ?_; rintro e w9 ⟨rfl, B9⟩))
    go_ret
    exact ⟨rfl, below_then BR B9⟩
  have d1' : (j : Int) < (n : Int) := by omega
  by_cases d2 : j < 30
  case neg =>
    have d2' : ¬ (j : Int) < 30 := by omega
    go_wp2_with (first | (go_at_call 7; refine (AW _).mono ?_; rintro e w9 ⟨rfl, B9⟩))
    go_ret
    exact ⟨rfl, below_then BR B9⟩
  have d2' : (j : Int) < 30 := by omega
  have AR := HA0.out.below BR
  obtain ⟨bz, oz, rfl, hz⟩ := AR.cells (by omega)
  have cz := hz j d1
  cases hZ : Z j with
  | true =>
    rw [hZ] at cz
    have CR := hcrash_any li cn mw mh wo (by omega)
    have eL : newLife li = li + 1 := by unfold newLife; omega
    rw [eL] at CR
    clear eL
    unfold hsV at CR
    go_wp2_with (first
      | (go_at_call 16; refine CR.mono ?_; rintro e wa ⟨rfl, Ba⟩; have Xa := XS.below Ba; have XQa := XQ.below Ba; have Oa := ON.below Ba; have Xb := Xa.row #[.int .i64 (li + 1), .int .i64 0, .map none, .map none]; have eb : ∀ g, g ≠ w.heap.size + 1 → (wa.setRow (w.heap.size + 1) #[.int .i64 (li + 1), .int .i64 0, .map none, .map none]).heap[g]? = wa.heap[g]? := (fun g hg => setRow_other _ _ _ _ hg); have XQb := XQa.of_block (eb _ (by omega)); have Ob := Oa.of_block (fun g h1 _ => eb g (by omega)); have Bb := belowR (below_then BR Ba) (show w.heap.size ≤ w.heap.size + 1 by omega) #[.int .i64 (li + 1), .int .i64 0, .map none, .map none]; have zb : w.heap.size + 1 + 1 ≤ (wa.setRow (w.heap.size + 1) #[.int .i64 (li + 1), .int .i64 0, .map none, .map none]).heap.size := (by rw [setRow_size]; have := Ba.size; omega); generalize hwb : wa.setRow (w.heap.size + 1) #[.int .i64 (li + 1), .int .i64 0, .map none, .map none] = wb at *; clear eb)
      | (refine wpList_load_row rfl 26 _ rfl (w.heap.size + 1) rfl 26 _ (0, 0) _ XS Try.underlying26 rfl Try.infoHs ?_)
      | (refine wpList_store_row rfl 26 _ _ rfl (w.heap.size + 1) _ rfl rfl 26 _ Xa Try.infoHs rfl (sall _ _ _ _) ?_; rw [hwb]))
    have RB := iown_row Ob hs
    clear CR XS XQ hW hH ON BR cz hz AR Oa Xa XQa Ba hwb zr
    go_loopg [39] k (fun r s39 wr => ∃ t : Nat, t ≤ k ∧ r = k - t ∧ s39 = .int .i64 (t : Int) ∧ Below wb.heap.size wb wr)
    case atStart => exact ⟨0, by omega, by omega, rfl, Below.refl _ _⟩
    case round =>
    obtain ⟨t, ht, rfl, rfl, Bt⟩ := hrel
    rcases Nat.lt_or_ge t k with hlt | hge
    · have d3 : (t : Int) < (k : Int) := by omega
      obtain ⟨ba, oa, rfl, hc⟩ := (RB.below Bt).cells (by omega)
      have cN := hc t hlt
      have G := hgr_den (li + 1) 0 none none 0 te ma 1 (el N t) 1 [] [] wr (WnM.nil _) (HvM.nil _) (by simp) (by simp) (by omega) (show (8 : Int) ≠ 0 by decide)
      have eD : denN [] 1 (el N t) = 8 := rfl
      rw [eD] at G
      clear eD hc
      generalize el N t = m at *
      unfold hsV at G
      have Xt := Xb.below Bt
      have XQt := XQb.below Bt
      go_wp2_with (first
        | (go_at_call 10; refine G.mono ?_; rintro e wc ⟨bw, bh, rfl, _, Bc⟩; obtain ⟨XA, XB, BBc, zc⟩ := HV.out wc (li + 1) 0 (some bw) (some bh); generalize hwA : wc.alloc (.cells #[.int .i64 0, .int .i64 0, .map none, .map none] 26) = wA at *; generalize hwB : wA.setRow wc.heap.size #[.int .i64 (li + 1), .int .i64 0, .map (some bw), .map (some bh)] = wB at *)
        | (refine wpList_load_row rfl 26 _ rfl (w.heap.size + 1) rfl 26 _ (0, 0) _ Xt Try.underlying26 rfl Try.infoHs ?_)
        | (refine wpList_load_row rfl 43 _ rfl w.heap.size rfl 43 _ (0, 0) _ XQt Try.underlying43 rfl Try.infoPl ?_)
        | (refine wpList_store_row rfl 26 _ _ rfl wc.heap.size _ rfl rfl 26 _ XA Try.infoHs rfl (sall _ _ _ _) ?_; rw [hwB]))
      go_roundg (k - (t + 1))
      case measure => omega
      case rel => exact ⟨t + 1, by omega, rfl, by go_num, below_then Bt (below_then Bc BBc)⟩
    · obtain rfl : t = k := by omega
      have zt := Bt.size
      go_wp2_with fail
      go_roundg (30 - (j + 1))
      case measure => omega
      case rel => exact ⟨j + 1, t, c, ax, N, li + 1, 0, none, none, [], by omega, rfl, rfl, by go_num, Xb.below Bt, XQb.below Bt, WnM.nil _, HvM.nil _, by simp, Ob.below Bt, by omega, by omega, by omega, by omega, by omega, fun u => by have := hN u; omega, by omega, below_then Bb Bt⟩
  | false =>
    rw [hZ] at cz
    have K := hask_ok li cn mw mh j 1 W [] wo hW hH (by omega) (by simp) (by omega) (by unfold askN momD; rw [if_neg (by simp; omega), if_neg (by omega)])
    obtain ⟨num, hnum⟩ : ∃ num, num = li * 1048576 + (cn + 1) := ⟨_, rfl⟩
    rw [← hnum] at K
    have hn1 : li * 1048576 + cn < num := by omega
    have hn2 : num ≤ li * 1048576 + (cn + 1) := by omega
    clear hnum
    have hpl := put_len W 1 ⟨num, j⟩
    have hge1 := getM_put_same W 1 (⟨num, j⟩ : Wn)
    have hW' : (putM W 1 ⟨num, j⟩).length ≤ j + 1 := by omega
    generalize putM W 1 ⟨num, j⟩ = W' at *
    unfold hsV New at K
    have hown := fun g hg => (ON.lt g hg).2
    go_wp2_with (first
      | (go_at_call 8; refine K.mono ?_; rintro e wa ⟨bw, bh, rfl, ⟨Mw, Mh, hne, hbw, hbh⟩, Ba⟩; obtain ⟨XA, XB, BBa, za⟩ := HV.out wa li (cn + 1) (some bw) (some bh); have za0 := Ba.size; generalize hwA : wa.alloc (.cells #[.int .i64 0, .int .i64 0, .map none, .map none] 26) = wA at *; generalize hwB : wA.setRow wa.heap.size #[.int .i64 li, .int .i64 (cn + 1), .map (some bw), .map (some bh)] = wb at *; have Xb := (XS.below Ba).below BBa; have XQb := (XQ.below Ba).below BBa; have Ob := (ON.below Ba).below BBa; have Mwb := Mw.below BBa; have Mhb := Mh.below BBa; have Bb := below_then BR (below_then Ba BBa))
      | (refine wpList_load_row rfl 26 _ rfl (w.heap.size + 1) rfl 26 _ (0, 0) _ XS Try.underlying26 rfl Try.infoHs ?_)
      | (refine wpList_store_row rfl 26 _ _ rfl wa.heap.size _ rfl rfl 26 _ XA Try.infoHs rfl (sall _ _ _ _) ?_; rw [hwB]))
    have RB := iown_row Ob hs
    clear K XS XQ hW hH ON BR cz hz AR XA Mw Mh BBa Ba hwB hwA
    go_loopg [64] k (fun r s64 wr => ∃ t : Nat, t ≤ k ∧ r = k - t ∧ s64 = .int .i64 (t : Int) ∧ Below wb.heap.size wb wr)
    case atStart => exact ⟨0, by omega, by omega, rfl, Below.refl _ _⟩
    case round =>
    obtain ⟨t, ht, rfl, rfl, Bt⟩ := hrel
    rcases Nat.lt_or_ge t k with hlt | hge
    · have d3 : (t : Int) < (k : Int) := by omega
      obtain ⟨ba, oa, rfl, hc⟩ := (RB.below Bt).cells (by omega)
      have cN := hc t hlt
      have hm := hN t
      have eD : denN W' 1 (el N t) = 14 := by
        unfold denN
        rw [hge1]
        exact if_neg (by show ¬ num = _; omega)
      have G := hgr_den li (cn + 1) (some bw) (some bh) j te ma 1 (el N t) 1 W' [] wr (WnM.some (Mwb.below Bt)) (HvM.some (Mhb.below Bt)) (by omega) (by simp) (by omega) (by rw [eD]; decide)
      rw [eD] at G
      clear eD hc
      have dm : ¬ el N t = num := by omega
      generalize el N t = m at *
      unfold hsV at G
      have Xt := XB.below Bt
      have XQt := XQb.below Bt
      go_wp2_with (first
        | (go_at_call 10; refine G.mono ?_; rintro e wc ⟨cw, ch, rfl, _, Bc⟩; obtain ⟨XA, XC, BBc, zc⟩ := HV.out wc li (cn + 1) (some cw) (some ch); generalize hwA : wc.alloc (.cells #[.int .i64 0, .int .i64 0, .map none, .map none] 26) = wA at *; generalize hwB : wA.setRow wc.heap.size #[.int .i64 li, .int .i64 (cn + 1), .map (some cw), .map (some ch)] = wB at *)
        | (refine wpList_load_row rfl 26 _ rfl wa.heap.size rfl 26 _ (0, 0) _ Xt Try.underlying26 rfl Try.infoHs ?_)
        | (refine wpList_load_row rfl 43 _ rfl w.heap.size rfl 43 _ (0, 0) _ XQt Try.underlying43 rfl Try.infoPl ?_)
        | (refine wpList_store_row rfl 26 _ _ rfl wc.heap.size _ rfl rfl 26 _ XA Try.infoHs rfl (sall _ _ _ _) ?_; rw [hwB]))
      go_roundg (k - (t + 1))
      case measure => omega
      case rel => exact ⟨t + 1, by omega, rfl, by go_num, below_then Bt (below_then Bc BBc)⟩
    · obtain rfl : t = k := by omega
      have zt := Bt.size
      have Bu := belowA wr (.cells #[.int .i64 num] 3)
      have Ou := (Ob.below Bt).below Bu
      have XSu := (Xb.below Bt).below Bu
      have XTu := (XB.below Bt).below Bu
      have XQu := (XQb.below Bt).below Bu
      have Mwu := (Mwb.below Bt).below Bu
      have Mhu := (Mhb.below Bt).below Bu
      have BBu := below_then (below_then Bb Bt) Bu
      have X6 : (wr.alloc (.cells #[.int .i64 num] 3)).cell? ⟨wr.heap.size, 0, none⟩ = some (.int .i64 num) := (blk_new wr _ _).cell 0 rfl
      have zu : wr.heap.size ≤ (wr.alloc (.cells #[.int .i64 num] 3)).heap.size := by simp
      have hN' : ∀ u, 0 ≤ el (N ++ [num]) u ∧ el (N ++ [num]) u ≤ li * 1048576 + (cn + 1) := fun u => by
        rw [el_snoc]
        have := hN u
        by_cases q1 : u < N.length
        · rw [if_pos q1]; omega
        · rw [if_neg q1]
          by_cases q2 : u = N.length
          · rw [if_pos q2]; omega
          · rw [if_neg q2]; omega
      have hs' : ∀ u, -9223372036854775808 ≤ el (N ++ [num]) u ∧ el (N ++ [num]) u ≤ 9223372036854775807 := fun u => by have := hN' u; omega
      have lt1 := Mwu.lt
      have lt2 := Mhu.lt
      have lt3 := XTu.lt
      have lt4 := XSu.lt
      have lt5 := XQu.lt
      have ogs : ∀ g, (Value.slice ax t c).ownBlock = some g → w.heap.size + 1 + 1 ≤ g := fun g hg => (Ob.lt g hg).1
      generalize hwu : wr.alloc (.cells #[.int .i64 num] 3) = wu at *
      go_wp2_with (first
        | (at_builtin; refine wpList_append_int2 rfl _ _ rfl (w.heap.size + 1 + 1) _ _ _ rfl Ou wr.heap.size num rfl X6 (by omega) (by omega) ?_; intro v' w7 O7 B7 G7; obtain ⟨ax', c', rfl, _⟩ := O7.arg hs'; have ne1 : ∀ g, wo.heap.size ≤ g → some g ≠ (Value.slice ax t c).ownBlock := (fun g hg e => by have := hown g e.symm; omega); have ne2 : ∀ g, g < w.heap.size + 1 + 1 → some g ≠ (Value.slice ax t c).ownBlock := (fun g hg e => by have := ogs g e.symm; omega); have XT7 := XTu.of_block (G7.block _ lt3 (ne1 _ (by omega))); have XS7 := XSu.of_block (G7.block _ lt4 (ne2 _ (by omega))); have XQ7 := XQu.of_block (G7.block _ lt5 (ne2 _ (by omega))); have Mw7 := Mwu.keep (G7.block _ lt1 (ne1 _ (by omega))); have Mh7 := Mhu.keep (G7.block _ lt2 (ne1 _ (by omega))); have z7 := B7.size; have BB7 := BBu.trans (B7.mono (by omega)))
        | (refine wpList_load_row rfl 26 _ rfl wa.heap.size rfl 26 _ (0, 0) _ XT7 Try.underlying26 rfl Try.infoHs ?_)
        | (refine wpList_store_row rfl 26 _ _ rfl (w.heap.size + 1) _ rfl rfl 26 _ XS7 Try.infoHs rfl (sall _ _ _ _) ?_))
      have e8 : ∀ g, g ≠ w.heap.size + 1 → (w7.setRow (w.heap.size + 1) #[.int .i64 li, .int .i64 (cn + 1), .map (some bw), .map (some bh)]).heap[g]? = w7.heap[g]? := fun g hg => setRow_other _ _ _ _ hg
      go_roundg (30 - (j + 1))
      case measure => omega
      case rel =>
        have z8 : w.heap.size + 1 + 1 ≤ (w7.setRow (w.heap.size + 1) #[.int .i64 li, .int .i64 (cn + 1), .map (some bw), .map (some bh)]).heap.size := by rw [setRow_size]; omega
        exact ⟨j + 1, t + 1, c', ax', N ++ [num], li, cn + 1, some bw, some bh, W', by omega, rfl, rfl, by go_num, XS7.row _, XQ7.of_block (e8 _ (by omega)), WnM.some (Mw7.keep (e8 _ (by omega))), HvM.some (Mh7.keep (e8 _ (by omega))), by omega, O7.of_block (fun g h1 _ => e8 g (by omega)), by omega, by omega, by omega, by omega, by omega, hN', z8, belowR BB7 (by omega) _⟩
end Go.Proofs.Ytjnegbjgkngkaaa
