/- What the document's Parse answers of texts of at most 1000 bytes: the same as fix.Parse. -/
import Derived.Test.YtijjghlfamebaaaDoorForm
import Derived.Test.YtijjghlfamebaaaDoorRNum
namespace Go.Proofs.YtijjghlfamebaaaDoor
open Go.ChangeShapes Go.WideShapes Go.ChangeAt Go.RowKit
set_option linter.unusedVariables false
theorem Tryd.info2 : (Tryd.prog.info? 2).map (fun i => (i.zero, i.size, i.bytes)) = some (some (.int .i64 0), 1, 8) := by kernel_rfl
theorem refParse_bad (s : ByteArray) (w : World) (hs : s.size ≤ 1000) (hbad : ¬ okN s.data.toList) :
    Calls Tryd.prog 24 #[.string s] w fun e w' => e = .returned (.tuple #[.int .i32 0, .int .i64 3]) ∧ Below w.heap.size w w' := by
  have cf : ∀ w, Calls Tryd.prog 33 #[.string s] w fun e w' => (∃ (a : Bool) (b c : ByteArray), e = .returned (.tuple #[.bool a, .string b, .string c, .bool false])) ∧ Below w.heap.size w w' := fun w =>
    (form_any s w hs).mono fun e w' ⟨⟨a, b, c, ok, he, h⟩, hb⟩ => by
      rcases h with ⟨_, h, _⟩ | ⟨rfl, _⟩
      · exact absurd h hbad
      · exact ⟨⟨a, b, c, he⟩, hb⟩
  go_enter Tryd.func24, Tryd.ntmps24
  go_wp2_with (go_at_call 33; refine (cf _).mono ?_; rintro e w1 ⟨⟨a, b, c, rfl⟩, hb⟩)
  go_ret2
  exact ⟨rfl, hb⟩
theorem val_take6 (W : ByteArray) (k : Nat) (hs : W.size ≤ 6) (hall : W.data.toList.all isD = true) : valN (W.data.toList.take k) ≤ 1000000 := by
  have h1 : (W.data.toList.take k).all isD = true := by
    rw [List.all_eq_true] at hall ⊢; exact fun c hc => hall c (List.mem_of_mem_take hc)
  have h2 := val_lt _ h1
  have h3 : (W.data.toList.take k).length ≤ 6 := by rw [List.length_take, len_size]; omega
  have h4 : 10 ^ (W.data.toList.take k).length ≤ 10 ^ 6 := Nat.pow_le_pow_right (by decide) h3
  omega
theorem car_le (p : List UInt8) (h : p.all isD = true) : carN p ≤ 65536 := by
  have := val_lt p h
  unfold carN
  have hp : 0 < 10 ^ p.length := Nat.pow_pos (by decide)
  refine Nat.le_of_lt_succ ((Nat.div_lt_iff_lt_mul hp).2 ?_)
  have h2 : 65536 * valN p < 65536 * 10 ^ p.length := (Nat.mul_lt_mul_left (by decide)).2 this
  rw [Nat.succ_mul]; omega
theorem drop_all (p : ByteArray) (j : Nat) (h : p.data.toList.all isD = true) : (p.data.toList.drop j).all isD = true := by
  rw [List.all_eq_true] at h ⊢; exact fun c hc => h c (List.mem_of_mem_drop hc)
theorem digit_of (p : ByteArray) (j : Nat) (hj : j < p.size) (h : p.data.toList.all isD = true) : (48 : Int) ≤ (p[j].toNat : Int) ∧ (p[j].toNat : Int) ≤ 57 := by
  have hmem : p[j] ∈ p.data.toList := by
    have : p[j] ∈ p.data.toList.take (j + 1) := by rw [take_snoc p j hj]; simp
    exact List.mem_of_mem_take this
  have hd := List.all_eq_true.1 h _ hmem
  unfold isD at hd; simp at hd; omega
set_option maxRecDepth 100000 in
set_option maxHeartbeats 12800000 in
theorem refParse_good (s W P : ByteArray) (b : Bool) (w : World)
    (cf : ∀ w, Calls Tryd.prog 33 #[.string s] w fun e w' => e = .returned (.tuple #[.bool b, .string W, .string P, .bool true]) ∧ Below w.heap.size w w')
    (hW : W.size ≤ 6) (hWa : W.data.toList.all isD = true) (hP : P.size ≤ 16) (hPa : P.data.toList.all isD = true) (N : Int)
    (hN : N = (valN W.data.toList : Int) * 65536 + ((carN P.data.toList + if 1 ≤ P.data.toList.length ∧ 5 ≤ topN P.data.toList then 1 else 0 : Nat) : Int)) (R1 R2 : Int) (hR1 : 2147483647 < N → R1 = 0 ∧ R2 = 2) (hR2 : ¬ 2147483647 < N → R1 = (if b = true then -N else N) ∧ R2 = 0) :
    Calls Tryd.prog 24 #[.string s] w fun e w' => e = .returned (.tuple #[.int .i32 R1, .int .i64 R2]) ∧ Below w.heap.size w w' := by
  obtain ⟨i0, hi, hz0, hz1, hz2⟩ := info_parts Tryd.info2
  have HN : Hid (N = (valN W.data.toList : Int) * 65536 + ((carN P.data.toList + if 1 ≤ P.data.toList.length ∧ 5 ≤ topN P.data.toList then 1 else 0 : Nat) : Int)) := hN
  have HWA : Hid (W.data.toList.all isD = true) := hWa
  have HPA : Hid (P.data.toList.all isD = true) := hPa
  have HR1 : Hid (2147483647 < N → R1 = 0 ∧ R2 = 2) := hR1
  have HR2 : Hid (¬ 2147483647 < N → R1 = (if b = true then -N else N) ∧ R2 = 0) := hR2
  clear hN hWa hPa hR1 hR2
  go_enter Tryd.func24, Tryd.ntmps24
  go_wp2_with (go_at_call 33; refine (cf _).mono ?_; rintro e w1 ⟨rfl, hb⟩)
  go_loop [8, 9] (fun v i => ∃ k : Nat, k ≤ W.size ∧ i = .int .i64 k ∧ v = .int .i64 (valN (W.data.toList.take k) : Int)) (fun _ i => W.size - (intOf i).toNat)
  case atStart => exact ⟨0, Nat.zero_le _, rfl, rfl⟩
  case round =>
    obtain ⟨k, hk, rfl, rfl⟩ := hrel
    have hb6 := val_take6 W k hW HWA.out
    by_cases hlt : k < W.size
    · have HS : Hid (valN (W.data.toList.take (k + 1)) = valN (W.data.toList.take k) * 10 + (W[k].toNat - 48)) := by
        show _ = _; rw [take_snoc W k hlt, val_snoc]
      obtain ⟨d1, d2⟩ := digit_of W k hlt HWA.out
      obtain ⟨v, hv⟩ : ∃ v, v = valN (W.data.toList.take k) := ⟨_, rfl⟩
      rw [← hv] at hb6
      rw [← hv]
      have HV : Hid (v = valN (W.data.toList.take k)) := hv
      clear hv
      go_wp2
      go_round
      case rel => exact ⟨k + 1, by omega, by go_num, by rw [HS.out, ← HV.out]; congr 1; omega⟩
      case measure => simp [intOf]; omega
    · have hkW : k = W.size := by omega
      subst hkW
      rw [take_size] at hb6
      rw [take_size]
      obtain ⟨vw, hvw⟩ : ∃ vw, vw = valN W.data.toList := ⟨_, rfl⟩
      rw [← hvw] at hb6
      rw [← hvw]
      have HVW : Hid (vw = valN W.data.toList) := hvw
      clear hvw hlt hk
      go_wp2
      go_loopw [10, 11, 12, 13] (fun cv lv iv _ wr => ∃ (j : Nat) (xs : List Value), j ≤ P.size ∧ iv = .int .i64 ((j : Int) - 1) ∧ cv = .int .i64 (carN (P.data.toList.drop j) : Int) ∧ wr.ownsRow w.heap.size 2 1 lv (P.size - j) xs ∧ Below w.heap.size w wr ∧ (j < P.size → xs[P.size - j - 1]? = some (.int .i64 (topN (P.data.toList.drop j) : Int)))) (fun _ _ iv _ _ => (intOf iv + 1).toNat)
      case atStart =>
        refine ⟨P.size, [], Nat.le_refl _, by go_num, ?_, ?_, (hb.alloc hb.size _), fun h => absurd h (Nat.lt_irrefl _)⟩
        · rw [List.drop_of_length_le (by simp)]; rfl
        · rw [Nat.sub_self]
          exact ⟨rfl, .inr ⟨w1.heap.size, 0, #[], rfl, hb.size, heap_alloc_new _ _, Nat.le_refl _, by decide, rfl, rfl⟩⟩
      case round =>
        obtain ⟨j, xs, hj, rfl, rfl, hown, hbr, htop⟩ := hrel
        have hcl := car_le _ (drop_all P j HPA.out)
        cases j with
        | succ j =>
          have hjs : j < P.size := by omega
          have HDR : Hid (P.data.toList.drop j = P[j] :: P.data.toList.drop (j + 1)) := drop_at P j hjs
          obtain ⟨c, hc⟩ : ∃ c, c = carN (P.data.toList.drop (j + 1)) := ⟨_, rfl⟩
          rw [← hc] at hcl
          rw [← hc]
          have HCC : Hid (carN (P.data.toList.drop j) = ((P[j].toNat - 48) * 65536 + c) / 10 ∧ topN (P.data.toList.drop j) = ((P[j].toNat - 48) * 65536 + c) % 10) := by
            show _ ∧ _; rw [HDR.out, hc]; exact car_cons _ _
          clear hc htop
          obtain ⟨d1, d2⟩ := digit_of P j hjs HPA.out
          go_wp2_with (at_builtin; refine wpList_append_own _ rfl _ _ 54 rfl w.heap.size 2 i0 (.int .i64 0) 1 8 Tryd.underlying54 hi hz0 hz1 hz2 rfl (by decide) _ _ _ rfl (hown.alloc _) ⟨wr.heap.size, 0, none⟩ 1 1 [Value.int .i64 ((((P[j].toNat : Int) - 48) * 65536 + (c : Int)) % 10)] rfl rfl ?c1 ?c2 ?c3 ?c4 ?c5 ?_)
          case c1 => intro a u hu; match a, hu with | 0, hu => simp at hu; subst hu; simp [Addr.add]
          case c2 => intro u hu; simp at hu; subst hu; rfl
          case c3 => unfold maxLen; omega
          case c4 => omega
          case c5 => have := hbr.size; simp; omega
          · intro v' w2 hown' hgrow _
            have hb2 : Below w.heap.size w w2 := (hbr.alloc (by have := hbr.size; omega) _).grown hgrow (by have := hbr.size; simp; omega) (fun k hk => (hown.lt k hk).1)
            have hxl : xs.length = P.size - (j + 1) := by have := hown.1; omega
            have HO2 : Hid (w2.ownsRow w.heap.size 2 1 v' (P.size - j) (xs ++ [Value.int .i64 ((((P[j].toNat : Int) - 48) * 65536 + (c : Int)) % 10)])) := by
              show World.ownsRow _ _ _ _ _ _ _
              rw [show P.size - j = P.size - (j + 1) + 1 by omega]; exact hown'
            have HB2 : Hid (Below w.heap.size w w2) := hb2
            have HXL : Hid (xs.length = P.size - (j + 1)) := hxl
            clear hgrow hown hbr hb2 hown' hxl
            go_wp2
            go_roundw
            case rel =>
              refine ⟨j, xs ++ [Value.int .i64 ((((P[j].toNat : Int) - 48) * 65536 + (c : Int)) % 10)], by omega, by first | rfl | go_num, ?_, HO2.out, HB2.out, fun _ => ?_⟩
              · rw [HCC.out.1]; congr 1; omega
              · rw [HCC.out.2, show P.size - j - 1 = xs.length by rw [HXL.out]; omega, List.getElem?_append_right (Nat.le_refl _), Nat.sub_self]
                simp; omega
            case measure => simp [intOf] <;> omega
        | zero =>
          rw [List.drop_zero] at hcl htop
          rw [List.drop_zero]
          obtain ⟨c, hc⟩ : ∃ c, c = carN P.data.toList := ⟨_, rfl⟩
          rw [← hc] at hcl
          rw [← hc]
          have HC : Hid (c = carN P.data.toList) := hc
          clear hc
          rw [Nat.sub_zero] at hown htop
          by_cases hP0 : P.size = 0
          · have HNN : Hid (N = (vw : Int) * 65536 + (c : Int)) := by
              show _ = _; rw [HN.out, ← HVW.out, ← HC.out, if_neg (by rw [len_size]; omega)]; omega
            clear htop
            rcases hown.2 with ⟨rfl, -⟩ | ⟨g, cap, cur, rfl, -, -, -, -, -, -⟩
            · rw [hP0] at hown
              by_cases hbig : 2147483647 < (vw : Int) * 65536 + (c : Int)
              · skip
                go_wp2
                go_ret2
                exact ⟨by rw [(HR1.out (by rw [HNN.out]; exact hbig)).1, (HR1.out (by rw [HNN.out]; exact hbig)).2]; rfl, hbr⟩
              · skip
                cases b
                all_goals
                  go_wp2
                  go_ret2
                  exact ⟨by rw [(HR2.out (by rw [HNN.out]; omega)).1, (HR2.out (by rw [HNN.out]; omega)).2, HNN.out]; rfl, hbr⟩
            · rw [hP0] at hown
              rw [hP0]
              by_cases hbig : 2147483647 < (vw : Int) * 65536 + (c : Int)
              · skip
                go_wp2
                go_ret2
                exact ⟨by rw [(HR1.out (by rw [HNN.out]; exact hbig)).1, (HR1.out (by rw [HNN.out]; exact hbig)).2]; rfl, hbr⟩
              · skip
                cases b
                all_goals
                  go_wp2
                  go_ret2
                  exact ⟨by rw [(HR2.out (by rw [HNN.out]; omega)).1, (HR2.out (by rw [HNN.out]; omega)).2, HNN.out]; rfl, hbr⟩
          · have htop' := htop (by omega)
            clear htop
            obtain ⟨t, ht⟩ : ∃ t, t = topN P.data.toList := ⟨_, rfl⟩
            rw [← ht] at htop'
            rcases hown.2 with ⟨-, h00⟩ | ⟨g, cap, cur, rfl, -, -, -, -, -, -⟩
            · omega
            · have hcell : wr.cell? ⟨g, P.size - 1, none⟩ = some (.int .i64 (t : Int)) := by
                have := hown.cells (g := g) rfl (P.size - 1) _ htop'
                have hadd : (⟨g, 0, none⟩ : Addr).add (P.size - 1) = ⟨g, P.size - 1, none⟩ := by unfold Addr.add; split <;> simp_all
                rwa [hadd] at this
              have hpos : 0 < P.size := by omega
              clear htop'
              by_cases h5 : 5 ≤ t
              · have HNN : Hid (N = (vw : Int) * 65536 + (c : Int) + 1) := by
                  show _ = _; rw [HN.out, ← HVW.out, ← HC.out, ← ht, if_pos (by rw [len_size]; omega)]; omega
                clear ht
                by_cases hbig : 2147483647 < (vw : Int) * 65536 + (c : Int) + 1
                · skip
                  go_wp2
                  go_ret2
                  exact ⟨by rw [(HR1.out (by rw [HNN.out]; exact hbig)).1, (HR1.out (by rw [HNN.out]; exact hbig)).2]; rfl, hbr⟩
                · skip
                  cases b
                  all_goals
                    go_wp2
                    go_ret2
                    exact ⟨by rw [(HR2.out (by rw [HNN.out]; omega)).1, (HR2.out (by rw [HNN.out]; omega)).2, HNN.out]; rfl, hbr⟩
              · have HNN : Hid (N = (vw : Int) * 65536 + (c : Int)) := by
                  show _ = _; rw [HN.out, ← HVW.out, ← HC.out, ← ht, if_neg (by rw [len_size]; omega)]; omega
                clear ht
                by_cases hbig : 2147483647 < (vw : Int) * 65536 + (c : Int)
                · skip
                  go_wp2
                  go_ret2
                  exact ⟨by rw [(HR1.out (by rw [HNN.out]; exact hbig)).1, (HR1.out (by rw [HNN.out]; exact hbig)).2]; rfl, hbr⟩
                · skip
                  cases b
                  all_goals
                    go_wp2
                    go_ret2
                    exact ⟨by rw [(HR2.out (by rw [HNN.out]; omega)).1, (HR2.out (by rw [HNN.out]; omega)).2, HNN.out]; rfl, hbr⟩
theorem refParse_any (s : ByteArray) (w : World) (hs : s.size ≤ 1000) :
    Calls Tryd.prog 24 #[.string s] w fun e w' => e = .returned (.tuple #[.int .i32 (parN s.data.toList).1, .int .i64 (parN s.data.toList).2]) ∧ Below w.heap.size w w' := by
  by_cases hok : okN s.data.toList
  · obtain ⟨l, hl⟩ : ∃ l, l = s.data.toList := ⟨_, rfl⟩
    have cf : ∀ w, Calls Tryd.prog 33 #[.string s] w fun e w' => e = .returned (.tuple #[.bool (minusL l).2, .string ⟨(cutL (minusL l).1).1.toArray⟩, .string ⟨(cutL (minusL l).1).2.1.toArray⟩, .bool true]) ∧ Below w.heap.size w w' := fun w =>
      (form_any s w hs).mono fun e w' ⟨⟨a, b, c, ok, he, h⟩, hb⟩ => by
        rcases h with ⟨rfl, _, rfl, rfl, rfl⟩ | ⟨_, h⟩
        · rw [hl]; exact ⟨he, hb⟩
        · exact absurd hok h
    rw [← hl] at hok ⊢
    have hpar : parN l = (if 2147483647 < sizeN (cutL (minusL l).1).1 (cutL (minusL l).1).2.1 then (0, 2) else (if (minusL l).2 = true then -(sizeN (cutL (minusL l).1).1 (cutL (minusL l).1).2.1) else sizeN (cutL (minusL l).1).1 (cutL (minusL l).1).2.1, 0)) := by
      unfold parN; unfold okN at hok; rw [if_pos hok]
    obtain ⟨hw, hp⟩ := hok
    have dw := (digB_iff _ _).1 hw
    have hpl : (cutL (minusL l).1).2.1.length ≤ 16 ∧ (cutL (minusL l).1).2.1.all isD = true := by
      rcases hp with hp | hp
      · rw [cut_no_part _ hp]; exact ⟨by simp, rfl⟩
      · have := (digB_iff _ _).1 hp; exact ⟨this.1.2, this.2⟩
    have g := refParse_good s ⟨(cutL (minusL l).1).1.toArray⟩ ⟨(cutL (minusL l).1).2.1.toArray⟩ (minusL l).2 w cf (by rw [sz_mk]; exact dw.1.2) dw.2 (by rw [sz_mk]; exact hpl.1) hpl.2
      (sizeN (cutL (minusL l).1).1 (cutL (minusL l).1).2.1) (by unfold sizeN; rw [near_of _ hpl.1]) (parN l).1 (parN l).2
      (fun h => by rw [hpar, if_pos h]; exact ⟨rfl, rfl⟩) (fun h => by rw [hpar, if_neg h]; exact ⟨rfl, rfl⟩)
    exact g
  · have hpar : parN s.data.toList = (0, 3) := by unfold parN; unfold okN at hok; rw [if_neg hok]
    rw [hpar]
    exact refParse_bad s w hs hok
end Go.Proofs.YtijjghlfamebaaaDoor
