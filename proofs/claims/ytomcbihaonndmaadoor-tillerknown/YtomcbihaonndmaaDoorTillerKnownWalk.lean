/- TillerKnown's walk: texts that are kept in frames under rows of tokens are found by the longest beginning, whole; one of which bits were turned is told. -/
import Derived.Test.YtomcbihaonndmaaDoorTKnown
namespace Go.Proofs.YtomcbihaonndmaaDoor
open Go.ChangeShapes Go.WideShapes Go.ChangeAt Go.RowKit Go.Maps
set_option maxRecDepth 8000 in
set_option maxHeartbeats 40000000 in
theorem tillerKnown_walk (a0 : Option Addr) (n0 c0 : Nat) (Z0 : GZ) (a1 : Option Addr) (n1 c1 : Nat) (S : Nat → ByteArray) (a2 : Option Addr) (n2 c2 : Nat) (Z2 : List Int) (p : Int) (bits_ : Int) (w : World)
    (G0 : GridI w a0 n0 Z0.A Z0.L Z0.C Z0.Z) (G1 : StrsAt w a1 n1 S) (G2 : IArg w a2 n2 c2 Z2) (pb : -9223372036854775808 ≤ p ∧ p ≤ 9223372036854775807) (bb : 0 ≤ bits_ ∧ bits_ ≤ 4294967295) (h : Env w) :
   Calls Tryd.prog 3 #[.slice a0 n0 c0, .slice a1 n1 c1, .slice a2 n2 c2, .int .i64 p, .int .u32 bits_] w fun e w' => e = .returned (.bool true) ∧ Below w.heap.size w w' := by
  have SM := sum_any ⟨#[49, 50, 51, 52, 53, 54, 55, 56, 57]⟩ w h.tab (by decide)
  rw [show (sumN (ByteArray.mk #[49, 50, 51, 52, 53, 54, 55, 56, 57]).data.toList : Nat) = 3421780262 from sum_9] at SM
  have T0 := ta_new w
  have B0 := below_alloc w (.cells #[.map none, .bool false, .int .i64 0, .int .i64 0] 31)
  have hm0 := G0.max
  have hm1 := G1.max
  go_enter Tryd.func3, Tryd.ntmps3
  go_wp2_with (go_at_call 4; refine SM.mono ?_; rintro e w9 ⟨rfl, hw⟩; replace hw := hw.symm; subst hw)
  clear SM
  have OF : FrAt ((w.alloc (.cells #[.map none, .bool false, .int .i64 0, .int .i64 0] 31)).alloc (.cells #[] 9)) w.heap.size (w.heap.size + 1) 0 0 S := by
    have e := heap_alloc_new (w.alloc (.cells #[.map none, .bool false, .int .i64 0, .int .i64 0] 31)) (.cells #[] 9)
    rw [show (w.alloc (.cells #[.map none, .bool false, .int .i64 0, .int .i64 0] 31)).heap.size = w.heap.size + 1 by simp] at e
    exact ⟨rfl, Or.inr ⟨w.heap.size + 1, 0, #[], rfl, by omega, e, Nat.le_refl _, by decide, rfl, rfl⟩⟩
  have T1 := T0.below (below_alloc _ (.cells #[] 9))
  have B1 := B0.alloc B0.size (.cells #[] 9)
  obtain ⟨w1, hw1⟩ : ∃ w1, w1 = (w.alloc (.cells #[.map none, .bool false, .int .i64 0, .int .i64 0] 31)).alloc (.cells #[] 9) := ⟨_, rfl⟩
  rw [← hw1] at OF T1 B1 ⊢
  clear hw1 T0 B0
  go_loopg [12, 13] (n0 + n1) (fun r s12 s13 wr => ∃ (i g cap : Nat), i ≤ n0 ∧ i ≤ n1 ∧ i ≤ 20 ∧ r = n0 + n1 - i ∧ s13 = .int .i64 (i : Int) ∧ s12 = .slice (some ⟨g, 0, none⟩) i cap ∧ FrAt wr w.heap.size g i cap S ∧ (i = 0 → cap = 0) ∧ (∃ vl c, c ≤ i ∧ TA wr w.heap.size w.heap.size vl (140 * i) c ∧ KV vl i) ∧ Below w.heap.size w wr)
  case atStart => exact ⟨0, _, 0, by omega, by omega, by omega, by omega, rfl, rfl, OF, fun _ => rfl, ⟨_, 0, by omega, T1, kv_none⟩, B1⟩
  case round =>
    clear T1 B1 OF
    obtain ⟨i, g, cap, hi, hi1, hi20, rfl, rfl, rfl, OF, hcap, ⟨vl, c, hc, TT, KK⟩, BB⟩ := hrel
    by_cases hgo : i < n0 ∧ i < n1 ∧ i < 20
    · obtain ⟨hl0, hl1, hl2⟩ := hgo
      obtain ⟨b, o, rfl, hcl⟩ := G0.cells (by omega)
      obtain ⟨h1, hI'⟩ := hcl i hl0
      obtain ⟨b1, o1, rfl, hcs⟩ := G1.cells (by omega)
      have h2 := hcs i hl1
      have hlt : b < w.heap.size := by simpa using World.block_lt_of_cell? w _ h1
      have hlt1 : b1 < w.heap.size := by simpa using World.block_lt_of_cell? w _ h2
      have HR : Hid (∀ W, Below w.heap.size w W → W.cell? ⟨b, o + i, none⟩ = some (.slice (Z0.A i) (Z0.L i) (Z0.C i))) := fun W hW => by rw [hW.cell (by exact hlt)]; exact h1
      have hLl := hI'.row.len
      have hLm := hI'.row.max
      have hs : Hid (∀ k, -9223372036854775808 ≤ el ((Z0.Z i).take 140) k ∧ el ((Z0.Z i).take 140) k ≤ 9223372036854775807) := hI'.take_small 140
      obtain ⟨Y, hY⟩ : ∃ Y, Y = (Z0.Z i).take 140 := ⟨_, rfl⟩
      obtain ⟨m, hm⟩ : ∃ m, m = Y.length := ⟨_, rfl⟩
      have hmL : m = min 140 (Z0.L i) := by rw [hm, hY, List.length_take, hLl]
      have FF : ∀ W, Below w.heap.size w W → Calls Tryd.prog 8 #[.slice (Z0.A i) (Z0.L i) (Z0.C i), .int .i64 140] W fun e w' => ∃ b c, e = .returned (.slice (some ⟨b, 0, none⟩) m c) ∧ IOwn w' W.heap.size (.slice (some ⟨b, 0, none⟩) m c) m Y ∧ Below W.heap.size W w' := fun W hW => by
        rw [hm, hY]; exact few8_any _ _ _ _ 140 W (hI'.below hW) (by omega)
      have HF : Hid _ := FF
      rw [← hY] at hs
      clear FF hY hI' hcl h1 hcs
      have k2 : wr.cell? ⟨b1, o1 + i, none⟩ = some (.string (S i)) := by rw [BB.cell (by exact hlt1)]; exact h2
      have C1 := cut_any (S i) 60 wr
      have ll := ct_len S i
      rw [show (S i).data.toList.take 60 = ct S i from rfl] at C1
      have P1 := pack_ok (txt (ct S i)) wr (h.next BB) (by rw [txt_size]; omega)
      rw [txt_list] at P1
      obtain ⟨X, hX0⟩ : ∃ X, X = txt (packL (ct S i)) := ⟨_, rfl⟩
      rw [← hX0] at P1
      have HX : Hid (X = txt (packL (ct S i))) := hX0
      obtain ⟨i0, hi0, hz0, hz1, hz2⟩ := info_parts Tryd.infoStr
      have FP : Hid (∀ (b2 cp : Nat) (w2 w3 : World), Below wr.heap.size wr w2 → Below w2.heap.size w2 w3 → IOwn w3 w2.heap.size (.slice (some ⟨b2, 0, none⟩) m cp) m Y → Calls Tryd.prog 7 #[.pointer (some ⟨w.heap.size, 0, none⟩), .slice (some ⟨b2, 0, none⟩) m cp, .int .i64 (i : Int)] w3 fun e w' => (∃ x, e = .returned (.tuple #[.bool x, .int .i64 (putE m)])) ∧ (∃ c', c' ≤ c + 1 ∧ TA w' w.heap.size w.heap.size (putV vl Y i) (140 * i + 140) c') ∧ Below w.heap.size w3 w' ∧ XKeep w3 w') :=
        fun b2 cp w2 w3 B2 B3 O2 => put_some_k cp b2 _ _ (i : Int) w3 _ _ _ _ _ ((TT.below B2).below B3) (O2.tk hs.out (by omega)) (fun h => O2.first hs.out h) (by omega) (by omega) (by omega)
      clear hX0 hs G0 G1 G2 TT hm h
      have hLm' : Z0.L i ≤ 9223372036854775807 := hLm
      clear hLm hLl
      generalize txt (ct S i) = V at *
      generalize Z0.A i = ad at *
      generalize Z0.L i = ln at *
      generalize Z0.C i = cp0 at *
      rcases (show ln = 0 ∨ (1 ≤ ln ∧ 128 < m) ∨ (1 ≤ ln ∧ 1 ≤ m ∧ m ≤ 128) by omega) with e0 | ⟨e1, e2⟩ | ⟨e1, e2, e3⟩
      · subst e0
        obtain rfl : m = 0 := by omega
        rw [putE_zero] at FP
        clear hmL
        go_wp2_with (first
          | (go_at_call 6; refine C1.mono ?_; rintro e w9 ⟨rfl, hw⟩; replace hw := hw.symm; subst hw)
          | (go_at_call 5; refine P1.mono ?_; rintro e w2 ⟨rfl, B2⟩; have BT2 := BB.trans (B2.mono BB.size); have cR := HR.out w2 BT2; have F := HF.out w2 BT2)
          | (go_at_call 8; refine F.mono ?_; rintro e w3 ⟨b2, cp, rfl, O2, B3⟩; clear F; have P := FP.out b2 cp w2 w3 B2 B3 O2; have O3 := (OF.below B2).below B3; have BT3 := BT2.trans (B3.mono BT2.size))
          | (go_at_call 7; refine P.mono ?_; rintro e w4 ⟨⟨x, rfl⟩, ⟨c', hc', T4⟩, B4, X4⟩; have O4 := O3.of_block (X4 g (O3.xblk hcap)); have BT4 := BT3.trans B4; have cR4 := HR.out w4 BT4; have F2 := HF.out w4 BT4; clear P; have T5 := T4; have O5 := O4; have BT5 := BT4; have O6 := O5.below (below_alloc w4 (.cells #[.string X] 9)); have hX := str_cell w4 X)
          | (at_builtin; refine wpList_append_own _ rfl _ _ 23 rfl w.heap.size 9 i0 (.string ⟨#[]⟩) 1 16 Tryd.underlying23 hi0 hz0 hz1 hz2 rfl (by decide) _ i _ rfl O6 ⟨w4.heap.size, 0, none⟩ 1 1 [.string X] (by simp [Act.eval]) rfl hX (str_one X) (by unfold maxLen; omega) (by omega) (by have := BT5.size; simp; omega) ?_; intro v7 w7 O7 G7 N7; obtain ⟨g7, c7, rfl⟩ := fr_some O7 (by omega)))
        have T6 := T5.below (below_alloc w4 (.cells #[.string X] 9))
        have T7 := T6.beside (O6.xblk hcap) (fun x hx hne => G7.block x hx (fun e => hne (by have e' : some x = some g := e; injection e')))
        have B6 := BT5.alloc BT5.size (.cells #[.string X] 9)
        have B7 := B6.grown G7 B6.size (fun k hk => by have e' : some g = some k := hk; injection e' with e'; have := O6.parts.1; omega)
        go_roundg (n0 + n1 - (i + 1))
        case measure => omega
        case rel => exact ⟨i + 1, g7, c7, by omega, by omega, by omega, rfl, by go_num, rfl, by rw [HX.out] at O7; unfold FrAt; rw [FrV_succ]; exact O7, fun h => by omega, ⟨_, c', by omega, T7.wider (by omega), KK.put Y⟩, B7⟩
      · rw [putE_big e2] at FP
        clear hmL
        go_wp2_with (first
          | (go_at_call 6; refine C1.mono ?_; rintro e w9 ⟨rfl, hw⟩; replace hw := hw.symm; subst hw)
          | (go_at_call 5; refine P1.mono ?_; rintro e w2 ⟨rfl, B2⟩; have BT2 := BB.trans (B2.mono BB.size); have cR := HR.out w2 BT2; have F := HF.out w2 BT2)
          | (go_at_call 8; refine F.mono ?_; rintro e w3 ⟨b2, cp, rfl, O2, B3⟩; clear F; have P := FP.out b2 cp w2 w3 B2 B3 O2; have O3 := (OF.below B2).below B3; have BT3 := BT2.trans (B3.mono BT2.size))
          | (go_at_call 7; refine P.mono ?_; rintro e w4 ⟨⟨x, rfl⟩, ⟨c', hc', T4⟩, B4, X4⟩; have O4 := O3.of_block (X4 g (O3.xblk hcap)); have BT4 := BT3.trans B4; have cR4 := HR.out w4 BT4; have F2 := HF.out w4 BT4; clear P)
          | (go_at_call 8; refine F2.mono ?_; rintro e w5 ⟨b5, cp5, rfl, O5', B5⟩; clear F2; have T5 := T4.below B5; have O5 := O4.below B5; have BT5 := BT4.trans (B5.mono BT4.size); have O6 := O5.below (below_alloc w5 (.cells #[.string X] 9)); have hX := str_cell w5 X)
          | (at_builtin; refine wpList_append_own _ rfl _ _ 23 rfl w.heap.size 9 i0 (.string ⟨#[]⟩) 1 16 Tryd.underlying23 hi0 hz0 hz1 hz2 rfl (by decide) _ i _ rfl O6 ⟨w5.heap.size, 0, none⟩ 1 1 [.string X] (by simp [Act.eval]) rfl hX (str_one X) (by unfold maxLen; omega) (by omega) (by have := BT5.size; simp; omega) ?_; intro v7 w7 O7 G7 N7; obtain ⟨g7, c7, rfl⟩ := fr_some O7 (by omega)))
        have T6 := T5.below (below_alloc w5 (.cells #[.string X] 9))
        have T7 := T6.beside (O6.xblk hcap) (fun x hx hne => G7.block x hx (fun e => hne (by have e' : some x = some g := e; injection e')))
        have B6 := BT5.alloc BT5.size (.cells #[.string X] 9)
        have B7 := B6.grown G7 B6.size (fun k hk => by have e' : some g = some k := hk; injection e' with e'; have := O6.parts.1; omega)
        go_roundg (n0 + n1 - (i + 1))
        case measure => omega
        case rel => exact ⟨i + 1, g7, c7, by omega, by omega, by omega, rfl, by go_num, rfl, by rw [HX.out] at O7; unfold FrAt; rw [FrV_succ]; exact O7, fun h => by omega, ⟨_, c', by omega, T7.wider (by omega), KK.put Y⟩, B7⟩
      · rw [putE_ok e2 e3] at FP
        have e5 : (m : Int) ≤ 128 := by omega
        clear hmL
        go_wp2_with (first
          | (go_at_call 6; refine C1.mono ?_; rintro e w9 ⟨rfl, hw⟩; replace hw := hw.symm; subst hw)
          | (go_at_call 5; refine P1.mono ?_; rintro e w2 ⟨rfl, B2⟩; have BT2 := BB.trans (B2.mono BB.size); have cR := HR.out w2 BT2; have F := HF.out w2 BT2)
          | (go_at_call 8; refine F.mono ?_; rintro e w3 ⟨b2, cp, rfl, O2, B3⟩; clear F; have P := FP.out b2 cp w2 w3 B2 B3 O2; have O3 := (OF.below B2).below B3; have BT3 := BT2.trans (B3.mono BT2.size))
          | (go_at_call 7; refine P.mono ?_; rintro e w4 ⟨⟨x, rfl⟩, ⟨c', hc', T4⟩, B4, X4⟩; have O4 := O3.of_block (X4 g (O3.xblk hcap)); have BT4 := BT3.trans B4; have cR4 := HR.out w4 BT4; have F2 := HF.out w4 BT4; clear P)
          | (go_at_call 8; refine F2.mono ?_; rintro e w5 ⟨b5, cp5, rfl, O5', B5⟩; clear F2; have T5 := T4.below B5; have O5 := O4.below B5; have BT5 := BT4.trans (B5.mono BT4.size); have O6 := O5.below (below_alloc w5 (.cells #[.string X] 9)); have hX := str_cell w5 X)
          | (at_builtin; refine wpList_append_own _ rfl _ _ 23 rfl w.heap.size 9 i0 (.string ⟨#[]⟩) 1 16 Tryd.underlying23 hi0 hz0 hz1 hz2 rfl (by decide) _ i _ rfl O6 ⟨w5.heap.size, 0, none⟩ 1 1 [.string X] (by simp [Act.eval]) rfl hX (str_one X) (by unfold maxLen; omega) (by omega) (by have := BT5.size; simp; omega) ?_; intro v7 w7 O7 G7 N7; obtain ⟨g7, c7, rfl⟩ := fr_some O7 (by omega)))
        have T6 := T5.below (below_alloc w5 (.cells #[.string X] 9))
        have T7 := T6.beside (O6.xblk hcap) (fun x hx hne => G7.block x hx (fun e => hne (by have e' : some x = some g := e; injection e')))
        have B6 := BT5.alloc BT5.size (.cells #[.string X] 9)
        have B7 := B6.grown G7 B6.size (fun k hk => by have e' : some g = some k := hk; injection e' with e'; have := O6.parts.1; omega)
        go_roundg (n0 + n1 - (i + 1))
        case measure => omega
        case rel => exact ⟨i + 1, g7, c7, by omega, by omega, by omega, rfl, by go_num, rfl, by rw [HX.out] at O7; unfold FrAt; rw [FrV_succ]; exact O7, fun h => by omega, ⟨_, c', by omega, T7.wider (by omega), KK.put Y⟩, B7⟩
    · have hx : n0 ≤ i ∨ (i < n0 ∧ n1 ≤ i) ∨ (i < n0 ∧ i < n1 ∧ 20 ≤ i) := by omega
      have F := few8_any _ _ _ _ 140 wr (G2.below BB) (by omega)
      have hs : Hid (∀ k, -9223372036854775808 ≤ el (Z2.take 140) k ∧ el (Z2.take 140) k ≤ 9223372036854775807) := G2.take_small 140
      have hZl : (Z2.take 140).length ≤ 140 := by rw [List.length_take]; omega
      have HT : Hid (TA wr w.heap.size w.heap.size vl (140 * i) c) := TT
      have HO : Hid (FrAt wr w.heap.size g i cap S) := OF
      have HK : Hid (KV vl i) := KK
      have HG1 : Hid (StrsAt w a1 n1 S) := G1
      have HE : Hid (Env w) := h
      have fitF := OF.parts.2.2
      clear G0 G2 TT OF KK G1 h hgo
      generalize (Z2.take 140) = Y at *
      obtain ⟨m, hm⟩ : ∃ m, m = Y.length := ⟨_, rfl⟩
      rw [← hm] at F hZl
      clear hm
      rcases hx with hx | ⟨hx, hx2⟩ | ⟨hx, hx2, hx3⟩ <;>
       (go_wp2_with (go_at_call 8; refine F.mono ?_; rintro e w2 ⟨b2, cp, rfl, O2, B2⟩)
        first | clear hx hx2 hx3 | clear hx hx2 | clear hx
        have TK := O2.tk hs.out (by omega)
        have fit : m ≤ cp ∧ cp ≤ 9223372036854775807 := by
          obtain ⟨ao, c', e', R⟩ := O2.arg hs.out
          injection e' with e1 e2 e3
          subst e3
          exact ⟨R.fit, R.max⟩
        obtain ⟨fit1, fit2⟩ := fit
        have T2 := HT.out.below B2
        have BT := BB.trans (B2.mono BB.size)
        have OF := HO.out.below B2
        have LG := longest_any _ m cp Y w2 _ _ _ _ _ T2 TK
        have hbd := lgN_bd vl Y m
        clear F HT O2 B2 hs BB HO
        by_cases hz : (lgN vl Y m).1 = 0
        · have z2 := lgN_zero vl Y m hz
          rw [hz, z2] at LG
          clear hz z2 hbd
          go_wp2_with (go_at_call 9; refine LG.mono ?_; rintro e w5 ⟨rfl, mm, hw⟩; subst hw)
          go_ret
          exact ⟨rfl, below_drewN BT mm⟩
        · have hv := lgN_some vl Y m hz
          obtain ⟨n', hn'⟩ : ∃ n', n' = (lgN vl Y m).1 := ⟨_, rfl⟩
          obtain ⟨j, hj, hjv⟩ := HK.out _ _ hv
          rw [hjv, ← hn'] at LG hv
          rw [← hn'] at hz hbd
          clear hn' hjv HK
          have GG : Hid (∀ mm, Calls Tryd.prog 10 #[.pointer (some ⟨w.heap.size, 0, none⟩), .slice (some ⟨b2, 0, none⟩) n' cp] (w2.drewN mm) fun e w' => e = .returned (.tuple #[.int .i64 (j : Int), .bool true]) ∧ w' = w2.drewN mm) := fun mm => by
            have bd := below_drewN (Below.refl w2.heap.size w2) mm
            have G := get_any _ n' cp _ (w2.drewN mm) _ _ _ _ _ (T2.below bd) ((TK.below bd).take hbd)
            rw [hv] at G
            exact G
          have CF : Hid (∀ mm, (w2.drewN mm).cell? ⟨g, j, none⟩ = some (.string (txt (packL (ct S j))))) := fun mm => (OF.below (below_drewN (Below.refl _ _) mm)).get j hj
          have FB : Hid (∀ mm w6, Below (w2.drewN mm).heap.size (w2.drewN mm) w6 → w6.cell? ⟨g, j, none⟩ = some (.string (txt (packL (ct S j))))) := fun mm w6 B6 => ((OF.below (below_drewN (Below.refl _ _) mm)).below B6).get j hj
          have CC : Hid (∀ W, Calls Tryd.prog 6 #[.string (S j), .int .i64 60] W fun e w' => e = .returned (.string (txt (ct S j))) ∧ w' = W) := fun W => cut_any (S j) 60 W
          have ll := ct_len S j
          have CS' : ∃ b1 o1, a1 = some ⟨b1, o1, none⟩ ∧ ∀ W, Below w.heap.size w W → W.cell? ⟨b1, o1 + j, none⟩ = some (.string (S j)) := by
            obtain ⟨b1, o1, e1, hc1⟩ := HG1.out.cells (by omega)
            have h2 := hc1 j (by omega)
            have hlt1 : b1 < w.heap.size := by simpa using World.block_lt_of_cell? w _ h2
            exact ⟨b1, o1, e1, fun W hW => by rw [hW.cell (by exact hlt1)]; exact h2⟩
          obtain ⟨b1, o1, rfl, CS0⟩ := CS'
          have CS : Hid (∀ W, Below w.heap.size w W → W.cell? ⟨b1, o1 + j, none⟩ = some (.string (S j))) := CS0
          obtain ⟨l, hl⟩ : ∃ l, l = ct S j := ⟨_, rfl⟩
          rw [← hl] at CF FB CC ll
          obtain ⟨X, hX⟩ : ∃ X, X = txt (packL l) := ⟨_, rfl⟩
          have zX : X.size = l.length + 10 := by rw [hX, txt_size, packL_length]
          rw [← hX] at CF FB
          have UU : Hid (∀ mm, Calls Tryd.prog 11 #[.string X] (w2.drewN mm) fun e w' => e = .returned (.tuple #[.string (txt l), .nilIface]) ∧ Below (w2.drewN mm).heap.size (w2.drewN mm) w') := fun mm => by
            have U := unpack_any X (w2.drewN mm) (HE.out.next (below_drewN BT mm)) (by omega)
            unfold UnR at U
            rw [show X.data.toList = packL l by rw [hX, txt_list], show unE (packL l) = .nilIface by unfold unE; rw [flt_pack l (by omega)], un_pack l (by omega)] at U
            exact U
          obtain ⟨V, hV⟩ : ∃ V, V = txt l := ⟨_, rfl⟩
          rw [← hV] at UU CC
          have SS := txt_same V
          have HX : Hid (X = txt (packL l)) := hX
          clear hX hV hl CS0 hv T2 TK HG1 OF
          by_cases c0 : p < 0
          · skip
            go_wp2_with (first
              | (go_at_call 9; refine LG.mono ?_; rintro e w5 ⟨rfl, mm, hw⟩; subst hw; clear LG; have U := UU.out mm; have G := GG.out mm; have fc := CF.out mm)
              | (go_at_call 10; refine G.mono ?_; rintro e w9 ⟨rfl, hw⟩; replace hw := hw.symm; subst hw; clear G)
              | (go_at_call 11; refine U.mono ?_; rintro e w6 ⟨rfl, B6⟩; clear U; have BT6 := below_then (below_drewN BT mm) B6; have cT := CS.out w6 BT6; have C1 := CC.out w6; have fc6 := FB.out mm w6 B6)
              | (go_at_call 6; refine C1.mono ?_; rintro e w9 ⟨rfl, hw⟩; replace hw := hw.symm; subst hw))
            go_ret
            exact ⟨rfl, BT6⟩
          obtain ⟨t, rfl⟩ : ∃ t : Nat, p = (t : Int) := ⟨p.toNat, by omega⟩
          obtain ⟨x, rfl⟩ : ∃ x : Nat, bits_ = (x : Int) := ⟨bits_.toNat, by omega⟩
          obtain ⟨N, hN⟩ : ∃ N, N = l.length + 10 := ⟨_, rfl⟩
          rw [← hN] at zX
          have HN : Hid (N = l.length + 10) := hN
          have hNb : N ≤ 70 := by omega
          have hNa : 10 ≤ N := by omega
          clear hN
          by_cases c1 : 8 * N ≤ t + 31
          · skip
            go_wp2_with (first
              | (go_at_call 9; refine LG.mono ?_; rintro e w5 ⟨rfl, mm, hw⟩; subst hw; clear LG; have U := UU.out mm; have G := GG.out mm; have fc := CF.out mm)
              | (go_at_call 10; refine G.mono ?_; rintro e w9 ⟨rfl, hw⟩; replace hw := hw.symm; subst hw; clear G)
              | (go_at_call 11; refine U.mono ?_; rintro e w6 ⟨rfl, B6⟩; clear U; have BT6 := below_then (below_drewN BT mm) B6; have cT := CS.out w6 BT6; have C1 := CC.out w6; have fc6 := FB.out mm w6 B6)
              | (go_at_call 6; refine C1.mono ?_; rintro e w9 ⟨rfl, hw⟩; replace hw := hw.symm; subst hw))
            go_ret
            exact ⟨rfl, BT6⟩
          by_cases c2 : x = 0
          · have c3 : (x : Int) = 0 := by omega
            clear c2
            go_wp2_with (first
              | (go_at_call 9; refine LG.mono ?_; rintro e w5 ⟨rfl, mm, hw⟩; subst hw; clear LG; have U := UU.out mm; have G := GG.out mm; have fc := CF.out mm)
              | (go_at_call 10; refine G.mono ?_; rintro e w9 ⟨rfl, hw⟩; replace hw := hw.symm; subst hw; clear G)
              | (go_at_call 11; refine U.mono ?_; rintro e w6 ⟨rfl, B6⟩; clear U; have BT6 := below_then (below_drewN BT mm) B6; have cT := CS.out w6 BT6; have C1 := CC.out w6; have fc6 := FB.out mm w6 B6)
              | (go_at_call 6; refine C1.mono ?_; rintro e w9 ⟨rfl, hw⟩; replace hw := hw.symm; subst hw))
            go_ret
            exact ⟨rfl, BT6⟩
          have c4 : ¬ (x : Int) = 0 := by omega
          have c5 : ((x : Int) == 0) = false := by simpa using c4
          have c6 : (t : Int) < 8 * (N : Int) - 31 := by omega
          have CX := conv_bytes X
          have BS := fun W => bytesWorld_size W 5 X
          rw [zX] at CX
          go_wp2_with (first
            | (go_at_call 9; refine LG.mono ?_; rintro e w5 ⟨rfl, mm, hw⟩; subst hw; clear LG; have U := UU.out mm; have G := GG.out mm; have fc := CF.out mm)
            | (go_at_call 10; refine G.mono ?_; rintro e w9 ⟨rfl, hw⟩; replace hw := hw.symm; subst hw; clear G)
            | (go_at_call 11; refine U.mono ?_; rintro e w6 ⟨rfl, B6⟩; clear U; have BT6 := below_then (below_drewN BT mm) B6; have cT := CS.out w6 BT6; have C1 := CC.out w6; have fc6 := FB.out mm w6 B6)
            | (go_at_call 6; refine C1.mono ?_; rintro e w9 ⟨rfl, hw⟩; replace hw := hw.symm; subst hw))
          have V6 := HE.out.next BT6
          have BX : Below w.heap.size w (Lib.bytesWorld w6 5 X) := bytes_below BT6 BT6.size X
          have Y0 : Byt (Lib.bytesWorld w6 5 X) w.heap.size w6.heap.size N (packL l) := by rw [HX.out]; exact bytC w6 (packL l) _ _ _ rfl (by rw [packL_length, HN.out]) BT6.size
          obtain ⟨gb, hgb⟩ : ∃ g, g = w6.heap.size := ⟨_, rfl⟩
          obtain ⟨cg, hcg⟩ : ∃ c, c = grownCap w6 N 0 5 := ⟨_, rfl⟩
          rw [← hcg, ← hgb]
          rw [← hgb] at Y0
          have hx32 : x < 4294967296 := by omega
          have hx0 : x ≠ 0 := c2
          have htN : t + 31 < 8 * N := by omega
          clear hgb hcg CX BS c1 c2 c4 c5 c6 cT C1 fc fc6 FB CF CC GG UU CS
          go_loopg [25] 32 (fun r s25 wr => ∃ (k : Nat) (L : List UInt8), k ≤ 32 ∧ r = 32 - k ∧ s25 = .int .i64 (k : Int) ∧ numL L = numL (packL l) ^^^ 2 ^ t * (x % 2 ^ k) ∧ Byt wr w.heap.size gb N L ∧ Below w.heap.size w wr)
          case atStart => exact ⟨0, packL l, by omega, by omega, rfl, by simp [Nat.mod_one], Y0, BX⟩
          case round =>
            clear Y0 BX
            obtain ⟨k, L, hk, rfl, rfl, hn, YL, BB⟩ := hrel
            have hL := YL.len
            by_cases hlt : k < 32
            · have eq := tmod_x x k
              obtain ⟨q, hq⟩ : ∃ q, q = x / 2 ^ k := ⟨_, rfl⟩
              rw [← hq] at eq
              have hj : (t + k) / 8 < N := by omega
              have hr8 : (t + k) % 8 < 8 := by omega
              have cc : ∀ p : Nxt wr, p.to.cell? ⟨gb, (t + k) / 8, none⟩ = some (.int .u8 ((L.getD ((t + k) / 8) 0).toNat : Int)) := fun p => (YL.below p.ok).cell _ hj
              have ej : ((t : Int) + (k : Int)).tdiv 8 = (((t + k) / 8 : Nat) : Int) := by rw [Int.tdiv_eq_ediv_of_nonneg (by omega)]; omega
              have er : ((t : Int) + (k : Int)).tmod 8 = (((t + k) % 8 : Nat) : Int) := by rw [Int.tmod_eq_emod_of_nonneg (by omega)]; omega
              have ej2 : ((t : Int) + (k : Int)) / 8 = (((t + k) / 8 : Nat) : Int) := by omega
              have er2 : ((t : Int) + (k : Int)) % 8 = (((t + k) % 8 : Nat) : Int) := by omega
              by_cases c1 : q % 2 = 1
              · skip
                have HF2 : Hid (numL (L.set ((t + k) / 8) (L.getD ((t + k) / 8) 0 ^^^ oneB ((t + k) % 8))) = _) := flip_on (packL l) L t k _ _ hn (mod_xor x k (by rw [← hq]; exact c1)) (by omega)
                have e1 := bits_xor_u8_nat (L.getD ((t + k) / 8) 0) (oneB ((t + k) % 8))
                have SV : IntKind.u8.wrap ((2 : Int) ^ ((t + k) % 8)) = ((oneB ((t + k) % 8)).toNat : Int) := wrap_one _ hr8
                have eb : ((x : Int) / 2 ^ k).tmod 2 = 1 := by rw [eq, c1]; rfl
                have HS : Hid (∀ w', Byt w' w.heap.size gb N L → Byt (w'.setCell ⟨gb, (t + k) / 8, none⟩ (.int .u8 ((L.getD ((t + k) / 8) 0 ^^^ oneB ((t + k) % 8)).toNat : Int))) w.heap.size gb N (L.set ((t + k) / 8) (L.getD ((t + k) / 8) 0 ^^^ oneB ((t + k) % 8)))) := fun w' h => h.set _ hj _
                have HC : Hid (∀ w', Byt w' w.heap.size gb N L → w'.cell? ⟨gb, (t + k) / 8, none⟩ = some (.int .u8 ((L.getD ((t + k) / 8) 0).toNat : Int)) ∧ w'.frozen? ⟨gb, (t + k) / 8, none⟩ = false) := fun w' h => ⟨h.cell _ hj, h.free _ hj⟩
                clear hn hq eq
                generalize L.getD ((t + k) / 8) 0 = y at *
                generalize oneB ((t + k) % 8) = z at *
                generalize (t + k) / 8 = j8 at *
                generalize (t + k) % 8 = r8 at *
                have wj : IntKind.i64.wrap (j8 : Int) = (j8 : Int) := wrap_small j8 (by omega)
                go_wp2_with fail
                haveI := nxt_ne wr
                refine wp_region_last_lit (by kernel_rfl) (List.cons_ne_nil _ _) (by kernel_rfl) (by kernel_rfl) (by kernel_rfl) (by kernel_rfl) (by kernel_rfl) ?_
                intro l' z' hl' hz'
                simp only [List.dropLast_cons_cons, List.dropLast_singleton] at hl'
                simp only [List.getLast_cons_cons, List.getLast_singleton] at hz'
                subst hl' hz'
                repeat (first | go_big_quiet_skip | (go_big_quiet_want; go_big_quiet_op; go_big_quiet_on))
                refine wpQuiet_nil ?_
                intro _ hw'
                obtain ⟨⟨w3, B3⟩, hw''⟩ := hw'
                subst hw''
                have Y3 := YL.below B3
                obtain ⟨fc, ff⟩ := HC.out _ Y3
                have Y4 := HS.out _ Y3
                have D4 := (below_then BB B3).setCell (p := ⟨gb, j8, none⟩) YL.base (.int .u8 ((y ^^^ z).toNat : Int))
                clear cc YL BB B3 Y3 HS HC
                go_wp2_with fail
                go_roundg (32 - (k + 1))
                case measure => omega
                case rel => exact ⟨k + 1, L.set j8 (y ^^^ z), by omega, rfl, by go_num, HF2.out, Y4, D4⟩
              · skip
                have HF2 : Hid (numL (L.set ((t + k) / 8) (L.getD ((t + k) / 8) 0)) = numL (packL l) ^^^ 2 ^ t * (x % 2 ^ (k + 1))) := by
                  show _ = _
                  rw [mod_same x k (by rw [← hq]; exact c1), ← hn]
                  rw [set_self]
                have e1 := bits_xor_u8_nat (L.getD ((t + k) / 8) 0) 0
                rw [UInt8.xor_zero, show (((0 : UInt8).toNat : Nat) : Int) = 0 from rfl] at e1
                have eb : ((x : Int) / 2 ^ k).tmod 2 = 0 := by rw [eq, show q % 2 = 0 by omega]; rfl
                have HS : Hid (∀ w', Byt w' w.heap.size gb N L → Byt (w'.setCell ⟨gb, (t + k) / 8, none⟩ (.int .u8 ((L.getD ((t + k) / 8) 0).toNat : Int))) w.heap.size gb N (L.set ((t + k) / 8) (L.getD ((t + k) / 8) 0))) := fun w' h => h.set _ hj _
                have HC : Hid (∀ w', Byt w' w.heap.size gb N L → w'.cell? ⟨gb, (t + k) / 8, none⟩ = some (.int .u8 ((L.getD ((t + k) / 8) 0).toNat : Int)) ∧ w'.frozen? ⟨gb, (t + k) / 8, none⟩ = false) := fun w' h => ⟨h.cell _ hj, h.free _ hj⟩
                clear hn hq eq
                generalize L.getD ((t + k) / 8) 0 = y at *
                generalize (t + k) / 8 = j8 at *
                generalize (t + k) % 8 = r8 at *
                have wj : IntKind.i64.wrap (j8 : Int) = (j8 : Int) := wrap_small j8 (by omega)
                go_wp2_with fail
                haveI := nxt_ne wr
                refine wp_region_last_lit (by kernel_rfl) (List.cons_ne_nil _ _) (by kernel_rfl) (by kernel_rfl) (by kernel_rfl) (by kernel_rfl) (by kernel_rfl) ?_
                intro l' z' hl' hz'
                simp only [List.dropLast_cons_cons, List.dropLast_singleton] at hl'
                simp only [List.getLast_cons_cons, List.getLast_singleton] at hz'
                subst hl' hz'
                repeat (first | go_big_quiet_skip | (go_big_quiet_want; go_big_quiet_op; go_big_quiet_on))
                refine wpQuiet_nil ?_
                intro _ hw'
                obtain ⟨⟨w3, B3⟩, hw''⟩ := hw'
                subst hw''
                have Y3 := YL.below B3
                obtain ⟨fc, ff⟩ := HC.out _ Y3
                have Y4 := HS.out _ Y3
                have D4 := (below_then BB B3).setCell (p := ⟨gb, j8, none⟩) YL.base (.int .u8 (y.toNat : Int))
                clear cc YL BB B3 Y3 HS HC
                go_wp2_with fail
                go_roundg (32 - (k + 1))
                case measure => omega
                case rel => exact ⟨k + 1, L.set j8 y, by omega, rfl, by go_num, HF2.out, Y4, D4⟩
            · obtain rfl : k = 32 := by omega
              have TX := YL.text cg
              have V3 := HE.out.next BB
              rw [Nat.mod_eq_of_lt (by omega)] at hn
              have Lb : L.length = (packL l).length := by rw [hL, HN.out, packL_length]
              have tl : t ≤ 8 * (packL l).length := by rw [packL_length, ← HN.out]; omega
              obtain ⟨Z, hZ⟩ : ∃ Z, Z = txt L := ⟨_, rfl⟩
              have zZ : Z.size = N := by rw [hZ, txt_size, hL]
              have U1 := unpack_any Z wr V3 (by omega)
              unfold UnR at U1
              rw [show Z.data.toList = L by rw [hZ, txt_list]] at U1
              rw [← hZ] at TX
              have hb := burst_told (packL l) L t _ (flt_pack l (by have := HN.out; omega)) Lb hn tl hx32 hx0
              obtain ⟨⟨fp, fn⟩, hf⟩ := Option.ne_none_iff_exists'.1 hb
              rw [show unE L = eF fp fn by unfold unE; rw [hf], show unT L = [] by unfold unT; rw [hf], show txt [] = ⟨#[]⟩ from rfl] at U1
              clear hn YL Lb tl hL hb hf hZ
              go_wp2_with (go_at_call 11; refine U1.mono ?_; rintro e w7 ⟨rfl, B7⟩)
              go_ret
              exact ⟨rfl, below_then BB B7⟩)
end Go.Proofs.YtomcbihaonndmaaDoor
