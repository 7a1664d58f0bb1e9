/- PoolRow: pages that nobody needs go in the order in which they came to be so. -/
import Derived.Test.YtfkmmjfahdpfcaaPRowM
import Derived.Deep.CutRange
import Derived.Deep.CutBlock
namespace Go.Proofs.Ytfkmmjfahdpfcaa
open Go.ChangeShapes Go.WideShapes Go.ChangeAt Go.RowKit
set_option maxHeartbeats 16000000 in
set_option maxRecDepth 100000 in
theorem poolRow_walk (x : Int) (ao : Option Addr) (m cap : Nat) (Z : Nat → Int) (av : Int) (w : World) (hx : -9223372036854775808 ≤ x ∧ x ≤ 9223372036854775807) (hZ : PRow w ao m Z) (hav : -9223372036854775808 ≤ av ∧ av ≤ 9223372036854775807) :
   Calls Try.prog 6 #[.int .i64 x, .slice ao m cap, .int .i64 av] w fun e w' => e = .returned (.bool true) ∧ Below w.heap.size w w' := by
  have A := pawake_any w
  by_cases h0 : x < 1
  · go_enter Try.func6, Try.ntmps6
    go_wp2_with (go_at_call 9; refine A.mono ?_; rintro e w1 ⟨rfl, B1⟩)
    go_ret
    exact ⟨rfl, B1⟩
  by_cases h1 : 20 < x
  · go_enter Try.func6, Try.ntmps6
    go_wp2_with (go_at_call 9; refine A.mono ?_; rintro e w1 ⟨rfl, B1⟩)
    go_ret
    exact ⟨rfl, B1⟩
  obtain ⟨n, rfl⟩ : ∃ n : Nat, x = n := ⟨x.toNat, by omega⟩
  have hn1 : 1 ≤ n := by omega
  have hn2 : n ≤ 20 := by omega
  have C := pnew_any n w hn1 (by omega)
  clear A hx
  have HZ : Hid _ := hZ
  have hmx := hZ.max
  clear hZ
  go_enter Try.func6, Try.ntmps6
  go_wp2_with (go_at_call 8; refine C.mono ?_; rintro e w1 ⟨rfl, p1, B1⟩; clear C)
  have i1 : In w1 w.heap.size (U n 0) := by rw [U_zero]; exact ⟨p1, wf_new n, by simp; omega⟩
  clear p1
  go_loopg [9] n (fun gg s9 wr => ∃ k : Nat, k ≤ n ∧ gg = n - k ∧ s9 = .int .i64 (k : Int) ∧ In wr w.heap.size (U n k) ∧ Below w.heap.size w wr)
  case atStart => exact ⟨0, by omega, by omega, rfl, i1, B1⟩
  case round =>
    obtain ⟨k, hk, rfl, rfl, hI, hB⟩ := hrel
    clear i1 B1
    by_cases hlt : k < n
    · have C2 := take_step w.heap.size _ wr hI
      rw [U_take hlt] at C2
      have C3 := fun v (h : In v w.heap.size ⟨(U n k).L.set k one, []⟩) => seal_step w.heap.size (k : Int) (100 + (k : Int)) _ v h (by omega)
      rw [U_seal hlt] at C3
      go_wp2_with first
        | (go_at_call 12; refine C2.mono ?_; rintro e w5 ⟨rfl, hI5, T5⟩)
        | (go_at_call 14; refine (C3 _ hI5).mono ?_; rintro e w6 ⟨rfl, hI6, T6⟩)
      go_roundg (n - (k + 1))
      case measure => omega
      case rel => exact ⟨k + 1, by omega, rfl, by go_num, hI6, (hB.trans T5.below).trans T6.below⟩
    · obtain rfl : k = n := by omega
      rw [U_done] at hI
      have hA := ap_new hI
      have B2 : Below wr.heap.size wr (wr.alloc (.cells #[] 3)) := (Below.refl _ _).alloc (Nat.le_refl _) _
      have hI2 := hI.below B2
      have hB2 := hB.trans (B2.mono hB.size)
      generalize hw2 : wr.alloc (.cells #[] 3) = w2 at *
      clear hlt hn1
      go_upto_block 2 with fail
      go_cut [14, 15] from 75 (fun s14 _ wc => ∃ (ao1 : Option Addr) (c1 : Nat) (A : List Nat), s14 = .slice ao1 A.length c1 ∧ In wc w.heap.size (V k [] A) ∧ Ap wc w.heap.size (.slice ao1 A.length c1) A ∧ Below w.heap.size w wc)
      case first =>
        go_wp2_with fail
        go_loopg [14, 15] (min m 60) (fun gg s14 s15 wc => ∃ (i : Nat) (ao1 : Option Addr) (c1 : Nat) (A : List Nat), i ≤ min m 60 ∧ gg = min m 60 - i ∧ s15 = .int .i64 (i : Int) ∧ s14 = .slice ao1 A.length c1 ∧ In wc w.heap.size (V k [] A) ∧ Ap wc w.heap.size (.slice ao1 A.length c1) A ∧ Below w.heap.size w wc)
        case atStart => exact ⟨0, _, _, [], by omega, by omega, rfl, rfl, hI2, hA, hB2⟩
        case round =>
          obtain ⟨i, ao1, c1, A, hi, rfl, rfl, rfl, hI, hA, hB⟩ := hrel
          clear hI2 hB2 hw2 B2
          have hAl : A.length ≤ 64 := hI.few2
          by_cases hlt : i < min m 60
          · have hm1 : (i : Int) < (m : Int) := by omega
            have hm2 : (i : Int) < 60 := by omega
            obtain ⟨bz, oz, rfl, hz⟩ := HZ.out.cells (by omega)
            have z0 := hz i (by omega)
            have b1 := HZ.out.small i
            have hbz := World.block_lt_of_cell? w _ z0
            have HC : Hid (∀ v, Below w.heap.size w v → v.cell? ⟨bz, oz + i, none⟩ = some (.int .i64 (Z i))) := fun v hv => by rw [hv.cell (by exact hbz)]; exact z0
            have z1 := HC.out _ hB
            clear hz z0
            have hcase : (Z i < 0 ∨ (k : Int) ≤ Z i ∨ ∃ j : Nat, Z i = j ∧ j < k ∧ j ∈ A) ∨ ∃ j : Nat, Z i = j ∧ j < k ∧ j ∉ A := by
              by_cases e1 : Z i < 0
              · exact Or.inl (Or.inl e1)
              by_cases e2 : (k : Int) ≤ Z i
              · exact Or.inl (Or.inr (Or.inl e2))
              obtain ⟨j, hj⟩ : ∃ j : Nat, Z i = j := ⟨(Z i).toNat, by omega⟩
              by_cases e3 : j ∈ A
              · exact Or.inl (Or.inr (Or.inr ⟨j, hj, by omega, e3⟩))
              · exact Or.inr ⟨j, hj, by omega, e3⟩
            generalize Z i = zi at *
            have C2 := drop_step w.heap.size zi _ _ hI b1
            rcases hcase with hno | ⟨j, rfl, hj, hjA⟩
            · rw [V_drop_not hno] at C2
              clear hno
              go_wp2_with (go_at_call 15; refine C2.mono ?_; rintro e w5 ⟨rfl, hI5, T5⟩)
              go_roundg (min m 60 - (i + 1))
              case measure => omega
              case rel => exact ⟨i + 1, _, _, A, by omega, rfl, by go_num, rfl, hI5, hA.turns T5, hB.trans T5.below⟩
            · rw [V_drop hj hjA] at C2
              clear b1
              go_wp2_with first
                | (go_at_call 15; refine C2.mono ?_; rintro e w5 ⟨rfl, hI5, T5⟩; have b5 := hB.trans T5.below; have z2 := HC.out _ b5; have a5 := hA.turns T5; have B6 : Below w5.heap.size w5 (w5.alloc (.cells #[.int .i64 (j : Int)] 3)) := (Below.refl _ _).alloc (Nat.le_refl _) _; have i6 := hI5.below B6; have a6 := a5.below B6 hI5.lt; have c6 := (blk_new w5 3 #[.int .i64 (j : Int)]).cell 0 (v := .int .i64 (j : Int)) rfl; have b6 := b5.trans (B6.mono b5.size))
                | (at_builtin; refine wpList_append_ap rfl _ _ rfl w.heap.size _ _ A j w5.heap.size rfl rfl c6 i6 a6 (by omega) ?_; intro ao2 c2 w7 i7 a7 G7 N7)
              go_roundg (min m 60 - (i + 1))
              case measure => omega
              case rel =>
                have e9 : (A ++ [j]).length = A.length + 1 := by simp
                refine ⟨i + 1, ao2, c2, A ++ [j], by omega, rfl, by go_num, by rw [e9], i7, by rw [e9]; exact a7, ?_⟩
                exact b6.grown G7 b6.size (fun g hg => by have := (a6.row.lt g hg).1; omega)
          · obtain rfl : i = min m 60 := by omega
            by_cases hm3 : ((min m 60 : Nat) : Int) < (m : Int)
            · have hm4 : ¬ ((min m 60 : Nat) : Int) < 60 := by omega
              generalize min m 60 = i at *
              go_wp2_with fail
              go_meet
              case rel => exact ⟨ao1, c1, A, rfl, hI, hA, hB⟩
            · generalize min m 60 = i at *
              go_wp2_with fail
              go_meet
              case rel => exact ⟨ao1, c1, A, rfl, hI, hA, hB⟩
      case rest =>
        obtain ⟨ao1, c1, A, rfl, hI, hA, hB⟩ := hcut
        clear hI2 hB2 hw2 B2 HZ
        have hAl : A.length ≤ 64 := hI.few2
        have C1 := refs_any w.heap.size av _ _ _ hI.at' hav
        have C2 := fun v (h : In v w.heap.size (V k [] A)) => hold_step w.heap.size av _ v h hav
        by_cases hout : av < 0 ∨ (k : Int) ≤ av
        · have er : (atN (V k [] A).L av).r = 0 := by rw [V_at_out A hout]; rfl
          rw [er] at C1
          rw [V_hold_not hout] at C2
          simp only [Int.natCast_zero] at C1
          clear er hout
          go_upto_block 6 with first
            | (go_at_call 20; refine C1.mono ?_; rintro e w5 ⟨rfl, B5⟩; have hA := hA.below B5 hI.lt; have hI := hI.below B5; have hB := hB.trans (B5.mono hB.size))
            | (go_at_call 13; refine (C2 _ hI).mono ?_; rintro e w6 ⟨rfl, hI, T6⟩; have hA := hA.turns T6; have hB := hB.trans T6.below)
          clear C1 C2
          go_wp2_with fail
          go_loopg [136] A.length (fun gg s136 wr => ∃ (q : Nat) (T : List Nat), q ≤ A.length ∧ gg = A.length - q ∧ s136 = .int .i64 (q : Int) ∧ In wr w.heap.size (V k T (A.drop q)) ∧ Ap wr w.heap.size (.slice ao1 A.length c1) A ∧ Below w.heap.size w wr)
          case atStart => exact ⟨0, [], by omega, by omega, rfl, hI, hA, hB⟩
          case round =>
            obtain ⟨q, T, hq, rfl, rfl, hI', hA', hB'⟩ := hrel
            clear hI hA hB
            by_cases hlt : q < A.length
            · rcases hA'.row.cases with ⟨h0, h00⟩ | ⟨g, cap, cs, h0, _⟩
              · rw [h00] at hlt; simp at hlt
              simp only [Value.slice.injEq] at h0
              obtain ⟨rfl, _, rfl⟩ := h0
              have cc := hA'.row.cell hlt
              have hd : A.drop q = A.getD q 0 :: A.drop (q + 1) := by rw [← getD_get hlt]; exact List.drop_eq_getElem_cons hlt
              rw [hd] at hI'
              have hbd := ((hI'.wf.mem (A.getD q 0)).1 (by simp [V])).1
              rw [V_len] at hbd
              have C2 := take_step w.heap.size _ _ hI'
              rw [V_take hI'.wf] at C2
              generalize A.getD q 0 = z at *
              have hz1 : (z : Int) < 20 := by omega
              clear hd hI'
              go_wp2_with (go_at_call 12; refine C2.mono ?_; rintro e w5 ⟨rfl, hI5, T5⟩)
              go_roundg (A.length - (q + 1))
              case measure => omega
              case rel => exact ⟨q + 1, _, by omega, rfl, by go_num, hI5, hA'.turns T5, hB'.trans T5.below⟩
            · obtain rfl : q = A.length := by omega
              rw [List.drop_length] at hI'
              obtain ⟨q1, q2⟩ := V_full k T
              have C2 := take_step w.heap.size _ _ hI'
              rw [q1, q2] at C2
              clear q1 q2
              generalize (takeR (V k T [])).k = kk at *
              generalize (takeR (V k T [])).i = ki at *
              generalize (takeR (V k T [])).did = kd at *
              go_wp2_with first
                | (go_at_call 9; refine (pawake_any _).mono ?_; rintro e w7 ⟨rfl, B7⟩)
                | (go_at_call 12; refine C2.mono ?_; rintro e w5 ⟨rfl, hI5, T5⟩)
              go_ret
              have b5 := hB'.trans T5.below
              exact ⟨rfl, b5.trans (B7.mono b5.size)⟩
        · obtain ⟨a, rfl⟩ : ∃ a : Nat, av = a := ⟨av.toNat, by omega⟩
          have hak : a < k := by omega
          by_cases haA : a ∈ A
          · have er : (atN (V k [] A).L a).r = 0 := by rw [V_at A hak, if_pos haA]; rfl
            rw [er] at C1
            rw [V_hold hak haA] at C2
            have C3 := fun v (h : In v w.heap.size (V k [] (less A a))) => drop_step w.heap.size (a : Int) _ v h hav
            rw [V_drop hak (less_not A a)] at C3
            simp only [Int.natCast_zero] at C1
            clear er hout
            rcases hA.row.cases with ⟨_, h00⟩ | ⟨g, cp, cs, h0, _⟩
            · rw [h00] at haA; simp at haA
            simp only [Value.slice.injEq] at h0
            obtain ⟨rfl, _, rfl⟩ := h0
            go_upto_block 4 with first
              | (go_at_call 20; refine C1.mono ?_; rintro e w5 ⟨rfl, B5⟩; have hA := hA.below B5 hI.lt; have hI := hI.below B5; have hB := hB.trans (B5.mono hB.size))
              | (go_at_call 13; refine (C2 _ hI).mono ?_; rintro e w6 ⟨rfl, hI6, T6⟩; have hA := hA.turns T6; have hB := hB.trans T6.below)
              | (go_at_call 15; refine (C3 _ hI6).mono ?_; rintro e w7 ⟨rfl, hI7, T7⟩; have hA7 := hA.turns T7; have hB7 := hB.trans T7.below)
            have hR := ap_new hI7
            have B8 : Below w7.heap.size w7 (w7.alloc (.cells #[] 3)) := (Below.refl _ _).alloc (Nat.le_refl _) _
            have hA8 := hA7.below B8 hI7.lt
            have hI8 := hI7.below B8
            have hB8 := hB7.trans (B8.mono hB7.size)
            have hg7 : g < w7.heap.size := (hA7.row.lt g rfl).2
            clear C1 C2 C3 hI hA hB hI6 hI7 hA7 hB7 B8
            generalize w7.alloc (.cells #[] 3) = w8 at *
            go_wp2_with fail
            go_loopg [16, 118] A.length (fun gg s16 s118 wr => ∃ (q : Nat) (ao2 : Option Addr) (c2 : Nat), q ≤ A.length ∧ gg = A.length - q ∧ s118 = .int .i64 (q : Int) ∧ s16 = .slice ao2 (less (A.take q) a).length c2 ∧ In wr w.heap.size (V k [] (less A a ++ [a])) ∧ Ap wr w.heap.size (.slice (some ⟨g, 0, none⟩) A.length c1) A ∧ Ap wr w.heap.size (.slice ao2 (less (A.take q) a).length c2) (less (A.take q) a) ∧ (Value.slice ao2 (less (A.take q) a).length c2).ownBlock ≠ some g ∧ Below w.heap.size w wr)
            case atStart => exact ⟨0, _, _, by omega, by omega, rfl, rfl, hI8, hA8, hR, (fun e => by have e2 : w7.heap.size = g := (by simpa [Value.ownBlock] using e); omega), hB8⟩
            case round =>
              obtain ⟨q, ao2, c2, hq, rfl, rfl, rfl, i9, a9, r9, n9, b9⟩ := hrel
              clear hR hA8 hI8 hB8
              by_cases hlt : q < A.length
              · have cc := a9.row.cell hlt
                have hsucc := less_take_succ (i := a) hlt
                generalize A.getD q 0 = z at *
                by_cases hza : z = a
                · subst hza
                  rw [if_pos rfl, List.append_nil] at hsucc
                  have HS : Hid _ := hsucc
                  clear hsucc
                  go_wp2_with fail
                  go_roundg (A.length - (q + 1))
                  case measure => omega
                  case rel => exact ⟨q + 1, ao2, c2, by omega, rfl, by go_num, by rw [HS.out], i9, a9, by rw [HS.out]; exact r9, by rw [HS.out]; exact n9, b9⟩
                · rw [if_neg hza] at hsucc
                  have HS : Hid _ := hsucc
                  have hza' : ¬ (z : Int) = (a : Int) := by omega
                  have hll : (less (A.take q) a).length ≤ 64 := Nat.le_trans less_take_len (by omega)
                  have B6 : Below wr.heap.size wr (wr.alloc (.cells #[.int .i64 (z : Int)] 3)) := (Below.refl _ _).alloc (Nat.le_refl _) _
                  have i6 := i9.below B6
                  have a6 := a9.below B6 i9.lt
                  have r6 := r9.below B6 i9.lt
                  have c6 := (blk_new wr 3 #[.int .i64 (z : Int)]).cell 0 (v := .int .i64 (z : Int)) rfl
                  have b6 := b9.trans (B6.mono b9.size)
                  clear hsucc i9 a9 r9 b9
                  generalize hR2 : less (A.take q) a = R at *
                  clear hza
                  go_wp2_with (at_builtin; refine wpList_append_ap rfl _ _ rfl w.heap.size _ _ R z wr.heap.size rfl rfl c6 i6 r6 (by omega) ?_; intro ao3 c3 w7 i7 r7 G7 N7)
                  go_roundg (A.length - (q + 1))
                  case measure => omega
                  case rel =>
                    have e9 : (R ++ [z]).length = R.length + 1 := by simp
                    have hs : less (A.take (q + 1)) a = R ++ [z] := HS.out
                    refine ⟨q + 1, ao3, c3, by omega, rfl, by go_num, by rw [hs, e9], i7, ap_keep i6 a6 r6 (fun g' hg' => by simp [Value.ownBlock] at hg'; subst hg'; exact n9) G7, by rw [hs, e9]; exact r7, ?_, ?_⟩
                    · rw [hs, e9]
                      intro e
                      rcases N7 g e with e2 | e2
                      · exact n9 e2
                      · have := (a6.row.lt g rfl).2
                        omega
                    · exact b6.grown G7 b6.size (fun g' hg' => by have := (r6.row.lt g' hg').1; omega)
              · obtain rfl : q = A.length := by omega
                rw [List.take_length] at r9 n9 ⊢
                have hll : (less A a).length ≤ 64 := Nat.le_trans (List.length_filter_le _ _) (by omega)
                have B6 : Below wr.heap.size wr (wr.alloc (.cells #[.int .i64 (a : Int)] 3)) := (Below.refl _ _).alloc (Nat.le_refl _) _
                have i6 := i9.below B6
                have r6 := r9.below B6 i9.lt
                have c6 := (blk_new wr 3 #[.int .i64 (a : Int)]).cell 0 (v := .int .i64 (a : Int)) rfl
                have b6 := b9.trans (B6.mono b9.size)
                clear i9 a9 r9 b9 n9
                generalize less A a = R at *
                go_upto_block 6 with (at_builtin; refine wpList_append_ap rfl _ _ rfl w.heap.size _ _ R a wr.heap.size rfl rfl c6 i6 r6 (by omega) ?_; intro ao3 c3 w7 i7 r7 G7 N7)
                have b7 := b6.grown G7 b6.size (fun g' hg' => by have := (r6.row.lt g' hg').1; omega)
                have e9 : R.length + 1 = (R ++ [a]).length := by simp
                clear i6 r6 c6 b6 B6 G7 N7
                have e10 : (R.length : Int) + 1 = ((R ++ [a]).length : Int) := by simp
                rw [e9] at r7 ⊢
                rw [e10]
                clear e10
                have hl7 : (R ++ [a]).length ≤ 9223372036854775807 := by have := i7.few2; exact Nat.le_trans this (by omega)
                generalize R ++ [a] = A2 at *
                clear e9
                go_wp2_with fail
                go_loopg [136] A2.length (fun gg s136 wr => ∃ (q : Nat) (T : List Nat), q ≤ A2.length ∧ gg = A2.length - q ∧ s136 = .int .i64 (q : Int) ∧ In wr w.heap.size (V k T (A2.drop q)) ∧ Ap wr w.heap.size (.slice ao3 A2.length c3) A2 ∧ Below w.heap.size w wr)
                case atStart => exact ⟨0, [], by omega, by omega, rfl, i7, r7, b7⟩
                case round =>
                  obtain ⟨q, T, hq, rfl, rfl, hI', hA', hB'⟩ := hrel
                  clear i7 r7 b7
                  by_cases hlt : q < A2.length
                  · rcases hA'.row.cases with ⟨h0, h00⟩ | ⟨g, cap, cs, h0, _⟩
                    · rw [h00] at hlt; simp at hlt
                    simp only [Value.slice.injEq] at h0
                    obtain ⟨rfl, _, rfl⟩ := h0
                    have cc := hA'.row.cell hlt
                    have hd : A2.drop q = A2.getD q 0 :: A2.drop (q + 1) := by rw [← getD_get hlt]; exact List.drop_eq_getElem_cons hlt
                    rw [hd] at hI'
                    have hbd := ((hI'.wf.mem (A2.getD q 0)).1 (by simp [V])).1
                    rw [V_len] at hbd
                    have C2 := take_step w.heap.size _ _ hI'
                    rw [V_take hI'.wf] at C2
                    generalize A2.getD q 0 = z at *
                    have hz1 : (z : Int) < 20 := by omega
                    clear hd hI'
                    go_wp2_with (go_at_call 12; refine C2.mono ?_; rintro e w5 ⟨rfl, hI5, T5⟩)
                    go_roundg (A2.length - (q + 1))
                    case measure => omega
                    case rel => exact ⟨q + 1, _, by omega, rfl, by go_num, hI5, hA'.turns T5, hB'.trans T5.below⟩
                  · obtain rfl : q = A2.length := by omega
                    rw [List.drop_length] at hI'
                    obtain ⟨q1, q2⟩ := V_full k T
                    have C2 := take_step w.heap.size _ _ hI'
                    rw [q1, q2] at C2
                    clear q1 q2
                    generalize (takeR (V k T [])).k = kk at *
                    generalize (takeR (V k T [])).i = ki at *
                    generalize (takeR (V k T [])).did = kd at *
                    go_wp2_with first
                      | (go_at_call 9; refine (pawake_any _).mono ?_; rintro e w7 ⟨rfl, B7⟩)
                      | (go_at_call 12; refine C2.mono ?_; rintro e w5 ⟨rfl, hI5, T5⟩)
                    go_ret
                    have b5 := hB'.trans T5.below
                    exact ⟨rfl, b5.trans (B7.mono b5.size)⟩
          · have er : (atN (V k [] A).L a).r = 1 := by rw [V_at A hak, if_neg haA]; rfl
            rw [er] at C1
            simp only [Int.natCast_one] at C1
            clear er hout C2
            go_upto_block 6 with (go_at_call 20; refine C1.mono ?_; rintro e w5 ⟨rfl, B5⟩; have hA := hA.below B5 hI.lt; have hI := hI.below B5; have hB := hB.trans (B5.mono hB.size))
            clear C1
            go_wp2_with fail
            go_loopg [136] A.length (fun gg s136 wr => ∃ (q : Nat) (T : List Nat), q ≤ A.length ∧ gg = A.length - q ∧ s136 = .int .i64 (q : Int) ∧ In wr w.heap.size (V k T (A.drop q)) ∧ Ap wr w.heap.size (.slice ao1 A.length c1) A ∧ Below w.heap.size w wr)
            case atStart => exact ⟨0, [], by omega, by omega, rfl, hI, hA, hB⟩
            case round =>
              obtain ⟨q, T, hq, rfl, rfl, hI', hA', hB'⟩ := hrel
              clear hI hA hB
              by_cases hlt : q < A.length
              · rcases hA'.row.cases with ⟨h0, h00⟩ | ⟨g, cap, cs, h0, _⟩
                · rw [h00] at hlt; simp at hlt
                simp only [Value.slice.injEq] at h0
                obtain ⟨rfl, _, rfl⟩ := h0
                have cc := hA'.row.cell hlt
                have hd : A.drop q = A.getD q 0 :: A.drop (q + 1) := by rw [← getD_get hlt]; exact List.drop_eq_getElem_cons hlt
                rw [hd] at hI'
                have hbd := ((hI'.wf.mem (A.getD q 0)).1 (by simp [V])).1
                rw [V_len] at hbd
                have C2 := take_step w.heap.size _ _ hI'
                rw [V_take hI'.wf] at C2
                generalize A.getD q 0 = z at *
                have hz1 : (z : Int) < 20 := by omega
                clear hd hI'
                go_wp2_with (go_at_call 12; refine C2.mono ?_; rintro e w5 ⟨rfl, hI5, T5⟩)
                go_roundg (A.length - (q + 1))
                case measure => omega
                case rel => exact ⟨q + 1, _, by omega, rfl, by go_num, hI5, hA'.turns T5, hB'.trans T5.below⟩
              · obtain rfl : q = A.length := by omega
                rw [List.drop_length] at hI'
                obtain ⟨q1, q2⟩ := V_full k T
                have C2 := take_step w.heap.size _ _ hI'
                rw [q1, q2] at C2
                clear q1 q2
                generalize (takeR (V k T [])).k = kk at *
                generalize (takeR (V k T [])).i = ki at *
                generalize (takeR (V k T [])).did = kd at *
                go_wp2_with first
                  | (go_at_call 9; refine (pawake_any _).mono ?_; rintro e w7 ⟨rfl, B7⟩)
                  | (go_at_call 12; refine C2.mono ?_; rintro e w5 ⟨rfl, hI5, T5⟩)
                go_ret
                have b5 := hB'.trans T5.below
                exact ⟨rfl, b5.trans (B7.mono b5.size)⟩
end Go.Proofs.Ytfkmmjfahdpfcaa
