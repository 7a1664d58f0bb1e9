/- The document's pool: a page is dropped. -/
import Derived.Test.YtfkmmjfahdpfcaaPRef6
namespace Go.Proofs.Ytfkmmjfahdpfcaa
open Go.ChangeShapes Go.WideShapes Go.ChangeAt Go.RowKit
theorem idl_vals {w : World} {g : Nat} {I : List Nat} (h : ∀ t, t < I.length → w.cell? ⟨g, t, none⟩ = some (.int .i64 ((I.getD t 0 : Nat) : Int))) : ∀ j u, (I.map fun i : Nat => Value.int .i64 (i : Int))[j]? = some u → w.cell? ((⟨g, 0, none⟩ : Addr).add j) = some u := by
  intro j u hj
  have hl : j < I.length := by have := (List.getElem?_eq_some_iff.1 hj).1; simpa using this
  rw [add_plain', Nat.zero_add, h j hl]
  rw [List.getElem?_map, List.getElem?_eq_getElem hl] at hj
  simp only [Option.map_some, Option.some.injEq] at hj
  rw [← hj, getD_get hl]
theorem idl_one (I : List Nat) : ∀ u ∈ (I.map fun i : Nat => Value.int .i64 (i : Int)), u.oneCell' = true := by
  intro u hu
  rw [List.mem_map] at hu
  obtain ⟨i, _, rfl⟩ := hu
  rfl
/-- append(row, xs...), row of the call's own, xs a row of numbers. -/
theorem wpList_append_all {w : World} {ops : Array Oper} {rest : List Oper} {o : Oper} {a : Act} {Q : Exit → Act → World → Prop} (hgd : o.guard = none) (s x : Operand)
    (ho : o.op = .call { callee := .builtin .append, args := #[s, x], argTypes := #[29, 29] })
    (B : Nat) (v : Value) (A : List Nat) (ao : Option Addr) (c : Nat) (I : List Nat) (hs : a.eval s = v) (hx : a.eval x = .slice ao I.length c) (hc : 0 < I.length → ∃ g, ao = some ⟨g, 0, none⟩ ∧ ∀ t, t < I.length → w.cell? ⟨g, t, none⟩ = some (.int .i64 ((I.getD t 0 : Nat) : Int))) (hn : ao = none → c = 0) (hA : Idl w B v A) (hB : B ≤ w.heap.size) (hl : A.length + I.length ≤ 100)
    (h : ∀ ao' c' w', Idl w' B (.slice ao' (A.length + I.length) c') (A ++ I) → w.grownBy w' v.ownBlock → wpList Try.prog ops Q rest (a.put o.dst (.slice ao' (A.length + I.length) c')) w') : wpList Try.prog ops Q (o :: rest) a w := by
  obtain ⟨i0, hi, hz0, hz1, hz2⟩ := info_parts Try.infoInt
  cases ao with
  | none =>
    have hI : I = [] := by
      rcases Nat.eq_zero_or_pos I.length with h0 | h0
      · exact List.length_eq_zero_iff.1 h0
      · obtain ⟨g, e, _⟩ := hc h0; cases e
    subst hI
    have hc0 := hn rfl
    subst hc0
    refine wpList_append_own_none hgd s x 29 ho B 3 i0 1 Try.underlying29 hi _ A.length _ hs hA hx ?_
    obtain ⟨ao, c, rfl⟩ := hA.slice
    have := h ao c w (by simpa using hA) (grownBy_refl _ _)
    simpa using this
  | some ad =>
    by_cases h0 : 0 < I.length
    · obtain ⟨g, e, hcc⟩ := hc h0
      simp only [Option.some.injEq] at e
      subst e
      refine wpList_append_own _ hgd s x 29 ho B 3 i0 (.int .i64 0) 1 8 Try.underlying29 hi hz0 hz1 hz2 rfl (by decide) v A.length _ hs hA ⟨g, 0, none⟩ I.length c _ hx (by simp) (idl_vals hcc) (idl_one I) (by unfold maxLen; omega) (by omega) hB ?_
      intro v' w5 O1 G1 N1
      have D1 : Idl w5 B v' (A ++ I) := by unfold Idl; simpa using O1
      obtain ⟨ao', c', rfl⟩ := D1.slice
      have e : (A ++ I).length = A.length + I.length := by simp
      rw [e] at D1 ⊢
      exact h ao' c' w5 D1 G1
    · have hI : I = [] := List.length_eq_zero_iff.1 (by omega)
      subst hI
      refine wpList_append_own _ hgd s x 29 ho B 3 i0 (.int .i64 0) 1 8 Try.underlying29 hi hz0 hz1 hz2 rfl (by decide) v A.length _ hs hA ad 0 c [] hx rfl (fun j u hj => by simp at hj) (fun u hu => by simp at hu) (by unfold maxLen; omega) (by omega) hB ?_
      intro v' w5 O1 G1 N1
      have D1 : Idl w5 B v' (A ++ []) := by unfold Idl; simpa using O1
      obtain ⟨ao', c', rfl⟩ := D1.slice
      have e : (A ++ ([] : List Nat)).length = A.length + ([] : List Nat).length := by simp
      rw [e] at D1 ⊢
      exact h ao' c' w5 D1 G1
set_option maxHeartbeats 4000000 in
set_option maxRecDepth 100000 in
theorem drop_ref (O : Nat → Prop) (p : RfV) (x : St) (i : Int) (w : World) (h : RfAt O w p x) (hO : ∀ g, w.heap.size ≤ g → O g) (hr : ∀ j, (pg x.L j).r ≤ 1000) : Calls Try.prog 24 #[p.val x, .int .i64 i] w fun e w' => ∃ p', e = .returned (.tuple #[p'.val (dropR x i).x, .int .i64 (dropR x i).e]) ∧ ((dropR x i).x.I.length ≤ 64 → RfAt O w' p' (dropR x i).x) ∧ Below w.heap.size w w' := by
  obtain ⟨gp, cP, aI, cI⟩ := p
  have X0 := rbox w ⟨gp, cP, aI, cI⟩ x
  have CT := fun (v : World) (hb : Below w.heap.size w v) => there_ref O ⟨gp, cP, aI, cI⟩ x i v (h.below hb)
  have CW := fun (j : Nat) (q : Pg) (hj : j < x.L.length) (v : World) (hb : Below w.heap.size w v) (hs : w.heap.size + 2 ≤ v.heap.size) => with_ref (Not2 O w.heap.size) ⟨gp, cP, aI, cI⟩ x j q v (h.not2.below hb) (not2_new hO hs) hj
  simp only [RfV.val] at X0 CT CW ⊢
  have B0 : Below w.heap.size w (w.alloc (.cells #[.slice (some ⟨gp, 0, none⟩) x.L.length cP, .slice aI x.I.length cI] 31)) := (Below.refl _ _).alloc (Nat.le_refl _) _
  generalize hw0 : w.alloc (.cells #[.slice (some ⟨gp, 0, none⟩) x.L.length cP, .slice aI x.I.length cI] 31) = w0 at *
  have s0 : w0.heap.size = w.heap.size + 1 := by rw [← hw0]; simp
  have X1 := blk_new w0 31 #[.slice none 0 0, .slice none 0 0]
  have B1 : Below w0.heap.size w0 (w0.alloc (.cells #[.slice none 0 0, .slice none 0 0] 31)) := (Below.refl _ _).alloc (Nat.le_refl _) _
  generalize hw1 : w0.alloc (.cells #[.slice none 0 0, .slice none 0 0] 31) = w1 at *
  have s1 : w1.heap.size = w.heap.size + 2 := by rw [← hw1]; simp; omega
  rw [s0] at X1
  have D1 := below_then B0 B1
  replace X0 := X0.below B1 (by omega)
  have c0 := X0.cell 0 (v := .slice (some ⟨gp, 0, none⟩) x.L.length cP) rfl
  have c1 := X0.cell 1 (v := .slice aI x.I.length cI) rfl
  have hf := h.few
  have k4 : w.heap.size ≤ w.heap.size + 1 := by omega
  have C1 := CT w1 D1
  clear CT B0 B1
  cases hfr : (atN x.L i).free with
  | true =>
    have hr0 : (atN x.L i).r = 0 := by unfold Pg.free at hfr; simp at hfr; exact hfr.1
    have HT : Hid (dropR x i = ⟨x, 8⟩) := by show _ = _; unfold dropR; rw [if_pos hr0]
    rw [hfr] at C1
    clear hfr CW
    go_enter Try.func24, Try.ntmps24
    go_wp2_with (go_at_call 37; refine C1.mono ?_; rintro e w2 ⟨rfl, B2⟩; have Y0 := X0.below B2 X0.lt; have Y1 := X1.below B2 X1.lt; have b2 := D1.trans (B2.mono D1.size); have u0 := Y0.cell 0 (v := .slice (some ⟨gp, 0, none⟩) x.L.length cP) rfl; have u1 := Y0.cell 1 (v := .slice aI x.I.length cI) rfl; have g0 := Y1.frozen 0; have g1 := Y1.frozen 1; have u2 := Y1.cell 0 (v := .slice none 0 0) rfl; have u3 := Y1.cell 1 (v := .slice none 0 0) rfl)
    refine bodyPost_ret (results_blk2 rfl _ _ (w.heap.size + 1) _ rfl (load_r (put_r Y1) rfl)) rfl ?_
    refine ⟨⟨gp, cP, aI, cI⟩, by rw [HT.out]; rfl, ?_, below_put_r b2 k4 _ _⟩
    rw [HT.out]
    exact fun _ => (h.not2.below b2).put _ _
  | false =>
    obtain ⟨j, rfl, hj, ea⟩ := atN_in hfr
    rw [hfr] at C1
    have hq : Qgs w gp x.L := h.pages
    have hlt := hq.lt
    have HQ : Hid (∀ v, Below w.heap.size w v → v.cell? ⟨gp, j * 3, none⟩ = some (.int .i64 ((pg x.L j).r : Int)) ∧ v.cell? ⟨gp, j * 3 + 1, none⟩ = some (.bool (pg x.L j).s) ∧ v.cell? ⟨gp, j * 3 + 2, none⟩ = some (.int .i64 (pg x.L j).k)) := fun v hb => by
      have q := hq.of_block (hb.block _ hlt)
      exact ⟨q.c0 hj, q.c1 hj, q.c2 hj⟩
    have hr1 := hr j
    have hjl : (j : Int) < (x.L.length : Int) := by omega
    by_cases hb : (pg x.L j).r = 0
    · have HT : Hid (dropR x (j : Int) = ⟨x, 8⟩) := by show _ = _; unfold dropR; rw [ea, if_pos hb]
      clear hfr ea CW
      generalize pg x.L j = z at *
      obtain ⟨zr, zs, zk⟩ := z
      simp only at HQ hb
      subst hb
      simp only [Int.natCast_zero] at HQ
      go_enter Try.func24, Try.ntmps24
      go_wp2_with (go_at_call 37; refine C1.mono ?_; rintro e w2 ⟨rfl, B2⟩; have Y0 := X0.below B2 X0.lt; have Y1 := X1.below B2 X1.lt; have b2 := D1.trans (B2.mono D1.size); have u0 := Y0.cell 0 (v := .slice (some ⟨gp, 0, none⟩) x.L.length cP) rfl; have u1 := Y0.cell 1 (v := .slice aI x.I.length cI) rfl; have g0 := Y1.frozen 0; have g1 := Y1.frozen 1; have u2 := Y1.cell 0 (v := .slice none 0 0) rfl; have u3 := Y1.cell 1 (v := .slice none 0 0) rfl; obtain ⟨z0, z1, z2⟩ := HQ.out w2 b2)
      refine bodyPost_ret (results_blk2 rfl _ _ (w.heap.size + 1) _ rfl (load_r (put_r Y1) rfl)) rfl ?_
      refine ⟨⟨gp, cP, aI, cI⟩, by rw [HT.out]; rfl, ?_, below_put_r b2 k4 _ _⟩
      rw [HT.out]
      exact fun _ => (h.not2.below b2).put _ _
    · have HT : Hid (dropR x (j : Int) = ⟨⟨x.L.set j { pg x.L j with r := (pg x.L j).r - 1 }, if ({ pg x.L j with r := (pg x.L j).r - 1 } : Pg).idle then x.I ++ [j] else x.I⟩, 0⟩) := by show _ = _; unfold dropR; rw [ea, if_neg hb]; simp only [Int.toNat_natCast]
      have CW1 := CW j { pg x.L j with r := (pg x.L j).r - 1 } hj
      simp only [Pg.val] at CW1
      clear hfr ea CW
      generalize pg x.L j = z at *
      obtain ⟨zr, zs, zk⟩ := z
      simp only at HQ hb hr1 CW1 HT
      obtain ⟨q, rfl⟩ : ∃ q, zr = q + 1 := ⟨zr - 1, by omega⟩
      simp only [Nat.add_sub_cancel] at CW1 HT
      have e1 : ((q + 1 : Nat) : Int) = (q : Int) + 1 := by omega
      simp only [e1] at HQ
      have hq1 : (q : Int) < 1000 := by omega
      clear hb hr1 hr e1
      have hcase : (q = 0 ∧ zs = true) ∨ ¬ (q = 0 ∧ zs = true) := Decidable.em _
      rcases hcase with ⟨rfl, rfl⟩ | hno
      · have hi0 : Pg.idle ⟨0, true, zk⟩ = true := rfl
        rw [hi0] at HT
        simp only [if_true] at HT
        clear hi0
        simp only [Int.natCast_zero, Int.zero_add] at HQ CW1
        go_enter Try.func24, Try.ntmps24
        go_wp2_with first
          | (go_at_call 37; refine C1.mono ?_; rintro e w2 ⟨rfl, B2⟩; have Y0 := X0.below B2 X0.lt; have Y1 := X1.below B2 X1.lt; have b2 := D1.trans (B2.mono D1.size); have u0 := Y0.cell 0 (v := .slice (some ⟨gp, 0, none⟩) x.L.length cP) rfl; have u1 := Y0.cell 1 (v := .slice aI x.I.length cI) rfl; have g0 := Y1.frozen 0; have g1 := Y1.frozen 1; have u2 := Y1.cell 0 (v := .slice none 0 0) rfl; have u3 := Y1.cell 1 (v := .slice none 0 0) rfl; obtain ⟨z0, z1, z2⟩ := HQ.out w2 b2; obtain ⟨w3, hw3⟩ : ∃ w3, w2.alloc (.cells #[.int .i64 0, .bool true, .int .i64 zk] 61) = w3 := ⟨_, rfl⟩; have P3 : Blk w3 w2.heap.size 61 #[.int .i64 0, .bool true, .int .i64 zk] := (by rw [← hw3]; exact blk_new _ _ _); have B3 : Below w2.heap.size w2 w3 := (by rw [← hw3]; exact (Below.refl _ _).alloc (Nat.le_refl _) _); have b3 := b2.trans (B3.mono b2.size); have V0 := Y0.below B3 Y0.lt; have V1 := Y1.below B3 Y1.lt; have v0 := V0.cell 0 (v := .slice (some ⟨gp, 0, none⟩) x.L.length cP) rfl; have v1 := V0.cell 1 (v := .slice aI x.I.length cI) rfl; have q0 := P3.cell 0 rfl; have q1 := P3.cell 1 rfl; have q2 := P3.cell 2 rfl; have CW3 := CW1 _ b3 (by have := V1.lt; omega); have n2 : w.heap.size + 1 < w2.heap.size := Y1.lt)
          | (go_at_call 35; refine CW3.mono ?_; rintro e w4 ⟨p', rfl, R4, B4⟩; have b4 := b3.trans (B4.mono b3.size); have M0 := V0.below B4 V0.lt; have M1 := V1.below B4 V1.lt; have M2 := P3.below B4 P3.lt; have m0 := M0.cell 0 (v := .slice (some ⟨gp, 0, none⟩) x.L.length cP) rfl; have m1 := M0.cell 1 (v := .slice aI x.I.length cI) rfl; have m2 := M1.cell 0 (v := .slice none 0 0) rfl; have m3 := M1.cell 1 (v := .slice none 0 0) rfl; have m4 := M2.cell 0 rfl; have m5 := M2.cell 1 rfl; have l0 := M0.frozen 0; have l1 := M0.frozen 1; have l2 := M1.frozen 0; have l3 := M1.frozen 1; have n3 : w2.heap.size ≠ w.heap.size := (by omega); have n4 : w.heap.size ≠ w.heap.size + 1 := (by omega); obtain ⟨w5, hw5⟩ : ∃ w5, (w4.setCell ⟨w.heap.size, 0, none⟩ (.slice (some ⟨p'.g, 0, none⟩) x.L.length p'.cP)).setCell ⟨w.heap.size, 1, none⟩ (.slice p'.aI x.I.length p'.cI) = w5 := ⟨_, rfl⟩; have N0 : Blk w5 w.heap.size 31 #[.slice (some ⟨p'.g, 0, none⟩) x.L.length p'.cP, .slice p'.aI x.I.length p'.cI] := (by rw [← hw5]; exact (M0.set 0 _).set 1 _); have N1 : Blk w5 (w.heap.size + 1) 31 #[.slice none 0 0, .slice none 0 0] := (by rw [← hw5]; exact (M1.other (a := ⟨w.heap.size, 0, none⟩) n4.symm _).other (a := ⟨w.heap.size, 1, none⟩) n4.symm _); have N2 : Blk w5 w2.heap.size 61 #[.int .i64 0, .bool true, .int .i64 zk] := (by rw [← hw5]; exact (M2.other (a := ⟨w.heap.size, 0, none⟩) n3 _).other (a := ⟨w.heap.size, 1, none⟩) n3 _); have b5 : Below w.heap.size w w5 := (by rw [← hw5]; exact below_put_r b4 (Nat.le_refl _) _ _); have R5 : RfAt (Not2 O w.heap.size) w5 p' ⟨x.L.set j ⟨0, true, zk⟩, x.I⟩ := (by rw [← hw5]; exact R4.put0 _ _); have t0 := N2.cell 0 rfl; have t1 := N2.cell 1 rfl; have t2 := N0.cell 1 rfl; obtain ⟨w6, hw6⟩ : ∃ w6, w5.alloc (.cells #[] 3) = w6 := ⟨_, rfl⟩; have B6 : Below w5.heap.size w5 w6 := (by rw [← hw6]; exact (Below.refl _ _).alloc (Nat.le_refl _) _); have O6 : Idl w6 w5.heap.size (.slice (some ⟨w5.heap.size, 0, none⟩) 0 0) [] := (by rw [← hw6]; exact World.ownsRow_made w5 #[] 0 (Nat.le_refl _) (by decide) rfl); have t3 := (N0.below B6 N0.lt).cell 1 rfl; have R6 := R5.below B6; have z5 := N1.lt; have z6 := B6.size)
          | (at_builtin; refine wpList_append_idl rfl _ _ rfl w5.heap.size _ x.I j w7.heap.size rfl rfl c8 D8 (by omega) (by omega) ?_; intro ao9 c9 w9 D9 G9; have N9 := (N7.below B8 N7.lt).of_block (G9.block _ (N7.below B8 N7.lt).lt (fun e => by have := (D8.lt _ e.symm).1; omega)); have L9 := (L7.below B8 L7.lt).of_block (G9.block _ (L7.below B8 L7.lt).lt (fun e => by have := (D8.lt _ e.symm).1; omega)); have y0 := N9.cell 0 rfl; have y1 := N9.cell 1 rfl; have y2 := N9.frozen 1; have y3 := L9.cell 0 (v := .slice none 0 0) rfl; have y4 := L9.cell 1 (v := .slice none 0 0) rfl; have y5 := L9.frozen 0; have y6 := L9.frozen 1)
          | (at_builtin; refine wpList_append_all rfl _ _ rfl w5.heap.size _ [] p'.aI p'.cI x.I rfl rfl (fun hq => by obtain ⟨g, e, _, hc⟩ := R6.idle hq; exact ⟨g, e, hc⟩) R6.nil O6 (by omega) (by have := h.few2; simp; omega) ?_; intro ao7 c7 w7 D7 G7; simp only [List.length_nil, Nat.zero_add, List.nil_append] at D7 ⊢; have N7 := (N0.below B6 N0.lt).of_block (G7.block _ (N0.below B6 N0.lt).lt (fun e => by have := Option.some.inj e; simp at this; omega)); have L7 := (N1.below B6 N1.lt).of_block (G7.block _ (N1.below B6 N1.lt).lt (fun e => by have := Option.some.inj e; simp at this; omega)); have B8 : Below w7.heap.size w7 (w7.alloc (.cells #[.int .i64 (j : Int)] 3)) := (Below.refl _ _).alloc (Nat.le_refl _) _; have s8 : (w7.alloc (.cells #[.int .i64 (j : Int)] 3)).heap.size = w7.heap.size + 1 := (by simp); have D8 := D7.below B8; have c8 := (blk_new w7 3 #[.int .i64 (j : Int)]).cell 0 (v := .int .i64 (j : Int)) rfl; have hf2 := h.few2; have z7 := G7.size)
        have a0 : w.heap.size + 1 ≠ w.heap.size := by omega
        have L10 := L9.other (a := ⟨w.heap.size, 1, none⟩) a0 (.slice ao9 (x.I.length + 1) c9)
        refine bodyPost_ret (results_blk2 rfl _ _ (w.heap.size + 1) _ rfl (load_r (put_r L10) rfl)) rfl ?_
        have e9 : (x.I ++ [j]).length = x.I.length + 1 := by simp
        have ow : ∀ k, (Value.slice (some ⟨w5.heap.size, 0, none⟩) 0 0).ownBlock = some k → w5.heap.size = k := fun k hk => Option.some.inj hk
        have ow9 : ∀ k, (Value.slice ao7 x.I.length c7).ownBlock = some k → w5.heap.size ≤ k := fun k hk => (D8.lt k hk).1
        have y9 := G9.size
        have b6 := b5.trans (B6.mono b5.size)
        have b7 := b6.grown G7 b6.size (fun k hk => by have := ow k hk; omega)
        have b8 := b7.trans (B8.mono b7.size)
        have b9 := b8.grown G9 b8.size (fun k hk => by have := ow9 k hk; omega)
        have b10 := b9.setCell (p := ⟨w.heap.size, 1, none⟩) (Nat.le_refl _) (.slice ao9 (x.I.length + 1) c9)
        refine ⟨⟨p'.g, p'.cP, ao9, c9⟩, by rw [HT.out]; simp only [List.length_set, e9]; rfl, ?_, below_put_r b10 k4 _ _⟩
        rw [HT.out]
        intro hfew
        have l5 := R5.pages.lt
        have Q6 := R5.pages.of_block (B6.block _ l5)
        have Q7 := Q6.of_block (G7.block _ Q6.lt (fun e => by have := ow _ e.symm; omega))
        have Q8 := Q7.of_block (B8.block _ Q7.lt)
        have Q9 := Q8.of_block (G9.block _ Q8.lt (fun e => by have := ow9 _ e.symm; omega))
        have Q10 := ((Q9.other (a := ⟨w.heap.size, 1, none⟩) R5.og.2.1 (.slice ao9 (x.I.length + 1) c9)).other (a := ⟨w.heap.size + 1, 0, none⟩) R5.og.2.2 (.slice (some ⟨p'.g, 0, none⟩) x.L.length p'.cP)).other (a := ⟨w.heap.size + 1, 1, none⟩) R5.og.2.2 (.slice ao9 (x.I.length + 1) c9)
        have k5 : w.heap.size < w5.heap.size := by omega
        have D10 := ((D9.other (a := ⟨w.heap.size, 1, none⟩) k5 (.slice ao9 (x.I.length + 1) c9)).other (a := ⟨w.heap.size + 1, 0, none⟩) z5 (.slice (some ⟨p'.g, 0, none⟩) x.L.length p'.cP)).other (a := ⟨w.heap.size + 1, 1, none⟩) z5 (.slice ao9 (x.I.length + 1) c9)
        refine ⟨Q10, R5.og.1, fun _ => ?_, fun e => ?_, by rw [List.length_set]; exact h.few, hfew, by rw [List.length_set]; exact h.some'⟩
        · simp only at *
          rcases D10.cases with ⟨_, h0⟩ | ⟨g, cp, cs, h0, hg, _⟩
          · simp at h0
          · simp only [Value.slice.injEq] at h0
            obtain ⟨rfl, _, rfl⟩ := h0
            exact ⟨g, rfl, hO g (by omega), fun t ht => D10.cell ht⟩
        · simp only at e
          subst e
          exact D9.nilc
      · have hi0 : Pg.idle ⟨q, zs, zk⟩ = false := by
          unfold Pg.idle
          by_cases hq0 : q = 0
          · cases zs with
            | false => simp
            | true => exact absurd ⟨hq0, rfl⟩ hno
          · simp [hq0]
        rw [hi0] at HT
        simp only [Bool.false_eq_true, if_false] at HT
        have hway : (¬ (q : Int) = 0) ∨ (q = 0 ∧ zs = false) := by
          by_cases hq0 : q = 0
          · cases zs with
            | false => exact Or.inr ⟨hq0, rfl⟩
            | true => exact absurd ⟨hq0, rfl⟩ hno
          · exact Or.inl (by omega)
        clear hno hi0
        rcases hway with hq0 | ⟨rfl, rfl⟩
        · go_enter Try.func24, Try.ntmps24
          go_wp2_with first
            | (go_at_call 37; refine C1.mono ?_; rintro e w2 ⟨rfl, B2⟩; have Y0 := X0.below B2 X0.lt; have Y1 := X1.below B2 X1.lt; have b2 := D1.trans (B2.mono D1.size); have u0 := Y0.cell 0 (v := .slice (some ⟨gp, 0, none⟩) x.L.length cP) rfl; have u1 := Y0.cell 1 (v := .slice aI x.I.length cI) rfl; have g0 := Y1.frozen 0; have g1 := Y1.frozen 1; have u2 := Y1.cell 0 (v := .slice none 0 0) rfl; have u3 := Y1.cell 1 (v := .slice none 0 0) rfl; obtain ⟨z0, z1, z2⟩ := HQ.out w2 b2; obtain ⟨w3, hw3⟩ : ∃ w3, w2.alloc (.cells #[.int .i64 (q : Int), .bool zs, .int .i64 zk] 61) = w3 := ⟨_, rfl⟩; have P3 : Blk w3 w2.heap.size 61 #[.int .i64 (q : Int), .bool zs, .int .i64 zk] := (by rw [← hw3]; exact blk_new _ _ _); have B3 : Below w2.heap.size w2 w3 := (by rw [← hw3]; exact (Below.refl _ _).alloc (Nat.le_refl _) _); have b3 := b2.trans (B3.mono b2.size); have V0 := Y0.below B3 Y0.lt; have V1 := Y1.below B3 Y1.lt; have v0 := V0.cell 0 (v := .slice (some ⟨gp, 0, none⟩) x.L.length cP) rfl; have v1 := V0.cell 1 (v := .slice aI x.I.length cI) rfl; have q0 := P3.cell 0 rfl; have q1 := P3.cell 1 rfl; have q2 := P3.cell 2 rfl; have CW3 := CW1 _ b3 (by have := V1.lt; omega); have n2 : w.heap.size + 1 < w2.heap.size := Y1.lt)
            | (go_at_call 35; refine CW3.mono ?_; rintro e w4 ⟨p', rfl, R4, B4⟩; have b4 := b3.trans (B4.mono b3.size); have M0 := V0.below B4 V0.lt; have M1 := V1.below B4 V1.lt; have M2 := P3.below B4 P3.lt; have m0 := M0.cell 0 (v := .slice (some ⟨gp, 0, none⟩) x.L.length cP) rfl; have m1 := M0.cell 1 (v := .slice aI x.I.length cI) rfl; have m2 := M1.cell 0 (v := .slice none 0 0) rfl; have m3 := M1.cell 1 (v := .slice none 0 0) rfl; have m4 := M2.cell 0 rfl; have m5 := M2.cell 1 rfl; have l0 := M0.frozen 0; have l1 := M0.frozen 1; have l2 := M1.frozen 0; have l3 := M1.frozen 1; have n3 : w2.heap.size ≠ w.heap.size := (by omega); have n4 : w.heap.size ≠ w.heap.size + 1 := (by omega); clear v0 v1 q0 q1 q2)
          have a0 : w.heap.size + 1 ≠ w.heap.size := by omega
          have M3 := (M1.other (a := ⟨w.heap.size, 0, none⟩) a0 (.slice (some ⟨p'.g, 0, none⟩) x.L.length p'.cP)).other (a := ⟨w.heap.size, 1, none⟩) a0 (.slice p'.aI x.I.length p'.cI)
          refine bodyPost_ret (results_blk2 rfl _ _ (w.heap.size + 1) _ rfl (load_r (put_r M3) rfl)) rfl ?_
          refine ⟨p', by rw [HT.out]; simp only [List.length_set]; rfl, ?_, below_put_r (below_put_r b4 (Nat.le_refl _) _ _) k4 _ _⟩
          rw [HT.out]
          exact fun _ => (R4.put0 _ _).put _ _
        · simp only [Int.natCast_zero, Int.zero_add] at HQ CW1
          go_enter Try.func24, Try.ntmps24
          go_wp2_with first
            | (go_at_call 37; refine C1.mono ?_; rintro e w2 ⟨rfl, B2⟩; have Y0 := X0.below B2 X0.lt; have Y1 := X1.below B2 X1.lt; have b2 := D1.trans (B2.mono D1.size); have u0 := Y0.cell 0 (v := .slice (some ⟨gp, 0, none⟩) x.L.length cP) rfl; have u1 := Y0.cell 1 (v := .slice aI x.I.length cI) rfl; have g0 := Y1.frozen 0; have g1 := Y1.frozen 1; have u2 := Y1.cell 0 (v := .slice none 0 0) rfl; have u3 := Y1.cell 1 (v := .slice none 0 0) rfl; obtain ⟨z0, z1, z2⟩ := HQ.out w2 b2; obtain ⟨w3, hw3⟩ : ∃ w3, w2.alloc (.cells #[.int .i64 0, .bool false, .int .i64 zk] 61) = w3 := ⟨_, rfl⟩; have P3 : Blk w3 w2.heap.size 61 #[.int .i64 0, .bool false, .int .i64 zk] := (by rw [← hw3]; exact blk_new _ _ _); have B3 : Below w2.heap.size w2 w3 := (by rw [← hw3]; exact (Below.refl _ _).alloc (Nat.le_refl _) _); have b3 := b2.trans (B3.mono b2.size); have V0 := Y0.below B3 Y0.lt; have V1 := Y1.below B3 Y1.lt; have v0 := V0.cell 0 (v := .slice (some ⟨gp, 0, none⟩) x.L.length cP) rfl; have v1 := V0.cell 1 (v := .slice aI x.I.length cI) rfl; have q0 := P3.cell 0 rfl; have q1 := P3.cell 1 rfl; have q2 := P3.cell 2 rfl; have CW3 := CW1 _ b3 (by have := V1.lt; omega); have n2 : w.heap.size + 1 < w2.heap.size := Y1.lt)
            | (go_at_call 35; refine CW3.mono ?_; rintro e w4 ⟨p', rfl, R4, B4⟩; have b4 := b3.trans (B4.mono b3.size); have M0 := V0.below B4 V0.lt; have M1 := V1.below B4 V1.lt; have M2 := P3.below B4 P3.lt; have m0 := M0.cell 0 (v := .slice (some ⟨gp, 0, none⟩) x.L.length cP) rfl; have m1 := M0.cell 1 (v := .slice aI x.I.length cI) rfl; have m2 := M1.cell 0 (v := .slice none 0 0) rfl; have m3 := M1.cell 1 (v := .slice none 0 0) rfl; have m4 := M2.cell 0 rfl; have m5 := M2.cell 1 rfl; have l0 := M0.frozen 0; have l1 := M0.frozen 1; have l2 := M1.frozen 0; have l3 := M1.frozen 1; have n3 : w2.heap.size ≠ w.heap.size := (by omega); have n4 : w.heap.size ≠ w.heap.size + 1 := (by omega); clear v0 v1 q0 q1 q2)
          have a0 : w.heap.size + 1 ≠ w.heap.size := by omega
          have M3 := (M1.other (a := ⟨w.heap.size, 0, none⟩) a0 (.slice (some ⟨p'.g, 0, none⟩) x.L.length p'.cP)).other (a := ⟨w.heap.size, 1, none⟩) a0 (.slice p'.aI x.I.length p'.cI)
          refine bodyPost_ret (results_blk2 rfl _ _ (w.heap.size + 1) _ rfl (load_r (put_r M3) rfl)) rfl ?_
          refine ⟨p', by rw [HT.out]; simp only [List.length_set]; rfl, ?_, below_put_r (below_put_r b4 (Nat.le_refl _) _ _) k4 _ _⟩
          rw [HT.out]
          exact fun _ => (R4.put0 _ _).put _ _
end Go.Proofs.Ytfkmmjfahdpfcaa
