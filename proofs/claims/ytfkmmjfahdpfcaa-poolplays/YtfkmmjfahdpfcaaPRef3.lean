/- The document's pool: the page of a key; how many pages there are of each kind; a page that is taken. -/
import Derived.Test.YtfkmmjfahdpfcaaPRef2
namespace Go.Proofs.Ytfkmmjfahdpfcaa
open Go.ChangeShapes Go.WideShapes Go.ChangeAt Go.RowKit
set_option maxHeartbeats 2000000 in
theorem find_ref (O : Nat → Prop) (p : RfV) (x : St) (key : Int) (w : World) (h : RfAt O w p x) : Calls Try.prog 27 #[p.val x, .int .i64 key] w fun e w' => e = .returned (.int .i64 (idxN (Pg.hit key) x.L)) ∧ Below w.heap.size w w' := by
  obtain ⟨gp, cP, aI, cI⟩ := p
  have X0 := rbox w ⟨gp, cP, aI, cI⟩ x
  simp only [RfV.val] at X0 ⊢
  have B0 : Below w.heap.size w (w.alloc (.cells #[.slice (some ⟨gp, 0, none⟩) x.L.length cP, .slice aI x.I.length cI] 31)) := (Below.refl _ _).alloc (Nat.le_refl _) _
  have hq : Qgs w gp x.L := h.pages
  have hf := h.few
  have hlt := hq.lt
  generalize hw0 : w.alloc (.cells #[.slice (some ⟨gp, 0, none⟩) x.L.length cP, .slice aI x.I.length cI] 31) = w0 at *
  have c0 := X0.cell 0 (v := .slice (some ⟨gp, 0, none⟩) x.L.length cP) rfl
  clear h
  generalize hn : x.L.length = n at *
  go_enter Try.func27, Try.ntmps27
  go_wp2
  go_loopg [10] n (fun gg s10 wr => ∃ k : Nat, k ≤ n ∧ gg = n - k ∧ s10 = .int .i64 (k : Int) ∧ Below w.heap.size w wr ∧ Hid (∀ j, j < k → (pg x.L j).hit key = false))
  case atStart => exact ⟨0, by omega, by omega, rfl, B0, fun j hj => by omega⟩
  case round =>
    obtain ⟨k, hk, rfl, rfl, hB, A⟩ := hrel
    clear c0 X0 B0 hw0
    by_cases hlt2 : k < n
    · have Q1 := hq.of_block (hB.block _ hlt)
      have p0 := Q1.c0 (i := k) (by omega)
      have p1 := Q1.c1 (i := k) (by omega)
      have p2 := Q1.c2 (i := k) (by omega)
      clear Q1
      generalize hz : pg x.L k = z at *
      obtain ⟨zr, zs, zk⟩ := z
      simp only at p0 p1 p2
      by_cases hh : zs = true ∧ zk = key
      · obtain ⟨rfl, rfl⟩ := hh
        go_wp2
        go_ret
        exact ⟨by rw [idxN_hit _ _ k (by omega) (by rw [hz]; unfold Pg.hit; simp) A.out]; rfl, hB.trans (((Below.refl _ _).alloc (Nat.le_refl _) _).mono hB.size)⟩
      · have hno : Pg.hit key ⟨zr, zs, zk⟩ = false := by
          unfold Pg.hit
          cases zs with
          | false => rfl
          | true => simp only [Bool.true_and]; exact decide_eq_false fun e => hh ⟨rfl, e⟩
        have HN : Hid _ := hno
        cases zs with
        | false =>
          clear hh hno
          go_wp2
          go_roundg (n - (k + 1))
          case measure => omega
          case rel =>
            refine ⟨k + 1, by omega, rfl, by go_num, hB.trans (((Below.refl _ _).alloc (Nat.le_refl _) _).mono hB.size), fun j hj => ?_⟩
            by_cases e : j = k
            · rw [e, hz]; exact HN.out
            · exact A.out j (by omega)
        | true =>
          have hh' : ¬ zk = key := fun e => hh ⟨rfl, e⟩
          clear hh hno
          go_wp2
          go_roundg (n - (k + 1))
          case measure => omega
          case rel =>
            refine ⟨k + 1, by omega, rfl, by go_num, hB.trans (((Below.refl _ _).alloc (Nat.le_refl _) _).mono hB.size), fun j hj => ?_⟩
            by_cases e : j = k
            · rw [e, hz]; exact HN.out
            · exact A.out j (by omega)
    · obtain rfl : k = n := by omega
      go_wp2
      go_ret
      exact ⟨by rw [idxN_miss _ _ (by rw [hn]; exact A.out)]; rfl, hB⟩
theorem cnt_take {f : Pg → Bool} {L : List Pg} {k : Nat} (h : k < L.length) : cnt f (L.take (k + 1)) = cnt f (L.take k) + (if f (pg L k) then 1 else 0) := by
  unfold cnt
  rw [List.take_succ_eq_append_getElem h, List.filter_append, List.length_append, pg_get h]
  by_cases h2 : f (pg L k) = true
  · rw [if_pos h2]; simp [h2]
  · rw [if_neg h2]; simp [h2]
set_option maxHeartbeats 2000000 in
theorem counts_ref (O : Nat → Prop) (p : RfV) (x : St) (w : World) (h : RfAt O w p x) : Calls Try.prog 26 #[p.val x] w fun e w' => e = .returned (.tuple #[.int .i64 (cnt Pg.free x.L : Int), .int .i64 (need x.L : Int), .int .i64 (x.I.length : Int)]) ∧ Below w.heap.size w w' := by
  obtain ⟨gp, cP, aI, cI⟩ := p
  have X0 := rbox w ⟨gp, cP, aI, cI⟩ x
  have C := fun (i : Nat) (v : World) (hb : Below w.heap.size w v) => free_ref O ⟨gp, cP, aI, cI⟩ x i v (h.below hb)
  simp only [RfV.val] at X0 C ⊢
  have B0 : Below w.heap.size w (w.alloc (.cells #[.slice (some ⟨gp, 0, none⟩) x.L.length cP, .slice aI x.I.length cI] 31)) := (Below.refl _ _).alloc (Nat.le_refl _) _
  have hq : Qgs w gp x.L := h.pages
  have hf := h.few
  have hlt := hq.lt
  generalize hw0 : w.alloc (.cells #[.slice (some ⟨gp, 0, none⟩) x.L.length cP, .slice aI x.I.length cI] 31) = w0 at *
  have c0 := X0.cell 0 (v := .slice (some ⟨gp, 0, none⟩) x.L.length cP) rfl
  have HN : Hid (need (x.L.take 0) = 0) := rfl
  have HF : Hid (cnt Pg.free (x.L.take 0) = 0) := rfl
  clear h
  generalize hn : x.L.length = n at *
  go_enter Try.func26, Try.ntmps26
  go_wp2
  go_loopg [5, 6, 12] n (fun gg s5 s6 s12 wr => ∃ k c d : Nat, k ≤ n ∧ gg = n - k ∧ s12 = .int .i64 (k : Int) ∧ s5 = .int .i64 (c : Int) ∧ s6 = .int .i64 (d : Int) ∧ c ≤ k ∧ d ≤ k ∧ Hid (c = cnt Pg.free (x.L.take k)) ∧ Hid (d = need (x.L.take k)) ∧ Blk wr w.heap.size 31 #[.slice (some ⟨gp, 0, none⟩) n cP, .slice aI x.I.length cI] ∧ Below w.heap.size w wr)
  case atStart => exact ⟨0, 0, 0, by omega, by omega, rfl, rfl, rfl, by omega, by omega, HF.out.symm, HN.out.symm, X0, B0⟩
  case round =>
    obtain ⟨k, c, d, hk, rfl, rfl, rfl, rfl, hck, hdk, E1, E2, Y0, hB⟩ := hrel
    clear c0 X0 B0 hw0 HN HF
    by_cases hlt2 : k < n
    · have Q1 := hq.of_block (hB.block _ hlt)
      have p0 := Q1.c0 (i := k) (by omega)
      have p1 := Q1.c1 (i := k) (by omega)
      have p2 := Q1.c2 (i := k) (by omega)
      have B1 : Below wr.heap.size wr (wr.alloc (.cells #[.int .i64 ((pg x.L k).r : Int), .bool (pg x.L k).s, .int .i64 (pg x.L k).k] 61)) := (Below.refl _ _).alloc (Nat.le_refl _) _
      have X1 := blk_new wr 61 #[.int .i64 ((pg x.L k).r : Int), .bool (pg x.L k).s, .int .i64 (pg x.L k).k]
      generalize hw1 : wr.alloc (.cells #[.int .i64 ((pg x.L k).r : Int), .bool (pg x.L k).s, .int .i64 (pg x.L k).k] 61) = w1 at *
      have b1 := hB.trans (B1.mono hB.size)
      have Y1 := Y0.below B1 Y0.lt
      have u0 := Y1.cell 0 (v := .slice (some ⟨gp, 0, none⟩) n cP) rfl
      have u1 := Y1.cell 1 (v := .slice aI x.I.length cI) rfl
      have F1 : Hid (cnt Pg.free (x.L.take (k + 1)) = c + (if (pg x.L k).free then 1 else 0)) := by show _ = _; rw [cnt_take (by omega), E1.out]
      have F2 : Hid (need (x.L.take (k + 1)) = d + (if 0 < (pg x.L k).r then 1 else 0)) := by show _ = _; rw [need_take (by omega), E2.out]
      have C1 := C k w1 b1
      rw [atN_nat] at C1
      have e : inN x.L k = true := by unfold inN; rw [decide_eq_true (by omega)]
      rw [e, Bool.true_and] at C1
      clear Q1 e Y0
      generalize pg x.L k = z at *
      obtain ⟨zr, zs, zk⟩ := z
      simp only at p0 p1 p2 F2 X1
      by_cases hzr : 0 < zr
      · have hz' : (0 : Int) < (zr : Int) := by omega
        have hfr : Pg.free ⟨zr, zs, zk⟩ = false := by unfold Pg.free; simp; omega
        rw [hfr] at C1 F1
        rw [if_pos hzr] at F2
        clear hzr hfr
        go_wp2_with (go_at_call 34; refine C1.mono ?_; rintro e w2 ⟨rfl, B2⟩; have x0 := (X1.below B2 X1.lt).cell 0 rfl)
        go_roundg (n - (k + 1))
        case measure => omega
        case rel => exact ⟨k + 1, c, d + 1, by omega, rfl, by go_num, rfl, by go_num, by omega, by omega, F1.out.symm, F2.out.symm, Y1.below B2 Y1.lt, b1.trans (B2.mono b1.size)⟩
      · have hz' : zr = 0 := by omega
        subst hz'
        rw [if_neg hzr] at F2
        clear hzr
        simp only [Int.natCast_zero] at p0 X1 hw1
        cases zs with
        | false =>
          have hfr : Pg.free ⟨0, false, zk⟩ = true := rfl
          rw [hfr] at C1 F1
          clear hfr
          go_wp2_with (go_at_call 34; refine C1.mono ?_; rintro e w2 ⟨rfl, B2⟩; have x0 := (X1.below B2 X1.lt).cell 0 rfl)
          go_roundg (n - (k + 1))
          case measure => omega
          case rel => exact ⟨k + 1, c + 1, d, by omega, rfl, by go_num, by go_num, rfl, by omega, by omega, F1.out.symm, F2.out.symm, Y1.below B2 Y1.lt, b1.trans (B2.mono b1.size)⟩
        | true =>
          have hfr : Pg.free ⟨0, true, zk⟩ = false := rfl
          rw [hfr] at C1 F1
          clear hfr
          go_wp2_with (go_at_call 34; refine C1.mono ?_; rintro e w2 ⟨rfl, B2⟩; have x0 := (X1.below B2 X1.lt).cell 0 rfl)
          go_roundg (n - (k + 1))
          case measure => omega
          case rel => exact ⟨k + 1, c, d, by omega, rfl, by go_num, rfl, rfl, by omega, by omega, F1.out.symm, F2.out.symm, Y1.below B2 Y1.lt, b1.trans (B2.mono b1.size)⟩
    · obtain rfl : k = n := by omega
      have G1 : Hid (c = cnt Pg.free x.L) := by show _ = _; rw [E1.out, ← hn, List.take_length]
      have G2 : Hid (d = need x.L) := by show _ = _; rw [E2.out, ← hn, List.take_length]
      have u1 := Y0.cell 1 (v := .slice aI x.I.length cI) rfl
      clear E1 E2 C hq
      go_wp2
      go_region
      go_wp2
      go_ret3
      exact ⟨by rw [← G1.out, ← G2.out]; rfl, hB.drew⟩
end Go.Proofs.Ytfkmmjfahdpfcaa
