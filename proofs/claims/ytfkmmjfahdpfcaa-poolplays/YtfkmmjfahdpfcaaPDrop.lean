/- The pool's calls: Drop, Counts. -/
import Derived.Test.YtfkmmjfahdpfcaaPSeal
import Derived.Test.YtfkmmjfahdpfcaaPApp
namespace Go.Proofs.Ytfkmmjfahdpfcaa
open Go.ChangeShapes Go.WideShapes Go.ChangeAt Go.RowKit
theorem drop_none (b : Nat) (i : Int) (L : List Pg) (I : List Nat) (w : World) (h : PoolAt w b L I) (hi : -9223372036854775808 ≤ i ∧ i ≤ 9223372036854775807) (hf : (atN L i).r = 0) :
   Calls Try.prog 15 #[.pointer (some ⟨b + 1, 0, none⟩), .int .i64 i] w fun e w' => e = .returned (.int .i64 8) ∧ Below w.heap.size w w' := by
  have C := at_any b i L I w h hi
  generalize atN L i = p at *
  obtain ⟨r, s, k⟩ := p
  simp only at hf
  subst hf
  unfold Pg.val at C
  have hfd := Try.fieldRefs 0 s k
  clear h
  simp only [Int.natCast_zero] at C hfd
  go_enter Try.func15, Try.ntmps15
  go_wp2_with (go_at_call 31; refine C.mono ?_; rintro e w2 ⟨rfl, B2⟩)
  go_ret
  exact ⟨rfl, B2⟩
theorem Try.infoInt : (Try.prog.info? 3).map (fun i => (i.zero, i.size, i.bytes)) = some (some (.int .i64 0), 1, 8) := by kernel_rfl
set_option maxHeartbeats 1000000 in
set_option maxRecDepth 100000 in
theorem drop_stay (b j : Nat) (L : List Pg) (I : List Nat) (w : World) (h : PoolAt w b L I) (hl : L.length ≤ 64) (hj : j < L.length) (hr : 1 ≤ (pg L j).r) (hr2 : (pg L j).r ≤ 1000) (hn : ({ pg L j with r := (pg L j).r - 1 } : Pg).idle = false) :
   Calls Try.prog 15 #[.pointer (some ⟨b + 1, 0, none⟩), .int .i64 (j : Int)] w fun e w' => e = .returned (.int .i64 0) ∧ PoolAt w' b (L.set j { pg L j with r := (pg L j).r - 1 }) I ∧ Turns b w w' := by
  have C := at_any b j L I w h (by omega)
  rw [atN_nat] at C
  have D := isIdle_any { pg L j with r := (pg L j).r - 1 }
  rw [hn] at D
  have HH : Hid _ := h
  have hs := h.size
  have HS : Hid (∀ w3, PoolAt w3 b L I → w3.cell? ⟨b, j * 3, none⟩ = some (.int .i64 ((pg L j).r : Int)) ∧ PoolAt (w3.setCell ⟨b, j * 3, none⟩ (.int .i64 (((pg L j).r - 1 : Nat) : Int))) b (L.set j { pg L j with r := (pg L j).r - 1 }) I ∧ (w3.setCell ⟨b, j * 3, none⟩ (.int .i64 (((pg L j).r - 1 : Nat) : Int))).cell? ⟨b, j * 3 + 1, none⟩ = some (.bool (pg L j).s) ∧ (w3.setCell ⟨b, j * 3, none⟩ (.int .i64 (((pg L j).r - 1 : Nat) : Int))).cell? ⟨b, j * 3 + 2, none⟩ = some (.int .i64 (pg L j).k) ∧ (w3.setCell ⟨b, j * 3, none⟩ (.int .i64 (((pg L j).r - 1 : Nat) : Int))).cell? ⟨b, j * 3, none⟩ = some (.int .i64 (((pg L j).r - 1 : Nat) : Int))) := fun w3 h3 => by
    have h5 := h3.set0 hj ((pg L j).r - 1)
    have u0 := h5.pages.c0 (i := j) (by simpa using hj)
    have u1 := h5.pages.c1 (i := j) (by simpa using hj)
    have u2 := h5.pages.c2 (i := j) (by simpa using hj)
    rw [pg_set hj, if_pos rfl] at u0 u1 u2
    exact ⟨h3.pages.c0 hj, h5, u1, u2, u0⟩
  generalize pg L j = p at *
  obtain ⟨r, s, k⟩ := p
  unfold Pg.val at C D
  simp only at hr hr2 D HS
  obtain ⟨q, rfl⟩ : ∃ q, r = q + 1 := ⟨r - 1, by omega⟩
  simp only [Nat.add_sub_cancel] at D HS
  have hfd := Try.fieldRefs (q + 1) s k
  clear h hn
  have hq1 : (0 : Int) ≤ (q : Int) ∧ (q : Int) < 1000 := by omega
  have e1 : (((q + 1 : Nat)) : Int) = (q : Int) + 1 := by omega
  simp only [e1] at C hfd HS
  clear hr hr2 e1
  go_enter Try.func15, Try.ntmps15
  go_wp2_with first
    | (go_at_call 31; refine C.mono ?_; rintro e w2 ⟨rfl, B2⟩; have h2 := HH.out.below B2; have y0 := h2.box0; have f0 := h2.pages.frozen (j * 3); obtain ⟨y1, h5, y2, y3, y4⟩ := HS.out w2 h2; have y5 := h5.box0; simp only [List.length_set] at y5)
    | (go_at_call 32; refine (D _).mono ?_; rintro e w3 ⟨rfl, B3⟩)
  go_ret
  have B4 : Turns b w (w2.setCell ⟨b, j * 3, none⟩ (.int .i64 (q : Int))) := (Turns.of_below B2 (by omega)).set _ _
  exact ⟨rfl, by rw [Nat.add_sub_cancel]; exact h5.below B3, B4.trans (Turns.of_below B3 (by have := h5.size; omega))⟩
theorem one_cell {w : World} {g : Nat} {v : Value} (h : w.cell? ⟨g, 0, none⟩ = some v) : ∀ t u, [v][t]? = some u → w.cell? ((⟨g, 0, none⟩ : Addr).add t) = some u := by
  intro t u ht
  cases t with
  | zero =>
    simp only [List.getElem?_cons_zero, Option.some.injEq] at ht
    subst ht
    have e : (⟨g, 0, none⟩ : Addr).add 0 = ⟨g, 0, none⟩ := rfl
    rw [e]; exact h
  | succ t => simp at ht
theorem one_one (x : Int) : ∀ u ∈ [Value.int .i64 x], u.oneCell' = true := by
  intro u hu
  simp only [List.mem_singleton] at hu
  subst hu
  rfl
set_option maxHeartbeats 2000000 in
set_option maxRecDepth 100000 in
theorem drop_idle (b j : Nat) (L : List Pg) (I : List Nat) (w : World) (h : PoolAt w b L I) (hl : L.length ≤ 64) (hI : I.length ≤ 64) (hj : j < L.length) (hr : (pg L j).r = 1) (hs1 : (pg L j).s = true) :
   Calls Try.prog 15 #[.pointer (some ⟨b + 1, 0, none⟩), .int .i64 (j : Int)] w fun e w' => e = .returned (.int .i64 0) ∧ PoolAt w' b (L.set j { pg L j with r := 0 }) (I ++ [j]) ∧ Turns b w w' := by
  have C := at_any b j L I w h (by omega)
  rw [atN_nat] at C
  have D := isIdle_any { pg L j with r := 0 }
  have hn : ({ pg L j with r := 0 } : Pg).idle = true := by unfold Pg.idle; simp [hs1]
  rw [hn] at D
  have HH : Hid _ := h
  have hs := h.size
  have HS : Hid (∀ w3, PoolAt w3 b L I → w3.cell? ⟨b, j * 3, none⟩ = some (.int .i64 1) ∧ PoolAt (w3.setCell ⟨b, j * 3, none⟩ (.int .i64 0)) b (L.set j { pg L j with r := 0 }) I ∧ (w3.setCell ⟨b, j * 3, none⟩ (.int .i64 0)).cell? ⟨b, j * 3 + 1, none⟩ = some (.bool (pg L j).s) ∧ (w3.setCell ⟨b, j * 3, none⟩ (.int .i64 0)).cell? ⟨b, j * 3 + 2, none⟩ = some (.int .i64 (pg L j).k) ∧ (w3.setCell ⟨b, j * 3, none⟩ (.int .i64 0)).cell? ⟨b, j * 3, none⟩ = some (.int .i64 0)) := fun w3 h3 => by
    have h5 := h3.set0 hj 0
    have u0 := h5.pages.c0 (i := j) (by simpa using hj)
    have u1 := h5.pages.c1 (i := j) (by simpa using hj)
    have u2 := h5.pages.c2 (i := j) (by simpa using hj)
    rw [pg_set hj, if_pos rfl] at u0 u1 u2
    have u3 := h3.pages.c0 hj
    rw [hr] at u3
    exact ⟨u3, h5, u1, u2, u0⟩
  generalize pg L j = p at *
  obtain ⟨r, s, k⟩ := p
  unfold Pg.val at C D
  simp only at hr hs1 D HS
  subst hr hs1
  have hfd := Try.fieldRefs 1 true k
  simp only [Int.natCast_zero, Int.natCast_one] at C D hfd HS
  clear h hn
  obtain ⟨i0, hi, hz0, hz1, hz2⟩ := info_parts Try.infoInt
  go_enter Try.func15, Try.ntmps15
  go_wp2_with first
    | (go_at_call 31; refine C.mono ?_; rintro e w2 ⟨rfl, B2⟩; have h2 := HH.out.below B2; have y0 := h2.box0; have f0 := h2.pages.frozen (j * 3); obtain ⟨y1, h5, y2, y3, y4⟩ := HS.out w2 h2; have y5 := h5.box0; simp only [List.length_set] at y5)
    | (go_at_call 32; refine (D _).mono ?_; rintro e w3 ⟨rfl, B3⟩; have h6 := h5.below B3; obtain ⟨vi, K1, K2, K3⟩ := h6.idle; obtain ⟨ao, cc, rfl⟩ := K2.slice; have d1 := K1.cell 1 (v := .slice ao I.length cc) rfl; have B6 : Below w3.heap.size w3 (w3.alloc (.cells #[.int .i64 (j : Int)] 3)) := (Below.refl _ _).alloc (Nat.le_refl _) _; have h7 := h6.below B6; have K4 := K2.below B6; have K5 := K1.below B6 K1.lt; have z0 := (blk_new w3 3 #[.int .i64 (j : Int)]).cell 0 (v := .int .i64 (j : Int)) rfl; clear K2 h6 y0 y1 y2 y3 y4 y5 f0)
    | (at_builtin; refine wpList_append_own2 _ rfl _ _ 29 rfl (b + 2) 3 i0 (.int .i64 0) 1 8 Try.underlying29 hi hz0 hz1 hz2 rfl (by decide) _ I.length _ rfl K4 ⟨w3.heap.size, 0, none⟩ 1 1 [.int .i64 (j : Int)] rfl rfl (one_cell z0) (one_one _) (by unfold maxLen; omega) (by omega) (by have := K1.lt; simp; omega) ?_; intro v' w5 O1 G1 N1 N2; have D1 : Idl w5 (b + 2) v' (I ++ [j]) := (by unfold Idl; simpa using O1); obtain ⟨ao2, c2, rfl⟩ := D1.slice; have g5 := K5.of_block (G1.block (b + 1) K5.lt (fun e => by have := K3 _ e.symm; omega)); have f5 := g5.frozen 1; have x5 := g5.cell 1 (v := .slice ao I.length cc) rfl)
  go_ret
  have e9 : (I ++ [j]).length = I.length + 1 := by simp
  rw [e9] at D1 N2
  have P5 := h7.pages.of_block (G1.block b h7.pages.lt (fun e => by have := K3 _ e.symm; omega))
  have B4 : Turns b w (w2.setCell ⟨b, j * 3, none⟩ (.int .i64 0)) := (Turns.of_below B2 (by omega)).set _ _
  have q1 := h5.size
  have q2 := K1.lt
  have B7 : Turns b w w3 := B4.trans (Turns.of_below B3 (by omega))
  have e10 : idleBlk w3 b = (Value.slice ao I.length cc).ownBlock := idleBlk_of d1
  have B8 : Turns b w3 (w5.setCell ⟨b + 1, 1, none⟩ (.slice ao2 (I.length + 1) c2)) := turns_idle B6 (by omega) e10 (fun g hg => (K3 g hg).1) G1 g5 (fun g hg => (N2 g hg).elim Or.inl (fun e => Or.inr (by simp at e; omega))) (fun hg => by
    exfalso
    cases ao2 with
    | none =>
      rcases D1.cases with ⟨_, h0⟩ | ⟨g, cap, cs, h0, _⟩
      · simp at h0
      · cases h0
    | some a => cases hg)
  refine ⟨rfl, ⟨P5.other (a := ⟨b + 1, 1, none⟩) (by show b ≠ b + 1; omega) _, _, g5.set 1 _, ?_⟩, B7.trans B8⟩
  have D2 := D1.other (a := ⟨b + 1, 1, none⟩) (by show b + 1 < b + 2; omega) (.slice ao2 (I.length + 1) c2)
  exact D2
/-- How many pages are needed. -/
def need (L : List Pg) : Nat := (L.filter fun p => decide (0 < p.r)).length
theorem need_take {L : List Pg} {k : Nat} (h : k < L.length) : need (L.take (k + 1)) = need (L.take k) + (if 0 < (pg L k).r then 1 else 0) := by
  unfold need
  rw [List.take_succ_eq_append_getElem h, List.filter_append, List.length_append, pg_get h]
  by_cases h2 : 0 < (pg L k).r
  · rw [if_pos h2]; simp [h2]
  · rw [if_neg h2]; simp [h2]
theorem need_le (L : List Pg) : need L ≤ L.length := List.length_filter_le _ _
set_option maxHeartbeats 2000000 in
theorem counts_any (b : Nat) (L : List Pg) (I : List Nat) (w : World) (h : PoolAt w b L I) (hl : L.length ≤ 64) (hI : I.length ≤ 64) :
   Calls Try.prog 17 #[.pointer (some ⟨b + 1, 0, none⟩)] w fun e w' => e = .returned (.tuple #[.int .i64 ((L.length : Int) - (need L : Int) - (I.length : Int)), .int .i64 (need L : Int), .int .i64 (I.length : Int)]) ∧ Below w.heap.size w w' := by
  have c0 := h.box0
  obtain ⟨vi, K1, K2, K3⟩ := h.idle
  obtain ⟨ao, cc, rfl⟩ := K2.slice
  have c1 := K1.cell 1 (v := .slice ao I.length cc) rfl
  have hP := h.pages
  have HB : Hid (∀ wr, Below w.heap.size w wr → wr.cell? ⟨b + 1, 0, none⟩ = some (.slice (some ⟨b, 0, none⟩) L.length L.length)) := fun wr hb => (h.below hb).box0
  have hnl := need_le L
  have HN : Hid (need (L.take 0) = 0) := rfl
  clear h K1 K2 K3
  generalize hn : L.length = n at *
  generalize hm : I.length = m at *
  go_enter Try.func17, Try.ntmps17
  go_wp2
  go_loopg [6, 8, 19] n (fun gg s6 _ s19 wr => ∃ k c : Nat, k ≤ n ∧ gg = n - k ∧ s6 = .int .i64 (c : Int) ∧ s19 = .int .i64 (k : Int) ∧ Hid (c = need (L.take k)) ∧ c ≤ k ∧ Below w.heap.size w wr)
  case atStart => exact ⟨0, 0, by omega, by omega, rfl, rfl, HN.out.symm, by omega, Below.refl _ _⟩
  case round =>
    obtain ⟨k, c, hk, rfl, rfl, rfl, E, hck, BW⟩ := hrel
    clear c0 c1
    by_cases hlt : k < n
    · have P1 := hP.below BW hP.lt
      have p0 := P1.c0 (i := k) (by omega)
      have p1 := P1.c1 (i := k) (by omega)
      have p2 := P1.c2 (i := k) (by omega)
      have E2 : Hid (need (L.take (k + 1)) = c + (if 0 < (pg L k).r then 1 else 0)) := by show _ = _; rw [need_take (by omega), E.out]
      clear P1 HB hP
      generalize pg L k = z at *
      obtain ⟨zr, zs, zk⟩ := z
      simp only at p0 p1 p2 E2
      by_cases hz : 0 < zr
      · rw [if_pos hz] at E2
        have hz' : (0 : Int) < (zr : Int) := by omega
        clear hz
        go_wp2
        go_roundg (n - (k + 1))
        case measure => omega
        case rel => exact ⟨k + 1, c + 1, by omega, rfl, by go_num, by go_num, E2.out.symm, by omega, below_then BW ((Below.refl _ _).alloc (Nat.le_refl _) _)⟩
      · rw [if_neg hz] at E2
        have hz' : zr = 0 := by omega
        subst hz'
        clear hz
        simp only [Int.natCast_zero] at p0
        go_wp2
        go_roundg (n - (k + 1))
        case measure => omega
        case rel => exact ⟨k + 1, c, by omega, rfl, by go_num, by go_num, E2.out.symm, by omega, below_then BW ((Below.refl _ _).alloc (Nat.le_refl _) _)⟩
    · obtain rfl : k = n := by omega
      have c0 := HB.out wr BW
      have E3 : c = need L := by rw [E.out, ← hn, List.take_length]
      have EE : Hid (c = need L) := E3
      clear E3 E HB hP HN hnl
      go_wp2
      go_ret3
      exact ⟨by rw [← EE.out]; rfl, BW⟩
end Go.Proofs.Ytfkmmjfahdpfcaa
