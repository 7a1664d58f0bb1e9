/- The authority's calls: Grant, Let, Restart. -/
import Derived.Test.YtacmphckmjangaaLsWho
namespace Go.Proofs.Ytacmphckmjangaa
open Go.ChangeShapes Go.WideShapes Go.ChangeAt Go.RowKit Go.Maps
/-- Why a place isn't granted; 0: it is. -/
def badA (now term ho : Int) : Prop := term < 1 ∨ 1048576 < term ∨ now < 0 ∨ 1099511627776 < now ∨ ho < 0
instance (now term ho : Int) : Decidable (badA now term ho) := by unfold badA; exact inferInstance
def busy (o : Option Hg) (ho : Int) : Bool := match o with
  | some h => decide (h.hol ≠ ho)
  | none => false
def mayN (ep q now term x ho : Int) (L : List (Int × Hg)) : Int :=
  if badA now term ho then 1 else if now < q then 16 else if busy (whoL now L x) ho then 15 else if 1099511627776 ≤ ep then 2 else 0
set_option maxHeartbeats 4000000 in
theorem lmay_bad (ep q : Int) (mo : Option Nat) (now term x ho : Int) (w : World) (h : badA now term ho) :
   Calls Try.prog 15 #[lsV ep q mo, .int .i64 now, .int .i64 term, .int .i64 x, .int .i64 ho] w fun e w' => e = .returned (.int .i64 1) ∧ Below w.heap.size w w' := by
  have B0 := below_alloc' w (.cells #[.int .i64 ep, .int .i64 q, .map mo] 26)
  unfold lsV
  unfold badA at h
  by_cases h1 : term < 1
  · go_enter Try.func15, Try.ntmps15
    go_wp2
    go_ret
    exact ⟨rfl, B0⟩
  have d1 := decide_eq_false h1
  by_cases h2 : 1048576 < term
  · go_enter Try.func15, Try.ntmps15
    go_wp2
    go_ret
    exact ⟨rfl, B0⟩
  have d2 := decide_eq_false h2
  by_cases h3 : now < 0
  · go_enter Try.func15, Try.ntmps15
    go_wp2
    go_ret
    exact ⟨rfl, B0⟩
  have d3 := decide_eq_false h3
  by_cases h4 : 1099511627776 < now
  · go_enter Try.func15, Try.ntmps15
    go_wp2
    go_ret
    exact ⟨rfl, B0⟩
  have d4 := decide_eq_false h4
  have h5 : ho < 0 := by omega
  clear h
  go_enter Try.func15, Try.ntmps15
  go_wp2
  go_ret
  exact ⟨rfl, B0⟩
set_option maxHeartbeats 4000000 in
theorem lmay_any (ep q : Int) (mo : Option Nat) (now term x ho : Int) (L : List (Int × Hg)) (w : World) (hM : HgM w mo L) (hx : -9223372036854775808 ≤ x ∧ x ≤ 9223372036854775807) :
   Calls Try.prog 15 #[lsV ep q mo, .int .i64 now, .int .i64 term, .int .i64 x, .int .i64 ho] w fun e w' => e = .returned (.int .i64 (mayN ep q now term x ho L)) ∧ Below w.heap.size w w' := by
  by_cases hb : badA now term ho
  · have e : mayN ep q now term x ho L = 1 := by unfold mayN; rw [if_pos hb]
    rw [e]
    exact lmay_bad ep q mo now term x ho w hb
  obtain ⟨r, hr⟩ : ∃ r, r = mayN ep q now term x ho L := ⟨_, rfl⟩
  rw [← hr]
  unfold mayN at hr
  rw [if_neg hb] at hr
  unfold badA at hb
  have d1 : ¬ term < 1 := by omega
  have d2 : ¬ 1048576 < term := by omega
  have d3 : ¬ now < 0 := by omega
  have d4 : ¬ 1099511627776 < now := by omega
  have d5 : ¬ ho < 0 := by omega
  clear hb
  have X0 := blk_new w 26 #[.int .i64 ep, .int .i64 q, .map mo]
  have B0 := below_alloc' w (.cells #[.int .i64 ep, .int .i64 q, .map mo] 26)
  generalize hw0 : w.alloc (.cells #[.int .i64 ep, .int .i64 q, .map mo] 26) = w0 at *
  have C := lwho_any ep q mo now x L w0 (hM.below B0) hx
  have c1 : w0.cell? ⟨w.heap.size, 1, none⟩ = some (.int .i64 q) := X0.cell 1 rfl
  unfold lsV at *
  by_cases hq : now < q
  · rw [if_pos hq] at hr
    subst hr
    go_enter Try.func15, Try.ntmps15
    go_wp2
    go_ret
    exact ⟨rfl, B0⟩
  rw [if_neg hq] at hr
  have XH := fun (W : World) => blk_new W 51 #[.int .i64 0, .int .i64 0, .int .i64 0]
  have HX : Hid (∀ (W : World) (a b c : Int), Below w0.heap.size w0 W → let W1 := (W.alloc (.cells #[.int .i64 0, .int .i64 0, .int .i64 0] 51)).setRow W.heap.size #[.int .i64 a, .int .i64 b, .int .i64 c]; Below w.heap.size w W1 ∧ W1.cell? ⟨W.heap.size, 0, none⟩ = some (.int .i64 a) ∧ W1.cell? ⟨w.heap.size, 0, none⟩ = some (.int .i64 ep)) := fun W a b c hW => by
    have hlt := X0.lt
    have hsz := hW.size
    have hsz0 := B0.size
    refine ⟨below_row ((B0.trans (hW.mono B0.size)).alloc (by omega) _) (by omega) _, ((XH W).row _).cell 0 rfl, ?_⟩
    have e : ((W.alloc (.cells #[.int .i64 0, .int .i64 0, .int .i64 0] 51)).setRow W.heap.size #[.int .i64 a, .int .i64 b, .int .i64 c]).heap[w.heap.size]? = w0.heap[w.heap.size]? := by
      rw [setRow_other _ _ _ _ (by omega), Below.heap_alloc _ _ _ (by omega), hW.block _ hlt]
    exact (X0.of_block e).cell 0 rfl
  generalize whoL now L x = o at *
  rcases o with _ | h
  · simp only [busy, Bool.false_eq_true, if_false] at hr
    have HR : Hid _ := hr
    clear hr
    simp only [Option.getD_none, Option.isSome_none] at C
    unfold Hg.val Hg.zero at C
    simp only at C
    by_cases he : 1099511627776 ≤ ep
    · go_enter Try.func15, Try.ntmps15
      go_wp2_with (first
        | (go_at_call 13; refine C.mono ?_; rintro e w2 ⟨rfl, B2⟩; obtain ⟨B3, k0, k1⟩ := HX.out w2 0 0 0 B2; have XW := XH w2; generalize hwA : w2.alloc (.cells #[.int .i64 0, .int .i64 0, .int .i64 0] 51) = wA at *; generalize hwB : wA.setRow w2.heap.size #[.int .i64 0, .int .i64 0, .int .i64 0] = wB at *)
        | (refine wpList_load_row rfl 26 _ rfl w.heap.size rfl 26 _ (0, 0) _ X0 Try.underlying26 rfl Try.infoLs ?_)
        | (refine wpList_store_row rfl 51 _ _ rfl w2.heap.size _ rfl rfl 51 _ XW Try.infoHg rfl (hall3 _ _ _) ?_; rw [hwB]))
      go_ret
      exact ⟨by rw [HR.out, if_pos he]; rfl, B3⟩
    · go_enter Try.func15, Try.ntmps15
      go_wp2_with (first
        | (go_at_call 13; refine C.mono ?_; rintro e w2 ⟨rfl, B2⟩; obtain ⟨B3, k0, k1⟩ := HX.out w2 0 0 0 B2; have XW := XH w2; generalize hwA : w2.alloc (.cells #[.int .i64 0, .int .i64 0, .int .i64 0] 51) = wA at *; generalize hwB : wA.setRow w2.heap.size #[.int .i64 0, .int .i64 0, .int .i64 0] = wB at *)
        | (refine wpList_load_row rfl 26 _ rfl w.heap.size rfl 26 _ (0, 0) _ X0 Try.underlying26 rfl Try.infoLs ?_)
        | (refine wpList_store_row rfl 51 _ _ rfl w2.heap.size _ rfl rfl 51 _ XW Try.infoHg rfl (hall3 _ _ _) ?_; rw [hwB]))
      go_ret
      exact ⟨by rw [HR.out, if_neg (by omega)]; rfl, B3⟩
  · obtain ⟨a, b, c⟩ := h
    simp only [busy] at hr
    simp only [Option.getD_some, Option.isSome_some] at C
    unfold Hg.val at C
    simp only at C
    by_cases ha : a = ho
    · subst ha
      simp only [ne_eq, not_true, decide_false, Bool.false_eq_true, if_false] at hr
      have HR : Hid _ := hr
      clear hr
      by_cases he : 1099511627776 ≤ ep
      · go_enter Try.func15, Try.ntmps15
        go_wp2_with (first
          | (go_at_call 13; refine C.mono ?_; rintro e w2 ⟨rfl, B2⟩; obtain ⟨B3, k0, k1⟩ := HX.out w2 a b c B2; have XW := XH w2; generalize hwA : w2.alloc (.cells #[.int .i64 0, .int .i64 0, .int .i64 0] 51) = wA at *; generalize hwB : wA.setRow w2.heap.size #[.int .i64 a, .int .i64 b, .int .i64 c] = wB at *)
          | (refine wpList_load_row rfl 26 _ rfl w.heap.size rfl 26 _ (0, 0) _ X0 Try.underlying26 rfl Try.infoLs ?_)
          | (refine wpList_store_row rfl 51 _ _ rfl w2.heap.size _ rfl rfl 51 _ XW Try.infoHg rfl (hall3 _ _ _) ?_; rw [hwB]))
        go_ret
        exact ⟨by rw [HR.out, if_pos he]; rfl, B3⟩
      · go_enter Try.func15, Try.ntmps15
        go_wp2_with (first
          | (go_at_call 13; refine C.mono ?_; rintro e w2 ⟨rfl, B2⟩; obtain ⟨B3, k0, k1⟩ := HX.out w2 a b c B2; have XW := XH w2; generalize hwA : w2.alloc (.cells #[.int .i64 0, .int .i64 0, .int .i64 0] 51) = wA at *; generalize hwB : wA.setRow w2.heap.size #[.int .i64 a, .int .i64 b, .int .i64 c] = wB at *)
          | (refine wpList_load_row rfl 26 _ rfl w.heap.size rfl 26 _ (0, 0) _ X0 Try.underlying26 rfl Try.infoLs ?_)
          | (refine wpList_store_row rfl 51 _ _ rfl w2.heap.size _ rfl rfl 51 _ XW Try.infoHg rfl (hall3 _ _ _) ?_; rw [hwB]))
        go_ret
        exact ⟨by rw [HR.out, if_neg (by omega)]; rfl, B3⟩
    · simp only [ne_eq, ha, not_false_iff, decide_true, if_true] at hr
      subst hr
      go_enter Try.func15, Try.ntmps15
      go_wp2_with (first
        | (go_at_call 13; refine C.mono ?_; rintro e w2 ⟨rfl, B2⟩; obtain ⟨B3, k0, k1⟩ := HX.out w2 a b c B2; have XW := XH w2; generalize hwA : w2.alloc (.cells #[.int .i64 0, .int .i64 0, .int .i64 0] 51) = wA at *; generalize hwB : wA.setRow w2.heap.size #[.int .i64 a, .int .i64 b, .int .i64 c] = wB at *)
        | (refine wpList_load_row rfl 26 _ rfl w.heap.size rfl 26 _ (0, 0) _ X0 Try.underlying26 rfl Try.infoLs ?_)
        | (refine wpList_store_row rfl 51 _ _ rfl w2.heap.size _ rfl rfl 51 _ XW Try.infoHg rfl (hall3 _ _ _) ?_; rw [hwB]))
      go_ret
      exact ⟨rfl, B3⟩
theorem results_blk3 {fn : Func} {p u v : Tmp} {ty : TypeId} (h : fn.results = #[.cell p ty, .tmp u, .tmp v]) (tmps : Array Value) (w : World) (g : Nat) (cs : Array Value)
    (hp : tmps.getD p undef = .pointer (some ⟨g, 0, none⟩)) (hl : (loadVar ty ⟨g, 0, none⟩).run Try.prog w = .ok (.agg cs) w) :
    (results fn tmps).run Try.prog w = .ok (.tuple #[.agg cs, tmps.getD u undef, tmps.getD v undef]) w := by
  have hp' : tmps[p]?.getD undef = .pointer (some ⟨g, 0, none⟩) := by simpa using hp
  simp [results, h, hp', asAddr, hl]
set_option maxHeartbeats 4000000 in
theorem lgrant_bad (ep q : Int) (mo : Option Nat) (now term x ho : Int) (L : List (Int × Hg)) (w : World) (hM : HgM w mo L) (hl : L.length ≤ 100000) (hx : -9223372036854775808 ≤ x ∧ x ≤ 9223372036854775807) (hb : mayN ep q now term x ho L ≠ 0) :
   Calls Try.prog 6 #[lsV ep q mo, .int .i64 now, .int .i64 term, .int .i64 x, .int .i64 ho] w fun e w' => ∃ b, e = .returned (.tuple #[lsV ep q (some b), .int .i64 0, .int .i64 (mayN ep q now term x ho L)]) ∧ MapAt Hg.val w' b L ∧ w.heap.size ≤ b ∧ Below w.heap.size w w' := by
  have X0 := blk_new w 26 #[.int .i64 ep, .int .i64 q, .map mo]
  have B0 := below_alloc' w (.cells #[.int .i64 ep, .int .i64 q, .map mo] 26)
  have s0 : (w.alloc (.cells #[.int .i64 ep, .int .i64 q, .map mo] 26)).heap.size = w.heap.size + 1 := by simp
  generalize hw0 : w.alloc (.cells #[.int .i64 ep, .int .i64 q, .map mo] 26) = w0 at *
  have X1 := blk_new w0 26 #[.int .i64 0, .int .i64 0, .map none]
  have B1 := below_alloc' w0 (.cells #[.int .i64 0, .int .i64 0, .map none] 26)
  have s1 : (w0.alloc (.cells #[.int .i64 0, .int .i64 0, .map none] 26)).heap.size = w.heap.size + 1 + 1 := by simp [s0]
  have X01 := X0.below B1
  rw [s0] at X1
  generalize hw1 : w0.alloc (.cells #[.int .i64 0, .int .i64 0, .map none] 26) = w1 at *
  have M1 := (hM.below B0).below B1
  have C1 := lmay_any ep q mo now term x ho L w1 M1 hx
  have HC : Hid (∀ W, Below w1.heap.size w1 W → Calls Try.prog 16 #[lsV ep q mo] W fun e w' => e = .returned (lsV ep q (some (W.heap.size + 2))) ∧ MapAt Hg.val w' (W.heap.size + 2) L ∧ Below W.heap.size W w') := fun W hW => lcopied_any ep q mo L W (M1.below hW) hl
  have HB : Hid (Below w.heap.size w w1) := below_then B0 B1
  have z1 : w.heap.size + 1 + 1 ≤ w1.heap.size := by omega
  have hb2 : ¬ mayN ep q now term x ho L = 0 := hb
  generalize mayN ep q now term x ho L = r at *
  unfold lsV at *
  clear B0 B1 hM M1 hb s1
  go_enter Try.func6, Try.ntmps6
  go_wp2_with (first
    | (go_at_call 15; refine C1.mono ?_; rintro e w2 ⟨rfl, B2⟩; have X02 := X01.below B2; have X12 := X1.below B2; have C2 := HC.out w2 B2; have z2 := B2.size)
    | (go_at_call 16; refine C2.mono ?_; rintro e w3 ⟨rfl, M3, B3⟩; have X13 := X12.below B3)
    | (refine wpList_load_row rfl 26 _ rfl w.heap.size rfl 26 _ (0, 0) _ X01 Try.underlying26 rfl Try.infoLs ?_)
    | (refine wpList_load_row rfl 26 _ rfl w.heap.size rfl 26 _ (0, 0) _ X02 Try.underlying26 rfl Try.infoLs ?_)
    | (refine wpList_store_row rfl 26 _ _ rfl (w.heap.size + 1) _ rfl rfl 26 _ X13 Try.infoLs rfl (lall _ _ _) ?_))
  refine bodyPost_ret (results_blk3 rfl _ _ (w.heap.size + 1) _ rfl (load_s (X13.row _))) rfl ?_
  exact ⟨_, rfl, M3.keep (setRow_other _ _ _ _ (by omega)), by omega, below_row (below_then HB.out (below_then B2 B3)) (by omega) _⟩
set_option maxHeartbeats 4000000 in
theorem lgrant_ok (ep q : Int) (mo : Option Nat) (now term x ho : Int) (L : List (Int × Hg)) (w : World) (hM : HgM w mo L) (hl : L.length ≤ 100000) (hx : -9223372036854775808 ≤ x ∧ x ≤ 9223372036854775807) (hep : -9223372036854775808 ≤ ep) (hb : mayN ep q now term x ho L = 0) :
   Calls Try.prog 6 #[lsV ep q mo, .int .i64 now, .int .i64 term, .int .i64 x, .int .i64 ho] w fun e w' => ∃ b, e = .returned (.tuple #[lsV (ep + 1) q (some b), .int .i64 (ep + 1), .int .i64 0]) ∧ MapAt Hg.val w' b (putM (lastM now L) x ⟨ho, ep + 1, now + term⟩) ∧ w.heap.size ≤ b ∧ Below w.heap.size w w' := by
  have hbd : 0 ≤ now ∧ now ≤ 1099511627776 ∧ 1 ≤ term ∧ term ≤ 1048576 ∧ ep < 1099511627776 := by
    unfold mayN at hb
    by_cases h1 : badA now term ho
    · rw [if_pos h1] at hb; omega
    · rw [if_neg h1] at hb
      unfold badA at h1
      by_cases h2 : now < q
      · rw [if_pos h2] at hb; omega
      · rw [if_neg h2] at hb
        by_cases h3 : busy (whoL now L x) ho = true
        · rw [if_pos h3] at hb; omega
        · rw [if_neg h3] at hb
          by_cases h4 : 1099511627776 ≤ ep
          · rw [if_pos h4] at hb; omega
          · omega
  have X0 := blk_new w 26 #[.int .i64 ep, .int .i64 q, .map mo]
  have B0 := below_alloc' w (.cells #[.int .i64 ep, .int .i64 q, .map mo] 26)
  have s0 : (w.alloc (.cells #[.int .i64 ep, .int .i64 q, .map mo] 26)).heap.size = w.heap.size + 1 := by simp
  generalize hw0 : w.alloc (.cells #[.int .i64 ep, .int .i64 q, .map mo] 26) = w0 at *
  have X1 := blk_new w0 26 #[.int .i64 0, .int .i64 0, .map none]
  have B1 := below_alloc' w0 (.cells #[.int .i64 0, .int .i64 0, .map none] 26)
  have s1 : (w0.alloc (.cells #[.int .i64 0, .int .i64 0, .map none] 26)).heap.size = w.heap.size + 1 + 1 := by simp [s0]
  have X01 := X0.below B1
  rw [s0] at X1
  generalize hw1 : w0.alloc (.cells #[.int .i64 0, .int .i64 0, .map none] 26) = w1 at *
  have M1 := (hM.below B0).below B1
  have C1 := lmay_any ep q mo now term x ho L w1 M1 hx
  rw [hb] at C1
  have HC : Hid (∀ W, Below w1.heap.size w1 W → Calls Try.prog 17 #[lsV ep q mo, .int .i64 now] W fun e w' => ∃ b, e = .returned (lsV ep q (some b)) ∧ MapAt Hg.val w' b (lastM now L) ∧ W.heap.size ≤ b ∧ Below W.heap.size W w') := fun W hW => llasting_any ep q mo now L W (M1.below hW) hl
  have HB : Hid (Below w.heap.size w w1) := below_then B0 B1
  have z1 : w.heap.size + 1 + 1 ≤ w1.heap.size := by omega
  have hle : (lastM now L).length ≤ L.length := List.length_filter_le _ _
  have q1 : wrap64 (ep + 1) = ep + 1 := by unfold wrap64; omega
  have q2 : wrap64 (now + term) = now + term := by unfold wrap64; omega
  have HE : Hid (∀ (W : World) (b : Nat), MapAt Hg.val W b (lastM now L) → ∃ w', (Instr.mapUpdate 24 (.map (some b)) (.int .i64 x) (.agg #[.int .i64 ho, .int .i64 (ep + 1), .int .i64 (now + term)])).run Try.prog W = .ok () w' ∧ MapAt Hg.val w' b (putM (lastM now L) x ⟨ho, ep + 1, now + term⟩) ∧ But b W w' ∧ w'.heap.size = W.heap.size) := fun W b hW => hW.store Try.underlying24 (by omega) x hx ⟨ho, ep + 1, now + term⟩
  unfold lsV at *
  clear B0 B1 hM M1 hb s1 hbd hle
  go_enter Try.func6, Try.ntmps6
  go_wp2_with (first
    | (go_at_call 15; refine C1.mono ?_; rintro e w2 ⟨rfl, B2⟩; have X02 := X01.below B2; have X12 := X1.below B2; have C2 := HC.out w2 B2; have z2 := B2.size)
    | (go_at_call 17; refine C2.mono ?_; rintro e w3 ⟨b, rfl, M3, hb3, B3⟩; have X03 := X02.below B3; have X13 := X12.below B3; have z3 := B3.size; have X04 := X03.row #[.int .i64 ep, .int .i64 q, .map (some b)]; have X14 := X13.of_block (setRow_other w3 w.heap.size (w.heap.size + 1) #[.int .i64 ep, .int .i64 q, .map (some b)] (by omega)); have M4 := M3.keep (setRow_other w3 w.heap.size b #[.int .i64 ep, .int .i64 q, .map (some b)] (by omega)); have B4 := below_row (below_then HB.out (below_then B2 B3)) (Nat.le_refl w.heap.size) #[.int .i64 ep, .int .i64 q, .map (some b)]; have z4 : w1.heap.size ≤ (w3.setRow w.heap.size #[.int .i64 ep, .int .i64 q, .map (some b)]).heap.size := (by rw [setRow_size]; omega); generalize hw4 : w3.setRow w.heap.size #[.int .i64 ep, .int .i64 q, .map (some b)] = w4 at *; have k40 : w4.cell? ⟨w.heap.size, 0, none⟩ = some (.int .i64 ep) := X04.cell 0 rfl; have f40 := X04.frozen 0; have X05 := X04.set 0 (.int .i64 (ep + 1)); have X15 := X14.other (a := ⟨w.heap.size, 0, none⟩) (by show _ ≠ w.heap.size; omega) (.int .i64 (ep + 1)); have M5 := M4.keep (Below.heap_setCell w4 ⟨w.heap.size, 0, none⟩ (.int .i64 (ep + 1)) b (by show _ ≠ w.heap.size; omega)); have B5 := B4.setCell (p := ⟨w.heap.size, 0, none⟩) (Nat.le_refl _) (.int .i64 (ep + 1)); have z5 : w1.heap.size ≤ (w4.setCell ⟨w.heap.size, 0, none⟩ (.int .i64 (ep + 1))).heap.size := (by simpa using z4); generalize hw5 : w4.setCell ⟨w.heap.size, 0, none⟩ (.int .i64 (ep + 1)) = w5 at *; have k50 : w5.cell? ⟨w.heap.size, 0, none⟩ = some (.int .i64 (ep + 1)) := X05.cell 0 rfl; have k52 : w5.cell? ⟨w.heap.size, 2, none⟩ = some (.map (some b)) := X05.cell 2 rfl; obtain ⟨w6, hrun6, M6, B6, s6⟩ := HE.out w5 b M5; have X06 := X05.but B6 (by omega); have X16 := X15.but B6 (by omega); have k60 : w6.cell? ⟨w.heap.size, 0, none⟩ = some (.int .i64 (ep + 1)) := X06.cell 0 rfl; have k61 : w6.cell? ⟨w.heap.size, 1, none⟩ = some (.int .i64 q) := X06.cell 1 rfl; have k62 : w6.cell? ⟨w.heap.size, 2, none⟩ = some (.map (some b)) := X06.cell 2 rfl; clear s6)
    | (refine wpList_load_row rfl 26 _ rfl w.heap.size rfl 26 _ (0, 0) _ X01 Try.underlying26 rfl Try.infoLs ?_)
    | (refine wpList_load_row rfl 26 _ rfl w.heap.size rfl 26 _ (0, 0) _ X02 Try.underlying26 rfl Try.infoLs ?_)
    | (refine wpList_store_row rfl 26 _ _ rfl w.heap.size _ rfl rfl 26 _ X03 Try.infoLs rfl (lall _ _ _) ?_; rw [hw4]))
  have y0 : w6.cell? ⟨w.heap.size + 1, 0, none⟩ = some (.int .i64 0) := X16.cell 0 rfl
  have y1 : w6.cell? ⟨w.heap.size + 1, 1, none⟩ = some (.int .i64 0) := X16.cell 1 rfl
  have y2 : w6.cell? ⟨w.heap.size + 1, 2, none⟩ = some (.map none) := X16.cell 2 rfl
  have g0 := X16.frozen 0
  have g1 := X16.frozen 1
  have g2 := X16.frozen 2
  go_region
  have X17 := ((X16.set 0 (.int .i64 (ep + 1))).set 1 (.int .i64 q)).set 2 (.map (some b))
  have M7 : MapAt Hg.val (((w6.setCell ⟨w.heap.size + 1, 0, none⟩ (.int .i64 (ep + 1))).setCell ⟨w.heap.size + 1, 1, none⟩ (.int .i64 q)).setCell ⟨w.heap.size + 1, 2, none⟩ (.map (some b))) b _ := M6.keep (by rw [Below.heap_setCell _ _ _ _ (show b ≠ w.heap.size + 1 by omega), Below.heap_setCell _ _ _ _ (show b ≠ w.heap.size + 1 by omega), Below.heap_setCell _ _ _ _ (show b ≠ w.heap.size + 1 by omega)])
  have B7 := (((B5.trans (B6.below (B := w.heap.size) (by omega) (by omega))).setCell (p := ⟨w.heap.size + 1, 0, none⟩) (by show w.heap.size ≤ w.heap.size + 1; omega) (.int .i64 (ep + 1))).setCell (p := ⟨w.heap.size + 1, 1, none⟩) (by show w.heap.size ≤ w.heap.size + 1; omega) (.int .i64 q)).setCell (p := ⟨w.heap.size + 1, 2, none⟩) (by show w.heap.size ≤ w.heap.size + 1; omega) (.map (some b))
  generalize hw7 : ((w6.setCell ⟨w.heap.size + 1, 0, none⟩ (.int .i64 (ep + 1))).setCell ⟨w.heap.size + 1, 1, none⟩ (.int .i64 q)).setCell ⟨w.heap.size + 1, 2, none⟩ (.map (some b)) = w7 at *
  clear k60 k61 k62 y0 y1 y2 g0 g1 g2 hrun6 k50 k52
  go_wp2_with fail
  refine bodyPost_ret (results_blk3 rfl _ _ (w.heap.size + 1) _ rfl (load_s (w := w7.drew) (by exact X17))) rfl ?_
  exact ⟨b, rfl, M7.keep rfl, by omega, B7.drew⟩
end Go.Proofs.Ytacmphckmjangaa
