/- LeaseEpochs: whatever calls, it answers true. -/
import Derived.Test.YtdddobpbjmlflaaLsAwake
import Derived.Test.YtdddobpbjmlflaaLsView
import Derived.Deep.CutRange
namespace Go.Proofs.Ytdddobpbjmlflaa
open Go.ChangeShapes Go.WideShapes Go.ChangeAt Go.RowKit Go.Maps
theorem Try.infoLa : (Try.prog.info? 36).map (·.size) = some 6 := by kernel_rfl
theorem hall6 (a b c d e f : Int) : Array.all (#[.int .i64 a, .int .i64 b, .int .i64 c, .int .i64 d, .int .i64 e, .int .i64 f] : Array Value) (fun v => v.oneCell') = true := by simp [Value.oneCell']
theorem avar (W : World) (a b c d e f : Int) : Blk (W.alloc (.cells #[.int .i64 0, .int .i64 0, .int .i64 0, .int .i64 0, .int .i64 0, .int .i64 0] 36)) W.heap.size 36 #[.int .i64 0, .int .i64 0, .int .i64 0, .int .i64 0, .int .i64 0, .int .i64 0] ∧
    Blk ((W.alloc (.cells #[.int .i64 0, .int .i64 0, .int .i64 0, .int .i64 0, .int .i64 0, .int .i64 0] 36)).setRow W.heap.size #[.int .i64 a, .int .i64 b, .int .i64 c, .int .i64 d, .int .i64 e, .int .i64 f]) W.heap.size 36 #[.int .i64 a, .int .i64 b, .int .i64 c, .int .i64 d, .int .i64 e, .int .i64 f] ∧
    Below W.heap.size W ((W.alloc (.cells #[.int .i64 0, .int .i64 0, .int .i64 0, .int .i64 0, .int .i64 0, .int .i64 0] 36)).setRow W.heap.size #[.int .i64 a, .int .i64 b, .int .i64 c, .int .i64 d, .int .i64 e, .int .i64 f]) ∧
    W.heap.size + 1 ≤ ((W.alloc (.cells #[.int .i64 0, .int .i64 0, .int .i64 0, .int .i64 0, .int .i64 0, .int .i64 0] 36)).setRow W.heap.size #[.int .i64 a, .int .i64 b, .int .i64 c, .int .i64 d, .int .i64 e, .int .i64 f]).heap.size :=
  ⟨blk_new _ _ _, (blk_new W _ _).row _, below_row (below_alloc' _ _) (Nat.le_refl _) _, by rw [setRow_size]; simp⟩
/-- All that stands from call to call: the state in its variable, its map, the greatest epoch so far. -/
structure EpI (w wr : World) (i : Nat) (ep q : Int) (mo : Option Nat) (L : List (Int × Hg)) (now last : Int) : Prop where
  vs : Blk wr w.heap.size 26 #[.int .i64 ep, .int .i64 q, .map mo]
  m : HgM wr mo L
  mb : ∀ b, mo = some b → w.heap.size < b
  bel : Below w.heap.size w wr
  len : L.length ≤ i
  ep0 : 0 ≤ last ∧ last ≤ ep ∧ ep ≤ i
  nw : 0 ≤ now ∧ now ≤ 100 * (i : Int)
  sz : w.heap.size + 1 ≤ wr.heap.size
theorem EpI.below {w wr w' : World} {i : Nat} {ep q : Int} {mo : Option Nat} {L : List (Int × Hg)} {now last : Int} (h : EpI w wr i ep q mo L now last) (hb : Below wr.heap.size wr w') : EpI w w' i ep q mo L now last :=
  ⟨h.vs.below hb, h.m.below hb, h.mb, h.bel.trans (hb.mono h.bel.size), h.len, h.ep0, h.nw, Nat.le_trans h.sz hb.size⟩
/-- A new state in the variable. -/
theorem EpI.put {w wr : World} {i : Nat} {ep q : Int} {mo : Option Nat} {L : List (Int × Hg)} {now last : Int} (h : EpI w wr i ep q mo L now last) {ep' q' : Int} {mo' : Option Nat} {L' : List (Int × Hg)} {last' : Int} (hM : HgM wr mo' L') (hb : ∀ b, mo' = some b → w.heap.size < b) (hl : L'.length ≤ i) (he : 0 ≤ last' ∧ last' ≤ ep' ∧ ep' ≤ (i : Int)) :
    EpI w (wr.setRow w.heap.size #[.int .i64 ep', .int .i64 q', .map mo']) i ep' q' mo' L' now last' := by
  refine ⟨h.vs.row _, ?_, hb, below_row h.bel (Nat.le_refl _) _, hl, by omega, by have := h.nw; omega, by rw [setRow_size]; exact h.sz⟩
  rcases hM with hM | ⟨b, rfl, hM⟩
  · exact Or.inl hM
  · exact Or.inr ⟨b, rfl, hM.keep (setRow_other _ _ _ _ (by have := hb b rfl; omega))⟩
theorem EpI.next {w wr : World} {i : Nat} {ep q : Int} {mo : Option Nat} {L : List (Int × Hg)} {now now' last : Int} (h : EpI w wr i ep q mo L now last) (h1 : now ≤ now') (h2 : now' ≤ now + 100) : EpI w wr (i + 1) ep q mo L now' last :=
  ⟨h.vs, h.m, h.mb, h.bel, by have := h.len; omega, by have := h.ep0; omega, by have := h.nw; omega, h.sz⟩
theorem may_mine {ep q now term x ho : Int} {L : List (Int × Hg)} (h : mayN ep q now term x ho L = 0) {g : Hg} (hg : whoL now L x = some g) : g.hol = ho := by
  unfold mayN at h
  by_cases h1 : badA now term ho
  · rw [if_pos h1] at h; omega
  · rw [if_neg h1] at h
    by_cases h2 : now < q
    · rw [if_pos h2] at h; omega
    · rw [if_neg h2, hg] at h
      simp only [busy] at h
      by_cases h3 : g.hol = ho
      · exact h3
      · simp only [ne_eq, h3, not_false_iff, decide_true, if_true] at h
        omega
theorem may_zero' {ep q now term x ho : Int} {L : List (Int × Hg)} (h : mayN ep q now term x ho L = 0) : 1 ≤ term ∧ term ≤ 1048576 ∧ 0 ≤ now := by
  unfold mayN at h
  by_cases h1 : badA now term ho
  · rw [if_pos h1] at h; omega
  · unfold badA at h1
    omega
/-- Without a place that is had there is one fewer. -/
theorem last_del (now x : Int) (L : List (Int × Hg)) (ha : L.Pairwise (fun p q => p.1 ≠ q.1)) {g : Hg} (hg : whoL now L x = some g) : (lastM now (delM (lastM now L) x)).length + 1 = (lastM now L).length := by
  have e : lastM now (delM (lastM now L) x) = delM (lastM now L) x := by
    unfold lastM delM
    rw [List.filter_eq_self]
    intro p hp
    exact (List.mem_filter.1 (List.mem_filter.1 hp).1).2
  rw [e]
  have hm : (x, g) ∈ lastM now L := by
    unfold whoL at hg
    rcases h : getM L x with _ | u
    · rw [h] at hg; cases hg
    · rw [h] at hg
      simp only at hg
      by_cases hu : now < u.unt
      · rw [if_pos hu] at hg
        injection hg with hg
        subst hg
        exact List.mem_filter.2 ⟨getM_mem h, by simpa using hu⟩
      · rw [if_neg hu] at hg; cases hg
  have ha2 : (lastM now L).Pairwise (fun p q => p.1 ≠ q.1) := ha.filter _
  generalize lastM now L = K at *
  clear e ha hg
  induction K with
  | nil => cases hm
  | cons p r ih =>
    rw [List.pairwise_cons] at ha2
    unfold delM at *
    rcases List.mem_cons.1 hm with rfl | h
    · have e2 : r.filter (fun p => decide (p.1 ≠ x)) = r := by
        rw [List.filter_eq_self]
        intro q hq
        have := ha2.1 q hq
        simpa using fun e => this e.symm
      rw [List.filter_cons_of_neg (by simp), e2]
      simp
    · have hne : p.1 ≠ x := ha2.1 _ h
      rw [List.filter_cons_of_pos (by simpa using hne), List.length_cons, List.length_cons, ih h ha2.2]
set_option maxHeartbeats 16000000 in
set_option maxRecDepth 100000 in
theorem leaseEpochs_walk (ao : Option Addr) (n ca : Nat) (Z : Nat → La) (w : World) (hA : LaAt w ao n Z) :
   Calls Try.prog 4 #[.slice ao n ca] w fun e w' => e = .returned (.bool true) ∧ Below w.heap.size w w' := by
  have CA := lawake_any
  have HV : Hid (∀ (W : World) (a b : Int) (m : Option Nat), _) := lvar
  have HH : Hid (∀ (W : World) (a b c : Int), _) := hvar
  have HA : Hid (∀ (W : World) (a b c d e f : Int), _) := avar
  obtain ⟨XA, XB, BB, z0⟩ := HV.out w 0 0 none
  have I0 : EpI w _ 0 0 0 none [] 0 0 := ⟨XB, HgM.nil _, (fun b h => by cases h), BB, by simp, by simp, by simp, z0⟩
  have HI : Hid _ := I0
  generalize hwA : w.alloc (.cells #[.int .i64 0, .int .i64 0, .map none] 26) = wA at *
  generalize hwB : wA.setRow w.heap.size #[.int .i64 0, .int .i64 0, .map none] = wB at *
  clear I0 XB BB z0
  go_enter Try.func4, Try.ntmps4
  go_wp2_with (refine wpList_store_row rfl 26 _ _ rfl w.heap.size _ rfl rfl 26 _ XA Try.infoLs rfl (lall _ _ _) ?_; rw [hwB])
  go_loopg [4, 5, 6] 40 (fun gg s4 s5 s6 wr => ∃ (i : Nat) (ep q : Int) (mo : Option Nat) (L : List (Int × Hg)) (now last : Int), i ≤ 40 ∧ i ≤ n ∧ gg = 40 - i ∧ s4 = .int .i64 now ∧ s5 = .int .i64 last ∧ s6 = .int .i64 (i : Int) ∧ EpI w wr i ep q mo L now last)
  case atStart => exact ⟨0, 0, 0, none, [], 0, 0, by omega, by omega, by omega, rfl, rfl, rfl, HI.out⟩
  case round =>
  obtain ⟨i, ep, q, mo, L, now, last, hi40, hin, rfl, rfl, rfl, rfl, I⟩ := hrel
  have hmax := hA.max
  by_cases hgo : i < n ∧ i < 40
  · have d1 : (i : Int) < (n : Int) := by omega
    have d2 : (i : Int) < 40 := by omega
    obtain ⟨ba, oa, rfl, hc⟩ := (hA.below I.bel).cells (by omega)
    have hsm := hA.small i
    obtain ⟨c0, c1, c2, c3, c4, c5⟩ := hc i hgo.1
    generalize Z i = zz at *
    obtain ⟨ki, an, te, x, ho, ep2⟩ := zz
    simp only at c0 c1 c2 c3 c4 c5 hsm
    obtain ⟨h_ki, h_an, h_te, hx, h_ho, h_e2⟩ := hsm
    obtain ⟨XA0, XB0, BB0, z0⟩ := HA.out wr ki an te x ho ep2
    have I0 := I.below BB0
    generalize hwA0 : wr.alloc (.cells #[.int .i64 0, .int .i64 0, .int .i64 0, .int .i64 0, .int .i64 0, .int .i64 0] 36) = wA0 at *
    generalize hwB0 : wA0.setRow wr.heap.size #[.int .i64 ki, .int .i64 an, .int .i64 te, .int .i64 x, .int .i64 ho, .int .i64 ep2] = wB0 at *
    have zr := I.sz
    have a0 : wB0.cell? ⟨wr.heap.size, 0, none⟩ = some (.int .i64 ki) := XB0.cell 0 rfl
    have a1 : wB0.cell? ⟨wr.heap.size, 1, none⟩ = some (.int .i64 an) := XB0.cell 1 rfl
    have a3 : wB0.cell? ⟨wr.heap.size, 3, none⟩ = some (.int .i64 x) := XB0.cell 3 rfl
    obtain ⟨n2, hn2⟩ : ∃ n2, n2 = now + max 0 (min an 100) := ⟨_, rfl⟩
    have HN : Hid (n2 = now + max 0 (min an 100)) := hn2
    have hnb : now ≤ n2 ∧ n2 ≤ now + 100 := by rw [hn2]; omega
    have nw := I.nw
    have J := I0.next hnb.1 hnb.2
    have HJ : Hid _ := J
    have CW := lwho_any ep q mo n2 x L wB0 I0.m hx
    clear hc I hn2 hgo
    go_upto_region 7 with (refine wpList_store_row rfl 36 _ _ rfl wr.heap.size _ rfl rfl 36 _ XA0 Try.infoLa rfl (hall6 _ _ _ _ _ _) ?_; rw [hwB0])
    go_frame
    go_cut [4] from 18 to 175 (fun s4 wc => s4 = .int .i64 n2 ∧ wc = wB0)
    case first =>
      have q1 : wrap64 now = now := by unfold wrap64; omega
      by_cases h1 : an < 0
      · go_wp2_with fail
        go_meet
        case rel => exact ⟨by rw [HN.out]; congr 1; omega, rfl⟩
      · by_cases h2 : an < 100
        · have q2 : wrap64 (now + an) = now + an := by unfold wrap64; omega
          go_wp2_with fail
          all_goals (go_meet; case rel => exact ⟨by rw [HN.out]; congr 1; omega, rfl⟩)
        · have q2 : wrap64 (now + 100) = now + 100 := by unfold wrap64; omega
          go_wp2_with fail
          all_goals (go_meet; case rel => exact ⟨by rw [HN.out]; congr 1; omega, rfl⟩)
    case rest =>
    have hwc := hcut.2.symm
    have hs4 := hcut.1
    subst hs4 hwc
    clear hcut
    obtain ⟨⟨ha, hb, hc⟩, hz⟩ : ∃ h : Hg, h = (whoL n2 L x).getD Hg.zero := ⟨_, rfl⟩
    rw [← hz] at CW
    have HZ : Hid (Hg.mk ha hb hc = (whoL n2 L x).getD Hg.zero) := hz
    unfold Hg.val lsV at CW
    simp only at CW
    have F1 : True := trivial
    have hlen := I0.len
    have hep := I0.ep0
    have vJ := J.vs
    clear hz a0 a1 I0
    by_cases k1 : ki = 1
    · subst k1
      rcases Int.decEq (mayN ep q n2 te x ho L) 0 with hr | hr
      · have HG : Hid (∀ W, HgM W mo L → _) := fun W hW => lgrant_bad ep q mo n2 te x ho L W hW (by omega) hx hr
        have hr2 : ¬ mayN ep q n2 te x ho L = 0 := hr
        clear hr
        generalize mayN ep q n2 te x ho L = r at *
        unfold lsV at HG
        generalize (whoL n2 L x).isSome = was at *
        go_wp2_with (first
          | (go_at_call 16; have g := F1; clear g F1; have F2 : True := trivial; refine CW.mono ?_; rintro e w2 ⟨rfl, B2⟩; obtain ⟨XA2, XB2, BB2, z2⟩ := HH.out w2 ha hb hc; generalize hwA2 : w2.alloc (.cells #[.int .i64 0, .int .i64 0, .int .i64 0] 51) = wA2 at *; generalize hwB2 : wA2.setRow w2.heap.size #[.int .i64 ha, .int .i64 hb, .int .i64 hc] = wB2 at *; have J2 := (J.below B2).below BB2; have x2 := (XB0.below B2).below BB2; have v2 := J2.vs; have a20 : wB2.cell? ⟨wr.heap.size, 0, none⟩ = some (.int .i64 1) := x2.cell 0 rfl; have a22 : wB2.cell? ⟨wr.heap.size, 2, none⟩ = some (.int .i64 te) := x2.cell 2 rfl; have a23 : wB2.cell? ⟨wr.heap.size, 3, none⟩ = some (.int .i64 x) := x2.cell 3 rfl; have a24 : wB2.cell? ⟨wr.heap.size, 4, none⟩ = some (.int .i64 ho) := x2.cell 4 rfl; have a25 : wB2.cell? ⟨wr.heap.size, 5, none⟩ = some (.int .i64 ep2) := x2.cell 5 rfl; have CG := HG.out wB2 J2.m)
          | (refine wpList_load_row rfl 26 _ rfl w.heap.size rfl 26 _ (0, 0) _ vJ Try.underlying26 rfl Try.infoLs ?_)
          | (refine wpList_load_row rfl 26 _ rfl w.heap.size rfl 26 _ (0, 0) _ v2 Try.underlying26 rfl Try.infoLs ?_)
          | (refine wpList_store_row rfl 51 _ _ rfl w2.heap.size _ rfl rfl 51 _ XA2 Try.infoHg rfl (hall3 _ _ _) ?_; rw [hwB2])
          | (go_at_call 9; refine CG.mono ?_; rintro e w3 ⟨b3, rfl, M3, _, B3⟩; obtain ⟨XA3, XB3, BB3, z3⟩ := HV.out w3 ep q (some b3); generalize hwA3 : w3.alloc (.cells #[.int .i64 0, .int .i64 0, .map none] 26) = wA3 at *; generalize hwB3 : wA3.setRow w3.heap.size #[.int .i64 ep, .int .i64 q, .map (some b3)] = wB3 at *; have J3 := (J2.below B3).below BB3; have kt : wB3.cell? ⟨w3.heap.size, 0, none⟩ = some (.int .i64 ep) := XB3.cell 0 rfl; have ks : wB3.cell? ⟨w.heap.size, 0, none⟩ = some (.int .i64 ep) := J3.vs.cell 0 rfl)
          | (refine wpList_store_row rfl 26 _ _ rfl w3.heap.size _ rfl rfl 26 _ XA3 Try.infoLs rfl (lall _ _ _) ?_; rw [hwB3]))
        go_roundg (40 - (i + 1))
        case measure => omega
        case rel => exact ⟨i + 1, _, _, _, _, _, _, by omega, by omega, rfl, rfl, rfl, by go_num, J3⟩
      · have HG : Hid (∀ W, HgM W mo L → _) := fun W hW => lgrant_ok ep q mo n2 te x ho L W hW (by omega) hx (by omega) hr
        obtain ⟨y1, y2, y3⟩ := may_zero' hr
        have HM : Hid (∀ g, whoL n2 L x = some g → g.hol = ho) := fun g hg => may_mine hr hg
        have hlp : (putM (lastM n2 L) x ⟨ho, ep + 1, n2 + te⟩).length ≤ i + 1 := by
          have h1 : (delM (lastM n2 L) x).length ≤ (lastM n2 L).length := List.length_filter_le _ _
          have h2 : (lastM n2 L).length ≤ L.length := List.length_filter_le _ _
          unfold putM
          rw [List.length_append]; simp; omega
        have W1 : whoL n2 (putM (lastM n2 L) x ⟨ho, ep + 1, n2 + te⟩) x = some ⟨ho, ep + 1, n2 + te⟩ := whoL_some (getM_put_same _ _ _) (by simp only; omega)
        generalize putM (lastM n2 L) x ⟨ho, ep + 1, n2 + te⟩ = L1 at *
        have HW2 : Hid (∀ (W : World) (b : Nat), MapAt Hg.val W b L1 → _) := fun W b hW => lwho_any (ep + 1) q (some b) n2 x L1 W (HgM.some hW) hx
        rw [W1] at HW2
        unfold lsV at HG HW2
        unfold Hg.val at HW2
        simp only [Option.getD_some, Option.isSome_some] at HW2
        clear hr W1
        have q1 : wrap64 (n2 + te) = n2 + te := by unfold wrap64; omega
        have d3 : ¬ ep + 1 ≤ last := by omega
        have d4 : last < ep + 1 := by omega
        have HR : Hid (((whoL n2 L x).isSome = false) ∨ ((whoL n2 L x).isSome = true ∧ ha = ho)) := by
          rcases hw : whoL n2 L x with _ | g
          · exact Or.inl rfl
          · refine Or.inr ⟨rfl, ?_⟩
            have e1 := HZ.out
            rw [hw] at e1
            have e2 := HM.out g hw
            rw [← e2]
            show (Hg.mk ha hb hc).hol = g.hol
            rw [e1]; rfl
        generalize (whoL n2 L x).isSome = was at *
        clear HM HZ
        rcases HR.out with hR | ⟨hR, hR2⟩
        · subst hR
          go_wp2_with (first
            | (go_at_call 16; have g := F1; clear g F1; have F2 : True := trivial; refine CW.mono ?_; rintro e w2 ⟨rfl, B2⟩; obtain ⟨XA2, XB2, BB2, z2⟩ := HH.out w2 ha hb hc; generalize hwA2 : w2.alloc (.cells #[.int .i64 0, .int .i64 0, .int .i64 0] 51) = wA2 at *; generalize hwB2 : wA2.setRow w2.heap.size #[.int .i64 ha, .int .i64 hb, .int .i64 hc] = wB2 at *; have J2 := (J.below B2).below BB2; have x2 := (XB0.below B2).below BB2; have v2 := J2.vs; have a20 : wB2.cell? ⟨wr.heap.size, 0, none⟩ = some (.int .i64 1) := x2.cell 0 rfl; have a22 : wB2.cell? ⟨wr.heap.size, 2, none⟩ = some (.int .i64 te) := x2.cell 2 rfl; have a23 : wB2.cell? ⟨wr.heap.size, 3, none⟩ = some (.int .i64 x) := x2.cell 3 rfl; have a24 : wB2.cell? ⟨wr.heap.size, 4, none⟩ = some (.int .i64 ho) := x2.cell 4 rfl; have a25 : wB2.cell? ⟨wr.heap.size, 5, none⟩ = some (.int .i64 ep2) := x2.cell 5 rfl; have CG := HG.out wB2 J2.m)
            | (refine wpList_load_row rfl 26 _ rfl w.heap.size rfl 26 _ (0, 0) _ vJ Try.underlying26 rfl Try.infoLs ?_)
            | (refine wpList_load_row rfl 26 _ rfl w.heap.size rfl 26 _ (0, 0) _ v2 Try.underlying26 rfl Try.infoLs ?_)
            | (refine wpList_store_row rfl 51 _ _ rfl w2.heap.size _ rfl rfl 51 _ XA2 Try.infoHg rfl (hall3 _ _ _) ?_; rw [hwB2])
            | (go_at_call 9; refine CG.mono ?_; rintro e w3 ⟨b3, rfl, M3, hb3, B3⟩; obtain ⟨XA3, XB3, BB3, z3⟩ := HV.out w3 (ep + 1) q (some b3); generalize hwA3 : w3.alloc (.cells #[.int .i64 0, .int .i64 0, .map none] 26) = wA3 at *; generalize hwB3 : wA3.setRow w3.heap.size #[.int .i64 (ep + 1), .int .i64 q, .map (some b3)] = wB3 at *; have J3 := (J2.below B3).below BB3; have M3' := M3.below BB3; have x3 := (x2.below B3).below BB3; have CX := HW2.out wB3 b3 M3'; have x23 := (XB2.below B3).below BB3; have a30 : wB3.cell? ⟨wr.heap.size, 0, none⟩ = some (.int .i64 1) := x3.cell 0 rfl; have a32 : wB3.cell? ⟨wr.heap.size, 2, none⟩ = some (.int .i64 te) := x3.cell 2 rfl; have a33 : wB3.cell? ⟨wr.heap.size, 3, none⟩ = some (.int .i64 x) := x3.cell 3 rfl; have a34 : wB3.cell? ⟨wr.heap.size, 4, none⟩ = some (.int .i64 ho) := x3.cell 4 rfl; have a35 : wB3.cell? ⟨wr.heap.size, 5, none⟩ = some (.int .i64 ep2) := x3.cell 5 rfl)
            | (refine wpList_store_row rfl 26 _ _ rfl w3.heap.size _ rfl rfl 26 _ XA3 Try.infoLs rfl (lall _ _ _) ?_; rw [hwB3])
            | (refine wpList_load_row rfl 26 _ rfl w3.heap.size rfl 26 _ (0, 0) _ XB3 Try.underlying26 rfl Try.infoLs ?_)
            | (go_at_call 16; have g := F2; clear g F2; refine CX.mono ?_; rintro e w4 ⟨rfl, B4⟩; obtain ⟨XA4, XB4, BB4, z4⟩ := HH.out w4 ho (ep + 1) (n2 + te); generalize hwA4 : w4.alloc (.cells #[.int .i64 0, .int .i64 0, .int .i64 0] 51) = wA4 at *; generalize hwB4 : wA4.setRow w4.heap.size #[.int .i64 ho, .int .i64 (ep + 1), .int .i64 (n2 + te)] = wB4 at *; have J4 := (J3.below B4).below BB4; have M4 := (M3'.below B4).below BB4; have x4 := (x3.below B4).below BB4; have x24 := (x23.below B4).below BB4; have t4 := (XB3.below B4).below BB4; have a40 : wB4.cell? ⟨wr.heap.size, 0, none⟩ = some (.int .i64 1) := x4.cell 0 rfl; have a42 : wB4.cell? ⟨wr.heap.size, 2, none⟩ = some (.int .i64 te) := x4.cell 2 rfl; have a43 : wB4.cell? ⟨wr.heap.size, 3, none⟩ = some (.int .i64 x) := x4.cell 3 rfl; have a44 : wB4.cell? ⟨wr.heap.size, 4, none⟩ = some (.int .i64 ho) := x4.cell 4 rfl; have a45 : wB4.cell? ⟨wr.heap.size, 5, none⟩ = some (.int .i64 ep2) := x4.cell 5 rfl; have h40 : wB4.cell? ⟨w4.heap.size, 0, none⟩ = some (.int .i64 ho) := XB4.cell 0 rfl; have h41 : wB4.cell? ⟨w4.heap.size, 1, none⟩ = some (.int .i64 (ep + 1)) := XB4.cell 1 rfl; have h42 : wB4.cell? ⟨w4.heap.size, 2, none⟩ = some (.int .i64 (n2 + te)) := XB4.cell 2 rfl; have h20 : wB4.cell? ⟨w2.heap.size, 0, none⟩ = some (.int .i64 ha) := x24.cell 0 rfl; have v4 := J4.vs)
            | (refine wpList_store_row rfl 51 _ _ rfl w4.heap.size _ rfl rfl 51 _ XA4 Try.infoHg rfl (hall3 _ _ _) ?_; rw [hwB4])
            | (refine wpList_load_row rfl 26 _ rfl w3.heap.size rfl 26 _ (0, 0) _ t4 Try.underlying26 rfl Try.infoLs ?_)
            | (refine wpList_store_row rfl 26 _ _ rfl w.heap.size _ rfl rfl 26 _ v4 Try.infoLs rfl (lall _ _ _) ?_))
          go_roundg (40 - (i + 1))
          case measure => omega
          case rel => exact ⟨i + 1, ep + 1, q, some b3, L1, n2, ep + 1, by omega, by omega, rfl, rfl, rfl, by go_num, J4.put (HgM.some M4) (fun b hb => by cases hb; have := J2.sz; omega) hlp ⟨by omega, by omega, by omega⟩⟩
        · subst hR
          subst hR2
          go_wp2_with (first
            | (go_at_call 16; have g := F1; clear g F1; have F2 : True := trivial; refine CW.mono ?_; rintro e w2 ⟨rfl, B2⟩; obtain ⟨XA2, XB2, BB2, z2⟩ := HH.out w2 ha hb hc; generalize hwA2 : w2.alloc (.cells #[.int .i64 0, .int .i64 0, .int .i64 0] 51) = wA2 at *; generalize hwB2 : wA2.setRow w2.heap.size #[.int .i64 ha, .int .i64 hb, .int .i64 hc] = wB2 at *; have J2 := (J.below B2).below BB2; have x2 := (XB0.below B2).below BB2; have v2 := J2.vs; have a20 : wB2.cell? ⟨wr.heap.size, 0, none⟩ = some (.int .i64 1) := x2.cell 0 rfl; have a22 : wB2.cell? ⟨wr.heap.size, 2, none⟩ = some (.int .i64 te) := x2.cell 2 rfl; have a23 : wB2.cell? ⟨wr.heap.size, 3, none⟩ = some (.int .i64 x) := x2.cell 3 rfl; have a24 : wB2.cell? ⟨wr.heap.size, 4, none⟩ = some (.int .i64 ha) := x2.cell 4 rfl; have a25 : wB2.cell? ⟨wr.heap.size, 5, none⟩ = some (.int .i64 ep2) := x2.cell 5 rfl; have CG := HG.out wB2 J2.m)
            | (refine wpList_load_row rfl 26 _ rfl w.heap.size rfl 26 _ (0, 0) _ vJ Try.underlying26 rfl Try.infoLs ?_)
            | (refine wpList_load_row rfl 26 _ rfl w.heap.size rfl 26 _ (0, 0) _ v2 Try.underlying26 rfl Try.infoLs ?_)
            | (refine wpList_store_row rfl 51 _ _ rfl w2.heap.size _ rfl rfl 51 _ XA2 Try.infoHg rfl (hall3 _ _ _) ?_; rw [hwB2])
            | (go_at_call 9; refine CG.mono ?_; rintro e w3 ⟨b3, rfl, M3, hb3, B3⟩; obtain ⟨XA3, XB3, BB3, z3⟩ := HV.out w3 (ep + 1) q (some b3); generalize hwA3 : w3.alloc (.cells #[.int .i64 0, .int .i64 0, .map none] 26) = wA3 at *; generalize hwB3 : wA3.setRow w3.heap.size #[.int .i64 (ep + 1), .int .i64 q, .map (some b3)] = wB3 at *; have J3 := (J2.below B3).below BB3; have M3' := M3.below BB3; have x3 := (x2.below B3).below BB3; have CX := HW2.out wB3 b3 M3'; have x23 := (XB2.below B3).below BB3; have a30 : wB3.cell? ⟨wr.heap.size, 0, none⟩ = some (.int .i64 1) := x3.cell 0 rfl; have a32 : wB3.cell? ⟨wr.heap.size, 2, none⟩ = some (.int .i64 te) := x3.cell 2 rfl; have a33 : wB3.cell? ⟨wr.heap.size, 3, none⟩ = some (.int .i64 x) := x3.cell 3 rfl; have a34 : wB3.cell? ⟨wr.heap.size, 4, none⟩ = some (.int .i64 ha) := x3.cell 4 rfl; have a35 : wB3.cell? ⟨wr.heap.size, 5, none⟩ = some (.int .i64 ep2) := x3.cell 5 rfl)
            | (refine wpList_store_row rfl 26 _ _ rfl w3.heap.size _ rfl rfl 26 _ XA3 Try.infoLs rfl (lall _ _ _) ?_; rw [hwB3])
            | (refine wpList_load_row rfl 26 _ rfl w3.heap.size rfl 26 _ (0, 0) _ XB3 Try.underlying26 rfl Try.infoLs ?_)
            | (go_at_call 16; have g := F2; clear g F2; refine CX.mono ?_; rintro e w4 ⟨rfl, B4⟩; obtain ⟨XA4, XB4, BB4, z4⟩ := HH.out w4 ha (ep + 1) (n2 + te); generalize hwA4 : w4.alloc (.cells #[.int .i64 0, .int .i64 0, .int .i64 0] 51) = wA4 at *; generalize hwB4 : wA4.setRow w4.heap.size #[.int .i64 ha, .int .i64 (ep + 1), .int .i64 (n2 + te)] = wB4 at *; have J4 := (J3.below B4).below BB4; have M4 := (M3'.below B4).below BB4; have x4 := (x3.below B4).below BB4; have x24 := (x23.below B4).below BB4; have t4 := (XB3.below B4).below BB4; have a40 : wB4.cell? ⟨wr.heap.size, 0, none⟩ = some (.int .i64 1) := x4.cell 0 rfl; have a42 : wB4.cell? ⟨wr.heap.size, 2, none⟩ = some (.int .i64 te) := x4.cell 2 rfl; have a43 : wB4.cell? ⟨wr.heap.size, 3, none⟩ = some (.int .i64 x) := x4.cell 3 rfl; have a44 : wB4.cell? ⟨wr.heap.size, 4, none⟩ = some (.int .i64 ha) := x4.cell 4 rfl; have a45 : wB4.cell? ⟨wr.heap.size, 5, none⟩ = some (.int .i64 ep2) := x4.cell 5 rfl; have h40 : wB4.cell? ⟨w4.heap.size, 0, none⟩ = some (.int .i64 ha) := XB4.cell 0 rfl; have h41 : wB4.cell? ⟨w4.heap.size, 1, none⟩ = some (.int .i64 (ep + 1)) := XB4.cell 1 rfl; have h42 : wB4.cell? ⟨w4.heap.size, 2, none⟩ = some (.int .i64 (n2 + te)) := XB4.cell 2 rfl; have h20 : wB4.cell? ⟨w2.heap.size, 0, none⟩ = some (.int .i64 ha) := x24.cell 0 rfl; have v4 := J4.vs)
            | (refine wpList_store_row rfl 51 _ _ rfl w4.heap.size _ rfl rfl 51 _ XA4 Try.infoHg rfl (hall3 _ _ _) ?_; rw [hwB4])
            | (refine wpList_load_row rfl 26 _ rfl w3.heap.size rfl 26 _ (0, 0) _ t4 Try.underlying26 rfl Try.infoLs ?_)
            | (refine wpList_store_row rfl 26 _ _ rfl w.heap.size _ rfl rfl 26 _ v4 Try.infoLs rfl (lall _ _ _) ?_))
          go_roundg (40 - (i + 1))
          case measure => omega
          case rel => exact ⟨i + 1, ep + 1, q, some b3, L1, n2, ep + 1, by omega, by omega, rfl, rfl, rfl, by go_num, J4.put (HgM.some M4) (fun b hb => by cases hb; have := J2.sz; omega) hlp ⟨by omega, by omega, by omega⟩⟩
    · by_cases k2 : ki = 2
      · subst k2
        rcases Int.decEq (letN (whoL n2 L x) ho ep2) 0 with hr | hr
        · have HG : Hid (∀ W, HgM W mo L → _) := fun W hW => llet_bad ep q mo n2 x ho ep2 L W hW (by omega) hx hr
          have hr2 : (letN (whoL n2 L x) ho ep2 == 0) = false := by simpa using hr
          clear hr HZ
          generalize letN (whoL n2 L x) ho ep2 = r at *
          unfold lsV at HG
          generalize (whoL n2 L x).isSome = was at *
          go_wp2_with (first
            | (go_at_call 16; have g := F1; clear g F1; have F2 : True := trivial; refine CW.mono ?_; rintro e w2 ⟨rfl, B2⟩; obtain ⟨XA2, XB2, BB2, z2⟩ := HH.out w2 ha hb hc; generalize hwA2 : w2.alloc (.cells #[.int .i64 0, .int .i64 0, .int .i64 0] 51) = wA2 at *; generalize hwB2 : wA2.setRow w2.heap.size #[.int .i64 ha, .int .i64 hb, .int .i64 hc] = wB2 at *; have J2 := (J.below B2).below BB2; have x2 := (XB0.below B2).below BB2; have v2 := J2.vs; have a20 : wB2.cell? ⟨wr.heap.size, 0, none⟩ = some (.int .i64 2) := x2.cell 0 rfl; have a22 : wB2.cell? ⟨wr.heap.size, 2, none⟩ = some (.int .i64 te) := x2.cell 2 rfl; have a23 : wB2.cell? ⟨wr.heap.size, 3, none⟩ = some (.int .i64 x) := x2.cell 3 rfl; have a24 : wB2.cell? ⟨wr.heap.size, 4, none⟩ = some (.int .i64 ho) := x2.cell 4 rfl; have a25 : wB2.cell? ⟨wr.heap.size, 5, none⟩ = some (.int .i64 ep2) := x2.cell 5 rfl; have CG := HG.out wB2 J2.m)
            | (refine wpList_load_row rfl 26 _ rfl w.heap.size rfl 26 _ (0, 0) _ vJ Try.underlying26 rfl Try.infoLs ?_)
            | (refine wpList_load_row rfl 26 _ rfl w.heap.size rfl 26 _ (0, 0) _ v2 Try.underlying26 rfl Try.infoLs ?_)
            | (refine wpList_store_row rfl 51 _ _ rfl w2.heap.size _ rfl rfl 51 _ XA2 Try.infoHg rfl (hall3 _ _ _) ?_; rw [hwB2])
            | (go_at_call 12; refine CG.mono ?_; rintro e w3 ⟨b3, rfl, M3, hb3, B3⟩; obtain ⟨XA3, XB3, BB3, z3⟩ := HV.out w3 ep q (some b3); generalize hwA3 : w3.alloc (.cells #[.int .i64 0, .int .i64 0, .map none] 26) = wA3 at *; generalize hwB3 : wA3.setRow w3.heap.size #[.int .i64 ep, .int .i64 q, .map (some b3)] = wB3 at *; have J3 := (J2.below B3).below BB3; have v3 := J3.vs; have M3' := M3.below BB3)
            | (refine wpList_store_row rfl 26 _ _ rfl w3.heap.size _ rfl rfl 26 _ XA3 Try.infoLs rfl (lall _ _ _) ?_; rw [hwB3]))
          refine wp_region_nxt (by kernel_rfl) (by kernel_rfl) ?_
          repeat (first | go_big_quiet_skip | (go_big_quiet_want; go_big_quiet_op; first | go_big_quiet_on | (apply Exists.intro; refine ⟨fun pq => ?_, ?_⟩; exact rfl; go_big_quiet_on)))
          refine wpQuiet_nil ?_
          intro _ hw'
          obtain ⟨⟨wq, hwq⟩, hw''⟩ := hw'
          subst hw''
          have J5 := J3.below hwq
          have t5 := XB3.below hwq
          have v5 := J5.vs
          have M5 := M3'.below hwq
          go_wp2_with (first
            | (refine wpList_load_row rfl 26 _ rfl w3.heap.size rfl 26 _ (0, 0) _ t5 Try.underlying26 rfl Try.infoLs ?_)
            | (refine wpList_store_row rfl 26 _ _ rfl w.heap.size _ rfl rfl 26 _ v5 Try.infoLs rfl (lall _ _ _) ?_))
          go_roundg (40 - (i + 1))
          case measure => omega
          case rel => exact ⟨i + 1, ep, q, some b3, L, n2, last, by omega, by omega, rfl, rfl, rfl, by go_num, J5.put (HgM.some M5) (fun b hb => by cases hb; have := J2.sz; omega) (by omega) ⟨by omega, by omega, by omega⟩⟩
        · have HG : Hid (∀ W, HgM W mo L → _) := fun W hW => llet_ok ep q mo n2 x ho ep2 L W hW (by omega) hx hr
          obtain ⟨gg, hgg⟩ : ∃ g, whoL n2 L x = some g := by
            rcases hw : whoL n2 L x with _ | g
            · rw [hw] at hr; exact absurd hr (show ¬ (8 : Int) = 0 by decide)
            · exact ⟨g, rfl⟩
          have LD := last_del n2 x L J.m.apart hgg
          have hl2 : (delM (lastM n2 L) x).length ≤ i := by
            have h1 : (delM (lastM n2 L) x).length ≤ (lastM n2 L).length := List.length_filter_le _ _
            have h2 : (lastM n2 L).length ≤ L.length := List.length_filter_le _ _
            omega
          have hcl : (lastM n2 L).length ≤ i := by
            have h2 : (lastM n2 L).length ≤ L.length := List.length_filter_le _ _
            omega
          have hha : ha = ho := by
            have e1 := HZ.out
            rw [hgg] at e1 hr
            unfold letN at hr
            simp only at hr
            by_cases h : gg.hol ≠ ho ∨ gg.epo ≠ ep2
            · rw [if_pos h] at hr; omega
            · have h2 : gg.hol = ho := Decidable.of_not_not (fun e => h (Or.inl e))
              rw [← h2]
              show (Hg.mk ha hb hc).hol = gg.hol
              rw [e1]; rfl
          have HC1 : Hid (∀ (W : World) (b : Nat), MapAt Hg.val W b (delM (lastM n2 L) x) → _) := fun W b hW => lcount_any ep q (some b) n2 (delM (lastM n2 L) x) W (HgM.some hW) (by omega)
          have HC2 : Hid (∀ (W : World), HgM W mo L → _) := fun W hW => lcount_any ep q mo n2 L W hW (by omega)
          rw [hgg] at CW
          simp only [Option.isSome_some] at CW
          generalize (lastM n2 (delM (lastM n2 L) x)).length = y1 at *
          generalize (lastM n2 L).length = y2 at *
          generalize delM (lastM n2 L) x = L1 at *
          unfold lsV at HG HC1 HC2
          clear hr HZ hgg
          subst hha
          have q1 : wrap64 ((y2 : Int) - 1) = (y1 : Int) := by unfold wrap64; omega
          go_wp2_with (first
            | (go_at_call 16; have g := F1; clear g F1; have F2 : True := trivial; refine CW.mono ?_; rintro e w2 ⟨rfl, B2⟩; obtain ⟨XA2, XB2, BB2, z2⟩ := HH.out w2 ha hb hc; generalize hwA2 : w2.alloc (.cells #[.int .i64 0, .int .i64 0, .int .i64 0] 51) = wA2 at *; generalize hwB2 : wA2.setRow w2.heap.size #[.int .i64 ha, .int .i64 hb, .int .i64 hc] = wB2 at *; have J2 := (J.below B2).below BB2; have x2 := (XB0.below B2).below BB2; have v2 := J2.vs; have a20 : wB2.cell? ⟨wr.heap.size, 0, none⟩ = some (.int .i64 2) := x2.cell 0 rfl; have a22 : wB2.cell? ⟨wr.heap.size, 2, none⟩ = some (.int .i64 te) := x2.cell 2 rfl; have a23 : wB2.cell? ⟨wr.heap.size, 3, none⟩ = some (.int .i64 x) := x2.cell 3 rfl; have a24 : wB2.cell? ⟨wr.heap.size, 4, none⟩ = some (.int .i64 ha) := x2.cell 4 rfl; have a25 : wB2.cell? ⟨wr.heap.size, 5, none⟩ = some (.int .i64 ep2) := x2.cell 5 rfl; have CG := HG.out wB2 J2.m)
            | (refine wpList_load_row rfl 26 _ rfl w.heap.size rfl 26 _ (0, 0) _ vJ Try.underlying26 rfl Try.infoLs ?_)
            | (refine wpList_load_row rfl 26 _ rfl w.heap.size rfl 26 _ (0, 0) _ v2 Try.underlying26 rfl Try.infoLs ?_)
            | (refine wpList_store_row rfl 51 _ _ rfl w2.heap.size _ rfl rfl 51 _ XA2 Try.infoHg rfl (hall3 _ _ _) ?_; rw [hwB2])
            | (go_at_call 12; refine CG.mono ?_; rintro e w3 ⟨b3, rfl, M3, hb3, B3⟩; obtain ⟨XA3, XB3, BB3, z3⟩ := HV.out w3 ep q (some b3); generalize hwA3 : w3.alloc (.cells #[.int .i64 0, .int .i64 0, .map none] 26) = wA3 at *; generalize hwB3 : wA3.setRow w3.heap.size #[.int .i64 ep, .int .i64 q, .map (some b3)] = wB3 at *; have J3 := (J2.below B3).below BB3; have v3 := J3.vs; have M3' := M3.below BB3; have x3 := (x2.below B3).below BB3; have x23 := (XB2.below B3).below BB3)
            | (refine wpList_store_row rfl 26 _ _ rfl w3.heap.size _ rfl rfl 26 _ XA3 Try.infoLs rfl (lall _ _ _) ?_; rw [hwB3]))
          have n1 : ∀ p : Nxt wB3, p.to.cell? ⟨w2.heap.size, 0, none⟩ = some (.int .i64 ha) := fun p => (x23.below p.ok).cell 0 rfl
          have n2' : ∀ p : Nxt wB3, p.to.cell? ⟨wr.heap.size, 4, none⟩ = some (.int .i64 ha) := fun p => (x3.below p.ok).cell 4 rfl
          have n3 : ∀ p : Nxt wB3, p.to.cell? ⟨w3.heap.size, 0, none⟩ = some (.int .i64 ep) := fun p => (XB3.below p.ok).cell 0 rfl
          have n4 : ∀ p : Nxt wB3, p.to.cell? ⟨w3.heap.size, 1, none⟩ = some (.int .i64 q) := fun p => (XB3.below p.ok).cell 1 rfl
          have n5 : ∀ p : Nxt wB3, p.to.cell? ⟨w3.heap.size, 2, none⟩ = some (.map (some b3)) := fun p => (XB3.below p.ok).cell 2 rfl
          have n6 : ∀ p : Nxt wB3, p.to.cell? ⟨w.heap.size, 0, none⟩ = some (.int .i64 ep) := fun p => (v3.below p.ok).cell 0 rfl
          have n7 : ∀ p : Nxt wB3, p.to.cell? ⟨w.heap.size, 1, none⟩ = some (.int .i64 q) := fun p => (v3.below p.ok).cell 1 rfl
          have n8 : ∀ p : Nxt wB3, p.to.cell? ⟨w.heap.size, 2, none⟩ = some (.map mo) := fun p => (v3.below p.ok).cell 2 rfl
          refine wp_region_nxt (by kernel_rfl) (by kernel_rfl) ?_
          repeat (first | go_big_quiet_skip | (go_big_quiet_want; go_big_quiet_op; first | go_big_quiet_on | (apply Exists.intro; refine ⟨fun pq => ?_, ?_⟩; (first | (go_at_call_of 17 b3; exact calls_nxt (HC1.out _ b3 (M3'.below pq.ok))) | (go_at_call 17; exact calls_nxt (HC2.out _ (J3.m.below pq.ok))) | exact rfl); go_big_quiet_on)))
          refine wpQuiet_nil ?_
          intro _ hw'
          obtain ⟨⟨wq, hwq⟩, hw''⟩ := hw'
          subst hw''
          have J5 := J3.below hwq
          have t5 := XB3.below hwq
          have v5 := J5.vs
          have M5 := M3'.below hwq
          clear n1 n2' n3 n4 n5 n6 n7 n8
          go_wp2_with (first
            | (refine wpList_load_row rfl 26 _ rfl w3.heap.size rfl 26 _ (0, 0) _ t5 Try.underlying26 rfl Try.infoLs ?_)
            | (refine wpList_store_row rfl 26 _ _ rfl w.heap.size _ rfl rfl 26 _ v5 Try.infoLs rfl (lall _ _ _) ?_))
          go_roundg (40 - (i + 1))
          case measure => omega
          case rel => exact ⟨i + 1, ep, q, some b3, L1, n2, last, by omega, by omega, rfl, rfl, rfl, by go_num, J5.put (HgM.some M5) (fun b hb => by cases hb; have := J2.sz; omega) (by omega) ⟨by omega, by omega, by omega⟩⟩
      · by_cases k3 : ki = 3
        · subst k3
          have CR := fun W => lrestart_any ep q mo n2 te W
          generalize witN n2 1099511627776 + witN te 1048576 = q2 at *
          have CN := fun W => lcount_any ep q2 none n2 [] W (HgM.nil W) (by simp)
          have e0 : ((lastM n2 ([] : List (Int × Hg))).length : Int) = 0 := rfl
          rw [e0] at CN
          unfold lsV at CR CN
          generalize (whoL n2 L x).isSome = was at *
          have d3 : ¬ ep < last := by omega
          clear e0 HZ
          go_wp2_with (first
            | (go_at_call 16; have g := F1; clear g F1; have F2 : True := trivial; refine CW.mono ?_; rintro e w2 ⟨rfl, B2⟩; obtain ⟨XA2, XB2, BB2, z2⟩ := HH.out w2 ha hb hc; generalize hwA2 : w2.alloc (.cells #[.int .i64 0, .int .i64 0, .int .i64 0] 51) = wA2 at *; generalize hwB2 : wA2.setRow w2.heap.size #[.int .i64 ha, .int .i64 hb, .int .i64 hc] = wB2 at *; have J2 := (J.below B2).below BB2; have x2 := (XB0.below B2).below BB2; have v2 := J2.vs; have a20 : wB2.cell? ⟨wr.heap.size, 0, none⟩ = some (.int .i64 3) := x2.cell 0 rfl; have a22 : wB2.cell? ⟨wr.heap.size, 2, none⟩ = some (.int .i64 te) := x2.cell 2 rfl; have a23 : wB2.cell? ⟨wr.heap.size, 3, none⟩ = some (.int .i64 x) := x2.cell 3 rfl; have a24 : wB2.cell? ⟨wr.heap.size, 4, none⟩ = some (.int .i64 ho) := x2.cell 4 rfl; have a25 : wB2.cell? ⟨wr.heap.size, 5, none⟩ = some (.int .i64 ep2) := x2.cell 5 rfl)
            | (refine wpList_load_row rfl 26 _ rfl w.heap.size rfl 26 _ (0, 0) _ vJ Try.underlying26 rfl Try.infoLs ?_)
            | (refine wpList_load_row rfl 26 _ rfl w.heap.size rfl 26 _ (0, 0) _ v2 Try.underlying26 rfl Try.infoLs ?_)
            | (refine wpList_store_row rfl 51 _ _ rfl w2.heap.size _ rfl rfl 51 _ XA2 Try.infoHg rfl (hall3 _ _ _) ?_; rw [hwB2])
            | (go_at_call 14; refine (CR _).mono ?_; rintro e w3 ⟨rfl, B3⟩; have J3 := J2.below B3; have v3 := J3.vs; have J4 := J3.put (q' := q2) (HgM.nil w3) (fun b hb => by cases hb) (by simp) J3.ep0; generalize hwZ : w3.setRow w.heap.size #[.int .i64 ep, .int .i64 q2, .map none] = wZ at *; have v4 := J4.vs; have sz4 := J4.sz)
            | (refine wpList_store_row rfl 26 _ _ rfl w.heap.size _ rfl rfl 26 _ v3 Try.infoLs rfl (lall _ _ _) ?_; rw [hwZ])
            | (refine wpList_load_row rfl 26 _ rfl w.heap.size rfl 26 _ (0, 0) _ v4 Try.underlying26 rfl Try.infoLs ?_)
            | (go_at_call 17; refine (CN _).mono ?_; rintro e w5 ⟨rfl, B5⟩; have J5 := J4.below B5; have k50 : w5.cell? ⟨w.heap.size, 0, none⟩ = some (.int .i64 ep) := J5.vs.cell 0 rfl))
          all_goals
            go_roundg (40 - (i + 1))
            case measure => omega
            case rel => exact ⟨i + 1, ep, q2, none, [], n2, last, by omega, by omega, rfl, rfl, rfl, by go_num, J5⟩
        · generalize (whoL n2 L x).isSome = was at *
          clear HZ
          have k1' : (ki == 1) = false := by simpa using k1
          have k2' : (ki == 2) = false := by simpa using k2
          have k3' : (ki == 3) = false := by simpa using k3
          go_wp2_with (first
            | (go_at_call 16; have g := F1; clear g F1; have F2 : True := trivial; refine CW.mono ?_; rintro e w2 ⟨rfl, B2⟩; obtain ⟨XA2, XB2, BB2, z2⟩ := HH.out w2 ha hb hc; generalize hwA2 : w2.alloc (.cells #[.int .i64 0, .int .i64 0, .int .i64 0] 51) = wA2 at *; generalize hwB2 : wA2.setRow w2.heap.size #[.int .i64 ha, .int .i64 hb, .int .i64 hc] = wB2 at *; have J2 := (J.below B2).below BB2; have x2 := (XB0.below B2).below BB2; have v2 := J2.vs; have a20 : wB2.cell? ⟨wr.heap.size, 0, none⟩ = some (.int .i64 ki) := x2.cell 0 rfl; have a22 : wB2.cell? ⟨wr.heap.size, 2, none⟩ = some (.int .i64 te) := x2.cell 2 rfl; have a23 : wB2.cell? ⟨wr.heap.size, 3, none⟩ = some (.int .i64 x) := x2.cell 3 rfl; have a24 : wB2.cell? ⟨wr.heap.size, 4, none⟩ = some (.int .i64 ho) := x2.cell 4 rfl; have a25 : wB2.cell? ⟨wr.heap.size, 5, none⟩ = some (.int .i64 ep2) := x2.cell 5 rfl)
            | (refine wpList_load_row rfl 26 _ rfl w.heap.size rfl 26 _ (0, 0) _ vJ Try.underlying26 rfl Try.infoLs ?_)
            | (refine wpList_store_row rfl 51 _ _ rfl w2.heap.size _ rfl rfl 51 _ XA2 Try.infoHg rfl (hall3 _ _ _) ?_; rw [hwB2]))
          go_roundg (40 - (i + 1))
          case measure => omega
          case rel => exact ⟨i + 1, ep, q, mo, L, n2, last, by omega, by omega, rfl, rfl, rfl, by go_num, J2⟩
  · have BE := I.bel
    have hcase : ¬ i < n ∨ (i < n ∧ ¬ i < 40) := by omega
    rcases hcase with h1 | ⟨h1, h2⟩
    · have d1 : ¬ (i : Int) < (n : Int) := by omega
      clear hgo
      go_wp2_with (go_at_call 8; refine (CA _).mono ?_; rintro e w9 ⟨rfl, B9⟩)
      go_ret
      exact ⟨rfl, below_then BE B9⟩
    · have d1 : (i : Int) < (n : Int) := by omega
      have d2 : ¬ (i : Int) < 40 := by omega
      clear hgo
      go_wp2_with (go_at_call 8; refine (CA _).mono ?_; rintro e w9 ⟨rfl, B9⟩)
      go_ret
      exact ⟨rfl, below_then BE B9⟩
end Go.Proofs.Ytdddobpbjmlflaa
