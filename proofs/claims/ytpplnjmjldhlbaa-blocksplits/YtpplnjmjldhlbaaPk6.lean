/- Contracts of the program's functions, part 6 of 9: what each call returns and leaves of memory. -/
import Derived.Test.YtpplnjmjldhlbaaPk5
import Derived.Test.YtpplnjmjldhlbaaPk3
import Derived.Test.YtpplnjmjldhlbaaPk4
/- The document's Split of a view that fits. -/
namespace Go.Proofs.Ytpplnjmjldhlbaa
open Go.ChangeShapes Go.WideShapes Go.ChangeAt Go.RowKit
theorem IArg.same9 {w w' : World} {ao : Option Addr} {n c : Nat} {A : List Int} (h : IArg w ao n c A) (hb : ∀ b, b < w.heap.size → w'.heap[b]? = w.heap[b]?) : IArg w' ao n c A := by
  refine ⟨⟨h.row.len, h.row.max, h.row.small, fun hn => ?_⟩, h.fit, h.max, h.nil⟩
  obtain ⟨b, o, e, hc⟩ := h.row.cells hn
  refine ⟨b, o, e, fun t ht => ?_⟩
  have h1 := hc t ht
  rw [World.cell?_of_block (w := w) (hb b (by simpa using World.block_lt_of_cell? w _ h1))]
  exact h1
theorem GridAt.same9 {w w' : World} {ao : Option Addr} {n : Nat} {R : List (List Int)} (h : GridAt w ao n R) (hb : ∀ b, b < w.heap.size → w'.heap[b]? = w.heap[b]?) : GridAt w' ao n R := by
  refine ⟨h.len, h.max, fun hn => ?_⟩
  obtain ⟨b, o, e, hc⟩ := h.cells hn
  refine ⟨b, o, e, fun t ht => ?_⟩
  obtain ⟨ro, m, c, h1, h2⟩ := hc t ht
  exact ⟨ro, m, c, by rw [World.cell?_of_block (w := w) (hb b (by simpa using World.block_lt_of_cell? w _ h1))]; exact h1, h2.same9 hb⟩
/-- Lists of the call's own (behind w0), each of which lies where it lay in wy. -/
structure PartL (wy w0 w : World) (g k cap : Nat) (C : List (List (List Int))) : Prop where
  len : C.length = k
  own : ∃ vs, w.ownsRow w0.heap.size 73 1 (.slice (some ⟨g, 0, none⟩) k cap) k vs ∧ ∀ (t : Nat) (R : List (List Int)), C[t]? = some R → ∃ ro n c, vs[t]? = some (.slice ro n c) ∧ (ro = none → c = 0) ∧ n ≤ c ∧ c ≤ 9223372036854775807 ∧ GridAt wy ro n R
  kp : Below w0.heap.size w0 w
theorem PartL.below {wy w0 w w' : World} {g k cap : Nat} {C : List (List (List Int))} (h : PartL wy w0 w g k cap C) (hb : Below w.heap.size w w') : PartL wy w0 w' g k cap C := by
  obtain ⟨vs, O, hr⟩ := h.own
  exact ⟨h.len, ⟨vs, owns_below O hb, hr⟩, below_then h.kp hb⟩
theorem partL_new (wy w : World) : PartL wy w (w.alloc (.cells #[] 73)) w.heap.size 0 0 [] :=
  ⟨rfl, ⟨[], World.ownsRow_made w #[] 0 (Nat.le_refl _) (by decide) rfl, fun t R hR => by simp at hR⟩, (Below.refl _ _).alloc (Nat.le_refl _) _⟩
theorem PartL.cube {wy w0 w : World} {g k cap : Nat} {C : List (List (List Int))} (h : PartL wy w0 w g k cap C) (hk : k ≤ 9223372036854775807) (hbo : Below wy.heap.size wy w0) : Hangs (fun b => b < wy.heap.size ∨ w0.heap.size ≤ b) w (fun w => CubeAt w (some ⟨g, 0, none⟩) k C) := by
  intro w2 h2
  obtain ⟨vs, O, hr⟩ := h.own
  have s0 := hbo.size
  have s1 := h.kp.size
  have O2 := owns_mono O (Nat.le_refl _) (w' := w2) (fun b hb => by simp [Value.ownBlock] at hb; subst hb; exact h2 _ (Or.inr (O.lt g rfl).1) (O.lt g rfl).2)
  refine ⟨h.len, hk, fun _ => ⟨g, 0, rfl, fun t R hR => ?_⟩⟩
  obtain ⟨ro, n, c, e, q1, q2, q3, G⟩ := hr t R hR
  have hc := O2.cells (g := g) rfl t _ e
  have e2 : (Addr.mk g 0 none).add t = ⟨g, t, none⟩ := by simp [Addr.add]; intro h; exact h.symm
  rw [e2] at hc
  exact ⟨ro, n, c, by rw [Nat.zero_add]; exact hc, q1, q2, q3, G.same9 (fun b hb => by
    rw [h2 b (Or.inl hb) (by omega), h.kp.block b (by omega), hbo.block b hb])⟩
theorem map_part {C : List (List (List Int))} {k fr to' : Nat} {R : List (List Int)} (h : C[k]? = some R) : (C.take (k + 1)).map (fun R => partR R fr to') = (C.take k).map (fun R => partR R fr to') ++ [partR R fr to'] := by
  rw [take_one h]; simp
set_option maxRecDepth 100000 in
set_option maxHeartbeats 1600000 in
theorem rpart_any (ao : Option Addr) (m ca : Nat) (C : List (List (List Int))) (fr to' : Nat) (wy w : World) (hC : CubeAt wy ao m C) (hy : Below wy.heap.size wy w) (hm : m ≤ 4096) (h1 : fr < to') (_h2 : to' ≤ 4096) (hl : ∀ R ∈ C, to' ≤ R.length) :
   Calls Try.prog 32 #[.slice ao m ca, .int .i64 (fr : Int), .int .i64 (to' : Int)] w fun e w' => ∃ g cap, e = .returned (.slice (some ⟨g, 0, none⟩) m cap) ∧ Hangs (fun b => b < wy.heap.size ∨ w.heap.size ≤ b) w' (fun w => CubeAt w (some ⟨g, 0, none⟩) m (C.map fun R => partR R fr to')) ∧ Below w.heap.size w w' := by
  have F0 := partL_new wy w
  have hln := hC.len
  have HL : Hid (∀ R ∈ C, to' ≤ R.length) := hl
  clear hl
  go_enter Try.func32, Try.ntmps32
  go_wp2
  generalize w.alloc (.cells #[] 73) = w0 at *
  go_loopg [7, 13] m (fun r s i wr => ∃ (k g cap : Nat), k ≤ m ∧ r = m - k ∧ i = .int .i64 k ∧ s = .slice (some ⟨g, 0, none⟩) k cap ∧ PartL wy w wr g k cap ((C.take k).map fun R => partR R fr to'))
  case atStart => exact ⟨0, _, _, by omega, by omega, rfl, rfl, by rw [List.take_zero]; exact F0⟩
  case round =>
    obtain ⟨k, g, cap, hk, rfl, rfl, rfl, F1⟩ := hrel
    clear F0
    by_cases hlt : k < m
    · obtain ⟨b, o, rfl, hc⟩ := hC.cells (by omega)
      obtain ⟨R, hR⟩ : ∃ R, C[k]? = some R := ⟨_, List.getElem?_eq_getElem (show k < C.length by omega)⟩
      obtain ⟨ro, n, c, k1, k2, k3, k4, G1⟩ := hc k R hR
      have hRl := HL.out R (List.mem_of_getElem? hR)
      rw [G1.len] at hRl
      obtain ⟨b1, o1, rfl, _⟩ := G1.cells (by omega)
      have GP := G1.partR (Nat.le_of_lt h1) hRl
      have q1 : wr.cell? ⟨b, o + k, none⟩ = some (.slice (some ⟨b1, o1, none⟩) n c) := by
        have hlt' : b < wy.heap.size := by simpa using World.block_lt_of_cell? wy _ k1
        rw [(below_then hy F1.kp).cell (by exact hlt')]
        exact k1
      have HS : Hid ((C.take (k + 1)).map (fun R => partR R fr to') = (C.take k).map (fun R => partR R fr to') ++ [partR R fr to']) := map_part hR
      obtain ⟨vs, Ov, hr⟩ := F1.own
      have BL : Below wr.heap.size wr (wr.alloc (.cells #[.slice (some ⟨b1, o1 + fr, none⟩) (to' - fr) (c - fr)] 73)) := (Below.refl _ _).alloc (Nat.le_refl _) _
      have cX := cellL9 wr (.slice (some ⟨b1, o1 + fr, none⟩) (to' - fr) (c - fr))
      have O2 := owns_below Ov BL
      have hl1 := F1.len
      have KP := below_then F1.kp BL
      have s3 := KP.size
      have i1 : (0 : Int) ≤ (fr : Int) := by omega
      have i2 : (fr : Int) ≤ (to' : Int) := by omega
      have i3 : (to' : Int) ≤ (c : Int) := by omega
      have hne : ¬ c = fr := by omega
      clear hc hR G1 k1 k2 HL
      go_wp2_with (at_builtin; refine wpList_append_l9 rfl _ _ rfl w.heap.size g k cap vs rfl (by exact O2) wr.heap.size (.slice (some ⟨b1, o1 + fr, none⟩) (to' - fr) (c - fr)) rfl (by exact cX) rfl (by omega) (by omega) ?_; intro g' cap' w' O3 G3 N3)
      have F4 : PartL wy w w' g' (k + 1) cap' ((C.take k).map (fun R => partR R fr to') ++ [partR R fr to']) := by
        have lg := O2.lt g rfl
        refine ⟨by rw [List.length_append, hl1]; rfl, ⟨_, O3, fun t S hS => ?_⟩, KP.trans ⟨G3.os, G3.tape, G3.output, G3.size, fun b hb => G3.block b (Nat.lt_of_lt_of_le hb s3) (fun e => by have := lg.1; simp only [Option.some.injEq] at e; omega)⟩⟩
        have lv : vs.length = k := by have := Ov.1; simpa using this
        rcases Nat.lt_or_ge t k with ht | ht
        · rw [List.getElem?_append_left (by omega)] at hS
          obtain ⟨ro2, n2, c2, e, x1, x2, x3, x4⟩ := hr t S hS
          exact ⟨ro2, n2, c2, by rw [List.getElem?_append_left (by omega)]; exact e, x1, x2, x3, x4⟩
        · rw [List.getElem?_append_right (by omega), hl1] at hS
          have ht2 : t < k + 1 := by
            rcases Nat.lt_or_ge (t - k) 1 with h1 | h1
            · omega
            · rw [List.getElem?_eq_none (by simpa using h1)] at hS; cases hS
          obtain rfl : t = k := by omega
          simp at hS
          subst hS
          exact ⟨some ⟨b1, o1 + fr, none⟩, to' - fr, c - fr, by rw [List.getElem?_append_right (by omega), lv]; simp, (by intro h; cases h), by omega, by omega, GP⟩
      go_roundg (m - (k + 1))
      case measure => omega
      case rel => exact ⟨k + 1, _, _, by omega, rfl, by go_num, rfl, by rw [HS.out]; exact F4⟩
    · obtain rfl : k = m := by omega
      rw [List.take_of_length_le (by omega)] at F1
      go_wp2
      go_ret
      exact ⟨_, _, rfl, F1.cube (by omega) hy, F1.kp⟩
theorem ownTg_made (w : World) (y s : Nat) : OwnTg (w.alloc (.cells #[] 44)) w.heap.size y s (.slice (some ⟨w.heap.size, 0, none⟩) 0 0) [] := ⟨[], World.ownsRow_made w #[] 0 (Nat.le_refl _) (by decide) rfl, rfl, fun t X h => by simp at h⟩
set_option maxRecDepth 100000 in
set_option maxHeartbeats 3200000 in
theorem rsplit11_any (t k v : Sl) (X : Vw) (page : Nat) (w : World) (hv : ToldAt w t k v X) (hT : X.T.length ≤ 130) (hK : X.K.length ≤ 4096) (hV : X.V.length ≤ 4096) (hrk : ∀ R ∈ X.K, R.length = X.T.length) (hrv : ∀ R ∈ X.V, R.length = X.T.length) (hp1 : 1 ≤ page) (hp2 : page ≤ 16) :
   Calls Try.prog 11 #[.agg #[t.v, k.v, v.v], .int .i64 (page : Int)] w fun e w' => ∃ a c, e = .returned (.slice a (pageN X.T.length page) c) ∧ PgsAt w' ⟨a, pageN X.T.length page, c⟩ (pagesOf X page (pageN X.T.length page)) ∧ Below w.heap.size w w' := by
  obtain ⟨ta, tn, tc⟩ := t
  obtain ⟨ka, kn, kc⟩ := k
  obtain ⟨va, vn, vc⟩ := v
  have HT : Hid (IArg w ta tn tc X.T) := hv.t
  have HK : Hid (CubeAt w ka kn X.K) := hv.k
  have HV : Hid (CubeAt w va vn X.V) := hv.v
  have et : X.T.length = tn := HT.out.row.len
  have ek : X.K.length = kn := HK.out.len
  have ev : X.V.length = vn := HV.out.len
  clear hv
  rw [et] at hrk hrv
  have HRK : Hid (∀ R ∈ X.K, R.length = tn) := hrk
  have HRV : Hid (∀ R ∈ X.V, R.length = tn) := hrv
  unfold Sl.v
  simp only
  obtain ⟨NP, hNP⟩ : ∃ NP, pageN X.T.length page = NP := ⟨_, rfl⟩
  have HLT : Hid (∀ k, k * page < tn ↔ k < NP) := fun k => by rw [← et, ← hNP]; exact pageN_lt hp1
  have HET : Hid (X.T.length = tn) := et
  have hNP2 : NP ≤ 130 := by have := HLT.out 130; omega
  rw [hNP]
  rw [et] at hT
  have lk' : kn ≤ 4096 := by omega
  have lv' : vn ≤ 4096 := by omega
  clear hNP et ek ev hrk hrv hK hV
  have X0 := blk_new w 31 #[.slice ta tn tc, .slice ka kn kc, .slice va vn vc]
  have B0 : Below w.heap.size w (w.alloc (.cells #[.slice ta tn tc, .slice ka kn kc, .slice va vn vc] 31)) := (Below.refl _ _).alloc (Nat.le_refl _) _
  have s0 : (w.alloc (.cells #[.slice ta tn tc, .slice ka kn kc, .slice va vn vc] 31)).heap.size = w.heap.size + 1 := by simp
  generalize hw0 : w.alloc (.cells #[.slice ta tn tc, .slice ka kn kc, .slice va vn vc] 31) = w0 at *
  have OT : OwnTg (w0.alloc (.cells #[] 44)) (w.heap.size + 1) w.heap.size (w.heap.size + 1) (.slice (some ⟨w.heap.size + 1, 0, none⟩) 0 0) [] := by rw [← s0]; exact ownTg_made w0 _ _
  have B1 : Below w0.heap.size w0 (w0.alloc (.cells #[] 44)) := (Below.refl _ _).alloc (Nat.le_refl _) _
  generalize hw1 : w0.alloc (.cells #[] 44) = w1 at *
  replace X0 := X0.below B1
  have D1 := below_then B0 B1
  go_enter Try.func11, Try.ntmps11
  go_upto_region 3 with fail
  clear hw0 hw1 B0 B1
  go_loopg [5, 6] (NP + 1) (fun r s5 s6 wr => ∃ (k : Nat) (u : Value), k ≤ NP ∧ r = NP - k + 1 ∧ s6 = .int .i64 ((k * page : Nat) : Int) ∧ s5 = u ∧ OwnTg wr (w.heap.size + 1) w.heap.size (w.heap.size + 1) u (pagesOf X page k) ∧ Blk wr w.heap.size 31 #[.slice ta tn tc, .slice ka kn kc, .slice va vn vc] ∧ Below w.heap.size w wr)
  case atStart => exact ⟨0, _, by omega, by omega, by simp, rfl, OT, X0, D1⟩
  case round =>
    clear X0 OT D1
    obtain ⟨k, u, hk, rfl, rfl, hu, OT, X0, DR⟩ := hrel
    have hu2 := hu.symm
    subst hu2
    clear hu
    have b0 : wr.cell? ⟨w.heap.size, 0, none⟩ = some (.slice ta tn tc) := X0.cell 0 rfl
    by_cases hlt : k * page < tn
    · obtain ⟨tb, tq, rfl, _⟩ := HT.out.row.cells (by omega)
      have hkN := (HLT.out k).1 hlt
      have hfit := HT.out.fit
      have hcm := HT.out.max
      have hkp : (k + 1) * page = k * page + page := Nat.succ_mul k page
      obtain ⟨to2, ht2⟩ : ∃ t2, min ((k + 1) * page) tn = t2 := ⟨_, rfl⟩
      have HPG : Hid (pagesOf X page (k + 1) = pagesOf X page k ++ [pgOf X (k * page) to2]) := by
        show pagesOf X page k ++ [pgOf X (k * page) (min ((k + 1) * page) X.T.length)] = _
        rw [HET.out, ht2]
      obtain ⟨fr, hfr⟩ : ∃ fr, k * page = fr := ⟨_, rfl⟩
      obtain ⟨e2, he2⟩ : ∃ e2, fr + page = e2 := ⟨_, rfl⟩
      have HFR : Hid ((k + 1) * page = e2) := by show _ = _; omega
      rw [hfr] at hlt
      have ht3 : to2 = min e2 tn := by rw [← ht2]; omega
      have HKP : Hid (pagesOf X page k ++ [pgOf X (k * page) to2] = pagesOf X page k ++ [pgOf X fr to2]) := by
        show _ = _
        rw [hfr]
      simp only [hfr]
      have w9 : IntKind.i64.wrap ((fr : Int) + (page : Int)) = (e2 : Int) := by rw [wrap_in (by omega)]; omega
      have h12 : fr < to2 := by omega
      have hto1 : to2 ≤ tn := by omega
      have hto4 : to2 ≤ 4096 := by omega
      have HRK2 : Hid (∀ R ∈ X.K, to2 ≤ R.length) := fun R hR => by rw [HRK.out R hR]; exact hto1
      have HRV2 : Hid (∀ R ∈ X.V, to2 ≤ R.length) := fun R hR => by rw [HRV.out R hR]; exact hto1
      clear hkp ht2 hfr HRK HRV he2
      have hkk : (pagesOf X page k).length = k := pagesOf_len X page k
      by_cases hmn0 : e2 ≤ tn
      · skip
        obtain rfl : e2 = to2 := by omega
        have hmn : ¬ (tn : Int) < (e2 : Int) := by omega
        clear ht3
        go_upto_region 8 with fail
        clear b0
        have BD : Below wr.heap.size wr wr.drew := (Below.refl _ wr).drew
        replace X0 := X0.below BD
        replace OT := OT.below BD
        have DD := below_then DR BD
        refine wp_region_held_drew (S := fun w' => Blk w' w.heap.size 31 #[.slice (some ⟨tb, tq, none⟩) tn tc, .slice ka kn kc, .slice va vn vc]) (by kernel_rfl) (X0) (fun hHeld => ?_)
        generalize hA : wr.drew = wA at *
        clear hA BD
        have OT0 : ∀ b, u.ownBlock = some b → w.heap.size + 1 ≤ b ∧ b < wA.heap.size := fun b e => OT.lt e
        have zA := DD.size
        have zx := X0.lt
        refine wpAnyH_take (i := 0) (v := u) rfl (by kernel_rfl) (by kernel_rfl) (by kernel_rfl) (fun _ _ _ h => h) (Or.inl ⟨by rfl, ?_⟩) (by assumption) ?_
        · intro w' hSw
          go_simp
        simp only [List.getElem_toArray, List.getElem_cons_zero, Act.put, List.setIfInBounds_toArray, List.set_cons_zero, List.set_cons_succ]
        refine wpAnyH_take (i := 1) (v := (.pointer (some ⟨w.heap.size, 0, none⟩))) rfl (by kernel_rfl) (by kernel_rfl) (by kernel_rfl) (fun _ _ _ h => h) (Or.inl ⟨by rfl, ?_⟩) (by assumption) ?_
        · intro w' hSw
          go_simp
        simp only [List.getElem_toArray, List.getElem_cons_succ, List.getElem_cons_zero, Act.put, List.setIfInBounds_toArray, List.set_cons_zero, List.set_cons_succ]
        refine wpAnyH_take (i := 2) (v := (.slice (some ⟨tb, tq, none⟩) tn tc)) rfl (by kernel_rfl) (by kernel_rfl) (by kernel_rfl) (fun _ _ _ h => h) (Or.inl ⟨by rfl, ?_⟩) (by assumption) ?_
        · intro w' hSw
          have cc0 : w'.cell? ⟨w.heap.size, 0, none⟩ = some (.slice (some ⟨tb, tq, none⟩) tn tc) := hSw.cell 0 rfl
          go_simp
        simp only [List.getElem_toArray, List.getElem_cons_succ, List.getElem_cons_zero, Act.put, List.setIfInBounds_toArray, List.set_cons_zero, List.set_cons_succ]
        refine wpAnyH_take (i := 3) (v := (.int .i64 (e2 : Int))) rfl (by kernel_rfl) (by kernel_rfl) (by kernel_rfl) (fun _ _ _ h => h) (Or.inl ⟨by rfl, ?_⟩) (by assumption) ?_
        · intro w' hSw
          go_simp
        simp only [List.getElem_toArray, List.getElem_cons_succ, List.getElem_cons_zero, Act.put, List.setIfInBounds_toArray, List.set_cons_zero, List.set_cons_succ]
        refine wpAnyH_take (i := 4) (v := (.slice (some ⟨tb, tq, none⟩) e2 tc)) rfl (by kernel_rfl) (by kernel_rfl) (by kernel_rfl) (fun _ _ _ h => h) (Or.inl ⟨by rfl, ?_⟩) (by assumption) ?_
        · intro w' hSw
          (go_simp; try (intro hbad; exfalso; omega))
        simp only [List.getElem_toArray, List.getElem_cons_succ, List.getElem_cons_zero, Act.put, List.setIfInBounds_toArray, List.set_cons_zero, List.set_cons_succ]
        refine wpAnyH_take (i := 5) (v := (.int .i64 (fr : Int))) rfl (by kernel_rfl) (by kernel_rfl) (by kernel_rfl) (fun _ _ _ h => h) (Or.inl ⟨by rfl, ?_⟩) (by assumption) ?_
        · intro w' hSw
          go_simp
        simp only [List.getElem_toArray, List.getElem_cons_succ, List.getElem_cons_zero, Act.put, List.setIfInBounds_toArray, List.set_cons_zero, List.set_cons_succ]
        refine wpAnyH_take (i := 6) (v := (.pointer (some ⟨w.heap.size, 1, none⟩))) rfl (by kernel_rfl) (by kernel_rfl) (by kernel_rfl) (fun _ _ _ h => h) (Or.inl ⟨by rfl, ?_⟩) (by assumption) ?_
        · intro w' hSw
          go_simp
        simp only [List.getElem_toArray, List.getElem_cons_succ, List.getElem_cons_zero, Act.put, List.setIfInBounds_toArray, List.set_cons_zero, List.set_cons_succ]
        refine wpAnyH_take (i := 7) (v := (.slice ka kn kc)) rfl (by kernel_rfl) (by kernel_rfl) (by kernel_rfl) (fun _ _ _ h => h) (Or.inl ⟨by rfl, ?_⟩) (by assumption) ?_
        · intro w' hSw
          have cc1 : w'.cell? ⟨w.heap.size, 1, none⟩ = some (.slice ka kn kc) := hSw.cell 1 rfl
          go_simp
        simp only [List.getElem_toArray, List.getElem_cons_succ, List.getElem_cons_zero, Act.put, List.setIfInBounds_toArray, List.set_cons_zero, List.set_cons_succ]
        refine wpAnyH_take (i := 8) (v := (.int .i64 (fr : Int))) rfl (by kernel_rfl) (by kernel_rfl) (by kernel_rfl) (fun _ _ _ h => h) (Or.inl ⟨by rfl, ?_⟩) (by assumption) ?_
        · intro w' hSw
          go_simp
        simp only [List.getElem_toArray, List.getElem_cons_succ, List.getElem_cons_zero, Act.put, List.setIfInBounds_toArray, List.set_cons_zero, List.set_cons_succ]
        refine wpAnyH_take (i := 9) (v := (.int .i64 (e2 : Int))) rfl (by kernel_rfl) (by kernel_rfl) (by kernel_rfl) (fun _ _ _ h => h) (Or.inl ⟨by rfl, ?_⟩) (by assumption) ?_
        · intro w' hSw
          go_simp
        simp only [List.getElem_toArray, List.getElem_cons_succ, List.getElem_cons_zero, Act.put, List.setIfInBounds_toArray, List.set_cons_zero, List.set_cons_succ]
        refine wpAnyH_take (i := 11) (v := (.pointer (some ⟨w.heap.size, 2, none⟩))) rfl (by kernel_rfl) (by kernel_rfl) (by kernel_rfl) (fun _ _ _ h => h) (Or.inl ⟨by rfl, ?_⟩) (by assumption) ?_
        · intro w' hSw
          go_simp
        simp only [List.getElem_toArray, List.getElem_cons_succ, List.getElem_cons_zero, Act.put, List.setIfInBounds_toArray, List.set_cons_zero, List.set_cons_succ]
        refine wpAnyH_take (i := 12) (v := (.slice va vn vc)) rfl (by kernel_rfl) (by kernel_rfl) (by kernel_rfl) (fun _ _ _ h => h) (Or.inl ⟨by rfl, ?_⟩) (by assumption) ?_
        · intro w' hSw
          have cc2 : w'.cell? ⟨w.heap.size, 2, none⟩ = some (.slice va vn vc) := hSw.cell 2 rfl
          go_simp
        simp only [List.getElem_toArray, List.getElem_cons_succ, List.getElem_cons_zero, Act.put, List.setIfInBounds_toArray, List.set_cons_zero, List.set_cons_succ]
        refine wpAnyH_take (i := 13) (v := (.int .i64 (fr : Int))) rfl (by kernel_rfl) (by kernel_rfl) (by kernel_rfl) (fun _ _ _ h => h) (Or.inl ⟨by rfl, ?_⟩) (by assumption) ?_
        · intro w' hSw
          go_simp
        simp only [List.getElem_toArray, List.getElem_cons_succ, List.getElem_cons_zero, Act.put, List.setIfInBounds_toArray, List.set_cons_zero, List.set_cons_succ]
        refine wpAnyH_take (i := 14) (v := (.int .i64 (e2 : Int))) rfl (by kernel_rfl) (by kernel_rfl) (by kernel_rfl) (fun _ _ _ h => h) (Or.inl ⟨by rfl, ?_⟩) (by assumption) ?_
        · intro w' hSw
          go_simp
        simp only [List.getElem_toArray, List.getElem_cons_succ, List.getElem_cons_zero, Act.put, List.setIfInBounds_toArray, List.set_cons_zero, List.set_cons_succ]
        refine wpAnyH_ready (rs := [10]) (by kernel_rfl) (by simp) ?_
        refine AllReadyH.cons rfl (fun Kc hKc => ?_) AllReadyH.nil
        simp only [List.getElem_toArray, List.getElem_cons_succ, List.getElem_cons_zero]
        rw [if_pos (by rfl)]
        go_wp2_with fail
        refine (rpart_any ka kn kc X.K fr e2 w _ HK.out DD lk' h12 hto4 HRK2.out).mono ?_
        rintro e w3 ⟨kg, kc2, rfl, NK, B3⟩
        have z3 := B3.size
        replace X0 := X0.below B3
        replace OT := OT.below B3
        replace DD := below_then DD B3
        go_wp2_with fail
        refine hKc.out _ _ (X0) (fun hHeld => ?_)
        clear hKc Kc
        refine wpAnyH_ready (rs := [15]) (by kernel_rfl) (by simp) ?_
        refine AllReadyH.cons rfl (fun Kc hKc => ?_) AllReadyH.nil
        simp only [List.getElem_toArray, List.getElem_cons_succ, List.getElem_cons_zero]
        rw [if_pos (by rfl)]
        go_wp2_with fail
        refine (rpart_any va vn vc X.V fr e2 w _ HV.out DD lv' h12 hto4 HRV2.out).mono ?_
        rintro e w4 ⟨vg, vc2, rfl, NV, B4⟩
        have z4 := B4.size
        replace NK := Hangs.below NK B4
        replace X0 := X0.below B4
        replace OT := OT.below B4
        replace DD := below_then DD B4
        go_wp2_with fail
        refine hKc.out _ _ (X0) (fun hHeld => ?_)
        clear hKc Kc
        refine wpAnyH_take (i := 16) (v := (.agg #[.slice (some ⟨tb, tq, none⟩) e2 tc, .int .i64 (fr : Int), .slice (some ⟨kg, 0, none⟩) kn kc2, .slice (some ⟨vg, 0, none⟩) vn vc2])) rfl (by kernel_rfl) (by kernel_rfl) (by kernel_rfl) (fun _ _ _ h => h) (Or.inl ⟨by rfl, ?_⟩) (by assumption) ?_
        · intro w' hSw
          go_simp
        simp only [List.getElem_toArray, List.getElem_cons_succ, List.getElem_cons_zero, Act.put, List.setIfInBounds_toArray, List.set_cons_zero, List.set_cons_succ]
        refine wpAnyH_ready (rs := [17]) (by kernel_rfl) (by simp) ?_
        refine AllReadyH.cons rfl (fun Kc hKc => ?_) AllReadyH.nil
        simp only [List.getElem_toArray, List.getElem_cons_succ, List.getElem_cons_zero]
        rw [if_pos (by rfl)]
        have HP : Hangs (offW w.heap.size (w.heap.size + 1) u) w4 (fun w => PgAt w ⟨⟨some ⟨tb, tq, none⟩, e2, tc⟩, (fr : Int), ⟨some ⟨kg, 0, none⟩, kn, kc2⟩, ⟨some ⟨vg, 0, none⟩, vn, vc2⟩⟩ (pgOf X fr e2)) := fun wz hz => by
          have low : ∀ b, b < w.heap.size → wz.heap[b]? = w.heap[b]? := fun b hb => (hz b ⟨Or.inl hb, fun e => by have := (OT0 b e).1; omega⟩ (by omega)).trans (DD.block b hb)
          have hi : ∀ b, wA.heap.size ≤ b → b < w4.heap.size → wz.heap[b]? = w4.heap[b]? := fun b hb hl => hz b ⟨Or.inr (by omega), fun e => by have := (OT0 b e).2; omega⟩ hl
          refine ⟨(HT.out.take hto1).same9 low, rfl, NK wz (fun b hb hl => ?_), NV wz (fun b hb hl => ?_)⟩
          · rcases hb with h | h
            · exact (low b h).trans (DD.block b h).symm
            · exact hi b h hl
          · rcases hb with h | h
            · exact (low b h).trans (DD.block b h).symm
            · exact hi b (by omega) hl
        have CN := blk_new w4 44 #[.slice (some ⟨tb, tq, none⟩) e2 tc, .int .i64 (fr : Int), .slice (some ⟨kg, 0, none⟩) kn kc2, .slice (some ⟨vg, 0, none⟩) vn vc2]
        have BA : Below w4.heap.size w4 (w4.alloc (.cells #[.slice (some ⟨tb, tq, none⟩) e2 tc, .int .i64 (fr : Int), .slice (some ⟨kg, 0, none⟩) kn kc2, .slice (some ⟨vg, 0, none⟩) vn vc2] 44)) := (Below.refl _ _).alloc (Nat.le_refl _) _
        generalize hwa : w4.alloc (.cells #[.slice (some ⟨tb, tq, none⟩) e2 tc, .int .i64 (fr : Int), .slice (some ⟨kg, 0, none⟩) kn kc2, .slice (some ⟨vg, 0, none⟩) vn vc2] 44) = wa at *
        go_wp2_with fail
        replace X0 := X0.below BA
        replace OT := OT.below BA
        replace DD := below_then DD BA
        replace HP := Hangs.below HP BA
        have za := BA.size
        refine hKc.out _ _ X0 (fun hHeld => ?_)
        clear hKc Kc NK NV hwa
        refine wpAnyH_ready (rs := [18]) (by kernel_rfl) (by simp) ?_
        refine AllReadyH.cons rfl (fun Kc hKc => ?_) AllReadyH.nil
        simp only [List.getElem_toArray, List.getElem_cons_succ, List.getElem_cons_zero]
        rw [if_pos (by rfl)]
        refine wp_append_tg _ _ rfl (w.heap.size + 1) w.heap.size (w.heap.size + 1) u (pagesOf X page k) k hkk rfl (by exact OT) w4.heap.size ⟨⟨some ⟨tb, tq, none⟩, e2, tc⟩, (fr : Int), ⟨some ⟨kg, 0, none⟩, kn, kc2⟩, ⟨some ⟨vg, 0, none⟩, vn, vc2⟩⟩ (pgOf X fr e2) rfl (by exact CN) (by exact HP) (by omega) (by omega) ?_
        intro ea ec w5 O5 G5 N5
        have X05 := X0.of_block (G5.block _ X0.lt (fun e => by have := (OT.lt e.symm).1; omega))
        have DD5 : Below w.heap.size w w5 := DD.grown G5 (by omega) (fun g e => by have := (OT.lt e).1; omega)
        refine hKc.out _ _ X05 (fun hHeld => ?_)
        clear hKc Kc
        refine wpAnyH_take (i := 19) (v := (.slice ea (k + 1) ec)) rfl (by kernel_rfl) (by kernel_rfl) (by kernel_rfl) (fun _ _ _ h => h) (Or.inl ⟨by rfl, ?_⟩) (by assumption) ?_
        · intro w' hSw
          go_simp
        simp only [List.getElem_toArray, List.getElem_cons_succ, List.getElem_cons_zero, Act.put, List.setIfInBounds_toArray, List.set_cons_zero, List.set_cons_succ]
        refine wpAnyH_done (by kernel_rfl) ?_ _
        go_wp2_with fail
        go_roundg (NP - (k + 1) + 1)
        case measure => omega
        case rel =>
          refine ⟨k + 1, _, by omega, by omega, ?_, rfl, ?_, X05, DD5⟩
          · rw [HFR.out]
          · rw [HPG.out, HKP.out]; exact O5
      · skip
        obtain rfl : tn = to2 := by omega
        have hmn : (tn : Int) < (e2 : Int) := by omega
        clear ht3
        go_upto_region 8 with fail
        clear b0
        have BD : Below wr.heap.size wr wr.drew := (Below.refl _ wr).drew
        replace X0 := X0.below BD
        replace OT := OT.below BD
        have DD := below_then DR BD
        refine wp_region_held_drew (S := fun w' => Blk w' w.heap.size 31 #[.slice (some ⟨tb, tq, none⟩) tn tc, .slice ka kn kc, .slice va vn vc]) (by kernel_rfl) (X0) (fun hHeld => ?_)
        generalize hA : wr.drew = wA at *
        clear hA BD
        have OT0 : ∀ b, u.ownBlock = some b → w.heap.size + 1 ≤ b ∧ b < wA.heap.size := fun b e => OT.lt e
        have zA := DD.size
        have zx := X0.lt
        refine wpAnyH_take (i := 0) (v := u) rfl (by kernel_rfl) (by kernel_rfl) (by kernel_rfl) (fun _ _ _ h => h) (Or.inl ⟨by rfl, ?_⟩) (by assumption) ?_
        · intro w' hSw
          go_simp
        simp only [List.getElem_toArray, List.getElem_cons_zero, Act.put, List.setIfInBounds_toArray, List.set_cons_zero, List.set_cons_succ]
        refine wpAnyH_take (i := 1) (v := (.pointer (some ⟨w.heap.size, 0, none⟩))) rfl (by kernel_rfl) (by kernel_rfl) (by kernel_rfl) (fun _ _ _ h => h) (Or.inl ⟨by rfl, ?_⟩) (by assumption) ?_
        · intro w' hSw
          go_simp
        simp only [List.getElem_toArray, List.getElem_cons_succ, List.getElem_cons_zero, Act.put, List.setIfInBounds_toArray, List.set_cons_zero, List.set_cons_succ]
        refine wpAnyH_take (i := 2) (v := (.slice (some ⟨tb, tq, none⟩) tn tc)) rfl (by kernel_rfl) (by kernel_rfl) (by kernel_rfl) (fun _ _ _ h => h) (Or.inl ⟨by rfl, ?_⟩) (by assumption) ?_
        · intro w' hSw
          have cc0 : w'.cell? ⟨w.heap.size, 0, none⟩ = some (.slice (some ⟨tb, tq, none⟩) tn tc) := hSw.cell 0 rfl
          go_simp
        simp only [List.getElem_toArray, List.getElem_cons_succ, List.getElem_cons_zero, Act.put, List.setIfInBounds_toArray, List.set_cons_zero, List.set_cons_succ]
        refine wpAnyH_take (i := 3) (v := (.int .i64 (tn : Int))) rfl (by kernel_rfl) (by kernel_rfl) (by kernel_rfl) (fun _ _ _ h => h) (Or.inl ⟨by rfl, ?_⟩) (by assumption) ?_
        · intro w' hSw
          go_simp
        simp only [List.getElem_toArray, List.getElem_cons_succ, List.getElem_cons_zero, Act.put, List.setIfInBounds_toArray, List.set_cons_zero, List.set_cons_succ]
        refine wpAnyH_take (i := 4) (v := (.slice (some ⟨tb, tq, none⟩) tn tc)) rfl (by kernel_rfl) (by kernel_rfl) (by kernel_rfl) (fun _ _ _ h => h) (Or.inl ⟨by rfl, ?_⟩) (by assumption) ?_
        · intro w' hSw
          (go_simp; try (intro hbad; exfalso; omega))
        simp only [List.getElem_toArray, List.getElem_cons_succ, List.getElem_cons_zero, Act.put, List.setIfInBounds_toArray, List.set_cons_zero, List.set_cons_succ]
        refine wpAnyH_take (i := 5) (v := (.int .i64 (fr : Int))) rfl (by kernel_rfl) (by kernel_rfl) (by kernel_rfl) (fun _ _ _ h => h) (Or.inl ⟨by rfl, ?_⟩) (by assumption) ?_
        · intro w' hSw
          go_simp
        simp only [List.getElem_toArray, List.getElem_cons_succ, List.getElem_cons_zero, Act.put, List.setIfInBounds_toArray, List.set_cons_zero, List.set_cons_succ]
        refine wpAnyH_take (i := 6) (v := (.pointer (some ⟨w.heap.size, 1, none⟩))) rfl (by kernel_rfl) (by kernel_rfl) (by kernel_rfl) (fun _ _ _ h => h) (Or.inl ⟨by rfl, ?_⟩) (by assumption) ?_
        · intro w' hSw
          go_simp
        simp only [List.getElem_toArray, List.getElem_cons_succ, List.getElem_cons_zero, Act.put, List.setIfInBounds_toArray, List.set_cons_zero, List.set_cons_succ]
        refine wpAnyH_take (i := 7) (v := (.slice ka kn kc)) rfl (by kernel_rfl) (by kernel_rfl) (by kernel_rfl) (fun _ _ _ h => h) (Or.inl ⟨by rfl, ?_⟩) (by assumption) ?_
        · intro w' hSw
          have cc1 : w'.cell? ⟨w.heap.size, 1, none⟩ = some (.slice ka kn kc) := hSw.cell 1 rfl
          go_simp
        simp only [List.getElem_toArray, List.getElem_cons_succ, List.getElem_cons_zero, Act.put, List.setIfInBounds_toArray, List.set_cons_zero, List.set_cons_succ]
        refine wpAnyH_take (i := 8) (v := (.int .i64 (fr : Int))) rfl (by kernel_rfl) (by kernel_rfl) (by kernel_rfl) (fun _ _ _ h => h) (Or.inl ⟨by rfl, ?_⟩) (by assumption) ?_
        · intro w' hSw
          go_simp
        simp only [List.getElem_toArray, List.getElem_cons_succ, List.getElem_cons_zero, Act.put, List.setIfInBounds_toArray, List.set_cons_zero, List.set_cons_succ]
        refine wpAnyH_take (i := 9) (v := (.int .i64 (tn : Int))) rfl (by kernel_rfl) (by kernel_rfl) (by kernel_rfl) (fun _ _ _ h => h) (Or.inl ⟨by rfl, ?_⟩) (by assumption) ?_
        · intro w' hSw
          go_simp
        simp only [List.getElem_toArray, List.getElem_cons_succ, List.getElem_cons_zero, Act.put, List.setIfInBounds_toArray, List.set_cons_zero, List.set_cons_succ]
        refine wpAnyH_take (i := 11) (v := (.pointer (some ⟨w.heap.size, 2, none⟩))) rfl (by kernel_rfl) (by kernel_rfl) (by kernel_rfl) (fun _ _ _ h => h) (Or.inl ⟨by rfl, ?_⟩) (by assumption) ?_
        · intro w' hSw
          go_simp
        simp only [List.getElem_toArray, List.getElem_cons_succ, List.getElem_cons_zero, Act.put, List.setIfInBounds_toArray, List.set_cons_zero, List.set_cons_succ]
        refine wpAnyH_take (i := 12) (v := (.slice va vn vc)) rfl (by kernel_rfl) (by kernel_rfl) (by kernel_rfl) (fun _ _ _ h => h) (Or.inl ⟨by rfl, ?_⟩) (by assumption) ?_
        · intro w' hSw
          have cc2 : w'.cell? ⟨w.heap.size, 2, none⟩ = some (.slice va vn vc) := hSw.cell 2 rfl
          go_simp
        simp only [List.getElem_toArray, List.getElem_cons_succ, List.getElem_cons_zero, Act.put, List.setIfInBounds_toArray, List.set_cons_zero, List.set_cons_succ]
        refine wpAnyH_take (i := 13) (v := (.int .i64 (fr : Int))) rfl (by kernel_rfl) (by kernel_rfl) (by kernel_rfl) (fun _ _ _ h => h) (Or.inl ⟨by rfl, ?_⟩) (by assumption) ?_
        · intro w' hSw
          go_simp
        simp only [List.getElem_toArray, List.getElem_cons_succ, List.getElem_cons_zero, Act.put, List.setIfInBounds_toArray, List.set_cons_zero, List.set_cons_succ]
        refine wpAnyH_take (i := 14) (v := (.int .i64 (tn : Int))) rfl (by kernel_rfl) (by kernel_rfl) (by kernel_rfl) (fun _ _ _ h => h) (Or.inl ⟨by rfl, ?_⟩) (by assumption) ?_
        · intro w' hSw
          go_simp
        simp only [List.getElem_toArray, List.getElem_cons_succ, List.getElem_cons_zero, Act.put, List.setIfInBounds_toArray, List.set_cons_zero, List.set_cons_succ]
        refine wpAnyH_ready (rs := [10]) (by kernel_rfl) (by simp) ?_
        refine AllReadyH.cons rfl (fun Kc hKc => ?_) AllReadyH.nil
        simp only [List.getElem_toArray, List.getElem_cons_succ, List.getElem_cons_zero]
        rw [if_pos (by rfl)]
        go_wp2_with fail
        refine (rpart_any ka kn kc X.K fr tn w _ HK.out DD lk' h12 hto4 HRK2.out).mono ?_
        rintro e w3 ⟨kg, kc2, rfl, NK, B3⟩
        have z3 := B3.size
        replace X0 := X0.below B3
        replace OT := OT.below B3
        replace DD := below_then DD B3
        go_wp2_with fail
        refine hKc.out _ _ (X0) (fun hHeld => ?_)
        clear hKc Kc
        refine wpAnyH_ready (rs := [15]) (by kernel_rfl) (by simp) ?_
        refine AllReadyH.cons rfl (fun Kc hKc => ?_) AllReadyH.nil
        simp only [List.getElem_toArray, List.getElem_cons_succ, List.getElem_cons_zero]
        rw [if_pos (by rfl)]
        go_wp2_with fail
        refine (rpart_any va vn vc X.V fr tn w _ HV.out DD lv' h12 hto4 HRV2.out).mono ?_
        rintro e w4 ⟨vg, vc2, rfl, NV, B4⟩
        have z4 := B4.size
        replace NK := Hangs.below NK B4
        replace X0 := X0.below B4
        replace OT := OT.below B4
        replace DD := below_then DD B4
        go_wp2_with fail
        refine hKc.out _ _ (X0) (fun hHeld => ?_)
        clear hKc Kc
        refine wpAnyH_take (i := 16) (v := (.agg #[.slice (some ⟨tb, tq, none⟩) tn tc, .int .i64 (fr : Int), .slice (some ⟨kg, 0, none⟩) kn kc2, .slice (some ⟨vg, 0, none⟩) vn vc2])) rfl (by kernel_rfl) (by kernel_rfl) (by kernel_rfl) (fun _ _ _ h => h) (Or.inl ⟨by rfl, ?_⟩) (by assumption) ?_
        · intro w' hSw
          go_simp
        simp only [List.getElem_toArray, List.getElem_cons_succ, List.getElem_cons_zero, Act.put, List.setIfInBounds_toArray, List.set_cons_zero, List.set_cons_succ]
        refine wpAnyH_ready (rs := [17]) (by kernel_rfl) (by simp) ?_
        refine AllReadyH.cons rfl (fun Kc hKc => ?_) AllReadyH.nil
        simp only [List.getElem_toArray, List.getElem_cons_succ, List.getElem_cons_zero]
        rw [if_pos (by rfl)]
        have HP : Hangs (offW w.heap.size (w.heap.size + 1) u) w4 (fun w => PgAt w ⟨⟨some ⟨tb, tq, none⟩, tn, tc⟩, (fr : Int), ⟨some ⟨kg, 0, none⟩, kn, kc2⟩, ⟨some ⟨vg, 0, none⟩, vn, vc2⟩⟩ (pgOf X fr tn)) := fun wz hz => by
          have low : ∀ b, b < w.heap.size → wz.heap[b]? = w.heap[b]? := fun b hb => (hz b ⟨Or.inl hb, fun e => by have := (OT0 b e).1; omega⟩ (by omega)).trans (DD.block b hb)
          have hi : ∀ b, wA.heap.size ≤ b → b < w4.heap.size → wz.heap[b]? = w4.heap[b]? := fun b hb hl => hz b ⟨Or.inr (by omega), fun e => by have := (OT0 b e).2; omega⟩ hl
          refine ⟨(HT.out.take hto1).same9 low, rfl, NK wz (fun b hb hl => ?_), NV wz (fun b hb hl => ?_)⟩
          · rcases hb with h | h
            · exact (low b h).trans (DD.block b h).symm
            · exact hi b h hl
          · rcases hb with h | h
            · exact (low b h).trans (DD.block b h).symm
            · exact hi b (by omega) hl
        have CN := blk_new w4 44 #[.slice (some ⟨tb, tq, none⟩) tn tc, .int .i64 (fr : Int), .slice (some ⟨kg, 0, none⟩) kn kc2, .slice (some ⟨vg, 0, none⟩) vn vc2]
        have BA : Below w4.heap.size w4 (w4.alloc (.cells #[.slice (some ⟨tb, tq, none⟩) tn tc, .int .i64 (fr : Int), .slice (some ⟨kg, 0, none⟩) kn kc2, .slice (some ⟨vg, 0, none⟩) vn vc2] 44)) := (Below.refl _ _).alloc (Nat.le_refl _) _
        generalize hwa : w4.alloc (.cells #[.slice (some ⟨tb, tq, none⟩) tn tc, .int .i64 (fr : Int), .slice (some ⟨kg, 0, none⟩) kn kc2, .slice (some ⟨vg, 0, none⟩) vn vc2] 44) = wa at *
        go_wp2_with fail
        replace X0 := X0.below BA
        replace OT := OT.below BA
        replace DD := below_then DD BA
        replace HP := Hangs.below HP BA
        have za := BA.size
        refine hKc.out _ _ X0 (fun hHeld => ?_)
        clear hKc Kc NK NV hwa
        refine wpAnyH_ready (rs := [18]) (by kernel_rfl) (by simp) ?_
        refine AllReadyH.cons rfl (fun Kc hKc => ?_) AllReadyH.nil
        simp only [List.getElem_toArray, List.getElem_cons_succ, List.getElem_cons_zero]
        rw [if_pos (by rfl)]
        refine wp_append_tg _ _ rfl (w.heap.size + 1) w.heap.size (w.heap.size + 1) u (pagesOf X page k) k hkk rfl (by exact OT) w4.heap.size ⟨⟨some ⟨tb, tq, none⟩, tn, tc⟩, (fr : Int), ⟨some ⟨kg, 0, none⟩, kn, kc2⟩, ⟨some ⟨vg, 0, none⟩, vn, vc2⟩⟩ (pgOf X fr tn) rfl (by exact CN) (by exact HP) (by omega) (by omega) ?_
        intro ea ec w5 O5 G5 N5
        have X05 := X0.of_block (G5.block _ X0.lt (fun e => by have := (OT.lt e.symm).1; omega))
        have DD5 : Below w.heap.size w w5 := DD.grown G5 (by omega) (fun g e => by have := (OT.lt e).1; omega)
        refine hKc.out _ _ X05 (fun hHeld => ?_)
        clear hKc Kc
        refine wpAnyH_take (i := 19) (v := (.slice ea (k + 1) ec)) rfl (by kernel_rfl) (by kernel_rfl) (by kernel_rfl) (fun _ _ _ h => h) (Or.inl ⟨by rfl, ?_⟩) (by assumption) ?_
        · intro w' hSw
          go_simp
        simp only [List.getElem_toArray, List.getElem_cons_succ, List.getElem_cons_zero, Act.put, List.setIfInBounds_toArray, List.set_cons_zero, List.set_cons_succ]
        refine wpAnyH_done (by kernel_rfl) ?_ _
        go_wp2_with fail
        go_roundg (NP - (k + 1) + 1)
        case measure => omega
        case rel =>
          refine ⟨k + 1, _, by omega, by omega, ?_, rfl, ?_, X05, DD5⟩
          · rw [HFR.out]
          · rw [HPG.out, HKP.out]; exact O5
    · have hkN : k = NP := by
        rcases Nat.lt_or_ge k NP with h | h
        · exact absurd ((HLT.out k).2 h) hlt
        · omega
      have hlt' : ¬ ((k * page : Nat) : Int) < (tn : Int) := by omega
      generalize k * page = fr at *
      obtain ⟨a, c, e9⟩ := OT.form
      rw [pagesOf_len] at e9
      subst e9
      go_wp2_with fail
      go_ret
      subst hkN
      exact ⟨a, c, rfl, (OT.new (by omega) (Nat.le_refl _)).now, DR⟩
end Go.Proofs.Ytpplnjmjldhlbaa

/- Package block: rowsFit, placesFit, Check. -/
namespace Go.Proofs.Ytpplnjmjldhlbaa
open Go.ChangeShapes Go.WideShapes Go.ChangeAt Go.RowKit
def rfR (R : List (List Int)) (places dim : Int) : Bool := decide ((R.length : Int) = places) && R.all fun r : List Int => decide ((r.length : Int) = dim)
def rfB (C : List (List (List Int))) (places dim : Int) : Bool := C.all fun R : List (List Int) => rfR R places dim
theorem rfB_true {C : List (List (List Int))} {places dim : Int} (h : ∀ (t : Nat) (R : List (List Int)), C[t]? = some R → rfR R places dim = true) : rfB C places dim = true := by
  unfold rfB
  rw [List.all_eq_true]
  intro R hR
  obtain ⟨t, ht⟩ := List.getElem?_of_mem hR
  exact h t R ht
theorem rfB_false {C : List (List (List Int))} {places dim : Int} {t : Nat} {R : List (List Int)} (hR : C[t]? = some R) (h : rfR R places dim = false) : rfB C places dim = false := by
  cases e : rfB C places dim with
  | false => rfl
  | true =>
    unfold rfB at e
    rw [List.all_eq_true] at e
    rw [e R (List.mem_of_getElem? hR)] at h
    cases h
theorem rfR_true {R : List (List Int)} {places dim : Int} (h1 : (R.length : Int) = places) (h : ∀ t, t < R.length → ((rowOf R t).length : Int) = dim) : rfR R places dim = true := by
  unfold rfR
  rw [Bool.and_eq_true, List.all_eq_true]
  refine ⟨by simpa using h1, fun r hr => ?_⟩
  obtain ⟨t, ht⟩ := List.getElem?_of_mem hr
  have hlt := (List.getElem?_eq_some_iff.1 ht).1
  have := h t hlt
  unfold rowOf at this
  rw [List.getD_eq_getElem?_getD, ht] at this
  simpa using this
theorem rfR_short {R : List (List Int)} {places dim : Int} (h1 : (R.length : Int) ≠ places) : rfR R places dim = false := by
  unfold rfR
  rw [Bool.and_eq_false_iff]
  exact Or.inl (by simpa using h1)
theorem rfR_row {R : List (List Int)} {places dim : Int} {t : Nat} (ht : t < R.length) (h : ((rowOf R t).length : Int) ≠ dim) : rfR R places dim = false := by
  cases e : rfR R places dim with
  | false => rfl
  | true =>
    unfold rfR at e
    rw [Bool.and_eq_true, List.all_eq_true] at e
    have := e.2 _ (List.getElem_mem ht)
    unfold rowOf at h
    rw [List.getD_eq_getElem?_getD, List.getElem?_eq_getElem ht] at h
    exact absurd (by simpa using this) h
set_option maxRecDepth 100000 in
set_option maxHeartbeats 1600000 in
theorem rowsFit_any (ao : Option Addr) (m ca : Nat) (C : List (List (List Int))) (places dim : Int) (w : World) (hC : CubeAt w ao m C) :
   Calls Try.prog 39 #[.slice ao m ca, .int .i64 places, .int .i64 dim] w fun e w' => e = .returned (.bool (rfB C places dim)) ∧ w' = w := by
  have hm := hC.max
  have HLN : Hid (C.length = m) := hC.len
  obtain ⟨q, hq⟩ : ∃ q, rfB C places dim = q := ⟨_, rfl⟩
  rw [hq]
  have HQ : Hid (rfB C places dim = q) := hq
  clear hq
  go_enter Try.func39, Try.ntmps39
  go_wp2
  go_loopg [13] m (fun r i wr => ∃ k : Nat, k ≤ m ∧ r = m - k ∧ i = .int .i64 (k : Int) ∧ w = wr ∧ ∀ t R, t < k → C[t]? = some R → rfR R places dim = true)
  case atStart => exact ⟨0, by omega, by omega, rfl, rfl, fun t R h => by omega⟩
  case round =>
    obtain ⟨k, hk, rfl, rfl, rfl, HA⟩ := hrel
    by_cases hlt : k < m
    · obtain ⟨b, o, rfl, hc⟩ := hC.cells (by omega)
      have hR : C[k]? = some (C[k]'(by rw [HLN.out]; exact hlt)) := List.getElem?_eq_getElem _
      generalize C[k]'(by rw [HLN.out]; exact hlt) = R at hR
      obtain ⟨ro, n, c, k1, k2, k3, k4, G⟩ := hc k R hR
      have hn := G.max
      have hgl := G.len
      have HGL : Hid (R.length = n) := hgl
      clear hc hC hgl
      by_cases hnp : (n : Int) = places
      · have hnp2 : ((n : Int) == places) = true := by simpa using hnp
        have HNP : Hid ((n : Int) = places) := hnp
        clear hnp
        go_upto_region 7 with fail
        clear k1 hnp2
        go_loopg [23] n (fun r i wr => ∃ j : Nat, j ≤ n ∧ r = n - j ∧ i = .int .i64 (j : Int) ∧ w = wr ∧ ∀ t, t < j → ((rowOf R t).length : Int) = dim)
        case atStart => exact ⟨0, by omega, by omega, rfl, rfl, fun t h => by omega⟩
        case round =>
          obtain ⟨j, hj, rfl, rfl, rfl, HB⟩ := hrel
          by_cases hjt : j < n
          · obtain ⟨b2, o2, rfl, hr⟩ := G.cells (by omega)
            obtain ⟨r3, l3, c3, s1, A⟩ := hr j hjt
            have hal := A.row.len
            have HAL : Hid ((rowOf R j).length = l3) := hal
            clear hr G A hal
            by_cases hld : (l3 : Int) = dim
            · have hld2 : ((l3 : Int) == dim) = true := by simpa using hld
              have HLD : Hid ((l3 : Int) = dim) := hld
              clear hld
              go_wp2_with fail
              go_roundg (n - (j + 1))
              case measure => omega
              case rel =>
                refine ⟨j + 1, by omega, rfl, by go_num, rfl, fun t ht => ?_⟩
                rcases Nat.lt_or_ge t j with h | h
                · exact HB t h
                · obtain rfl : t = j := by omega
                  rw [HAL.out]
                  exact HLD.out
            · have hld2 : ((l3 : Int) == dim) = false := by simpa using hld
              have HLD : Hid (¬ (l3 : Int) = dim) := hld
              clear hld
              go_wp2_with fail
              go_ret
              refine ⟨?_, rfl⟩
              rw [← HQ.out, rfB_false hR (rfR_row (t := j) (by rw [HGL.out]; exact hjt) (by rw [HAL.out]; exact HLD.out))]
              rfl
          · obtain rfl : n = j := by omega
            go_wp2_with fail
            go_roundg (m - (k + 1))
            case measure => omega
            case rel =>
              refine ⟨k + 1, by omega, rfl, by go_num, rfl, fun t R' ht hR' => ?_⟩
              rcases Nat.lt_or_ge t k with h | h
              · exact HA t R' h hR'
              · obtain rfl : t = k := by omega
                rw [hR] at hR'
                simp only [Option.some.injEq] at hR'
                subst hR'
                exact rfR_true (by rw [HGL.out]; exact HNP.out) (fun t ht => HB t (by rw [HGL.out] at ht; exact ht))
      · have hnp2 : ((n : Int) == places) = false := by simpa using hnp
        have HNP : Hid (¬ (n : Int) = places) := hnp
        clear hnp G
        go_wp2_with fail
        go_ret
        refine ⟨?_, rfl⟩
        rw [← HQ.out, rfB_false hR (rfR_short (by rw [HGL.out]; exact HNP.out))]
        rfl
    · obtain rfl : m = k := by omega
      go_wp2
      go_ret
      refine ⟨?_, rfl⟩
      rw [← HQ.out, rfB_true fun t R hR => HA t R (by have := (List.getElem?_eq_some_iff.1 hR).1; rw [HLN.out] at this; exact this) hR]
      rfl
/-- Has a page its places? -/
def plB (n : Nat) (F : Int) : Bool := decide (0 ≤ F) && decide (n ≤ 128) && decide (1 ≤ (n : Int) - F) && decide ((n : Int) - F ≤ 16)
set_option maxRecDepth 100000 in
set_option maxHeartbeats 1600000 in
theorem placesFit_any (ta : Option Addr) (n tz : Nat) (F : Int) (ka va : Option Addr) (kn kz vn vz : Nat) (w : World) (hn : n ≤ 9223372036854775807) (hF : -9223372036854775808 ≤ F ∧ F ≤ 9223372036854775807) :
   Calls Try.prog 38 #[.agg #[.slice ta n tz, .int .i64 F, .slice ka kn kz, .slice va vn vz]] w fun e w' => e = .returned (.bool (plB n F)) ∧ Below w.heap.size w w' := by
  have X0 := blk_new w 47 #[.slice ta n tz, .int .i64 F, .slice ka kn kz, .slice va vn vz]
  have B0 : Below w.heap.size w (w.alloc (.cells #[.slice ta n tz, .int .i64 F, .slice ka kn kz, .slice va vn vz] 47)) := (Below.refl _ _).alloc (Nat.le_refl _) _
  generalize hw0 : w.alloc (.cells #[.slice ta n tz, .int .i64 F, .slice ka kn kz, .slice va vn vz] 47) = w0 at *
  have c0 : w0.cell? ⟨w.heap.size, 0, none⟩ = some (.slice ta n tz) := X0.cell 0 rfl
  have c1 : w0.cell? ⟨w.heap.size, 1, none⟩ = some (.int .i64 F) := X0.cell 1 rfl
  obtain ⟨q, hq⟩ : ∃ q, plB n F = q := ⟨_, rfl⟩
  have HQ : Hid (plB n F = q) := hq
  rw [hq]
  clear hq X0
  go_enter Try.func38, Try.ntmps38
  by_cases h1 : F < 0
  · go_wp2_with fail
    go_ret
    refine ⟨?_, B0⟩
    rw [← HQ.out]; unfold plB
    rw [show decide (0 ≤ F) = false from decide_eq_false (by omega)]; rfl
  · by_cases h2 : (128 : Int) < (n : Int)
    · go_wp2_with fail
      go_ret
      refine ⟨?_, B0⟩
      rw [← HQ.out]; unfold plB
      rw [show decide (n ≤ 128) = false from decide_eq_false (by omega), Bool.and_false]; rfl
    · obtain ⟨d, hd⟩ : ∃ d, (n : Int) - F = d := ⟨_, rfl⟩
      have e1' : IntKind.i64.wrap ((n : Int) - F) = d := by rw [hd]; exact wrap_in (by omega)
      have HD : Hid ((n : Int) - F = d) := hd
      clear hd
      by_cases h3 : d < 1
      · go_wp2_with fail
        go_ret
        refine ⟨?_, B0⟩
        rw [← HQ.out]; unfold plB
        have := HD.out
        rw [show decide (1 ≤ (n : Int) - F) = false from decide_eq_false (by omega), Bool.and_false]; rfl
      · go_wp2_with fail
        go_ret
        refine ⟨?_, B0⟩
        show Ending.returned (Value.bool (decide (d ≤ 16))) = _
        rw [← HQ.out]; unfold plB
        have := HD.out
        rw [show decide (0 ≤ F) = true from decide_eq_true (by omega), show decide (n ≤ 128) = true from decide_eq_true (by omega), show decide (1 ≤ (n : Int) - F) = true from decide_eq_true (by omega), HD.out]
        rfl
end Go.Proofs.Ytpplnjmjldhlbaa

/- Fits of layer 9, of any view and any configuration: the program's and the document's answer alike. -/
namespace Go.Proofs.Ytpplnjmjldhlbaa
open Go.ChangeShapes Go.WideShapes Go.ChangeAt Go.RowKit
/-- Is there a list a layer, each with a row a place, each of so many numbers? -/
def lfB (C : List (List (List Int))) (places dim L : Int) : Bool := decide ((C.length : Int) = L) && rfB C places dim
/-- Has a view the form of a configuration? -/
def vwB (Vo D L : Int) (X : Vw) : Bool := if X.T.length = 0 then decide (X.K.length = 0) && decide (X.V.length = 0) else decide (X.T.length ≤ 128) && X.T.all (tokB Vo) && (lfB X.K X.T.length D L && lfB X.V X.T.length D L)
set_option maxRecDepth 100000 in
set_option maxHeartbeats 1600000 in
theorem listsFitG_any (Vo dim Hd H L : Int) (ao : Option Addr) (m ca : Nat) (C : List (List (List Int))) (places : Int) (w : World) (hC : CubeAt w ao m C) :
   Calls Try.prog 48 #[.agg (cfgC Vo dim Hd H L), .slice ao m ca, .int .i64 places] w fun e w' => e = .returned (.bool (lfB C places dim L)) ∧ Below w.heap.size w w' := by
  have hm := hC.max
  have HLN : Hid (C.length = m) := hC.len
  have X0 := blk_new w 23 (cfgC Vo dim Hd H L)
  have B0 : Below w.heap.size w (w.alloc (.cells (cfgC Vo dim Hd H L) 23)) := (Below.refl _ _).alloc (Nat.le_refl _) _
  unfold cfgC at *
  generalize hw0 : w.alloc (.cells #[.int .i64 Vo, .int .i64 dim, .int .i64 Hd, .int .i64 H, .int .i64 L] 23) = w0 at *
  have a1 : w0.cell? ⟨w.heap.size, 1, none⟩ = some (.int .i64 dim) := X0.cell 1 rfl
  have a4 : w0.cell? ⟨w.heap.size, 4, none⟩ = some (.int .i64 L) := X0.cell 4 rfl
  replace hC := hC.below B0
  clear X0
  obtain ⟨q, hq⟩ : ∃ q, rfB C places dim = q := ⟨_, rfl⟩
  have HQ : Hid (rfB C places dim = q) := hq
  by_cases hL : (m : Int) = L
  rotate_left
  · have hL2 : ((m : Int) == L) = false := by simpa using hL
    have HR : Hid (lfB C places dim L = false) := by
      show _ = _
      unfold lfB
      rw [HLN.out, show decide ((m : Int) = L) = false from decide_eq_false hL, Bool.false_and]
    clear hq hL hC
    go_enter Try.func48, Try.ntmps48
    go_wp2
    go_ret
    exact ⟨by rw [HR.out]; rfl, B0⟩
  have hL2 : ((m : Int) == L) = true := by simpa using hL
  have hL3 : ((m : Int) != L) = false := by simp [bne, hL2]
  have HLF : Hid (lfB C places dim L = q) := by
    show _ = _
    unfold lfB
    rw [HLN.out, show decide ((m : Int) = L) = true from decide_eq_true hL, Bool.true_and, hq]
  rw [HLF.out]
  clear hq hL
  go_enter Try.func48, Try.ntmps48
  go_wp2
  clear hL2 hL3 a4
  go_loopg [18] m (fun r i wr => ∃ k : Nat, k ≤ m ∧ r = m - k ∧ i = .int .i64 (k : Int) ∧ wr = w0 ∧ ∀ t R, t < k → C[t]? = some R → rfR R places dim = true)
  case atStart => exact ⟨0, by omega, by omega, rfl, rfl, fun t R h => by omega⟩
  case round =>
    obtain ⟨k, hk, rfl, rfl, hwr, HA⟩ := hrel
    obtain rfl : w0 = wr := hwr.symm
    by_cases hlt : k < m
    · obtain ⟨b, o, rfl, hc⟩ := hC.cells (by omega)
      have hR : C[k]? = some (C[k]'(by rw [HLN.out]; exact hlt)) := List.getElem?_eq_getElem _
      generalize C[k]'(by rw [HLN.out]; exact hlt) = R at hR
      obtain ⟨ro, n, c, k1, k2, k3, k4, G⟩ := hc k R hR
      have hn := G.max
      have hgl := G.len
      have HGL : Hid (R.length = n) := hgl
      clear hc hC hgl
      by_cases hnp : (n : Int) = places
      · have hnp2 : ((n : Int) == places) = true := by simpa using hnp
        have HNP : Hid ((n : Int) = places) := hnp
        clear hnp
        go_wp2_with fail
        clear k1 hnp2
        go_loopg [28] n (fun r i wr => ∃ j : Nat, j ≤ n ∧ r = n - j ∧ i = .int .i64 (j : Int) ∧ wr = w0 ∧ ∀ t, t < j → ((rowOf R t).length : Int) = dim)
        case atStart => exact ⟨0, by omega, by omega, rfl, rfl, fun t h => by omega⟩
        case round =>
          obtain ⟨j, hj, rfl, rfl, hwr, HB⟩ := hrel
          obtain rfl : w0 = wr := hwr.symm
          by_cases hjt : j < n
          · obtain ⟨b2, o2, rfl, hr⟩ := G.cells (by omega)
            obtain ⟨r3, l3, c3, s1, A⟩ := hr j hjt
            have hal := A.row.len
            have HAL : Hid ((rowOf R j).length = l3) := hal
            clear hr G A hal
            by_cases hld : (l3 : Int) = dim
            · have hld2 : ((l3 : Int) == dim) = true := by simpa using hld
              have HLD : Hid ((l3 : Int) = dim) := hld
              clear hld
              go_wp2_with fail
              go_roundg (n - (j + 1))
              case measure => omega
              case rel =>
                refine ⟨j + 1, by omega, rfl, by go_num, rfl, fun t ht => ?_⟩
                rcases Nat.lt_or_ge t j with h | h
                · exact HB t h
                · obtain rfl : t = j := by omega
                  rw [HAL.out]
                  exact HLD.out
            · have hld2 : ((l3 : Int) == dim) = false := by simpa using hld
              have HLD : Hid (¬ (l3 : Int) = dim) := hld
              clear hld
              go_wp2_with fail
              go_ret
              refine ⟨?_, B0⟩
              rw [← HQ.out, rfB_false hR (rfR_row (t := j) (by rw [HGL.out]; exact hjt) (by rw [HAL.out]; exact HLD.out))]
              rfl
          · obtain rfl : n = j := by omega
            go_wp2_with fail
            go_roundg (m - (k + 1))
            case measure => omega
            case rel =>
              refine ⟨k + 1, by omega, rfl, by go_num, rfl, fun t R' ht hR' => ?_⟩
              rcases Nat.lt_or_ge t k with h | h
              · exact HA t R' h hR'
              · obtain rfl : t = k := by omega
                rw [hR] at hR'
                simp only [Option.some.injEq] at hR'
                subst hR'
                exact rfR_true (by rw [HGL.out]; exact HNP.out) (fun t ht => HB t (by rw [HGL.out] at ht; exact ht))
      · have hnp2 : ((n : Int) == places) = false := by simpa using hnp
        have HNP : Hid (¬ (n : Int) = places) := hnp
        clear hnp G
        go_wp2_with fail
        go_ret
        refine ⟨?_, B0⟩
        rw [← HQ.out, rfB_false hR (rfR_short (by rw [HGL.out]; exact HNP.out))]
        rfl
    · obtain rfl : m = k := by omega
      go_wp2
      go_ret
      refine ⟨?_, B0⟩
      rw [← HQ.out, rfB_true fun t R hR => HA t R (by have := (List.getElem?_eq_some_iff.1 hR).1; rw [HLN.out] at this; exact this) hR]
      rfl
set_option maxRecDepth 100000 in
set_option maxHeartbeats 1600000 in
theorem sfitsG_any (Vo D Hd H L : Int) (v : VwV) (X : Vw) (w : World) (hv : VwAt w v X) :
   Calls Try.prog 27 #[.agg (cfgC Vo D Hd H L), .agg v.cells] w fun e w' => e = .returned (.bool (vwB Vo D L X)) ∧ Below w.heap.size w w' := by
  obtain ⟨⟨ta, tn, tz⟩, ⟨ka, kn, kz⟩, ⟨va, vn, vz⟩⟩ := v
  have hT : IArg w ta tn tz X.T := hv.t
  have hK : CubeAt w ka kn X.K := hv.k
  have hV : CubeAt w va vn X.V := hv.v
  clear hv
  have hl := hT.row.len
  have kl := hK.len
  have vl := hV.len
  have tm := hT.row.max
  have km := hK.max
  have vm := hV.max
  have HK := fun wv (hb : Below w.heap.size w wv) => listsFitG_any Vo D Hd H L ka kn kz X.K tn wv (hK.below hb)
  have HV := fun wv (hb : Below w.heap.size w wv) => listsFitG_any Vo D Hd H L va vn vz X.V tn wv (hV.below hb)
  have HI := fun wv x => isToken_any Vo D Hd H L x wv
  have HT : Hid (∀ wv, Below w.heap.size w wv → IRowAt wv ta tn X.T) := fun wv hb => hT.row.below hb
  unfold cfgC at HK HV HI
  show Calls Try.prog 27 #[.agg #[.int .i64 Vo, .int .i64 D, .int .i64 Hd, .int .i64 H, .int .i64 L], .agg #[.slice ta tn tz, .slice ka kn kz, .slice va vn vz]] w _
  have X0 := blk_new w 23 #[.int .i64 Vo, .int .i64 D, .int .i64 Hd, .int .i64 H, .int .i64 L]
  have B0 : Below w.heap.size w (w.alloc (.cells #[.int .i64 Vo, .int .i64 D, .int .i64 Hd, .int .i64 H, .int .i64 L] 23)) := (Below.refl _ _).alloc (Nat.le_refl _) _
  have s0 : (w.alloc (.cells #[.int .i64 Vo, .int .i64 D, .int .i64 Hd, .int .i64 H, .int .i64 L] 23)).heap.size = w.heap.size + 1 := by simp
  generalize hw0 : w.alloc (.cells #[.int .i64 Vo, .int .i64 D, .int .i64 Hd, .int .i64 H, .int .i64 L] 23) = w0 at *
  have X1 := blk_new w0 29 #[.slice ta tn tz, .slice ka kn kz, .slice va vn vz]
  have B1 : Below w0.heap.size w0 (w0.alloc (.cells #[.slice ta tn tz, .slice ka kn kz, .slice va vn vz] 29)) := (Below.refl _ _).alloc (Nat.le_refl _) _
  rw [s0] at X1
  generalize hw1 : w0.alloc (.cells #[.slice ta tn tz, .slice ka kn kz, .slice va vn vz] 29) = w1 at *
  replace X0 := X0.below B1
  replace B1 := below_then B0 B1
  clear B0
  have b0 : w1.cell? ⟨w.heap.size + 1, 0, none⟩ = some (.slice ta tn tz) := X1.cell 0 rfl
  have b1 : w1.cell? ⟨w.heap.size + 1, 1, none⟩ = some (.slice ka kn kz) := X1.cell 1 rfl
  have b2 : w1.cell? ⟨w.heap.size + 1, 2, none⟩ = some (.slice va vn vz) := X1.cell 2 rfl
  obtain ⟨q, hq⟩ : ∃ q, vwB Vo D L X = q := ⟨_, rfl⟩
  rw [hq]
  have HQ : Hid (q = if tn = 0 then decide (kn = 0) && decide (vn = 0) else decide (tn ≤ 128) && X.T.all (tokB Vo) && (lfB X.K tn D L && lfB X.V tn D L)) := by
    show _ = _
    rw [← hq]; unfold vwB; rw [hl, kl, vl]
  clear hq hT hK hV
  by_cases h0 : tn = 0
  · subst h0
    have HR : Hid (q = (decide (kn = 0) && decide (vn = 0))) := by show _ = _; rw [HQ.out, if_pos rfl]
    clear HQ HK HV HI HT
    by_cases hk0 : kn = 0
    · subst hk0
      go_enter Try.func27, Try.ntmps27
      go_wp2
      go_ret
      refine ⟨?_, B1⟩
      rw [HR.out]
      by_cases hv0 : vn = 0
      · subst hv0; rfl
      · rw [show decide (vn = 0) = false from decide_eq_false hv0]
        have : ((vn : Int) == 0) = false := by simpa using hv0
        simp [hv0]
    · have hk1 : ((kn : Int) == 0) = false := by simpa using hk0
      go_enter Try.func27, Try.ntmps27
      go_wp2
      go_ret
      refine ⟨?_, B1⟩
      rw [HR.out, show decide (kn = 0) = false from decide_eq_false hk0]
      rfl
  have hz0 : ((tn : Int) == 0) = false := by simpa using h0
  by_cases h128 : tn ≤ 128
  rotate_left
  · have HR : Hid (q = false) := by show _ = _; rw [HQ.out, if_neg h0, show decide (tn ≤ 128) = false from decide_eq_false h128]; rfl
    have h128' : (128 : Int) < tn := by omega
    clear HQ HK HV HI HT
    go_enter Try.func27, Try.ntmps27
    go_wp2
    go_ret
    exact ⟨by rw [HR.out]; rfl, B1⟩
  have HR : Hid (q = (X.T.all (tokB Vo) && (lfB X.K tn D L && lfB X.V tn D L))) := by show _ = _; rw [HQ.out, if_neg h0, show decide (tn ≤ 128) = true from decide_eq_true h128, Bool.true_and]
  clear HQ
  obtain ⟨b, o, rfl, _⟩ := (HT.out w (Below.refl _ _)).cells (by omega)
  have h128' : ¬ (128 : Int) < tn := by omega
  go_enter Try.func27, Try.ntmps27
  go_wp2_with fail
  go_loopg [30] tn (fun r i wr => ∃ k : Nat, k ≤ tn ∧ r = tn - k ∧ i = .int .i64 k ∧ Below w1.heap.size w1 wr ∧ (X.T.take k).all (tokB Vo) = true)
  case atStart => exact ⟨0, by omega, by omega, rfl, Below.refl _ _, by simp⟩
  case round =>
    obtain ⟨k, hk, rfl, rfl, BR, HA⟩ := hrel
    have Y0 := X0.below BR
    have Y1 := X1.below BR
    have a0 : wr.cell? ⟨w.heap.size, 0, none⟩ = some (.int .i64 Vo) := Y0.cell 0 rfl
    have a1 : wr.cell? ⟨w.heap.size, 1, none⟩ = some (.int .i64 D) := Y0.cell 1 rfl
    have a2 : wr.cell? ⟨w.heap.size, 2, none⟩ = some (.int .i64 Hd) := Y0.cell 2 rfl
    have a3 : wr.cell? ⟨w.heap.size, 3, none⟩ = some (.int .i64 H) := Y0.cell 3 rfl
    have a4 : wr.cell? ⟨w.heap.size, 4, none⟩ = some (.int .i64 L) := Y0.cell 4 rfl
    clear b0 b1 b2
    have BW := below_then B1 BR
    by_cases hlt : k < tn
    · obtain ⟨b', o', e', hc⟩ := (HT.out wr BW).cells (by omega)
      simp only [Option.some.injEq, Addr.mk.injEq, and_true] at e'
      obtain ⟨rfl, rfl⟩ := e'
      have ck := hc k hlt
      have HX : Hid ((X.T.take (k + 1)).all (tokB Vo) = ((X.T.take k).all (tokB Vo) && tokB Vo (el X.T k))) := by
        show _ = _
        rw [List.take_add_one, List.getElem?_eq_getElem (show k < X.T.length by omega), List.all_append]
        unfold el
        rw [List.getD_eq_getElem?_getD, List.getElem?_eq_getElem (show k < X.T.length by omega)]
        simp
      have HM : Hid (tokB Vo (el X.T k) = false → X.T.all (tokB Vo) = false) := fun hf => by
        cases e : X.T.all (tokB Vo) with
        | false => rfl
        | true =>
          rw [List.all_eq_true] at e
          have := e _ (List.getElem_mem (show k < X.T.length by omega))
          unfold el at hf
          rw [List.getD_eq_getElem?_getD, List.getElem?_eq_getElem (show k < X.T.length by omega), Option.getD_some, this] at hf
          exact hf
      generalize el X.T k = x at *
      clear hc
      go_wp2_with fail
      refine (HI _ x).mono ?_
      rintro e w2 ⟨rfl, B2⟩
      clear a0 a1 a2 a3 a4 ck
      have B3 := below_then BR B2
      cases ht : tokB Vo x with
      | true =>
        go_wp2
        go_roundg (tn - (k + 1))
        case measure => omega
        case rel => exact ⟨k + 1, by omega, rfl, by go_num, B3, by rw [HX.out, HA, ht]; rfl⟩
      | false =>
        go_wp2
        go_ret
        exact ⟨by rw [HR.out, HM.out ht]; rfl, below_then B1 B3⟩
    · obtain rfl : k = tn := by omega
      have HA2 : Hid (X.T.all (tokB Vo) = true) := by rw [List.take_of_length_le (by omega)] at HA; exact HA
      clear HA
      have b0 : wr.cell? ⟨w.heap.size + 1, 0, none⟩ = some (.slice (some ⟨b, o, none⟩) k tz) := Y1.cell 0 rfl
      have b1 : wr.cell? ⟨w.heap.size + 1, 1, none⟩ = some (.slice ka kn kz) := Y1.cell 1 rfl
      have b2 : wr.cell? ⟨w.heap.size + 1, 2, none⟩ = some (.slice va vn vz) := Y1.cell 2 rfl
      have KK := HK wr BW
      clear HK HI HT
      cases hlk : lfB X.K k D L with
      | false =>
        rw [hlk] at KK
        go_wp2_with fail
        refine KK.mono ?_
        rintro e w2 ⟨rfl, B2⟩
        clear a0 a1 a2 a3 a4 b0 b1 b2
        go_wp2
        go_ret
        exact ⟨by rw [HR.out, HA2.out, hlk]; rfl, below_then BW B2⟩
      | true =>
        rw [hlk] at KK
        go_wp2_with fail
        refine KK.mono ?_
        rintro e w2 ⟨rfl, B2⟩
        have BW2 := below_then BW B2
        have KV := HV w2 BW2
        have Z0 := Y0.below B2
        have Z1 := Y1.below B2
        clear a0 a1 a2 a3 a4 b0 b1 b2 HV
        have a0 : w2.cell? ⟨w.heap.size, 0, none⟩ = some (.int .i64 Vo) := Z0.cell 0 rfl
        have a1 : w2.cell? ⟨w.heap.size, 1, none⟩ = some (.int .i64 D) := Z0.cell 1 rfl
        have a2 : w2.cell? ⟨w.heap.size, 2, none⟩ = some (.int .i64 Hd) := Z0.cell 2 rfl
        have a3 : w2.cell? ⟨w.heap.size, 3, none⟩ = some (.int .i64 H) := Z0.cell 3 rfl
        have a4 : w2.cell? ⟨w.heap.size, 4, none⟩ = some (.int .i64 L) := Z0.cell 4 rfl
        have b0 : w2.cell? ⟨w.heap.size + 1, 0, none⟩ = some (.slice (some ⟨b, o, none⟩) k tz) := Z1.cell 0 rfl
        have b2 : w2.cell? ⟨w.heap.size + 1, 2, none⟩ = some (.slice va vn vz) := Z1.cell 2 rfl
        go_wp2_with fail
        refine KV.mono ?_
        rintro e w3 ⟨rfl, B3⟩
        clear a0 a1 a2 a3 a4 b0 b2
        go_wp2
        go_ret
        exact ⟨by rw [HR.out, HA2.out, hlk, Bool.true_and, Bool.true_and]; rfl, below_then BW2 B3⟩
set_option maxRecDepth 100000 in
set_option maxHeartbeats 1600000 in
theorem rrows9_any (ao : Option Addr) (n ca : Nat) (R : List (List Int)) (places dim : Int) (w : World) (hR : GridAt w ao n R) :
   Calls Try.prog 31 #[.slice ao n ca, .int .i64 places, .int .i64 dim] w fun e w' => e = .returned (.bool (rfR R places dim)) ∧ w' = w := by
  have hm := hR.max
  have HLN : Hid (R.length = n) := hR.len
  obtain ⟨q, hq⟩ : ∃ q, rfR R places dim = q := ⟨_, rfl⟩
  rw [hq]
  have HQ : Hid (q = (decide ((n : Int) = places) && R.all fun r : List Int => decide ((r.length : Int) = dim))) := by show _ = _; rw [← hq]; unfold rfR; rw [HLN.out]
  clear hq
  obtain ⟨g, hg⟩ : ∃ g, ((n : Int) == places) = g := ⟨_, rfl⟩
  have HG : Hid (decide ((n : Int) = places) = g) := by show _ = _; rw [← hg]; rfl
  go_enter Try.func31, Try.ntmps31
  go_wp2
  clear hg
  go_loopg [7, 16] n (fun r g2 i wr => ∃ k : Nat, k ≤ n ∧ r = n - k ∧ i = .int .i64 (k : Int) ∧ wr = w ∧ g2 = .bool (g && (R.take k).all fun r : List Int => decide ((r.length : Int) = dim)))
  case atStart => exact ⟨0, by omega, by omega, rfl, rfl, by simp⟩
  case round =>
    obtain ⟨k, hk, rfl, rfl, hwr, rfl⟩ := hrel
    obtain rfl : w = wr := hwr.symm
    by_cases hlt : k < n
    · obtain ⟨b, o, rfl, hc⟩ := hR.cells (by omega)
      obtain ⟨r3, l3, c3, s1, A⟩ := hc k hlt
      have HX : Hid ((R.take (k + 1)).all (fun r : List Int => decide ((r.length : Int) = dim)) = ((R.take k).all (fun r : List Int => decide ((r.length : Int) = dim)) && decide ((l3 : Int) = dim))) := by
        show _ = _
        have := A.row.len
        rw [List.take_add_one, List.getElem?_eq_getElem (show k < R.length by rw [HLN.out]; exact hlt), List.all_append]
        unfold rowOf at this
        rw [List.getD_eq_getElem?_getD, List.getElem?_eq_getElem (show k < R.length by rw [HLN.out]; exact hlt)] at this
        simp only [Option.getD_some] at this
        simp [this]
      have hm3 := A.row.max
      clear hc A
      generalize (R.take k).all (fun r : List Int => decide ((r.length : Int) = dim)) = p at *
      cases hp : (g && p) with
      | false =>
        have HP : Hid ((g && p) = false) := hp
        clear hp
        go_wp2
        go_roundg (n - (k + 1))
        case measure => omega
        case rel => exact ⟨k + 1, by omega, rfl, by go_num, rfl, by rw [HX.out, ← Bool.and_assoc, HP.out]; rfl⟩
      | true =>
        have HP : Hid ((g && p) = true) := hp
        clear hp
        go_wp2
        go_roundg (n - (k + 1))
        case measure => omega
        case rel => exact ⟨k + 1, by omega, rfl, by go_num, rfl, by rw [HX.out, ← Bool.and_assoc, HP.out]; rfl⟩
    · obtain rfl : k = n := by omega
      have HE : Hid (q = (g && (R.take k).all fun r : List Int => decide ((r.length : Int) = dim))) := by
        show _ = _
        rw [HQ.out, HG.out, List.take_of_length_le (by rw [HLN.out]; exact Nat.le_refl _)]
      go_wp2
      go_ret
      exact ⟨by rw [HE.out]; rfl, rfl⟩
end Go.Proofs.Ytpplnjmjldhlbaa

/- The document's Fits of layer 9, of any view that was cut and any configuration. -/
namespace Go.Proofs.Ytpplnjmjldhlbaa
open Go.ChangeShapes Go.WideShapes Go.ChangeAt Go.RowKit
theorem rfB_snoc {C : List (List (List Int))} {k : Nat} {R : List (List Int)} {p d : Int} (h : C[k]? = some R) : rfB (C.take (k + 1)) p d = (rfB (C.take k) p d && rfR R p d) := by
  unfold rfB
  rw [List.take_add_one, h, List.all_append]
  simp
theorem rrows9_q (ao : Option Addr) (n ca : Nat) (R : List (List Int)) (places dim : Int) (w : World) (hR : GridAt w ao n R) :
   Calls Try.prog 31 #[.slice ao n ca, .int .i64 places, .int .i64 dim] w fun e w' => e = .returned (.bool (rfR R places dim)) ∧ ∃ m, w' = w.drewN m := by
  refine (rrows9_any ao n ca R places dim w hR).mono ?_
  rintro e w' ⟨rfl, rfl⟩
  exact ⟨rfl, 0, rfl⟩
set_option maxRecDepth 100000 in
set_option maxHeartbeats 3200000 in
theorem rfits9_any (Vo D Hd H L : Int) (t k v : Sl) (X : Vw) (w : World) (h : ToldAt w t k v X) (hX : cutVw X = X) :
   Calls Try.prog 10 #[.agg (cfgC Vo D Hd H L), .agg #[t.v, k.v, v.v]] w fun e w' => e = .returned (.bool (vwB Vo D L X)) ∧ Below w.heap.size w w' := by
  obtain ⟨hb1, hb2, hb3, _, _⟩ := cutVw_bounds hX
  obtain ⟨ta, tn, tz⟩ := t
  obtain ⟨ka, kn, kz⟩ := k
  obtain ⟨va, vn, vz⟩ := v
  have hT : IArg w ta tn tz X.T := h.t
  have hK : CubeAt w ka kn X.K := h.k
  have hV : CubeAt w va vn X.V := h.v
  clear h
  have hl := hT.row.len
  have kl := hK.len
  have vl := hV.len
  rw [hl] at hb1
  rw [kl] at hb2
  rw [vl] at hb3
  have HT : Hid (∀ wv, Below w.heap.size w wv → IRowAt wv ta tn X.T) := fun wv hb => hT.row.below hb
  have HK : Hid (∀ wv, Below w.heap.size w wv → CubeAt wv ka kn X.K) := fun wv hb => hK.below hb
  have HV : Hid (∀ wv, Below w.heap.size w wv → CubeAt wv va vn X.V) := fun wv hb => hV.below hb
  unfold cfgC Sl.v
  simp only
  have X0 := blk_new w 23 #[.int .i64 Vo, .int .i64 D, .int .i64 Hd, .int .i64 H, .int .i64 L]
  have B0 : Below w.heap.size w (w.alloc (.cells #[.int .i64 Vo, .int .i64 D, .int .i64 Hd, .int .i64 H, .int .i64 L] 23)) := (Below.refl _ _).alloc (Nat.le_refl _) _
  have s0 : (w.alloc (.cells #[.int .i64 Vo, .int .i64 D, .int .i64 Hd, .int .i64 H, .int .i64 L] 23)).heap.size = w.heap.size + 1 := by simp
  generalize hw0 : w.alloc (.cells #[.int .i64 Vo, .int .i64 D, .int .i64 Hd, .int .i64 H, .int .i64 L] 23) = w0 at *
  have X1 := blk_new w0 31 #[.slice ta tn tz, .slice ka kn kz, .slice va vn vz]
  have B1 : Below w0.heap.size w0 (w0.alloc (.cells #[.slice ta tn tz, .slice ka kn kz, .slice va vn vz] 31)) := (Below.refl _ _).alloc (Nat.le_refl _) _
  rw [s0] at X1
  generalize hw1 : w0.alloc (.cells #[.slice ta tn tz, .slice ka kn kz, .slice va vn vz] 31) = w1 at *
  replace X0 := X0.below B1
  replace B1 := below_then B0 B1
  clear B0
  have a0 : w1.cell? ⟨w.heap.size, 0, none⟩ = some (.int .i64 Vo) := X0.cell 0 rfl
  have b0 : w1.cell? ⟨w.heap.size + 1, 0, none⟩ = some (.slice ta tn tz) := X1.cell 0 rfl
  obtain ⟨q, hq⟩ : ∃ q, vwB Vo D L X = q := ⟨_, rfl⟩
  rw [hq]
  have HQ : Hid (q = if tn = 0 then decide (kn = 0) && decide (vn = 0) else decide (tn ≤ 128) && X.T.all (tokB Vo) && (lfB X.K tn D L && lfB X.V tn D L)) := by
    show _ = _
    rw [← hq]; unfold vwB; rw [hl, kl, vl]
  clear hq hT hK hV
  go_enter Try.func10, Try.ntmps10
  go_wp2_with fail
  clear hw0 hw1
  go_loopg [16] tn (fun r i wr => ∃ k : Nat, k ≤ tn ∧ r = tn - k ∧ i = .int .i64 k ∧ wr = w1 ∧ (X.T.take k).all (tokB Vo) = true)
  case atStart => exact ⟨0, by omega, by omega, rfl, rfl, by simp⟩
  case round =>
    obtain ⟨k, hk, rfl, rfl, hwr, HA⟩ := hrel
    obtain rfl : w1 = wr := hwr.symm
    by_cases hlt : k < tn
    · obtain ⟨b, o, rfl, hc⟩ := (HT.out w1 B1).cells (by omega)
      have ck := hc k hlt
      have HX : Hid ((X.T.take (k + 1)).all (tokB Vo) = ((X.T.take k).all (tokB Vo) && tokB Vo (el X.T k))) := by
        show _ = _
        rw [List.take_add_one, List.getElem?_eq_getElem (show k < X.T.length by omega), List.all_append]
        unfold el
        rw [List.getD_eq_getElem?_getD, List.getElem?_eq_getElem (show k < X.T.length by omega)]
        simp
      have HM : Hid (tokB Vo (el X.T k) = false → X.T.all (tokB Vo) = false) := fun hf => by
        cases e : X.T.all (tokB Vo) with
        | false => rfl
        | true =>
          rw [List.all_eq_true] at e
          have := e _ (List.getElem_mem (show k < X.T.length by omega))
          unfold el at hf
          rw [List.getD_eq_getElem?_getD, List.getElem?_eq_getElem (show k < X.T.length by omega), Option.getD_some, this] at hf
          exact hf
      generalize el X.T k = x at *
      clear hc
      have HF : Hid (tokB Vo x = false → Ending.returned (Value.bool false) = Ending.returned (Value.bool q)) := fun hf => by
        rw [HQ.out, if_neg (by omega), HM.out hf, Bool.and_false, Bool.false_and]
      by_cases hx0 : x < 0
      · have hf : tokB Vo x = false := by unfold tokB; simp; omega
        have E := HF.out hf
        clear hf
        go_wp2
        go_ret
        exact ⟨E, B1⟩
      · by_cases hx1 : Vo ≤ x
        · have hf : tokB Vo x = false := by unfold tokB; simp; omega
          have E := HF.out hf
          clear hf
          go_wp2
          go_ret
          exact ⟨E, B1⟩
        · have ht : tokB Vo x = true := by unfold tokB; simp; omega
          have HT2 : Hid (tokB Vo x = true) := ht
          clear ht
          go_wp2
          go_roundg (tn - (k + 1))
          case measure => omega
          case rel => exact ⟨k + 1, by omega, rfl, by go_num, rfl, by rw [HX.out, HA, HT2.out]; rfl⟩
    · obtain rfl : k = tn := by omega
      have HA2 : Hid (X.T.all (tokB Vo) = true) := by rw [List.take_of_length_le (by omega)] at HA; exact HA
      have b1 : w1.cell? ⟨w.heap.size + 1, 1, none⟩ = some (.slice ka kn kz) := X1.cell 1 rfl
      have b2 : w1.cell? ⟨w.heap.size + 1, 2, none⟩ = some (.slice va vn vz) := X1.cell 2 rfl
      have a1 : w1.cell? ⟨w.heap.size, 1, none⟩ = some (.int .i64 D) := X0.cell 1 rfl
      have a4 : w1.cell? ⟨w.heap.size, 4, none⟩ = some (.int .i64 L) := X0.cell 4 rfl
      clear HA HT
      by_cases hz : k = 0
      · subst hz
        have HR : Hid (q = (decide (kn = 0) && decide (vn = 0))) := by show _ = _; rw [HQ.out, if_pos rfl]
        have hw : IntKind.i64.wrap ((kn : Int) + (vn : Int)) = ((kn + vn : Nat) : Int) := by rw [wrap_in (by omega)]; push_cast; rfl
        clear HK HV HQ
        go_wp2
        go_ret
        refine ⟨?_, B1⟩
        rw [HR.out]
        by_cases h1 : kn = 0
        · by_cases h2 : vn = 0
          · subst h1 h2; rfl
          · subst h1
            rw [show decide (vn = 0) = false from decide_eq_false h2, Bool.and_false]
            simp [h2]
        · rw [show decide (kn = 0) = false from decide_eq_false h1, Bool.false_and]
          have : ((kn + vn : Nat) : Int) ≠ 0 := by omega
          simp
          omega
      · have hz0 : ((k : Int) == 0) = false := by simpa using hz
        by_cases h128 : 128 < k
        · have HR : Hid (q = false) := by show _ = _; rw [HQ.out, if_neg hz, show decide (k ≤ 128) = false from decide_eq_false (by omega)]; rfl
          have h128' : (128 : Int) < k := by omega
          clear HK HV HQ
          go_wp2
          go_ret
          exact ⟨by rw [HR.out]; rfl, B1⟩
        · have h128' : ¬ (128 : Int) < k := by omega
          by_cases hkL : (kn : Int) = L
          rotate_left
          · have hkL2 : ((kn : Int) == L) = false := by simpa using hkL
            have HR : Hid (q = false) := by show _ = _; rw [HQ.out, if_neg hz]; unfold lfB; rw [kl, show decide ((kn : Int) = L) = false from decide_eq_false hkL]; simp
            clear HK HV HQ
            go_wp2
            go_ret
            exact ⟨by rw [HR.out]; rfl, B1⟩
          by_cases hvL : (vn : Int) = L
          rotate_left
          · have hkL2 : ((kn : Int) == L) = true := by simpa using hkL
            have hvL2 : ((vn : Int) == L) = false := by simpa using hvL
            have hkL3 : ((kn : Int) != L) = false := by simp [bne, hkL2]
            have hvL3 : ((vn : Int) != L) = true := by simp [bne, hvL2]
            have HR : Hid (q = false) := by show _ = _; rw [HQ.out, if_neg hz]; unfold lfB; rw [vl, show decide ((vn : Int) = L) = false from decide_eq_false hvL]; simp
            clear HK HV HQ hkL hvL
            go_wp2
            go_ret
            exact ⟨by rw [HR.out]; rfl, B1⟩
          have evk : vn = kn := by omega
          have HR : Hid (q = (rfB X.K k D && rfB X.V k D)) := by
            show _ = _
            rw [HQ.out, if_neg hz, show decide (k ≤ 128) = true from decide_eq_true (by omega), HA2.out]
            unfold lfB
            rw [kl, vl, show decide ((kn : Int) = L) = true from decide_eq_true hkL, show decide ((vn : Int) = L) = true from decide_eq_true hvL]
            rfl
          have hkL2 : ((kn : Int) == L) = true := by simpa using hkL
          have hvL2 : ((vn : Int) == L) = true := by simpa using hvL
          have hkL3 : ((kn : Int) != L) = false := by simp [bne, hkL2]
          have hvL3 : ((vn : Int) != L) = false := by simp [bne, hvL2]
          clear HQ hkL hvL HA2
          subst evk
          have KC := HK.out w1 B1
          have VC := HV.out w1 B1
          clear HK HV
          go_wp2_with fail
          clear hkL2 hvL2 hkL3 hvL3 a0 b0 a4
          go_loopg [8, 60] vn (fun r g2 i wr => ∃ l : Nat, l ≤ vn ∧ r = vn - l ∧ i = .int .i64 l ∧ (∃ m, wr = w1.drewN m) ∧ g2 = .bool (rfB (X.K.take l) k D && rfB (X.V.take l) k D))
          case atStart => exact ⟨0, by omega, by omega, rfl, ⟨0, rfl⟩, by simp [rfB]⟩
          case round =>
            obtain ⟨l, hl2, rfl, rfl, ⟨m0, hw0⟩, rfl⟩ := hrel
            have HW : Hid (wr = w1.drewN m0) := hw0
            clear hw0
            by_cases hlt2 : l < vn
            · obtain ⟨b, o, rfl, hc⟩ := KC.cells (by omega)
              obtain ⟨b', o', rfl, hc'⟩ := VC.cells (by omega)
              obtain ⟨R, hR⟩ : ∃ R, X.K[l]? = some R := ⟨_, List.getElem?_eq_getElem (show l < X.K.length by omega)⟩
              obtain ⟨S, hS⟩ : ∃ S, X.V[l]? = some S := ⟨_, List.getElem?_eq_getElem (show l < X.V.length by omega)⟩
              obtain ⟨r1, n1, c1, q1, -, -, -, G1⟩ := hc l R hR
              obtain ⟨r2, n2, c2, q2, -, -, -, G2⟩ := hc' l S hS
              have HS1 : Hid (rfB (X.K.take (l + 1)) k D = (rfB (X.K.take l) k D && rfR R k D)) := rfB_snoc hR
              have HS2 : Hid (rfB (X.V.take (l + 1)) k D = (rfB (X.V.take l) k D && rfR S k D)) := rfB_snoc hS
              have C1 : wr.cell? ⟨b, o + l, none⟩ = some (.slice r1 n1 c1) := by rw [HW.out]; exact drewN_cell w1 _ q1
              have C2 : wr.cell? ⟨b', o' + l, none⟩ = some (.slice r2 n2 c2) := by rw [HW.out]; exact drewN_cell w1 _ q2
              have D1 : wr.cell? ⟨w.heap.size + 1, 1, none⟩ = some (.slice (some ⟨b, o, none⟩) vn kz) := by rw [HW.out]; exact drewN_cell w1 _ b1
              have D2 : wr.cell? ⟨w.heap.size + 1, 2, none⟩ = some (.slice (some ⟨b', o', none⟩) vn vz) := by rw [HW.out]; exact drewN_cell w1 _ b2
              have D3 : wr.cell? ⟨w.heap.size, 1, none⟩ = some (.int .i64 D) := by rw [HW.out]; exact drewN_cell w1 _ a1
              have S1 := fun m => rrows9_q r1 n1 c1 R k D (wr.drewN m) (by rw [HW.out, World.drewN_drewN]; exact G1.below (below_drewN (Below.refl _ _) _))
              have S2 := fun m => rrows9_q r2 n2 c2 S k D (wr.drewN m) (by rw [HW.out, World.drewN_drewN]; exact G2.below (below_drewN (Below.refl _ _) _))
              generalize rfB (X.K.take l) k D = p1 at *
              generalize rfB (X.V.take l) k D = p2 at *
              generalize rfR R k D = u1 at *
              generalize rfR S k D = u2 at *
              have HP : Hid ((p1 && u1 && (p2 && u2)) = (p1 && p2 && u1 && u2)) := by show _ = _; cases p1 <;> cases p2 <;> cases u1 <;> rfl
              clear hc hc' q1 q2 G1 G2 hR hS b1 b2 a1
              generalize (p1 && p2) = p at *
              cases p with
              | false =>
                clear S1 S2 C1 C2
                go_wp2_with fail
                go_quiet (fail)
                replace HW : Hid (wr.drewN nq = w1.drewN (m0 + nq)) := by show _ = _; rw [HW.out, World.drewN_drewN]
                generalize wr.drewN nq = wq at *
                clear D1 D2 D3
                go_wp2_with fail
                go_roundg (vn - (l + 1))
                case measure => omega
                case rel => exact ⟨l + 1, by omega, rfl, by go_num, ⟨_, HW.out⟩, by rw [HS1.out, HS2.out, HP.out]; rfl⟩
              | true =>
                cases u1 with
                | false =>
                  clear S2 C2
                  go_wp2_with fail
                  go_quiet (first | (go_at_call 31; exact Calls.quiet_of (S1 _)))
                  replace HW : Hid (wr.drewN nq = w1.drewN (m0 + nq)) := by show _ = _; rw [HW.out, World.drewN_drewN]
                  generalize wr.drewN nq = wq at *
                  clear D1 D2 D3 C1
                  go_wp2_with fail
                  go_roundg (vn - (l + 1))
                  case measure => omega
                  case rel => exact ⟨l + 1, by omega, rfl, by go_num, ⟨_, HW.out⟩, by rw [HS1.out, HS2.out, HP.out]; rfl⟩
                | true =>
                  go_wp2_with fail
                  go_quiet (first | (go_at_call_of 31 c1; exact Calls.quiet_of (S1 _)) | (go_at_call_of 31 c2; exact Calls.quiet_of (S2 _)))
                  replace HW : Hid (wr.drewN nq = w1.drewN (m0 + nq)) := by show _ = _; rw [HW.out, World.drewN_drewN]
                  generalize wr.drewN nq = wq at *
                  clear D1 D2 D3 C1 C2 S1 S2
                  go_wp2_with fail
                  go_roundg (vn - (l + 1))
                  case measure => omega
                  case rel => exact ⟨l + 1, by omega, rfl, by go_num, ⟨_, HW.out⟩, by rw [HS1.out, HS2.out, HP.out]; rfl⟩
            · obtain rfl : l = vn := by omega
              have HE : Hid (q = (rfB (X.K.take l) k D && rfB (X.V.take l) k D)) := by
                show _ = _
                rw [HR.out, List.take_of_length_le (by omega), List.take_of_length_le (by omega)]
              generalize (rfB (X.K.take l) k D && rfB (X.V.take l) k D) = z at *
              clear b1 b2 a1
              go_wp2_with fail
              go_ret
              exact ⟨by rw [HE.out]; rfl, by rw [HW.out]; exact below_drewN B1 _⟩
end Go.Proofs.Ytpplnjmjldhlbaa

/- Package block: Split of any view, and of any configuration. -/
namespace Go.Proofs.Ytpplnjmjldhlbaa
open Go.ChangeShapes Go.WideShapes Go.ChangeAt Go.RowKit
set_option maxRecDepth 100000 in
set_option maxHeartbeats 3200000 in
theorem split_gen (Vo D Hd H L : Int) (v : VwV) (X : Vw) (page : Nat) (w : World) (hv : VwAt w v X) (hb : vwB Vo D L X = true) (hm : X.T.length ≤ 4096) (hkl : X.K.length ≤ 4096) (hvl : X.V.length ≤ 4096) (hks : ∀ R ∈ X.K, R.length = X.T.length ∧ ∀ t, (rowOf R t).length ≤ 1048576) (hvs : ∀ R ∈ X.V, R.length = X.T.length ∧ ∀ t, (rowOf R t).length ≤ 1048576) (hp1 : 1 ≤ page) (hp2 : page ≤ 16) :
   Calls Try.prog 7 #[.agg (cfgC Vo D Hd H L), .agg v.cells, .int .i64 (page : Int)] w fun e w' => ∃ a c, e = .returned (.tuple #[.slice a (pageN X.T.length page) c, .int .i64 0]) ∧ New w.heap.size w' (fun w => PgsAt w ⟨a, pageN X.T.length page, c⟩ (pagesOf X page (pageN X.T.length page))) ∧ Below w.heap.size w w' := by
  have CF := fun (wv : World) (hv2 : Below w.heap.size w wv) => sfitsG_any Vo D Hd H L v X wv (hv.below hv2)
  rw [hb] at CF
  have CP := fun (wv : World) (fr to' : Nat) (hb : Below w.heap.size w wv) (h1 : fr < to') (h2 : to' ≤ X.T.length) => pagePart_any v X fr to' wv (hv.below hb) h1 h2 hm hkl hvl (fun R hR => ⟨by rw [(hks R hR).1]; exact h2, fun t _ => (hks R hR).2 t⟩) (fun R hR => ⟨by rw [(hvs R hR).1]; exact h2, fun t _ => (hvs R hR).2 t⟩)
  obtain ⟨⟨ta, tn, tz⟩, ⟨ka, kn, kz⟩, ⟨va, vn, vz⟩⟩ := v
  have et := hv.t.row.len
  simp only at et
  clear hv hb hks hvs
  unfold VwV.cells Sl.v at CF CP ⊢
  unfold cfgC at CF ⊢
  simp only at CF CP ⊢
  obtain ⟨NP, hNP⟩ : ∃ NP, pageN X.T.length page = NP := ⟨_, rfl⟩
  have HLT : Hid (∀ k, k * page < tn ↔ k < NP) := fun k => by rw [← et, ← hNP]; exact pageN_lt hp1
  have HET : Hid (X.T.length = tn) := et
  have hNP2 : NP ≤ 4096 := by have := HLT.out 4096; omega
  rw [hNP]
  rw [et] at hm
  clear hNP et
  have X0 := blk_new w 23 #[.int .i64 Vo, .int .i64 D, .int .i64 Hd, .int .i64 H, .int .i64 L]
  have B0 : Below w.heap.size w (w.alloc (.cells #[.int .i64 Vo, .int .i64 D, .int .i64 Hd, .int .i64 H, .int .i64 L] 23)) := (Below.refl _ _).alloc (Nat.le_refl _) _
  have s0 : (w.alloc (.cells #[.int .i64 Vo, .int .i64 D, .int .i64 Hd, .int .i64 H, .int .i64 L] 23)).heap.size = w.heap.size + 1 := by simp
  generalize hw0 : w.alloc (.cells #[.int .i64 Vo, .int .i64 D, .int .i64 Hd, .int .i64 H, .int .i64 L] 23) = w0 at *
  have X1 := blk_new w0 29 #[.slice ta tn tz, .slice ka kn kz, .slice va vn vz]
  have B1 : Below w0.heap.size w0 (w0.alloc (.cells #[.slice ta tn tz, .slice ka kn kz, .slice va vn vz] 29)) := (Below.refl _ _).alloc (Nat.le_refl _) _
  have s1 : (w0.alloc (.cells #[.slice ta tn tz, .slice ka kn kz, .slice va vn vz] 29)).heap.size = w0.heap.size + 1 := by simp
  rw [s0] at X1 s1
  generalize hw1 : w0.alloc (.cells #[.slice ta tn tz, .slice ka kn kz, .slice va vn vz] 29) = w1 at *
  replace X0 := X0.below B1
  replace B1 := below_then B0 B1
  have hsz : w.heap.size + 2 ≤ w1.heap.size := by omega
  have a0 : w1.cell? ⟨w.heap.size, 0, none⟩ = some (.int .i64 Vo) := X0.cell 0 rfl
  have a1 : w1.cell? ⟨w.heap.size, 1, none⟩ = some (.int .i64 D) := X0.cell 1 rfl
  have a2 : w1.cell? ⟨w.heap.size, 2, none⟩ = some (.int .i64 Hd) := X0.cell 2 rfl
  have a3 : w1.cell? ⟨w.heap.size, 3, none⟩ = some (.int .i64 H) := X0.cell 3 rfl
  have a4 : w1.cell? ⟨w.heap.size, 4, none⟩ = some (.int .i64 L) := X0.cell 4 rfl
  have b0 : w1.cell? ⟨w.heap.size + 1, 0, none⟩ = some (.slice ta tn tz) := X1.cell 0 rfl
  have b1 : w1.cell? ⟨w.heap.size + 1, 1, none⟩ = some (.slice ka kn kz) := X1.cell 1 rfl
  have b2 : w1.cell? ⟨w.heap.size + 1, 2, none⟩ = some (.slice va vn vz) := X1.cell 2 rfl
  go_enter Try.func7, Try.ntmps7
  go_wp2_with fail
  refine (CF _ B1).mono ?_
  rintro e w2 ⟨rfl, B2⟩
  have D2 := below_then B1 B2
  replace X1 := X1.below B2
  have hsz2 := B2.size
  clear hw0 hw1 a0 a1 a2 a3 a4 b0 b1 b2 CF s0 s1 B0 B1 B2 X0
  go_upto_region 7 with fail
  go_loopg [8, 9] (NP + 1) (fun r s8 s9 wr => ∃ (k : Nat) (u : Value), k ≤ NP ∧ r = NP - k + 1 ∧ s9 = .int .i64 ((k * page : Nat) : Int) ∧ s8 = u ∧ OwnPg wr w2.heap.size w2.heap.size u (pagesOf X page k) ∧ Blk wr (w.heap.size + 1) 29 #[.slice ta tn tz, .slice ka kn kz, .slice va vn vz] ∧ Below w2.heap.size w2 wr)
  case atStart => exact ⟨0, _, by omega, by omega, by simp, rfl, ownPg_nil _ _ _, X1, Below.refl _ _⟩
  case round =>
    clear X1
    obtain ⟨k, u, hk, rfl, rfl, hu, OP, X1, BB⟩ := hrel
    have hu2 := hu.symm
    subst hu2
    clear hu
    have b0 : wr.cell? ⟨w.heap.size + 1, 0, none⟩ = some (.slice ta tn tz) := X1.cell 0 rfl
    have b1 : wr.cell? ⟨w.heap.size + 1, 1, none⟩ = some (.slice ka kn kz) := X1.cell 1 rfl
    have b2 : wr.cell? ⟨w.heap.size + 1, 2, none⟩ = some (.slice va vn vz) := X1.cell 2 rfl
    by_cases hlt : k * page < tn
    · have hkN := (HLT.out k).1 hlt
      have hkp : (k + 1) * page = k * page + page := Nat.succ_mul k page
      obtain ⟨t2, ht2⟩ : ∃ t2, min ((k + 1) * page) tn = t2 := ⟨_, rfl⟩
      have HPG : Hid (pagesOf X page (k + 1) = pagesOf X page k ++ [pgOf X (k * page) t2]) := by
        show pagesOf X page k ++ [pgOf X (k * page) (min ((k + 1) * page) X.T.length)] = _
        rw [HET.out, ht2]
      obtain ⟨fr, hfr⟩ : ∃ fr, k * page = fr := ⟨_, rfl⟩
      have HFR : Hid ((k + 1) * page = fr + page) := by show _ = _; omega
      rw [hfr] at hlt
      have ht3 : t2 = min (fr + page) tn := by rw [← ht2]; omega
      have HKP : Hid (pagesOf X page k ++ [pgOf X (k * page) t2] = pagesOf X page k ++ [pgOf X fr t2]) := by
        show _ = _
        rw [hfr]
      simp only [hfr]
      have DW := below_then D2 BB
      have CC := CP wr fr t2 DW (by omega) (by rw [HET.out]; omega)
      have hsr := BB.size
      have w9 : IntKind.i64.wrap ((fr : Int) + (page : Int)) = (fr : Int) + (page : Int) := wrap_in (by omega)
      clear hkp ht2 hfr
      have hkk : (pagesOf X page k).length = k := pagesOf_len X page k
      by_cases hmn : (((fr + page : Nat)) : Int) ≤ (tn : Int)
      · obtain rfl : t2 = fr + page := by omega
        clear ht3
        go_wp2_with fail
        refine CC.mono ?_
        rintro e w3 ⟨⟨⟨p1, p2, p3⟩, pf, ⟨p4, p5, p6⟩, ⟨p7, p8, p9⟩⟩, rfl, NP3, B3⟩
        rw [show PgV.cells ⟨⟨p1, p2, p3⟩, pf, ⟨p4, p5, p6⟩, ⟨p7, p8, p9⟩⟩ = #[.slice p1 p2 p3, .int .i64 pf, .slice p4 p5 p6, .slice p7 p8 p9] from rfl]
        have O3 := OP.below B3
        have BA : Below w3.heap.size w3 (w3.alloc (.cells #[.slice p1 p2 p3, .int .i64 pf, .slice p4 p5 p6, .slice p7 p8 p9] 47)) := (Below.refl _ _).alloc (Nat.le_refl _) _
        have CN := blk_new w3 47 #[.slice p1 p2 p3, .int .i64 pf, .slice p4 p5 p6, .slice p7 p8 p9]
        generalize hw4 : w3.alloc (.cells #[.slice p1 p2 p3, .int .i64 pf, .slice p4 p5 p6, .slice p7 p8 p9] 47) = w4 at *
        have O4 := O3.below BA
        have H4 : Hangs (offV w2.heap.size u) w4 (fun w => PgAt w ⟨⟨p1, p2, p3⟩, pf, ⟨p4, p5, p6⟩, ⟨p7, p8, p9⟩⟩ (pgOf X fr (fr + page))) := Hangs.mono (NP3.below BA) fun b _ h => by
          have h' : wr.heap.size ≤ b := h
          refine ⟨by omega, fun e => ?_⟩
          have := (OP.lt e).2
          omega
        have hs3 := B3.size
        have hs4 := BA.size
        clear CC b0 b1 b2 OP O3 NP3
        go_wp2_with (at_builtin; refine wpList_append_pg rfl _ _ rfl w2.heap.size w2.heap.size u (pagesOf X page k) k hkk rfl (by exact O4) w3.heap.size ⟨⟨p1, p2, p3⟩, pf, ⟨p4, p5, p6⟩, ⟨p7, p8, p9⟩⟩ (pgOf X fr (fr + page)) rfl (by exact CN) (by exact H4) (by omega) (by omega) ?_; intro ea ec w5 O5 G5 N5)
        go_roundg (NP - (k + 1) + 1)
        case measure => omega
        case rel =>
          have B5 : Below w2.heap.size w2 w5 := ((BB.trans (B3.mono hsr)).trans (BA.mono (by omega))).grown G5 (by omega) (fun g e => (O4.lt e).1)
          refine ⟨k + 1, _, by omega, by omega, ?_, rfl, ?_, ?_, B5⟩
          · rw [HFR.out]; first | rfl | (simp; done) | (congr 1; omega)
          · rw [HPG.out, HKP.out]; exact O5
          · refine ((X1.below B3).below BA).of_block (G5.block _ (Nat.lt_of_lt_of_le X1.lt (by omega)) (fun e => ?_))
            have := (O4.lt e.symm).1
            omega
      · obtain rfl : tn = t2 := by omega
        clear ht3
        go_wp2_with fail
        refine CC.mono ?_
        rintro e w3 ⟨⟨⟨p1, p2, p3⟩, pf, ⟨p4, p5, p6⟩, ⟨p7, p8, p9⟩⟩, rfl, NP3, B3⟩
        rw [show PgV.cells ⟨⟨p1, p2, p3⟩, pf, ⟨p4, p5, p6⟩, ⟨p7, p8, p9⟩⟩ = #[.slice p1 p2 p3, .int .i64 pf, .slice p4 p5 p6, .slice p7 p8 p9] from rfl]
        have O3 := OP.below B3
        have BA : Below w3.heap.size w3 (w3.alloc (.cells #[.slice p1 p2 p3, .int .i64 pf, .slice p4 p5 p6, .slice p7 p8 p9] 47)) := (Below.refl _ _).alloc (Nat.le_refl _) _
        have CN := blk_new w3 47 #[.slice p1 p2 p3, .int .i64 pf, .slice p4 p5 p6, .slice p7 p8 p9]
        generalize hw4 : w3.alloc (.cells #[.slice p1 p2 p3, .int .i64 pf, .slice p4 p5 p6, .slice p7 p8 p9] 47) = w4 at *
        have O4 := O3.below BA
        have H4 : Hangs (offV w2.heap.size u) w4 (fun w => PgAt w ⟨⟨p1, p2, p3⟩, pf, ⟨p4, p5, p6⟩, ⟨p7, p8, p9⟩⟩ (pgOf X fr tn)) := Hangs.mono (NP3.below BA) fun b _ h => by
          have h' : wr.heap.size ≤ b := h
          refine ⟨by omega, fun e => ?_⟩
          have := (OP.lt e).2
          omega
        have hs3 := B3.size
        have hs4 := BA.size
        clear CC b0 b1 b2 OP O3 NP3
        go_wp2_with (at_builtin; refine wpList_append_pg rfl _ _ rfl w2.heap.size w2.heap.size u (pagesOf X page k) k hkk rfl (by exact O4) w3.heap.size ⟨⟨p1, p2, p3⟩, pf, ⟨p4, p5, p6⟩, ⟨p7, p8, p9⟩⟩ (pgOf X fr tn) rfl (by exact CN) (by exact H4) (by omega) (by omega) ?_; intro ea ec w5 O5 G5 N5)
        go_roundg (NP - (k + 1) + 1)
        case measure => omega
        case rel =>
          have B5 : Below w2.heap.size w2 w5 := ((BB.trans (B3.mono hsr)).trans (BA.mono (by omega))).grown G5 (by omega) (fun g e => (O4.lt e).1)
          refine ⟨k + 1, _, by omega, by omega, ?_, rfl, ?_, ?_, B5⟩
          · rw [HFR.out]; first | rfl | (simp; done) | (congr 1; omega)
          · rw [HPG.out, HKP.out]; exact O5
          · refine ((X1.below B3).below BA).of_block (G5.block _ (Nat.lt_of_lt_of_le X1.lt (by omega)) (fun e => ?_))
            have := (O4.lt e.symm).1
            omega
    · have hkN : k = NP := by
        rcases Nat.lt_or_ge k NP with h | h
        · exact absurd ((HLT.out k).2 h) hlt
        · omega
      have hlt' : (tn : Int) ≤ ((k * page : Nat) : Int) := by omega
      generalize k * page = fr at *
      obtain ⟨a, c, e9⟩ := OP.form
      rw [pagesOf_len] at e9
      subst e9
      go_wp2_with fail
      go_ret2
      subst hkN
      exact ⟨a, c, rfl, New.mono (OP.new (by omega) (Nat.le_refl _)) D2.size, below_then D2 BB⟩
set_option maxRecDepth 100000 in
set_option maxHeartbeats 3200000 in
theorem split_no (Vo D Hd H L : Int) (v : VwV) (X : Vw) (page : Int) (w : World) (hv : VwAt w v X) (hb : vwB Vo D L X = false) (hp1 : 1 ≤ page) (hp2 : page ≤ 16) :
   Calls Try.prog 7 #[.agg (cfgC Vo D Hd H L), .agg v.cells, .int .i64 page] w fun e w' => e = .returned (.tuple #[.slice none 0 0, .int .i64 4]) ∧ Below w.heap.size w w' := by
  have CF := fun (wv : World) (hv2 : Below w.heap.size w wv) => sfitsG_any Vo D Hd H L v X wv (hv.below hv2)
  rw [hb] at CF
  clear hv hb
  obtain ⟨⟨ta, tn, tz⟩, ⟨ka, kn, kz⟩, ⟨va, vn, vz⟩⟩ := v
  unfold VwV.cells Sl.v at CF ⊢
  unfold cfgC at CF ⊢
  simp only at CF ⊢
  have X0 := blk_new w 23 #[.int .i64 Vo, .int .i64 D, .int .i64 Hd, .int .i64 H, .int .i64 L]
  have B0 : Below w.heap.size w (w.alloc (.cells #[.int .i64 Vo, .int .i64 D, .int .i64 Hd, .int .i64 H, .int .i64 L] 23)) := (Below.refl _ _).alloc (Nat.le_refl _) _
  have s0 : (w.alloc (.cells #[.int .i64 Vo, .int .i64 D, .int .i64 Hd, .int .i64 H, .int .i64 L] 23)).heap.size = w.heap.size + 1 := by simp
  generalize hw0 : w.alloc (.cells #[.int .i64 Vo, .int .i64 D, .int .i64 Hd, .int .i64 H, .int .i64 L] 23) = w0 at *
  have X1 := blk_new w0 29 #[.slice ta tn tz, .slice ka kn kz, .slice va vn vz]
  have B1 : Below w0.heap.size w0 (w0.alloc (.cells #[.slice ta tn tz, .slice ka kn kz, .slice va vn vz] 29)) := (Below.refl _ _).alloc (Nat.le_refl _) _
  rw [s0] at X1
  generalize hw1 : w0.alloc (.cells #[.slice ta tn tz, .slice ka kn kz, .slice va vn vz] 29) = w1 at *
  replace X0 := X0.below B1
  replace B1 := below_then B0 B1
  have a0 : w1.cell? ⟨w.heap.size, 0, none⟩ = some (.int .i64 Vo) := X0.cell 0 rfl
  have a1 : w1.cell? ⟨w.heap.size, 1, none⟩ = some (.int .i64 D) := X0.cell 1 rfl
  have a2 : w1.cell? ⟨w.heap.size, 2, none⟩ = some (.int .i64 Hd) := X0.cell 2 rfl
  have a3 : w1.cell? ⟨w.heap.size, 3, none⟩ = some (.int .i64 H) := X0.cell 3 rfl
  have a4 : w1.cell? ⟨w.heap.size, 4, none⟩ = some (.int .i64 L) := X0.cell 4 rfl
  have b0 : w1.cell? ⟨w.heap.size + 1, 0, none⟩ = some (.slice ta tn tz) := X1.cell 0 rfl
  have b1 : w1.cell? ⟨w.heap.size + 1, 1, none⟩ = some (.slice ka kn kz) := X1.cell 1 rfl
  have b2 : w1.cell? ⟨w.heap.size + 1, 2, none⟩ = some (.slice va vn vz) := X1.cell 2 rfl
  go_enter Try.func7, Try.ntmps7
  go_wp2_with fail
  refine (CF _ B1).mono ?_
  rintro e w2 ⟨rfl, B2⟩
  clear a0 a1 a2 a3 a4 b0 b1 b2
  go_wp2_with fail
  go_ret2
  exact ⟨rfl, below_then B1 B2⟩
end Go.Proofs.Ytpplnjmjldhlbaa

/- Package block: Check. -/
namespace Go.Proofs.Ytpplnjmjldhlbaa
open Go.ChangeShapes Go.WideShapes Go.ChangeAt Go.RowKit
/-- The error of a block. -/
def ckN (Vo D L : Int) (X : Pg) : Int :=
  if plB X.T.length X.F = false ∨ (X.K.length : Int) ≠ L ∨ (X.V.length : Int) ≠ L then 4 else if X.T.all (tokB Vo) = true then (if rfB X.K ((X.T.length : Int) - X.F) D = true ∧ rfB X.V ((X.T.length : Int) - X.F) D = true then 0 else 4) else 7
theorem plB_true {n : Nat} {F : Int} (h : plB n F = true) : 0 ≤ F ∧ n ≤ 128 ∧ 1 ≤ (n : Int) - F ∧ (n : Int) - F ≤ 16 := by
  unfold plB at h
  simp only [Bool.and_eq_true, decide_eq_true_eq] at h
  omega
set_option maxRecDepth 100000 in
set_option maxHeartbeats 3200000 in
theorem check11_any (Vo D Hd H L : Int) (p : PgV) (X : Pg) (w : World) (hp : PgAt w p X) (hF : -9223372036854775808 ≤ X.F ∧ X.F ≤ 9223372036854775807) :
   Calls Try.prog 18 #[.agg (cfgC Vo D Hd H L), .agg p.cells] w fun e w' => e = .returned (.int .i64 (ckN Vo D L X)) ∧ Below w.heap.size w w' := by
  obtain ⟨⟨ta, tn, tz⟩, F, ⟨ka, kn, kz⟩, ⟨va, vn, vz⟩⟩ := p
  obtain ⟨T, F', K, V⟩ := X
  have hpf : F = F' := hp.f
  subst hpf
  have hpt : IArg w ta tn tz T := hp.t
  have hpk : CubeAt w ka kn K := hp.k
  have hpv : CubeAt w va vn V := hp.v
  have hF' : -9223372036854775808 ≤ F ∧ F ≤ 9223372036854775807 := hF
  clear hp hF
  have et := hpt.row.len
  have ek := hpk.len
  have ev := hpv.len
  have htm := hpt.row.max
  have HN : Hid (ckN Vo D L ⟨T, F, K, V⟩ = if plB tn F = false ∨ (kn : Int) ≠ L ∨ (vn : Int) ≠ L then 4 else if T.all (tokB Vo) = true then (if rfB K ((tn : Int) - F) D = true ∧ rfB V ((tn : Int) - F) D = true then 0 else 4) else 7) := by
    show _ = _
    rw [← et, ← ek, ← ev]
    rfl
  generalize ckN Vo D L ⟨T, F, K, V⟩ = res at *
  clear ek ev
  show Calls Try.prog 18 #[.agg (cfgC Vo D Hd H L), .agg #[.slice ta tn tz, .int .i64 F, .slice ka kn kz, .slice va vn vz]] w _
  have X0 := blk_new w 23 (cfgC Vo D Hd H L)
  have B0 : Below w.heap.size w (w.alloc (.cells (cfgC Vo D Hd H L) 23)) := (Below.refl _ _).alloc (Nat.le_refl _) _
  have s0 : (w.alloc (.cells (cfgC Vo D Hd H L) 23)).heap.size = w.heap.size + 1 := by simp
  unfold cfgC at *
  generalize hw0 : w.alloc (.cells #[.int .i64 Vo, .int .i64 D, .int .i64 Hd, .int .i64 H, .int .i64 L] 23) = w0 at *
  have X1 := blk_new w0 47 #[.slice ta tn tz, .int .i64 F, .slice ka kn kz, .slice va vn vz]
  have B1 : Below w0.heap.size w0 (w0.alloc (.cells #[.slice ta tn tz, .int .i64 F, .slice ka kn kz, .slice va vn vz] 47)) := (Below.refl _ _).alloc (Nat.le_refl _) _
  rw [s0] at X1
  generalize hw1 : w0.alloc (.cells #[.slice ta tn tz, .int .i64 F, .slice ka kn kz, .slice va vn vz] 47) = w1 at *
  replace X0 := X0.below B1
  replace B1 := below_then B0 B1
  have CF := placesFit_any ta tn tz F ka va kn kz vn vz w1 htm hF'
  have a0 : w1.cell? ⟨w.heap.size, 0, none⟩ = some (.int .i64 Vo) := X0.cell 0 rfl
  have a1 : w1.cell? ⟨w.heap.size, 1, none⟩ = some (.int .i64 D) := X0.cell 1 rfl
  have a4 : w1.cell? ⟨w.heap.size, 4, none⟩ = some (.int .i64 L) := X0.cell 4 rfl
  have b0 : w1.cell? ⟨w.heap.size + 1, 0, none⟩ = some (.slice ta tn tz) := X1.cell 0 rfl
  have b1 : w1.cell? ⟨w.heap.size + 1, 1, none⟩ = some (.int .i64 F) := X1.cell 1 rfl
  have b2 : w1.cell? ⟨w.heap.size + 1, 2, none⟩ = some (.slice ka kn kz) := X1.cell 2 rfl
  have b3 : w1.cell? ⟨w.heap.size + 1, 3, none⟩ = some (.slice va vn vz) := X1.cell 3 rfl
  go_enter Try.func18, Try.ntmps18
  cases hpl : plB tn F with
  | false =>
    rw [hpl] at CF HN
    have HR : Hid (res = 4) := by show _ = _; rw [HN.out, if_pos (Or.inl rfl)]
    clear HN hpl
    go_wp2_with fail
    refine CF.mono ?_
    rintro e w2 ⟨rfl, B2⟩
    clear hw0 hw1 a0 a1 a4 b0 b1 b2 b3
    go_wp2_with fail
    go_ret
    exact ⟨ret_int HR.out.symm, below_then B1 B2⟩
  | true =>
    rw [hpl] at CF HN
    have HP := plB_true hpl
    clear hpl
    have X1' : ∀ w2, Below w1.heap.size w1 w2 → Blk w2 (w.heap.size + 1) 47 #[.slice ta tn tz, .int .i64 F, .slice ka kn kz, .slice va vn vz] := fun w2 hb => X1.below hb
    have X0' : ∀ w2, Below w1.heap.size w1 w2 → Blk w2 w.heap.size 23 #[.int .i64 Vo, .int .i64 D, .int .i64 Hd, .int .i64 H, .int .i64 L] := fun w2 hb => X0.below hb
    by_cases hk : (kn : Int) = L
    · by_cases hv : (vn : Int) = L
      · have hk2 : ((kn : Int) == L) = true := by simpa using hk
        have hv2 : ((vn : Int) == L) = true := by simpa using hv
        have HM : Hid (res = if T.all (tokB Vo) = true then (if rfB K ((tn : Int) - F) D = true ∧ rfB V ((tn : Int) - F) D = true then 0 else 4) else 7) := by
          show _ = _
          rw [HN.out, if_neg (by simp [hk, hv])]
        clear HN
        obtain ⟨d, hd⟩ : ∃ d, (tn : Int) - F = d := ⟨_, rfl⟩
        rw [hd] at HM
        have e1' : IntKind.i64.wrap ((tn : Int) - F) = d := by rw [hd]; exact wrap_in (by omega)
        clear hd
        go_wp2_with fail
        refine CF.mono ?_
        rintro e w2 ⟨rfl, B2⟩
        replace X0 := X0.below B2
        replace X1 := X1.below B2
        have BT := below_then B1 B2
        have R := hpt.row.below BT
        have C1 := hpk.below BT
        have C2 := hpv.below BT
        clear hw0 hw1 a0 a1 a4 b0 b1 b2 b3 X0' X1' B0 B1 B2 CF hpt hpk hpv
        have a0 : w2.cell? ⟨w.heap.size, 0, none⟩ = some (.int .i64 Vo) := X0.cell 0 rfl
        have a1 : w2.cell? ⟨w.heap.size, 1, none⟩ = some (.int .i64 D) := X0.cell 1 rfl
        have a4 : w2.cell? ⟨w.heap.size, 4, none⟩ = some (.int .i64 L) := X0.cell 4 rfl
        have b0 : w2.cell? ⟨w.heap.size + 1, 0, none⟩ = some (.slice ta tn tz) := X1.cell 0 rfl
        have b1 : w2.cell? ⟨w.heap.size + 1, 1, none⟩ = some (.int .i64 F) := X1.cell 1 rfl
        have b2 : w2.cell? ⟨w.heap.size + 1, 2, none⟩ = some (.slice ka kn kz) := X1.cell 2 rfl
        have b3 : w2.cell? ⟨w.heap.size + 1, 3, none⟩ = some (.slice va vn vz) := X1.cell 3 rfl
        clear X0 X1
        obtain ⟨b, o, rfl, hc⟩ := R.cells (by omega)
        go_wp2_with fail
        go_loopg [32] tn (fun r i wr => ∃ k : Nat, k ≤ tn ∧ r = tn - k ∧ i = .int .i64 k ∧ (T.take k).all (tokB Vo) = true ∧ wr = w2)
        case atStart => exact ⟨0, by omega, by omega, rfl, rfl, rfl⟩
        case round =>
          obtain ⟨k, hkn, rfl, rfl, hall, rfl⟩ := hrel
          by_cases hlt : k < tn
          · have ck := hc k hlt
            have sx := R.small k
            have HS : Hid ((T.take (k + 1)).all (tokB Vo) = ((T.take k).all (tokB Vo) && tokB Vo (el T k))) := all_take_el (by omega)
            have HB : Hid (tokB Vo (el T k) = false → T.all (tokB Vo) = false) := fun h => all_not (by omega) h
            have HT : Hid (tokB Vo (el T k) = decide (0 ≤ el T k ∧ el T k < Vo)) := rfl
            clear hc
            generalize el T k = x at *
            by_cases h2 : x < 0
            · have HR : Hid (res = 7) := by show _ = _; rw [HM.out, HB.out (by rw [HT.out]; exact decide_eq_false (by omega))]; rfl
              clear HM HS HB HT
              go_wp2_with fail
              go_ret
              exact ⟨ret_int HR.out.symm, BT⟩
            · by_cases h3 : Vo ≤ x
              · have HR : Hid (res = 7) := by show _ = _; rw [HM.out, HB.out (by rw [HT.out]; exact decide_eq_false (by omega))]; rfl
                clear HM HS HB HT
                go_wp2_with fail
                go_ret
                exact ⟨ret_int HR.out.symm, BT⟩
              · have HA : Hid ((T.take (k + 1)).all (tokB Vo) = true) := by show _ = _; rw [HS.out, hall, HT.out, decide_eq_true (by omega)]; rfl
                clear HS HB HT
                go_wp2_with fail
                go_roundg (tn - (k + 1))
                case measure => omega
                case rel => exact ⟨k + 1, by omega, rfl, by go_num, HA.out, rfl⟩
          · obtain rfl : tn = k := by omega
            have HE : Hid (res = if rfB K d D = true ∧ rfB V d D = true then 0 else 4) := by
              show _ = _
              rw [HM.out, if_pos (by rw [← et] at hall; rw [List.take_length] at hall; exact hall)]
            clear HM hall hc
            have RK := rowsFit_any ka kn kz K d D wr C1
            have RV := rowsFit_any va vn vz V d D wr C2
            cases hq : rfB K d D with
            | false =>
              rw [hq] at RK HE
              go_wp2_with fail
              refine RK.mono ?_
              rintro e w3 ⟨rfl, rfl⟩
              go_wp2_with fail
              go_ret
              exact ⟨ret_int (by rw [HE.out]; simp), BT⟩
            | true =>
              rw [hq] at RK HE
              cases hq2 : rfB V d D with
              | false =>
                rw [hq2] at RV HE
                go_wp2_with fail
                refine RK.mono ?_
                rintro e w3 ⟨rfl, rfl⟩
                go_wp2_with fail
                refine RV.mono ?_
                rintro e w3 ⟨rfl, rfl⟩
                go_wp2_with fail
                go_ret
                exact ⟨ret_int (by rw [HE.out]; simp), BT⟩
              | true =>
                rw [hq2] at RV HE
                go_wp2_with fail
                refine RK.mono ?_
                rintro e w3 ⟨rfl, rfl⟩
                go_wp2_with fail
                refine RV.mono ?_
                rintro e w3 ⟨rfl, rfl⟩
                go_wp2_with fail
                go_ret
                exact ⟨ret_int (by rw [HE.out]; simp), BT⟩
      · have hk2 : ((kn : Int) == L) = true := by simpa using hk
        have hv2 : ((vn : Int) == L) = false := by simpa using hv
        have HR : Hid (res = 4) := by show _ = _; rw [HN.out, if_pos (Or.inr (Or.inr hv))]
        clear HN
        go_wp2_with fail
        refine CF.mono ?_
        rintro e w2 ⟨rfl, B2⟩
        replace X0 := X0.below B2
        replace X1 := X1.below B2
        clear hw0 hw1 a0 a1 a4 b0 b1 b2 b3
        have a4 : w2.cell? ⟨w.heap.size, 4, none⟩ = some (.int .i64 L) := X0.cell 4 rfl
        have b2 : w2.cell? ⟨w.heap.size + 1, 2, none⟩ = some (.slice ka kn kz) := X1.cell 2 rfl
        have b3 : w2.cell? ⟨w.heap.size + 1, 3, none⟩ = some (.slice va vn vz) := X1.cell 3 rfl
        go_wp2_with fail
        go_ret
        exact ⟨ret_int HR.out.symm, below_then B1 B2⟩
    · have hk2 : ((kn : Int) == L) = false := by simpa using hk
      have HR : Hid (res = 4) := by show _ = _; rw [HN.out, if_pos (Or.inr (Or.inl hk))]
      clear HN
      go_wp2_with fail
      refine CF.mono ?_
      rintro e w2 ⟨rfl, B2⟩
      replace X0 := X0.below B2
      replace X1 := X1.below B2
      clear hw0 hw1 a0 a1 a4 b0 b1 b2 b3
      have a4 : w2.cell? ⟨w.heap.size, 4, none⟩ = some (.int .i64 L) := X0.cell 4 rfl
      have b2 : w2.cell? ⟨w.heap.size + 1, 2, none⟩ = some (.slice ka kn kz) := X1.cell 2 rfl
      go_wp2_with fail
      go_ret
      exact ⟨ret_int HR.out.symm, below_then B1 B2⟩
end Go.Proofs.Ytpplnjmjldhlbaa

/- Package block: a made list of rows that grow. -/
namespace Go.Proofs.Ytpplnjmjldhlbaa
open Go.ChangeShapes Go.WideShapes Go.ChangeAt Go.RowKit
/-- At block g m lists of rows that grow; growth and stores turn blocks of S alone, the rows hang on blocks of p. -/
structure GL (w : World) (s : Nat) (S p : Nat → Prop) (g m : Nat) (F : Nat → List (List Int)) : Prop where
  sg : S g
  sS : ∀ b, S b → s ≤ b ∧ b < w.heap.size
  sp : ∀ b, p b → s ≤ b ∧ b < w.heap.size ∧ ¬ S b
  bl : ∃ cs : Array Value, w.heap[g]? = some (.cells cs 73 (0, 0)) ∧ cs.size = m
  sl : ∀ t, t < m → ∃ u vs, w.cell? ⟨g, t, none⟩ = some u ∧ w.ownsRow s 72 1 u (F t).length vs ∧ (∀ b, u.ownBlock = some b → S b) ∧ HRows p w vs (F t)
  ne : ∀ t t' u u' b, t < m → t' < m → t ≠ t' → w.cell? ⟨g, t, none⟩ = some u → w.cell? ⟨g, t', none⟩ = some u' → u.ownBlock = some b → u'.ownBlock ≠ some b
theorem ownB {w : World} {B n : Nat} {e : TypeId} {v : Value} {vs : List Value} (h : w.ownsRow B e 1 v n vs) {b : Nat} (hb : v.ownBlock = some b) : B ≤ b ∧ ∃ cs, w.heap[b]? = some (.cells cs e (0, 0)) := by
  rcases h.2 with ⟨h1, _⟩ | ⟨g, cap, cur, h1, h2, h3, _⟩
  · rw [h1] at hb; cases hb
  · rw [h1] at hb
    simp only [Value.ownBlock, Option.some.injEq] at hb
    subst hb
    exact ⟨h2, cur, h3⟩
theorem GL.lt {w : World} {s : Nat} {S p : Nat → Prop} {g m : Nat} {F : Nat → List (List Int)} (h : GL w s S p g m F) : g < w.heap.size := (h.sS g h.sg).2
theorem GL.other {w w' : World} {s : Nat} {S p : Nat → Prop} {g m : Nat} {F : Nat → List (List Int)} (h : GL w s S p g m F) (hs : w.heap.size ≤ w'.heap.size) (hb : ∀ b, S b ∨ p b → w'.heap[b]? = w.heap[b]?) : GL w' s S p g m F := by
  have hg := hb g (Or.inl h.sg)
  have hc : ∀ t, w'.cell? ⟨g, t, none⟩ = w.cell? ⟨g, t, none⟩ := fun t => World.cell?_of_block (w := w) (a := ⟨g, t, none⟩) hg
  refine ⟨h.sg, fun b hB => ⟨(h.sS b hB).1, Nat.lt_of_lt_of_le (h.sS b hB).2 hs⟩, fun b hB => ⟨(h.sp b hB).1, Nat.lt_of_lt_of_le (h.sp b hB).2.1 hs, (h.sp b hB).2.2⟩, ?_, fun t ht => ?_, fun t t' u u' b l1 l2 hn e e' => h.ne t t' u u' b l1 l2 hn (by rw [← hc]; exact e) (by rw [← hc]; exact e')⟩
  · obtain ⟨cs, c1, c2⟩ := h.bl
    exact ⟨cs, hg.trans c1, c2⟩
  · obtain ⟨u, vs, k1, k2, k3, k4⟩ := h.sl t ht
    exact ⟨u, vs, by rw [hc]; exact k1, owns_mono k2 (Nat.le_refl _) (fun b e => hb b (Or.inl (k3 b e))), k3, k4.turn ⟨hs, fun b _ hp => ⟨hp, hb b (Or.inr hp)⟩⟩⟩
theorem GL.below {w w' : World} {s : Nat} {S p : Nat → Prop} {g m : Nat} {F : Nat → List (List Int)} (h : GL w s S p g m F) (hb : Below w.heap.size w w') : GL w' s S p g m F :=
  h.other hb.size fun b hB => hb.block b (by rcases hB with k | k; exact (h.sS b k).2; exact (h.sp b k).2.1)
theorem GL.congr {w : World} {s : Nat} {S p : Nat → Prop} {g m : Nat} {F F' : Nat → List (List Int)} (h : GL w s S p g m F) (hF : ∀ t, t < m → F' t = F t) : GL w s S p g m F' :=
  ⟨h.sg, h.sS, h.sp, h.bl, fun t ht => by rw [hF t ht]; exact h.sl t ht, h.ne⟩
/-- One of the lists grew by rows. -/
theorem GL.step {w w2 : World} {s : Nat} {S p : Nat → Prop} {g m i : Nat} {F F' : Nat → List (List Int)} (h : GL w s S p g m F) (hi : i < m) {u u' : Value} {vs ns : List Value} {R : List (List Int)} (hs : s ≤ w.heap.size)
    (e : w.cell? ⟨g, i, none⟩ = some u) (O : w.ownsRow s 72 1 u (F i).length vs) (hv : HRows p w vs (F i))
    (O2 : w2.ownsRow s 72 1 u' ((F i).length + R.length) (vs ++ ns)) (H2 : HRows (offV w.heap.size u') w2 ns R) (hG : w.grownBy w2 u.ownBlock) (hN : ∀ b, u'.ownBlock = some b → u.ownBlock = some b ∨ w.heap.size ≤ b)
    (h1 : F' i = F i ++ R) (h2 : ∀ t, t < m → t ≠ i → F' t = F t) :
    GL (w2.setCell ⟨g, i, none⟩ u') s (fun b => S b ∨ u'.ownBlock = some b) (fun b => p b ∨ (w.heap.size ≤ b ∧ b < w2.heap.size ∧ u'.ownBlock ≠ some b)) g m F' ∧ ∀ b, b < w.heap.size → ¬ S b → (w2.setCell ⟨g, i, none⟩ u').heap[b]? = w.heap[b]? := by
  have hlt := h.lt
  have huS : ∀ b, u.ownBlock = some b → S b := fun b hb => by
    obtain ⟨u2, _, k1, _, k3, _⟩ := h.sl i hi
    rw [e] at k1
    simp only [Option.some.injEq] at k1
    subst k1
    exact k3 b hb
  have tyne : ∀ {wx : World} {b : Nat} {cs cs2 : Array Value}, wx.heap[b]? = some (.cells cs 73 (0, 0)) → wx.heap[b]? = some (.cells cs2 72 (0, 0)) → False := fun c1 c2 => by
    rw [c1] at c2
    injection c2 with c2
    injection c2 with _ c3 _
    exact absurd c3 (by decide)
  obtain ⟨cs, c1, c2⟩ := h.bl
  have bne : ∀ b, u.ownBlock = some b → g ≠ b := fun b hb hc => by
    obtain ⟨_, cs2, q⟩ := ownB O hb
    subst hc
    exact tyne c1 q
  have keepB : w2.heap[g]? = w.heap[g]? := hG.block _ hlt (fun hc => bne _ hc.symm rfl)
  have bne' : ∀ b, u'.ownBlock = some b → g ≠ b := fun b hb hc => by
    obtain ⟨_, cs2, q⟩ := ownB O2 hb
    subst hc
    exact tyne (keepB.trans c1) q
  have hsz : (w2.setCell ⟨g, i, none⟩ u').heap.size = w2.heap.size := by simp [World.setCell]
  have hst : ∀ b, b ≠ g → (w2.setCell ⟨g, i, none⟩ u').heap[b]? = w2.heap[b]? := fun b hb => Below.heap_setCell _ _ _ b hb
  have cellO : ∀ t' v, t' ≠ i → ((w2.setCell ⟨g, i, none⟩ u').cell? ⟨g, t', none⟩ = some v ↔ w.cell? ⟨g, t', none⟩ = some v) := fun t' v hn => by
    rw [World.cell?_setCell_other _ _ _ _ (fun hc => by
      simp only [Addr.mk.injEq, and_true, true_and] at hc
      exact hn hc.symm), World.cell?_of_block (w := w) (a := ⟨g, t', none⟩) keepB]
  have e2 : w2.cell? ⟨g, i, none⟩ = some u := by rw [World.cell?_of_block (w := w) (a := ⟨g, i, none⟩) keepB]; exact e
  have cellS : (w2.setCell ⟨g, i, none⟩ u').cell? ⟨g, i, none⟩ = some u' := World.cell?_setCell_same _ _ _ e2
  have frame : ∀ b, b < w.heap.size → ¬ S b → (w2.setCell ⟨g, i, none⟩ u').heap[b]? = w.heap[b]? := fun b hb hn => by
    rw [hst b (fun hc => hn (by rw [hc]; exact h.sg))]
    exact hG.block b hb (fun hc => hn (huS b hc.symm))
  have turnP : ∀ {vs : List Value} {R : List (List Int)}, HRows p w vs R → HRows (fun b => p b ∨ (w.heap.size ≤ b ∧ b < w2.heap.size ∧ u'.ownBlock ≠ some b)) (w2.setCell ⟨g, i, none⟩ u') vs R := fun H => H.turn ⟨by rw [hsz]; exact hG.size, fun b hb hp => ⟨Or.inl hp, frame b hb (h.sp b hp).2.2⟩⟩
  have turn2 : HRows (fun b => p b ∨ (w.heap.size ≤ b ∧ b < w2.heap.size ∧ u'.ownBlock ≠ some b)) (w2.setCell ⟨g, i, none⟩ u') ns R := H2.turn ⟨by rw [hsz]; omega, fun b hb hp => ⟨Or.inr ⟨hp.1, hb, hp.2⟩, hst b (fun hc => by have := hp.1; omega)⟩⟩
  have O3 : (w2.setCell ⟨g, i, none⟩ u').ownsRow s 72 1 u' ((F i).length + R.length) (vs ++ ns) := owns_mono O2 (Nat.le_refl _) fun b hb => hst b (fun hc => bne' b hb hc.symm)
  refine ⟨⟨Or.inl h.sg, fun b hb => ?_, fun b hb => ?_, ?_, fun t ht => ?_, fun t1 t2 v v' b l1 l2 hn k1 k2 hv1 hv2 => ?_⟩, frame⟩
  · rw [hsz]
    rcases hb with hb | hb
    · exact ⟨(h.sS b hb).1, Nat.lt_of_lt_of_le (h.sS b hb).2 hG.size⟩
    · exact O2.lt b hb
  · rw [hsz]
    rcases hb with hb | ⟨q1, q2, q3⟩
    · obtain ⟨k1, k2, k3⟩ := h.sp b hb
      refine ⟨k1, Nat.lt_of_lt_of_le k2 hG.size, fun hc => ?_⟩
      rcases hc with hc | hc
      · exact k3 hc
      · rcases hN b hc with x | x
        · exact k3 (huS b x)
        · omega
    · refine ⟨by omega, q2, fun hc => ?_⟩
      rcases hc with hc | hc
      · have := (h.sS b hc).2; omega
      · exact q3 hc
  · exact ⟨cs.setIfInBounds i u', by simp [World.setCell, Array.getElem?_modify, keepB, c1], by simpa using c2⟩
  · by_cases hti : t = i
    · subst hti
      rw [h1]
      refine ⟨u', vs ++ ns, cellS, by rw [List.length_append]; exact O3, fun b hb => Or.inr hb, ?_⟩
      have T1 := turnP hv
      refine ⟨by rw [List.length_append, List.length_append, T1.len, turn2.len], fun j hj => ?_⟩
      rcases Nat.lt_or_ge j (F t).length with hj2 | hj2
      · obtain ⟨ro, k, c, q1, q2⟩ := T1.rows j hj2
        exact ⟨ro, k, c, by rw [List.getElem?_append_left (by rw [T1.len]; exact hj2)]; exact q1, by
          have er : rowOf (F t ++ R) j = rowOf (F t) j := by unfold rowOf; rw [List.getD_eq_getElem?_getD, List.getD_eq_getElem?_getD, List.getElem?_append_left hj2]
          rw [er]; exact q2⟩
      · rw [List.length_append] at hj
        obtain ⟨ro, k, c, q1, q2⟩ := turn2.rows (j - (F t).length) (by omega)
        exact ⟨ro, k, c, by rw [List.getElem?_append_right (by rw [T1.len]; exact hj2), T1.len]; exact q1, by
          have er : rowOf (F t ++ R) j = rowOf R (j - (F t).length) := by unfold rowOf; rw [List.getD_eq_getElem?_getD, List.getD_eq_getElem?_getD, List.getElem?_append_right hj2]
          rw [er]; exact q2⟩
    · rw [h2 t ht hti]
      obtain ⟨v, ws, k1, k2, k3, k4⟩ := h.sl t ht
      refine ⟨v, ws, (cellO t v hti).2 k1, owns_mono k2 (Nat.le_refl _) fun b hb => ?_, fun b hb => Or.inl (k3 b hb), turnP k4⟩
      rw [hst b (fun hc => by
        obtain ⟨_, cs2, q⟩ := ownB k2 hb
        subst hc
        exact tyne c1 q)]
      exact hG.block b (k2.lt b hb).2 (fun hc => h.ne i t u v b hi ht (Ne.symm hti) e k1 hc.symm hb)
  · have oldlt : ∀ t' x b, t' < m → w.cell? ⟨g, t', none⟩ = some x → x.ownBlock = some b → b < w.heap.size := fun t' x b ht' hx hb => by
      obtain ⟨y, ws, k1, k2, _, _⟩ := h.sl t' ht'
      rw [hx] at k1
      simp only [Option.some.injEq] at k1
      subst k1
      exact (k2.lt b hb).2
    by_cases a1 : t1 = i
    · subst a1
      rw [cellS] at k1
      simp only [Option.some.injEq] at k1
      subst k1
      have c2' := (cellO t2 v' (Ne.symm hn)).1 k2
      rcases hN b hv1 with k | k
      · exact h.ne t1 t2 u v' b l1 l2 hn e c2' k hv2
      · have := oldlt t2 v' b l2 c2' hv2; omega
    · have c1' := (cellO t1 v a1).1 k1
      by_cases a2 : t2 = i
      · subst a2
        rw [cellS] at k2
        simp only [Option.some.injEq] at k2
        subst k2
        rcases hN b hv2 with k | k
        · exact h.ne t1 t2 v u b l1 l2 hn c1' e hv1 k
        · have := oldlt t1 v b l1 c1' hv1; omega
      · exact h.ne t1 t2 v v' b l1 l2 hn c1' ((cellO t2 v' a2).1 k2) hv1 hv2
/-- It reads as a cube, and hangs on newer blocks. -/
theorem GL.new {w : World} {s : Nat} {S p : Nat → Prop} {g m : Nat} {F : Nat → List (List Int)} (h : GL w s S p g m F) {C : List (List (List Int))} (hC : C.length = m) (hm : m ≤ 9223372036854775807) (hF : ∀ t, t < m → C.getD t [] = F t) : Hangs (fun b => s ≤ b) w (fun w => CubeAt w (some ⟨g, 0, none⟩) m C) := fun w2 h2 => by
  refine ⟨hC, hm, fun _ => ⟨g, 0, rfl, fun t R hR => ?_⟩⟩
  have ht : t < m := by have := (List.getElem?_eq_some_iff.1 hR).1; omega
  have hRe : F t = R := by rw [← hF t ht, List.getD_eq_getElem?_getD, hR]; rfl
  obtain ⟨u, vs, k1, k2, k3, k4⟩ := h.sl t ht
  rw [hRe] at k2 k4
  obtain ⟨a, c, e⟩ := owns_slice k2
  subst e
  obtain ⟨f1, f2, f3⟩ := owns_form k2
  have hg := h.sS g h.sg
  have k1' : w2.cell? ⟨g, t, none⟩ = some (.slice a R.length c) := by rw [World.cell?_of_block (w := w) (a := ⟨g, t, none⟩) (h2 g hg.1 hg.2)]; exact k1
  have O2 : w2.ownsRow s 72 1 (.slice a R.length c) R.length vs := owns_mono k2 (Nat.le_refl _) (fun b hb => h2 b (k2.lt b hb).1 (k2.lt b hb).2)
  refine ⟨a, R.length, c, by rw [Nat.zero_add]; exact k1', f1, f2, f3, rfl, by omega, fun h0 => ?_⟩
  rcases O2.2 with ⟨q1, q2⟩ | ⟨g2, cap, cur, q1, _⟩
  · omega
  · simp only [Value.slice.injEq] at q1
    obtain ⟨rfl, -, rfl⟩ := q1
    refine ⟨g2, 0, rfl, fun j hj => ?_⟩
    obtain ⟨ro, n, c2, e5, A⟩ := k4.rows j hj
    have hc := O2.cells (g := g2) rfl j _ e5
    have e3 : (Addr.mk g2 0 none).add j = ⟨g2, j, none⟩ := by simp [Addr.add]; intro h; exact h.symm
    rw [e3] at hc
    exact ⟨ro, n, c2, by rw [Nat.zero_add]; exact hc, A w2 (fun b hp hb => h2 b (h.sp b hp).1 hb)⟩
theorem GL.cube {w : World} {s : Nat} {S p : Nat → Prop} {g m : Nat} {F : Nat → List (List Int)} (h : GL w s S p g m F) {C : List (List (List Int))} (hC : C.length = m) (hm : m ≤ 9223372036854775807) (hF : ∀ t, t < m → C.getD t [] = F t) : CubeAt w (some ⟨g, 0, none⟩) m C := (h.new hC hm hF).now
/-- As it is made. -/
theorem gl_made (w : World) (m : Nat) (s : Nat) (hs : s ≤ w.heap.size) : GL (w.alloc (.cells (madeCells #[.slice none 0 0] m) 73)) s (fun b => b = w.heap.size) (fun _ => False) w.heap.size m (fun _ => []) := by
  have h1 := heap_alloc_new w (.cells (madeCells #[.slice none 0 0] m) 73)
  have hsz : (w.alloc (.cells (madeCells #[.slice none 0 0] m) 73)).heap.size = w.heap.size + 1 := by simp
  have hc : ∀ t, t < m → (w.alloc (.cells (madeCells #[.slice none 0 0] m) 73)).cell? ⟨w.heap.size, t, none⟩ = some (.slice none 0 0) := fun t ht => by
    unfold World.cell?
    simp only [h1]
    simp [madeCells, ht, Nat.mod_one]
  refine ⟨rfl, fun b hb => by subst hb; exact ⟨hs, by omega⟩, fun b hb => hb.elim, ⟨_, h1, by simp [madeCells]⟩, fun t ht => ⟨_, [], hc t ht, World.ownsRow_nil _ _ _ _, (fun b hb => by simp [Value.ownBlock] at hb), HRows.nil _ _⟩, fun t t' u u' b l1 l2 hn e e' hu => ?_⟩
  rw [hc t l1] at e
  simp only [Option.some.injEq] at e
  subst e
  cases hu
end Go.Proofs.Ytpplnjmjldhlbaa
