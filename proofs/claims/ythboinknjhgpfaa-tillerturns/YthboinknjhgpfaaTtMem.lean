/- TillerTurns: who asked, was granted and believes, as ticks go by; how it lies in memory. -/
import Derived.Test.YthboinknjhgpfaaHdGr
import Derived.Test.YthboinknjhgpfaaLsGrant
import Derived.Test.YthboinknjhgpfaaLsWho
import Derived.Test.YthboinknjhgpfaaCkTick
import Derived.Test.YthboinknjhgpfaaTtPlan
namespace Go.Proofs.Ythboinknjhgpfaa
open Go.ChangeShapes Go.WideShapes Go.ChangeAt Go.RowKit
/-- Not asked, asked, granted. -/
def Ph (te ma : Int) (H : List Nat) (W : List (Int × Wn)) (Hm : List (Int × Hv)) (L : List (Int × Hg)) (cn ep num first : Int) : Nat → Prop
  | 0 => W = [] ∧ Hm = [] ∧ L = [] ∧ cn = 0 ∧ ep = 0 ∧ num = 0 ∧ first = 0
  | 1 => ∃ A A0 : Int, W = [(9, ⟨1, A⟩)] ∧ Hm = [] ∧ L = [] ∧ cn = 1 ∧ ep = 0 ∧ num = 1 ∧ first = 0 ∧ low H 1 ≤ A - A0 ∧ A - A0 ≤ hig H 1 ∧ 0 ≤ A ∧ A ≤ cnt H 1 ∧ A0 ≤ cnt H 0
  | _ => ∃ A A0 G : Int, L = [(9, ⟨1, 1, G + te⟩)] ∧ (Hm = [] ∨ Hm = [(9, ⟨1, A + te - ma⟩)]) ∧ ep = 1 ∧ first = 1 ∧ low H 1 ≤ A - A0 ∧ A - A0 ≤ hig H 1 ∧ A0 ≤ G ∧ 0 ≤ G ∧ G ≤ cnt H 0
theorem cnt_mono (t : Nat) (H : List Nat) (i : Nat) : cnt H i ≤ cnt (t :: H) i := by
  rw [cnt_cons]
  split <;> omega
theorem Ph.tick {te ma : Int} {H : List Nat} {W : List (Int × Wn)} {Hm : List (Int × Hv)} {L : List (Int × Hg)} {cn ep num first : Int} (t : Nat) : ∀ {ph : Nat}, Ph te ma H W Hm L cn ep num first ph → Ph te ma (t :: H) W Hm L cn ep num first ph
  | 0, h => h
  | 1, ⟨A, A0, h1, h2, h3, h4, h5, h6, h7, h8, h9, h10, h11, h12⟩ => by
    have e1 := cnt_mono t H 1
    have e0 := cnt_mono t H 0
    refine ⟨A, A0, h1, h2, h3, h4, h5, h6, h7, ?_, ?_, h10, by omega, by omega⟩
    · simp only [low]; omega
    · simp only [hig]; omega
  | n + 2, ⟨A, A0, G, h1, h2, h3, h4, h5, h6, h7, h8, h9⟩ => by
    have e0 := cnt_mono t H 0
    refine ⟨A, A0, G, h1, h2, h3, h4, ?_, ?_, h7, h8, by omega⟩
    · simp only [low]; omega
    · simp only [hig]; omega
theorem ph_ask {te ma : Int} {H : List Nat} {W : List (Int × Wn)} {Hm : List (Int × Hv)} {L : List (Int × Hg)} {cn ep num first : Int} (h : Ph te ma H W Hm L cn ep num first 0) : Ph te ma H (putM W 9 ⟨0 * 1048576 + (cn + 1), cnt H 1⟩) Hm L (cn + 1) ep (0 * 1048576 + (cn + 1)) first 1 := by
  obtain ⟨rfl, rfl, rfl, rfl, rfl, rfl, rfl⟩ := h
  have h1 := low_bd H 1
  have h2 := hig_bd H 1
  have h3 := cnt_bd H 1
  unfold ahd at h1 h2
  exact ⟨cnt H 1, cnt H 0, rfl, rfl, rfl, rfl, rfl, rfl, rfl, h1.2.2, h2.2.2, h3.1, Int.le_refl _, Int.le_refl _⟩
theorem may_ask {H : List Nat} (hl : H.length ≤ 900) : askN 0 0 (cnt H 1) = 0 := by
  have h3 := cnt_bd H 1
  have hm : momD (cnt H 1) = true := by unfold momD; exact decide_eq_true ⟨by omega, by omega⟩
  unfold askN
  rw [hm]
  simp
theorem mom_cnt {H : List Nat} (hl : H.length ≤ 900) (i : Nat) : momD (cnt H i) = true := by
  have h3 := cnt_bd H i
  unfold momD
  exact decide_eq_true ⟨by omega, by omega⟩
theorem may_first {H : List Nat} (hl : H.length ≤ 900) (te : Int) (ho : Int) (h1 : 1 ≤ te) (h2 : te ≤ 1000) (hh : 0 ≤ ho) : mayN 0 0 (cnt H 0) te 9 ho [] = 0 := by
  have h3 := cnt_bd H 0
  unfold mayN
  rw [if_neg (by unfold badA; omega), if_neg (by omega)]
  have hb : busy (whoL (cnt H 0) [] 9) ho = false := rfl
  rw [hb]
  simp
theorem may_awake : mayN 0 0 5 10 1 7 [] = 0 := by
  unfold mayN
  rw [if_neg (by unfold badA; omega), if_neg (by omega)]
  have hb : busy (whoL 5 [] 1) 7 = false := rfl
  rw [hb]
  simp
/-- What comes of a grant's being told. -/
theorem ph_grant {te ma : Int} {H : List Nat} {W : List (Int × Wn)} {Hm : List (Int × Hv)} {L : List (Int × Hg)} {cn ep num first : Int} (h : Ph te ma H W Hm L cn ep num first 1) (hl : H.length ≤ 900) (h1 : 1 ≤ te) (h2 : te ≤ 1000) (h3 : 0 ≤ ma) (h4 : ma ≤ 1000) :
    ep = 0 ∧ L = [] ∧ cn = 1 ∧ ∃ Hm' : List (Int × Hv), ∃ c : Int, (∀ W', Ph te ma H W' Hm' (putM (lastM (cnt H 0) L) 9 ⟨1, ep + 1, cnt H 0 + te⟩) cn (ep + 1) num (ep + 1) 2) ∧
      (∀ (wv : World) (mw mh : Option Nat), WnM wv mw W → HvM wv mh Hm → Calls Try.prog 10 #[hsV 0 cn mw mh, .int .i64 (cnt H 1), .agg #[.int .i64 te, .int .i64 ma], .int .i64 9, .int .i64 num, .int .i64 (ep + 1)] wv fun e w' => ∃ bw bh, e = .returned (.tuple #[hsV 0 cn (some bw) (some bh), .int .i64 c]) ∧ New wv.heap.size w' bw bh (delM W 9) Hm' ∧ Below wv.heap.size wv w') := by
  obtain ⟨A, A0, rfl, rfl, rfl, rfl, rfl, rfl, rfl, h8, h9, h10, h11, h12⟩ := h
  have hc0 := cnt_bd H 0
  have hc1 := cnt_bd H 1
  have hA : momD A = true := by unfold momD; exact decide_eq_true ⟨by omega, by omega⟩
  have hr : rightD te ma = true := by unfold rightD; exact decide_eq_true ⟨by omega, by omega, by omega, by omega⟩
  have hb : (rightD te ma && momD (cnt H 1) && momD A) = true := by rw [hr, mom_cnt hl 1, hA]; rfl
  refine ⟨rfl, rfl, rfl, ?_⟩
  by_cases q : cnt H 1 < A + te - ma
  · refine ⟨[(9, ⟨1, A + te - ma⟩)], 0, fun W' => ⟨A, A0, cnt H 0, rfl, Or.inr rfl, rfl, rfl, h8, h9, h12, hc0.1, Int.le_refl _⟩, fun wv mw mh hW hH => ?_⟩
    exact hgr_ok 0 1 mw mh (cnt H 1) te ma 9 1 (0 + 1) _ _ wv hW hH (by simp) (by simp) (by omega) ⟨1, A⟩ rfl rfl hb q (by omega)
  · refine ⟨[], 16, fun W' => ⟨A, A0, cnt H 0, rfl, Or.inl rfl, rfl, rfl, h8, h9, h12, hc0.1, Int.le_refl _⟩, fun wv mw mh hW hH => ?_⟩
    exact hgr_late 0 1 mw mh (cnt H 1) te ma 9 1 (0 + 1) _ _ wv hW hH (by simp) (by simp) (by omega) ⟨1, A⟩ rfl rfl hb (by show A + te - ma ≤ cnt H 1; omega)
/-- Whether it is believed, and what the next one is told. -/
theorem ph_end {te ma : Int} {H : List Nat} {W : List (Int × Wn)} {Hm : List (Int × Hv)} {L : List (Int × Hg)} {cn ep num first : Int} {ph : Nat} (h : Ph te ma H W Hm L cn ep num first ph) (hl : H.length ≤ 900) (h1 : 1 ≤ te) (h2 : te ≤ 1000) (hw : wst H 3 ≤ ma) :
    ∃ (may : Bool) (f : Int), (belL (cnt H 1) Hm 9).isSome = may ∧ mayN ep 0 (cnt H 0) te 9 2 L = f ∧ L.length ≤ 1 ∧ -9 ≤ ep ∧
      (ph ≤ 1 ∧ may = false ∨ 2 ≤ ph ∧ f = 15 ∨ 2 ≤ ph ∧ f = 0 ∧ may = false ∧ first < ep + 1 ∧ ep = 1 ∧ whoL (cnt H 0) (putM (lastM (cnt H 0) L) 9 ⟨2, ep + 1, cnt H 0 + te⟩) 9 = some ⟨2, ep + 1, cnt H 0 + te⟩) := by
  refine ⟨_, _, rfl, rfl, ?_⟩
  match ph, h with
  | 0, h =>
    obtain ⟨rfl, rfl, rfl, rfl, rfl, rfl, rfl⟩ := h
    exact ⟨by simp, by omega, Or.inl ⟨by omega, rfl⟩⟩
  | 1, h =>
    obtain ⟨A, A0, rfl, rfl, rfl, rfl, rfl, rfl, rfl, h8, h9, h10, h11, h12⟩ := h
    exact ⟨by simp, by omega, Or.inl ⟨by omega, rfl⟩⟩
  | n + 2, h =>
    obtain ⟨A, A0, G, rfl, hm, rfl, rfl, h5, h6, h7, h8, h9⟩ := h
    have hc0 := cnt_bd H 0
    have hd := wst_le H (n := 3) (i := 1) (by omega)
    have hlo := low_bd H 1
    unfold ahd at hlo
    refine ⟨by simp, by omega, Or.inr ?_⟩
    by_cases q : cnt H 0 < G + te
    · refine Or.inl ⟨by omega, ?_⟩
      have hw2 : whoL (cnt H 0) [((9 : Int), (⟨1, 1, G + te⟩ : Hg))] 9 = some ⟨1, 1, G + te⟩ := whoL_some rfl q
      unfold mayN
      rw [if_neg (by unfold badA; omega), if_neg (by omega), hw2]
      have hb : busy (some (⟨1, 1, G + te⟩ : Hg)) 2 = true := by simp [busy]
      rw [hb]
      rfl
    · refine Or.inr ⟨by omega, ?_, ?_, by omega, rfl, ?_⟩
      · have hw2 : whoL (cnt H 0) [((9 : Int), (⟨1, 1, G + te⟩ : Hg))] 9 = none := whoL_over rfl (by show G + te ≤ _; omega)
        unfold mayN
        rw [if_neg (by unfold badA; omega), if_neg (by omega), hw2]
        have hb : busy none 2 = false := rfl
        rw [hb]
        simp
      · rcases hm with rfl | rfl
        · rfl
        · have e : belL (cnt H 1) [((9 : Int), (⟨1, A + te - ma⟩ : Hv))] 9 = none := by
            unfold belL
            have eg : getM [((9 : Int), (⟨1, A + te - ma⟩ : Hv))] 9 = some ⟨1, A + te - ma⟩ := rfl
            rw [eg]
            simp only
            rw [if_neg (by omega)]
          rw [e]
          rfl
      · exact whoL_some (getM_put_same _ _ _) (by show cnt H 0 < cnt H 0 + te; omega)
theorem ph_ask2 {te ma : Int} {H : List Nat} {W : List (Int × Wn)} {Hm : List (Int × Hv)} {L : List (Int × Hg)} {cn ep num first : Int} (h : Ph te ma H W Hm L cn ep num first 0) (hl : H.length ≤ 900) :
    ∃ (cn' num' : Int) (W' : List (Int × Wn)), Ph te ma H W' Hm L cn' ep num' first 1 ∧
      (∀ (wv : World) (mw mh : Option Nat), WnM wv mw W → HvM wv mh Hm → Calls Try.prog 8 #[.agg #[.int .i64 0, .int .i64 cn, .map mw, .map mh], .int .i64 (cnt H 1), .int .i64 9] wv fun e w' => ∃ bw bh, e = .returned (.tuple #[.agg #[.int .i64 0, .int .i64 cn', .map (some bw), .map (some bh)], .int .i64 num', .int .i64 0]) ∧ New wv.heap.size w' bw bh W' Hm ∧ Below wv.heap.size wv w') := by
  refine ⟨_, _, _, ph_ask h, fun wv mw mh hW hH => ?_⟩
  obtain ⟨rfl, rfl, rfl, rfl, rfl, rfl, rfl⟩ := h
  exact hask_ok 0 0 mw mh (cnt H 1) 9 [] [] wv hW hH (by simp) (by simp) (by omega) (may_ask hl)
theorem ph_grant2 {te ma : Int} {H : List Nat} {W : List (Int × Wn)} {Hm : List (Int × Hv)} {L : List (Int × Hg)} {cn ep num first : Int} (h : Ph te ma H W Hm L cn ep num first 1) (hl : H.length ≤ 900) (h1 : 1 ≤ te) (h2 : te ≤ 1000) (h3 : 0 ≤ ma) (h4 : ma ≤ 1000) :
    ∃ (ep' c : Int) (L' : List (Int × Hg)) (Hm' : List (Int × Hv)) (W' : List (Int × Wn)), Ph te ma H W' Hm' L' cn ep' num ep' 2 ∧
      (∀ (wv : World) (mo : Option Nat), HgM wv mo L → Calls Try.prog 4 #[.agg #[.int .i64 ep, .int .i64 0, .map mo], .int .i64 (cnt H 0), .int .i64 te, .int .i64 9, .int .i64 1] wv fun e w' => ∃ b, e = .returned (.tuple #[.agg #[.int .i64 ep', .int .i64 0, .map (some b)], .int .i64 ep', .int .i64 0]) ∧ MapAt Hg.val w' b L' ∧ wv.heap.size ≤ b ∧ Below wv.heap.size wv w') ∧
      (∀ (wv : World) (mw mh : Option Nat), WnM wv mw W → HvM wv mh Hm → Calls Try.prog 10 #[.agg #[.int .i64 0, .int .i64 cn, .map mw, .map mh], .int .i64 (cnt H 1), .agg #[.int .i64 te, .int .i64 ma], .int .i64 9, .int .i64 num, .int .i64 ep'] wv fun e w' => ∃ bw bh, e = .returned (.tuple #[.agg #[.int .i64 0, .int .i64 cn, .map (some bw), .map (some bh)], .int .i64 c]) ∧ New wv.heap.size w' bw bh W' Hm' ∧ Below wv.heap.size wv w') := by
  obtain ⟨rfl, rfl, rfl, Hm', c, g1, g2⟩ := ph_grant h hl h1 h2 h3 h4
  exact ⟨0 + 1, c, _, Hm', _, g1 _, fun wv mo hM => lgrant_ok 0 0 mo (cnt H 0) te 9 1 [] wv hM (by simp) (by omega) (by omega) (may_first hl te 1 h1 h2 (by omega)), g2⟩
theorem ph_end2 {te ma : Int} {H : List Nat} {W : List (Int × Wn)} {Hm : List (Int × Hv)} {L : List (Int × Hg)} {cn ep num first : Int} {ph : Nat} (h : Ph te ma H W Hm L cn ep num first ph) (hl : H.length ≤ 900) (h1 : 1 ≤ te) (h2 : te ≤ 1000) (hw : wst H 3 ≤ ma) :
    ∃ (may : Bool) (be f n ep' : Int) (L' : List (Int × Hg)),
      (∀ (wv : World) (mw mh : Option Nat), HvM wv mh Hm → Calls Try.prog 11 #[.agg #[.int .i64 0, .int .i64 cn, .map mw, .map mh], .int .i64 (cnt H 1), .int .i64 9] wv fun e w' => e = .returned (.tuple #[.int .i64 be, .bool may]) ∧ Below wv.heap.size wv w') ∧
      (∀ (wv : World) (mo : Option Nat), HgM wv mo L → Calls Try.prog 4 #[.agg #[.int .i64 ep, .int .i64 0, .map mo], .int .i64 (cnt H 0), .int .i64 te, .int .i64 9, .int .i64 2] wv fun e w' => ∃ b, e = .returned (.tuple #[.agg #[.int .i64 ep', .int .i64 0, .map (some b)], .int .i64 n, .int .i64 f]) ∧ MapAt Hg.val w' b L' ∧ wv.heap.size ≤ b ∧ Below wv.heap.size wv w') ∧
      (ph ≤ 1 ∧ may = false ∨ 2 ≤ ph ∧ f = 15 ∨ 2 ≤ ph ∧ f = 0 ∧ may = false ∧ first < n ∧ ∃ u, ∀ (wv : World) (b : Nat), MapAt Hg.val wv b L' → Calls Try.prog 12 #[.agg #[.int .i64 ep', .int .i64 0, .map (some b)], .int .i64 (cnt H 0), .int .i64 9] wv fun e w' => e = .returned (.tuple #[.agg #[.int .i64 2, .int .i64 n, .int .i64 u], .bool true]) ∧ Below wv.heap.size wv w') := by
  obtain ⟨may, f, e1, e2, e3, e4, e5⟩ := ph_end h hl h1 h2 hw
  have BL : ∀ (wv : World) (mw mh : Option Nat), HvM wv mh Hm → Calls Try.prog 11 #[.agg #[.int .i64 0, .int .i64 cn, .map mw, .map mh], .int .i64 (cnt H 1), .int .i64 9] wv fun e w' => e = .returned (.tuple #[.int .i64 ((belL (cnt H 1) Hm 9).getD 0), .bool may]) ∧ Below wv.heap.size wv w' := fun wv mw mh hH => by
    rw [← e1]
    exact hbel_any 0 cn mw mh (cnt H 1) 9 Hm wv hH (by omega)
  by_cases q : f = 0
  · subst q
    refine ⟨may, _, 0, ep + 1, ep + 1, _, BL, fun wv mo hM => lgrant_ok ep 0 mo (cnt H 0) te 9 2 L wv hM (by omega) (by omega) (by omega) e2, ?_⟩
    rcases e5 with ⟨g1, g2⟩ | ⟨g1, g2⟩ | ⟨g1, g2, g3, g4, g5, g6⟩
    · exact Or.inl ⟨g1, g2⟩
    · omega
    · refine Or.inr (Or.inr ⟨g1, rfl, g3, g4, cnt H 0 + te, fun wv b hM => ?_⟩)
      have WH := lwho_any (ep + 1) 0 (some b) (cnt H 0) 9 _ wv (Or.inr ⟨b, rfl, hM⟩) (by omega)
      rw [g6] at WH
      exact WH
  · refine ⟨may, _, f, 0, ep, L, BL, fun wv mo hM => ?_, ?_⟩
    · have G := lgrant_bad ep 0 mo (cnt H 0) te 9 2 L wv hM (by omega) (by omega) (by rw [e2]; exact q)
      rw [e2] at G
      exact G
    · rcases e5 with ⟨g1, g2⟩ | ⟨g1, g2⟩ | ⟨g1, g2, _⟩
      · exact Or.inl ⟨g1, g2⟩
      · exact Or.inr (Or.inl ⟨g1, g2⟩)
      · exact absurd g2 q
/-- How it lies in memory: the authority's state at bs, the holder's at bh, the clocks at bc and gc; the maps are newer than B0; what else was there at w0 stays. -/
structure Mem (w0 : World) (bs bh bc gc B0 : Nat) (w : World) (H : List Nat) (W : List (Int × Wn)) (Hm : List (Int × Hv)) (L : List (Int × Hg)) (cn ep : Int) (mw mh mo : Option Nat) : Prop where
  xs : Blk w bs 27 #[.int .i64 ep, .int .i64 0, .map mo]
  xh : Blk w bh 38 #[.int .i64 0, .int .i64 cn, .map mw, .map mh]
  ck : Clk w bc gc 3 3 H
  hW : WnM w mw W
  hH : HvM w mh Hm
  hL : HgM w mo L
  fw : ∀ b, mw = some b → B0 ≤ b
  fh : ∀ b, mh = some b → B0 ≤ b
  fo : ∀ b, mo = some b → B0 ≤ b
  lts : bs < B0
  lth : bh < B0
  ltc : bc < B0
  ltg : gc < B0
  ap : bs ≠ bh ∧ bs ≠ bc ∧ bs ≠ gc ∧ bh ≠ bc ∧ bh ≠ gc
  size : B0 ≤ w.heap.size
  rest : ∀ k, k < B0 → k ≠ bs → k ≠ bh → k ≠ gc → w.heap[k]? = w0.heap[k]?
theorem HgM.keep {w w' : World} {mo : Option Nat} {L : List (Int × Hg)} (h : HgM w mo L) (hb : ∀ b, mo = some b → w'.heap[b]? = w.heap[b]?) : HgM w' mo L := by
  rcases h with h | ⟨b, e, h⟩
  · exact Or.inl h
  · exact Or.inr ⟨b, e, h.keep (hb b e)⟩
theorem WnM.keep {w w' : World} {mo : Option Nat} {L : List (Int × Wn)} (h : WnM w mo L) (hb : ∀ b, mo = some b → w'.heap[b]? = w.heap[b]?) : WnM w' mo L := by
  rcases h with h | ⟨b, e, h⟩
  · exact Or.inl h
  · exact Or.inr ⟨b, e, h.keep (hb b e)⟩
theorem HvM.keep {w w' : World} {mo : Option Nat} {L : List (Int × Hv)} (h : HvM w mo L) (hb : ∀ b, mo = some b → w'.heap[b]? = w.heap[b]?) : HvM w' mo L := by
  rcases h with h | ⟨b, e, h⟩
  · exact Or.inl h
  · exact Or.inr ⟨b, e, h.keep (hb b e)⟩
section
variable {w0 : World} {bs bh bc gc B0 : Nat} {w w' : World} {H : List Nat} {W : List (Int × Wn)} {Hm : List (Int × Hv)} {L : List (Int × Hg)} {cn ep : Int} {mw mh mo : Option Nat}
theorem Mem.below (h : Mem w0 bs bh bc gc B0 w H W Hm L cn ep mw mh mo) (hb : Below w.heap.size w w') : Mem w0 bs bh bc gc B0 w' H W Hm L cn ep mw mh mo :=
  ⟨h.xs.below hb, h.xh.below hb, h.ck.below hb, h.hW.below hb, h.hH.below hb, h.hL.below hb, h.fw, h.fh, h.fo, h.lts, h.lth, h.ltc, h.ltg, h.ap, Nat.le_trans h.size hb.size, fun k h1 h2 h3 h4 => (hb.block k (Nat.lt_of_lt_of_le h1 h.size)).trans (h.rest k h1 h2 h3 h4)⟩
theorem Mem.tick (h : Mem w0 bs bh bc gc B0 w H W Hm L cn ep mw mh mo) {H' : List Nat} (hb : But gc w w') (hc : Clk w' bc gc 3 3 H') : Mem w0 bs bh bc gc B0 w' H' W Hm L cn ep mw mh mo := by
  have hs := h.size
  have hg := h.ltg
  obtain ⟨a1, a2, a3, a4, a5⟩ := h.ap
  refine ⟨h.xs.but hb a3, h.xh.but hb a5, hc, h.hW.keep (fun b e => ?_), h.hH.keep (fun b e => ?_), h.hL.keep (fun b e => ?_), h.fw, h.fh, h.fo, h.lts, h.lth, h.ltc, h.ltg, h.ap, Nat.le_trans h.size hb.size, fun k h1 h2 h3 h4 => (hb.block k (by omega) h4).trans (h.rest k h1 h2 h3 h4)⟩
  · have := h.fw b e
    rcases h.hW with ⟨e2, _⟩ | ⟨b2, e2, hm⟩
    · rw [e] at e2; cases e2
    · rw [e] at e2; cases e2
      exact hb.block b hm.lt (by omega)
  · have := h.fh b e
    rcases h.hH with ⟨e2, _⟩ | ⟨b2, e2, hm⟩
    · rw [e] at e2; cases e2
    · rw [e] at e2; cases e2
      exact hb.block b hm.lt (by omega)
  · have := h.fo b e
    rcases h.hL with ⟨e2, _⟩ | ⟨b2, e2, hm⟩
    · rw [e] at e2; cases e2
    · rw [e] at e2; cases e2
      exact hb.block b hm.lt (by omega)
theorem Mem.setS (h : Mem w0 bs bh bc gc B0 w H W Hm L cn ep mw mh mo) {L' : List (Int × Hg)} {b : Nat} (ep' : Int) (hm : MapAt Hg.val w b L') (hB : B0 ≤ b) : Mem w0 bs bh bc gc B0 (w.setRow bs #[.int .i64 ep', .int .i64 0, .map (some b)]) H W Hm L' cn ep' mw mh (some b) := by
  have hs := h.size
  have h1 := h.lts
  obtain ⟨a1, a2, a3, a4, a5⟩ := h.ap
  have o : ∀ k, k ≠ bs → (w.setRow bs #[.int .i64 ep', .int .i64 0, .map (some b)]).heap[k]? = w.heap[k]? := fun k hk => setRow_other _ _ _ _ hk
  refine ⟨h.xs.row _, h.xh.of_block (o _ (fun e => a1 e.symm)), ClkR.of_blocks h.ck (o _ (fun e => a2 e.symm)) (o _ (fun e => a3 e.symm)), h.hW.keep (fun b e => o b (by have := h.fw b e; omega)), h.hH.keep (fun b e => o b (by have := h.fh b e; omega)), Or.inr ⟨b, rfl, hm.keep (o b (by omega))⟩, h.fw, h.fh, fun b2 e => by injection e with e; omega, h.lts, h.lth, h.ltc, h.ltg, h.ap, by rw [setRow_size]; exact hs, fun k h1 h2 h3 h4 => (o k h2).trans (h.rest k h1 h2 h3 h4)⟩
theorem Mem.setHc (h : Mem w0 bs bh bc gc B0 w H W Hm L cn ep mw mh mo) {W' : List (Int × Wn)} {Hm' : List (Int × Hv)} {bw b : Nat} (cn' : Int) (hm : New B0 w bw b W' Hm') (hx : Blk w' bh 38 #[.int .i64 0, .int .i64 cn', .map (some bw), .map (some b)]) (o : ∀ k, k ≠ bh → w'.heap[k]? = w.heap[k]?) (hz : w'.heap.size = w.heap.size) : Mem w0 bs bh bc gc B0 w' H W' Hm' L cn' ep (some bw) (some b) mo := by
  have hs := h.size
  have h1 := h.lth
  obtain ⟨a1, a2, a3, a4, a5⟩ := h.ap
  obtain ⟨m1, m2, m3, m4, m5⟩ := hm
  refine ⟨h.xs.of_block (o _ a1), hx, ClkR.of_blocks h.ck (o _ (fun e => a4 e.symm)) (o _ (fun e => a5 e.symm)), Or.inr ⟨bw, rfl, m1.keep (o bw (by omega))⟩, Or.inr ⟨b, rfl, m2.keep (o b (by omega))⟩, h.hL.keep (fun b e => o b (by have := h.fo b e; omega)), fun b2 e => by injection e with e; omega, fun b2 e => by injection e with e; omega, h.fo, h.lts, h.lth, h.ltc, h.ltg, h.ap, by rw [hz]; exact hs, fun k h1 h2 h3 h4 => (o k h3).trans (h.rest k h1 h2 h3 h4)⟩
theorem Mem.setH (h : Mem w0 bs bh bc gc B0 w H W Hm L cn ep mw mh mo) {W' : List (Int × Wn)} {Hm' : List (Int × Hv)} {bw b : Nat} (cn' : Int) (hm : New B0 w bw b W' Hm') : Mem w0 bs bh bc gc B0 (w.setRow bh #[.int .i64 0, .int .i64 cn', .map (some bw), .map (some b)]) H W' Hm' L cn' ep (some bw) (some b) mo :=
  h.setHc cn' hm (h.xh.row _) (fun _ hk => setRow_other _ _ _ _ hk) (setRow_size _ _ _)
end
theorem New.up {B B' : Nat} {w w' : World} {mw mh : Nat} {W : List (Int × Wn)} {H : List (Int × Hv)} (h : New B w mw mh W H) (hB : B' ≤ B) (e1 : w'.heap[mw]? = w.heap[mw]?) (e2 : w'.heap[mh]? = w.heap[mh]?) : New B' w' mw mh W H :=
  ⟨h.1.keep e1, h.2.1.keep e2, h.2.2.1, Nat.le_trans hB h.2.2.2.1, Nat.le_trans hB h.2.2.2.2⟩
theorem Clk.nowI {w : World} {b g : Nat} {H : List Nat} (h : Clk w b g 3 3 H) :
   Calls Try.prog 9 #[.pointer (some ⟨b, 0, none⟩), .int .i64 1] w fun e w' => e = .returned (.int .i64 (cnt H 1)) ∧ w' = w := Clk.now (i := 1) h (by omega)
theorem Clk.nowO {w : World} {b g : Nat} {H : List Nat} (h : Clk w b g 3 3 H) :
   Calls Try.prog 9 #[.pointer (some ⟨b, 0, none⟩), .int .i64 0] w fun e w' => e = .returned (.int .i64 (cnt H 0)) ∧ w' = w := Clk.now (i := 0) h (by omega)
end Go.Proofs.Ythboinknjhgpfaa
