/- HolderPlays: each kind of call, on both sides. Written by tools/genhpkind.py. -/
import Derived.Test.YtifbnnffejamaaaHpMem
namespace Go.Proofs.Ytifbnnffejamaaa
open Go.ChangeShapes Go.WideShapes Go.ChangeAt Go.RowKit Go.Maps
theorem Ref.shape {w : World} {vw vh : Value} {W : List (Int × Wn)} {H : List (Int × Hv)} (h : Ref w vw vh W H) : ∃ a c b d, vw = .slice a W.length c ∧ vh = .slice b H.length d := by
  obtain ⟨a, c, e1⟩ := WnR.shape h.1
  obtain ⟨b, d, e2⟩ := HvR.shape h.2
  exact ⟨a, c, b, d, e1, e2⟩
theorem kd_ask (li cn now x : Int) (W : List (Int × Wn)) (H : List (Int × Hv)) (hx : -9223372036854775808 ≤ x ∧ x ≤ 9223372036854775807) (hl : W.length ≤ 100000) (hk : H.length ≤ 100000) :
    ∃ (cn' num code : Int) (W' : List (Int × Wn)), (-9223372036854775808 ≤ num ∧ num ≤ 9223372036854775807) ∧ W'.length ≤ W.length + 1 ∧
    (∀ (wv : World) (mw mh : Option Nat), WnM wv mw W → HvM wv mh H → Calls Try.prog 6 #[.agg #[.int .i64 li, .int .i64 cn, .map mw, .map mh], .int .i64 now, .int .i64 x] wv fun e w' => ∃ mw' mh', e = .returned (.tuple #[.agg #[.int .i64 li, .int .i64 cn', .map mw', .map mh'], .int .i64 num, .int .i64 code]) ∧ WnM w' mw' W' ∧ HvM w' mh' H ∧ Below wv.heap.size wv w') ∧
    (∀ (wv : World) (ao bo : Option Addr) (c d : Nat), Ref wv (.slice ao W.length c) (.slice bo H.length d) W H → Calls Try.prog 7 #[.agg #[.int .i64 li, .int .i64 cn, .slice ao W.length c, .slice bo H.length d], .int .i64 now, .int .i64 x] wv fun e w' => ∃ a' c' b' d', e = .returned (.tuple #[.agg #[.int .i64 li, .int .i64 cn', .slice a' W'.length c', .slice b' H.length d'], .int .i64 num, .int .i64 code]) ∧ Ref w' (.slice a' W'.length c') (.slice b' H.length d') W' H ∧ Below wv.heap.size wv w') := by
  by_cases hb : askN li cn now = 0
  · obtain ⟨hm, h1, h2, h3, h4⟩ := ask_zero hb
    refine ⟨cn + 1, li * 1048576 + (cn + 1), 0, putM W x ⟨li * 1048576 + (cn + 1), now⟩, by omega, put_len _ _ _, fun wv mw mh hW hH => (hask_ok li cn mw mh now x W H wv hW hH hl hk hx hb).mono fun e w' ⟨bw, bh, e1, ⟨n1, n2, _, _, _⟩, B⟩ => ⟨some bw, some bh, e1, WnM.some n1, HvM.some n2, B⟩, ?_⟩
    exact fun wv ao bo c d hR => (rask_ok li cn now x ao bo c d W H wv hR.1 hR.2 hl hb).mono fun e w' ⟨vw, vh, e1, n1, B⟩ => by
      obtain ⟨a, c, b, d, rfl, rfl⟩ := n1.shape
      exact ⟨a, c, b, d, e1, n1, B⟩
  · refine ⟨cn, 0, askN li cn now, W, by omega, by omega, fun wv mw mh hW hH => (hask_bad li cn mw mh now x W H wv hW hH hl hk hb).mono fun e w' ⟨bw, bh, e1, ⟨n1, n2, _, _, _⟩, B⟩ => ⟨some bw, some bh, e1, WnM.some n1, HvM.some n2, B⟩, ?_⟩
    exact fun wv ao bo c d hR => (rask_bad li cn now x ao bo c d W H wv hR.1 hR.2 hb).mono fun e w' ⟨vw, vh, e1, n1, B⟩ => by
      obtain ⟨a, c, b, d, rfl, rfl⟩ := n1.shape
      exact ⟨a, c, b, d, e1, n1, B⟩
theorem kd_gr (li cn now te ma x num ep : Int) (W : List (Int × Wn)) (H : List (Int × Hv)) (hx : -9223372036854775808 ≤ x ∧ x ≤ 9223372036854775807) (hep : -9223372036854775808 ≤ ep ∧ ep ≤ 9223372036854775807) (hl : W.length ≤ 100000) (hk : H.length ≤ 100000) :
    ∃ (code : Int) (W' : List (Int × Wn)) (H' : List (Int × Hv)), W'.length ≤ W.length + 1 ∧ H'.length ≤ H.length + 1 ∧
    (∀ (wv : World) (mw mh : Option Nat), WnM wv mw W → HvM wv mh H → Calls Try.prog 8 #[.agg #[.int .i64 li, .int .i64 cn, .map mw, .map mh], .int .i64 now, .agg #[.int .i64 te, .int .i64 ma], .int .i64 x, .int .i64 num, .int .i64 ep] wv fun e w' => ∃ mw' mh', e = .returned (.tuple #[.agg #[.int .i64 li, .int .i64 cn, .map mw', .map mh'], .int .i64 code]) ∧ WnM w' mw' W' ∧ HvM w' mh' H' ∧ Below wv.heap.size wv w') ∧
    (∀ (wv : World) (ao bo : Option Addr) (c d : Nat), Ref wv (.slice ao W.length c) (.slice bo H.length d) W H → Calls Try.prog 9 #[.agg #[.int .i64 li, .int .i64 cn, .slice ao W.length c, .slice bo H.length d], .int .i64 now, .int .i64 te, .int .i64 ma, .int .i64 x, .int .i64 num, .int .i64 ep] wv fun e w' => ∃ a' c' b' d', e = .returned (.tuple #[.agg #[.int .i64 li, .int .i64 cn, .slice a' W'.length c', .slice b' H'.length d'], .int .i64 code]) ∧ Ref w' (.slice a' W'.length c') (.slice b' H'.length d') W' H' ∧ Below wv.heap.size wv w') := by
  by_cases hb : denN W x num = 0
  · obtain ⟨v, hv, hn⟩ : ∃ v, getM W x = some v ∧ v.num = num := by
      unfold denN at hb
      rcases hg : getM W x with _ | v
      · rw [hg] at hb; exact absurd hb (show ¬ (8 : Int) = 0 by decide)
      · rw [hg] at hb
        exact ⟨v, rfl, Decidable.of_not_not fun e => by simp only [if_neg e] at hb; omega⟩
    have h1 := del_len W x
    cases hr : (rightD te ma && momD now && momD v.tim) with
    | false =>
      refine ⟨1, W, H, by omega, by omega, fun wv mw mh hW hH => (hgr_arg li cn mw mh now te ma x num ep W H wv hW hH hl hk hx v hv hn hr).mono fun e w' ⟨bw, bh, e1, ⟨n1, n2, _, _, _⟩, B⟩ => ⟨some bw, some bh, e1, WnM.some n1, HvM.some n2, B⟩, ?_⟩
      exact fun wv ao bo c d hR => (rgr_arg li cn now te ma x num ep ao bo c d W H wv hR.1 hR.2 hl hk v hv hn hr).mono fun e w' ⟨vw, vh, e1, n1, B⟩ => by
        obtain ⟨a, c, b, d, rfl, rfl⟩ := n1.shape
        exact ⟨a, c, b, d, e1, n1, B⟩
    | true =>
      by_cases hlt : now < v.tim + te - ma
      · refine ⟨0, delM W x, putM H x ⟨ep, grU H x ep (v.tim + te - ma)⟩, by omega, put_len _ _ _, fun wv mw mh hW hH => (hgr_ok li cn mw mh now te ma x num ep W H wv hW hH hl hk hx v hv hn hr hlt hep).mono fun e w' ⟨bw, bh, e1, ⟨n1, n2, _, _, _⟩, B⟩ => ⟨some bw, some bh, e1, WnM.some n1, HvM.some n2, B⟩, ?_⟩
        exact fun wv ao bo c d hR => (rgr_ok li cn now te ma x num ep ao bo c d W H wv hR.1 hR.2 hl hk v hv hn hr hlt).mono fun e w' ⟨vw, vh, e1, n1, B⟩ => by
          obtain ⟨a, c, b, d, rfl, rfl⟩ := n1.shape
          exact ⟨a, c, b, d, e1, n1, B⟩
      · refine ⟨16, delM W x, H, by omega, by omega, fun wv mw mh hW hH => (hgr_late li cn mw mh now te ma x num ep W H wv hW hH hl hk hx v hv hn hr (by omega)).mono fun e w' ⟨bw, bh, e1, ⟨n1, n2, _, _, _⟩, B⟩ => ⟨some bw, some bh, e1, WnM.some n1, HvM.some n2, B⟩, ?_⟩
        exact fun wv ao bo c d hR => (rgr_late li cn now te ma x num ep ao bo c d W H wv hR.1 hR.2 hl hk v hv hn hr (by omega)).mono fun e w' ⟨vw, vh, e1, n1, B⟩ => by
          obtain ⟨a, c, b, d, rfl, rfl⟩ := n1.shape
          exact ⟨a, c, b, d, e1, n1, B⟩
  · refine ⟨denN W x num, W, H, by omega, by omega, fun wv mw mh hW hH => (hgr_den li cn mw mh now te ma x num ep W H wv hW hH hl hk hx hb).mono fun e w' ⟨bw, bh, e1, ⟨n1, n2, _, _, _⟩, B⟩ => ⟨some bw, some bh, e1, WnM.some n1, HvM.some n2, B⟩, ?_⟩
    exact fun wv ao bo c d hR => (rgr_den li cn now te ma x num ep ao bo c d W H wv hR.1 hR.2 hl hk hb).mono fun e w' ⟨vw, vh, e1, n1, B⟩ => by
      obtain ⟨a, c, b, d, rfl, rfl⟩ := n1.shape
      exact ⟨a, c, b, d, e1, n1, B⟩
theorem kd_den (li cn x num : Int) (W : List (Int × Wn)) (H : List (Int × Hv)) (hx : -9223372036854775808 ≤ x ∧ x ≤ 9223372036854775807) (hl : W.length ≤ 100000) (hk : H.length ≤ 100000) :
    ∃ (code : Int) (W' : List (Int × Wn)), W'.length ≤ W.length + 1 ∧
    (∀ (wv : World) (mw mh : Option Nat), WnM wv mw W → HvM wv mh H → Calls Try.prog 10 #[.agg #[.int .i64 li, .int .i64 cn, .map mw, .map mh], .int .i64 x, .int .i64 num] wv fun e w' => ∃ mw' mh', e = .returned (.tuple #[.agg #[.int .i64 li, .int .i64 cn, .map mw', .map mh'], .int .i64 code]) ∧ WnM w' mw' W' ∧ HvM w' mh' H ∧ Below wv.heap.size wv w') ∧
    (∀ (wv : World) (ao bo : Option Addr) (c d : Nat), Ref wv (.slice ao W.length c) (.slice bo H.length d) W H → Calls Try.prog 11 #[.agg #[.int .i64 li, .int .i64 cn, .slice ao W.length c, .slice bo H.length d], .int .i64 x, .int .i64 num] wv fun e w' => ∃ a' c' b' d', e = .returned (.tuple #[.agg #[.int .i64 li, .int .i64 cn, .slice a' W'.length c', .slice b' H.length d'], .int .i64 code]) ∧ Ref w' (.slice a' W'.length c') (.slice b' H.length d') W' H ∧ Below wv.heap.size wv w') := by
  have h1 := del_len W x
  by_cases hb : denN W x num = 0
  · refine ⟨0, delM W x, by omega, fun wv mw mh hW hH => (hden_ok li cn mw mh x num W H wv hW hH hl hk hx hb).mono fun e w' ⟨bw, bh, e1, ⟨n1, n2, _, _, _⟩, B⟩ => ⟨some bw, some bh, e1, WnM.some n1, HvM.some n2, B⟩, ?_⟩
    exact fun wv ao bo c d hR => (rden_ok li cn x num ao bo c d W H wv hR.1 hR.2 hl hk hb).mono fun e w' ⟨vw, vh, e1, n1, B⟩ => by
      obtain ⟨a, c, b, d, rfl, rfl⟩ := n1.shape
      exact ⟨a, c, b, d, e1, n1, B⟩
  · refine ⟨denN W x num, W, by omega, fun wv mw mh hW hH => (hden_bad li cn mw mh x num W H wv hW hH hl hk hx hb).mono fun e w' ⟨bw, bh, e1, ⟨n1, n2, _, _, _⟩, B⟩ => ⟨some bw, some bh, e1, WnM.some n1, HvM.some n2, B⟩, ?_⟩
    exact fun wv ao bo c d hR => (rden_bad li cn x num ao bo c d W H wv hR.1 hR.2 hl hk hb).mono fun e w' ⟨vw, vh, e1, n1, B⟩ => by
      obtain ⟨a, c, b, d, rfl, rfl⟩ := n1.shape
      exact ⟨a, c, b, d, e1, n1, B⟩
theorem kd_let (li cn x : Int) (W : List (Int × Wn)) (H : List (Int × Hv)) (hx : -9223372036854775808 ≤ x ∧ x ≤ 9223372036854775807) (hl : W.length ≤ 100000) (hk : H.length ≤ 100000) :
    ∃ (ep code : Int) (H' : List (Int × Hv)), H'.length ≤ H.length + 1 ∧
    (∀ (wv : World) (mw mh : Option Nat), WnM wv mw W → HvM wv mh H → Calls Try.prog 12 #[.agg #[.int .i64 li, .int .i64 cn, .map mw, .map mh], .int .i64 x] wv fun e w' => ∃ mw' mh', e = .returned (.tuple #[.agg #[.int .i64 li, .int .i64 cn, .map mw', .map mh'], .int .i64 ep, .int .i64 code]) ∧ WnM w' mw' W ∧ HvM w' mh' H' ∧ Below wv.heap.size wv w') ∧
    (∀ (wv : World) (ao bo : Option Addr) (c d : Nat), Ref wv (.slice ao W.length c) (.slice bo H.length d) W H → Calls Try.prog 13 #[.agg #[.int .i64 li, .int .i64 cn, .slice ao W.length c, .slice bo H.length d], .int .i64 x] wv fun e w' => ∃ a' c' b' d', e = .returned (.tuple #[.agg #[.int .i64 li, .int .i64 cn, .slice a' W.length c', .slice b' H'.length d'], .int .i64 ep, .int .i64 code]) ∧ Ref w' (.slice a' W.length c') (.slice b' H'.length d') W H' ∧ Below wv.heap.size wv w') := by
  have h1 := del_len H x
  rcases hb : getM H x with _ | h
  · refine ⟨0, 8, H, by omega, fun wv mw mh hW hH => (hlet_none li cn mw mh x W H wv hW hH hl hk hx hb).mono fun e w' ⟨bw, bh, e1, ⟨n1, n2, _, _, _⟩, B⟩ => ⟨some bw, some bh, e1, WnM.some n1, HvM.some n2, B⟩, ?_⟩
    exact fun wv ao bo c d hR => (rlet_none li cn x ao bo c d W H wv hR.1 hR.2 hl hk hb).mono fun e w' ⟨vw, vh, e1, n1, B⟩ => by
      obtain ⟨a, c, b, d, rfl, rfl⟩ := n1.shape
      exact ⟨a, c, b, d, e1, n1, B⟩
  · refine ⟨h.epo, 0, delM H x, by omega, fun wv mw mh hW hH => (hlet_some li cn mw mh x W H wv hW hH hl hk hx h hb).mono fun e w' ⟨bw, bh, e1, ⟨n1, n2, _, _, _⟩, B⟩ => ⟨some bw, some bh, e1, WnM.some n1, HvM.some n2, B⟩, ?_⟩
    exact fun wv ao bo c d hR => (rlet_some li cn x ao bo c d W H wv hR.1 hR.2 hl hk h hb).mono fun e w' ⟨vw, vh, e1, n1, B⟩ => by
      obtain ⟨a, c, b, d, rfl, rfl⟩ := n1.shape
      exact ⟨a, c, b, d, e1, n1, B⟩
theorem kd_crash (li cn : Int) (W : List (Int × Wn)) (H : List (Int × Hv)) (hli : -9223372036854775808 ≤ li ∧ li ≤ 9223372036854775807) :
    ∃ (li' : Int) (W' : List (Int × Wn)) (H' : List (Int × Hv)), (-9223372036854775808 ≤ li' ∧ li' ≤ 9223372036854775807) ∧ W'.length ≤ W.length + 1 ∧ H'.length ≤ H.length + 1 ∧
    (∀ (wv : World) (mw mh : Option Nat), WnM wv mw W → HvM wv mh H → Calls Try.prog 14 #[.agg #[.int .i64 li, .int .i64 cn, .map mw, .map mh]] wv fun e w' => ∃ mw' mh', e = .returned (.agg #[.int .i64 li', .int .i64 0, .map mw', .map mh']) ∧ WnM w' mw' W' ∧ HvM w' mh' H' ∧ Below wv.heap.size wv w') ∧
    (∀ (wv : World) (ao bo : Option Addr) (c d : Nat), Ref wv (.slice ao W.length c) (.slice bo H.length d) W H → Calls Try.prog 15 #[.agg #[.int .i64 li, .int .i64 cn, .slice ao W.length c, .slice bo H.length d]] wv fun e w' => ∃ a' c' b' d', e = .returned (.agg #[.int .i64 li', .int .i64 0, .slice a' W'.length c', .slice b' H'.length d']) ∧ Ref w' (.slice a' W'.length c') (.slice b' H'.length d') W' H' ∧ Below wv.heap.size wv w') := by
  refine ⟨newLife li, [], [], by unfold newLife; omega, by simp, by simp, fun wv mw mh hW hH => (hcrash_any li cn mw mh wv hli).mono fun e w' ⟨e1, B⟩ => ⟨none, none, e1, WnM.nil _, HvM.nil _, B⟩, fun wv ao bo c d hR => (rcrash_any li cn ao bo c d W.length H.length wv hli).mono fun e w' ⟨e1, B⟩ => ⟨none, 0, none, 0, e1, ⟨KRow.nil _ _ _ _, KRow.nil _ _ _ _⟩, B⟩⟩
end Go.Proofs.Ytifbnnffejamaaa
