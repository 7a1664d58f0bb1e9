/- Numbers are made from a seed just as the document says: the walk. Laid by tools/genmakes.py. -/
import Derived.Test.YtklgaokhillinaaMdTold
import Derived.Test.YtklgaokhillinaaMdWants
namespace Go.Proofs.Ytklgaokhillinaa
open Go.ChangeShapes Go.WideShapes Go.ChangeAt Go.RowKit
theorem yields_row {ops : Array Oper} {S : World → Prop} {op : Oper} {a : Act} (hw : Region.wanted op (yielded ops a.tmps) = true) (ty : TypeId) (x : Operand) (ho : op.op = .load ty x)
    (g : Nat) (hx : a.eval x = .pointer (some ⟨g, 0, none⟩)) (T : TypeId) (cs : Array Value) (d : TypeDesc) (hS : ∀ w, S w → Blk w g T cs) (hu : Try.prog.underlying ty = some d) (hd : d.isRow = true) (hi : (Try.prog.info? ty).map (·.size) = some cs.size) :
    YieldsIf Try.prog ops S op (.agg cs) a := by
  have := yieldsIf_load_mid (P := Try.prog) (S := S) hw ty x ho g 0 hx cs.toList d (fun w h j v hv => by rw [Nat.zero_add]; exact (hS w h).cell j (by simpa using hv)) hu hd (by simpa using hi)
  simpa using this
theorem Try.infoCf : (Try.prog.info? 23).map (·.size) = some 5 := by kernel_rfl
theorem sl_of {w : World} {B B2 g n : Nat} {A : List Int} {s : Sl} (F : Fresh w B g n n A) (h : FR w B2 s n A) : SlSame w (rs g n) s := ⟨by obtain ⟨_, _, h2, _⟩ := h; exact h2, A, F.rowAt, h.row⟩
theorem mt_of {w : World} {B B2 g n r c : Nat} {A : List Int} {m : Mt} (F : Fresh w B g n n A) (h : FM w B2 m r c n A) : MtSame w ⟨r, c, rs g n⟩ m := ⟨h.r, h.c, sl_of F h.d⟩
theorem bk_of {w : World} {B B2 seed i D H f q k v o s u d : Nat} {y : Bk} (h : MadeB w B seed i D H f q k v o s u d) (h2 : MadeR w B2 seed i D H y) : BkSame w (mkB D H f q k v o s u d) y :=
  ⟨sl_of h.f h2.f, mt_of h.q h2.q, mt_of h.k h2.k, mt_of h.v h2.v, mt_of h.o h2.o, sl_of h.s h2.s, mt_of h.u h2.u, mt_of h.d h2.d⟩
theorem sl_none (w : World) (ao bo : Option Addr) (c d : Nat) : SlSame w ⟨ao, 0, c⟩ ⟨bo, 0, d⟩ := ⟨rfl, [], RowAt.nil _ _, RowAt.nil _ _⟩
set_option maxRecDepth 100000 in
set_option maxHeartbeats 3200000 in
theorem modelMakes_walk (C : Cfg) (sd : Int) (w : World) (h0 : C.Ok) (bs : 0 ≤ sd ∧ sd ≤ 18446744073709551615) :
    Calls Try.prog 4 #[C.val, .int .u64 sd] w fun e w' => e = .returned (.bool true) ∧ Below w.heap.size w w' := by
  obtain ⟨seed, rfl⟩ : ∃ n : Nat, sd = n := ⟨sd.toNat, by omega⟩
  have hsd : seed < 18446744073709551616 := by omega
  clear bs
  have X0 := blk_new w 23 (cfgC C.V C.D C.Hd C.H C.L)
  have B0 : Below w.heap.size w (w.alloc (.cells (cfgC C.V C.D C.Hd C.H C.L) 23)) := (Below.refl _ _).alloc (Nat.le_refl _) _
  have M0 := make_gen C h0 seed hsd
  have RS := fun wv => rshape_any C.V C.D C.Hd C.H C.L wv h0.V h0.D h0.Hd h0.H h0.L
  have K0 := fun (W : Wt) bs wv hW hb => mcheck_any C h0 W bs wv hW hb
  unfold Cfg.val at *
  have hu : ∀ C : Cfg, cfgC C.V C.D C.Hd C.H C.L = #[.int .i64 C.V, .int .i64 C.D, .int .i64 C.Hd, .int .i64 C.H, .int .i64 C.L] := fun _ => rfl
  rw [hu] at B0 M0 ⊢
  simp only [hu] at RS
  generalize hw0 : w.alloc (.cells #[.int .i64 C.V, .int .i64 C.D, .int .i64 C.Hd, .int .i64 C.H, .int .i64 C.L] 23) = w0 at *
  replace X0 : Blk w0 w.heap.size 23 (cfgC C.V C.D C.Hd C.H C.L) := by rw [← hw0]; exact X0
  have X0' := X0
  obtain ⟨a0, a1, a2, a3, a4⟩ := cfg_cells X0
  go_enter Try.func4, Try.ntmps4
  go_wp2_with fail
  refine (M0 w0).mono ?_
  rintro e w2 ⟨cs, q, rfl, MM, B2⟩
  replace X0 := X0.below B2
  have s2 := B2.size
  have s0 : w.heap.size < w0.heap.size := X0'.lt
  replace B2 := below_then B0 B2
  clear hw0 a0 a1 a2 a3 a4 B0 M0 X0'
  obtain ⟨Y2, B3⟩ := put_w w2 cs
  have Z2 := blk_new w2 29 #[.int .i64 0, .int .i64 0, .slice none 0 0, .slice none 0 0, .slice none 0 0, .int .i64 0, .int .i64 0, .slice none 0 0]
  generalize hw3 : w2.alloc (.cells #[.int .i64 0, .int .i64 0, .slice none 0 0, .slice none 0 0, .slice none 0 0, .int .i64 0, .int .i64 0, .slice none 0 0] 29) = w3 at *
  generalize hw4 : w3.setRow w2.heap.size cs = w4 at *
  replace X0 := X0.below B3
  replace MM := MM.below B3
  replace B3 := below_then B2 B3
  have hcs := MM.size
  have hone := MM.one
  simp only [← MM.err] at RS
  obtain ⟨a0, a1, a2, a3, a4⟩ := cfg_cells X0
  by_cases hq : q = 0
  · subst hq
    obtain ⟨V, D, Hd, H, L, ge, gB, gl, go, e1, e2, e3, e4, e5, hcw, MW⟩ := MM.ok rfl
    have hshape := MM.err.symm
    have k1 := shape_ok hshape
    obtain ⟨bl, ML⟩ := madeL_of (i0 := V * D) L (fun j hj => MW.bs j hj)
    have hfit := made_fits (ge := ge) (gl := gl) (go := go) ML e1 e2 e4 e5 hshape
    rw [← mkW_cells V D L ge gB gl go] at hcw
    subst hcw
    have gBl : gB < w4.heap.size := by obtain ⟨c, hc, _⟩ := MW.bl; exact (Array.getElem?_eq_some_iff.1 hc).1
    have HM : Hid (∀ wv, Below w4.heap.size w4 wv → MadeW wv w0.heap.size seed V D H L ge gB gl go ∧ MadeL wv w0.heap.size seed (V * D) gB D H L bl) := fun wv hb => ⟨MW.below hb, ML.below gBl hb⟩
    have HB : Hid (∀ wv, Below w4.heap.size w4 wv → BlocksAt wv (rs gB L) bl) := fun wv hb => (ML.below gBl hb).blocks (by omega) (by omega) (by omega)
    have hWok : (mkW V D L ge gB gl go).Ok := mkW_ok (by omega) (by omega)
    have CK : ∀ wv, BlocksAt wv (rs gB L) bl → Calls Try.prog 12 #[.agg (cfgC V D Hd H L), .agg (mkW V D L ge gB gl go).cells] wv fun e w' => e = .returned (.int .i64 0) ∧ Below wv.heap.size wv w' := fun wv hb => by
      have := K0 (mkW V D L ge gB gl go) bl wv hWok hb
      rw [hfit, e1, e2, e3, e4, e5] at this
      exact this
    have FL := fun wv (hb : BlocksAt wv (rs gB L) bl) => full_any (mkW V D L ge gB gl go) bl wv hb (by show L ≤ 1000; omega)
    rw [e1, e2, e3, e4, e5] at hshape
    have RM := fun wv => rmake_any V D Hd H L seed wv hshape
    have hlen := ML.len
    simp only [e1, e2, e3, e4, e5] at RS a0 a1 a2 a3 a4
    rw [e1, e2, e3, e4, e5] at X0
    clear K0 hfit hWok MW ML MM gBl e1 e2 e3 e4 e5
    go_wp2_with (first
      | (refine wpList_store_row rfl 29 _ _ rfl w2.heap.size _ rfl rfl 29 _ Z2 Try.infoW rfl (wCells_one _ _ _ _ _ _ _ _ _ _ _ _) ?_; rw [hw4])
      | (go_at_call 11; refine (RS _).mono ?_; rintro e w5 ⟨rfl, B5⟩)
      | (go_at_call 9; refine (awake6_any _).mono ?_; rintro e w6 ⟨rfl, B6⟩))
    have KB := below_then B5 B6
    have DB := below_then B3 KB
    replace X0 := X0.below KB
    replace Y2 := Y2.below KB
    clear hw3 hw4 Z2 a0 a1 a2 a3 a4 hcs hone B3 B5 B6 RS
    replace X0 := X0.below ((Below.refl _ _).drew)
    replace Y2 := Y2.below ((Below.refl _ _).drew)
    replace DB := DB.drew
    replace KB := KB.drew
    refine wp_region_held_drew (S := fun w' => Blk w' w.heap.size 23 (cfgC V D Hd H L) ∧ Blk w' w2.heap.size 29 (mkW V D L ge gB gl go).cells) (by kernel_rfl) (⟨X0, Y2⟩) (fun hHeld => ?_)
    generalize hA : w6.drew = wA at *
    clear hA
    refine wpAnyH_take (i := 0) (v := .agg (cfgC V D Hd H L)) rfl (by kernel_rfl) (by kernel_rfl) (by kernel_rfl) (fun _ _ _ h => h) (yields_row (by rfl) 23 _ rfl w.heap.size rfl 23 (cfgC V D Hd H L) _ (fun w' hS => hS.1) Try.underlying23 rfl Try.infoCf) (by assumption) ?_
    simp only [List.getElem_toArray, List.getElem_cons_zero, Act.put, List.setIfInBounds_toArray, List.set_cons_zero, List.set_cons_succ]
    refine wpAnyH_take (i := 1) (v := .agg (mkW V D L ge gB gl go).cells) rfl (by kernel_rfl) (by kernel_rfl) (by kernel_rfl) (fun _ _ _ h => h) (yields_row (by rfl) 29 _ rfl w2.heap.size rfl 29 (mkW V D L ge gB gl go).cells _ (fun w' hS => hS.2) Try.underlying29 rfl Try.infoW) (by assumption) ?_
    simp only [List.getElem_toArray, List.getElem_cons_succ, List.getElem_cons_zero, Act.put, List.setIfInBounds_toArray, List.set_cons_zero, List.set_cons_succ]
    refine wpAnyH_ready (rs := [2]) (by kernel_rfl) (by simp) ?_
    refine AllReadyH.cons rfl (fun Kc hKc => ?_) AllReadyH.nil
    simp only [List.getElem_toArray, List.getElem_cons_succ, List.getElem_cons_zero]
    rw [if_pos (by rfl)]
    go_wp2_with fail
    refine (CK _ (HB.out _ KB)).mono ?_
    rintro e wB ⟨rfl, EM⟩
    replace X0 := X0.below EM
    replace Y2 := Y2.below EM
    replace DB := below_then DB EM
    replace KB := below_then KB EM
    go_wp2_with fail
    refine hKc.out _ _ (⟨X0, Y2⟩) (fun hHeld => ?_)
    clear hKc Kc
    clear EM
    refine wpAnyH_take (i := 3) (v := (.bool true)) rfl (by kernel_rfl) (by kernel_rfl) (by kernel_rfl) (fun _ _ _ h => h) (Or.inl ⟨by rfl, ?_⟩) (by assumption) ?_
    · intro w' hSw
      go_simp
    simp only [List.getElem_toArray, List.getElem_cons_succ, List.getElem_cons_zero, Act.put, List.setIfInBounds_toArray, List.set_cons_zero, List.set_cons_succ]
    refine wpAnyH_take (i := 4) (v := (.bool true)) rfl (by kernel_rfl) (by kernel_rfl) (by kernel_rfl) (fun _ _ _ h => h) (Or.inl ⟨by rfl, ?_⟩) (by assumption) ?_
    · intro w' hSw
      go_simp
    simp only [List.getElem_toArray, List.getElem_cons_succ, List.getElem_cons_zero, Act.put, List.setIfInBounds_toArray, List.set_cons_zero, List.set_cons_succ]
    refine wpAnyH_take (i := 5) (v := .agg (mkW V D L ge gB gl go).cells) rfl (by kernel_rfl) (by kernel_rfl) (by kernel_rfl) (fun _ _ _ h => h) (yields_row (by rfl) 29 _ rfl w2.heap.size rfl 29 (mkW V D L ge gB gl go).cells _ (fun w' hS => hS.2) Try.underlying29 rfl Try.infoW) (by assumption) ?_
    simp only [List.getElem_toArray, List.getElem_cons_succ, List.getElem_cons_zero, Act.put, List.setIfInBounds_toArray, List.set_cons_zero, List.set_cons_succ]
    refine wpAnyH_take (i := 7) (v := .agg (cfgC V D Hd H L)) rfl (by kernel_rfl) (by kernel_rfl) (by kernel_rfl) (fun _ _ _ h => h) (yields_row (by rfl) 23 _ rfl w.heap.size rfl 23 (cfgC V D Hd H L) _ (fun w' hS => hS.1) Try.underlying23 rfl Try.infoCf) (by assumption) ?_
    simp only [List.getElem_toArray, List.getElem_cons_succ, List.getElem_cons_zero, Act.put, List.setIfInBounds_toArray, List.set_cons_zero, List.set_cons_succ]
    refine wpAnyH_take (i := 8) (v := (.int .u64 (seed : Int))) rfl (by kernel_rfl) (by kernel_rfl) (by kernel_rfl) (fun _ _ _ h => h) (Or.inl ⟨by rfl, ?_⟩) (by assumption) ?_
    · intro w' hSw
      go_simp
    simp only [List.getElem_toArray, List.getElem_cons_succ, List.getElem_cons_zero, Act.put, List.setIfInBounds_toArray, List.set_cons_zero, List.set_cons_succ]
    refine wpAnyH_ready (rs := [6]) (by kernel_rfl) (by simp) ?_
    refine AllReadyH.cons rfl (fun Kc hKc => ?_) AllReadyH.nil
    simp only [List.getElem_toArray, List.getElem_cons_succ, List.getElem_cons_zero]
    rw [if_pos (by rfl)]
    go_wp2_with fail
    refine (FL _ (HB.out _ KB)).mono ?_
    rintro e wC ⟨S1, rfl, O1, EM⟩
    replace X0 := X0.below EM
    replace Y2 := Y2.below EM
    replace DB := below_then DB EM
    replace KB := below_then KB EM
    go_wp2_with fail
    refine hKc.out _ _ (⟨X0, Y2⟩) (fun hHeld => ?_)
    clear hKc Kc
    clear EM
    refine wpAnyH_ready (rs := [9]) (by kernel_rfl) (by simp) ?_
    refine AllReadyH.cons rfl (fun Kc hKc => ?_) AllReadyH.nil
    simp only [List.getElem_toArray, List.getElem_cons_succ, List.getElem_cons_zero]
    rw [if_pos (by rfl)]
    go_wp2_with fail
    refine (RM _).mono ?_
    rintro e wD ⟨E, S2, Ls, O, bs2, rfl, hS2, O2, M2, FE, FLs, FO, EM⟩
    replace X0 := X0.below EM
    replace Y2 := Y2.below EM
    replace DB := below_then DB EM
    replace KB := below_then KB EM
    replace O1 := O1.below EM
    go_wp2_with fail
    refine hKc.out _ _ (⟨X0, Y2⟩) (fun hHeld => ?_)
    clear hKc Kc
    clear EM
    obtain ⟨MW, ML⟩ := HM.out _ KB
    have SM := same6_any ⟨(mkW V D L ge gB gl go).e, S1, (mkW V D L ge gB gl go).l, (mkW V D L ge gB gl go).o⟩ ⟨⟨V, D, E⟩, S2, Ls, ⟨V, D, O⟩⟩ bl bs2 wD O1.blocks O2.blocks (by show S2.n = S1.n; rw [hS2, ← O1.len, hlen]) ⟨rfl, rfl, sl_of MW.e FE⟩ (sl_of MW.l FLs) ⟨rfl, rfl, sl_of MW.o FO⟩ (fun t x y hx hy => by obtain ⟨_, f, q, k, v, o, s, u, d, rfl, MB⟩ := ML.at_ t x hx; exact bk_of MB (M2 t y hy))
    refine wpAnyH_ready (rs := [10]) (by kernel_rfl) (by simp) ?_
    refine AllReadyH.cons rfl (fun Kc hKc => ?_) AllReadyH.nil
    simp only [List.getElem_toArray, List.getElem_cons_succ, List.getElem_cons_zero]
    rw [if_pos (by rfl)]
    go_wp2_with fail
    refine SM.mono ?_
    rintro e wE ⟨rfl, EM⟩
    replace X0 := X0.below EM
    replace Y2 := Y2.below EM
    replace DB := below_then DB EM
    replace KB := below_then KB EM
    go_wp2_with fail
    refine hKc.out _ _ (⟨X0, Y2⟩) (fun hHeld => ?_)
    clear hKc Kc
    clear EM
    refine wpAnyH_take (i := 11) (v := (.bool true)) rfl (by kernel_rfl) (by kernel_rfl) (by kernel_rfl) (fun _ _ _ h => h) (Or.inl ⟨by rfl, ?_⟩) (by assumption) ?_
    · intro w' hSw
      go_simp
    simp only [List.getElem_toArray, List.getElem_cons_succ, List.getElem_cons_zero, Act.put, List.setIfInBounds_toArray, List.set_cons_zero, List.set_cons_succ]
    refine wpAnyH_take (i := 12) (v := (.bool true)) rfl (by kernel_rfl) (by kernel_rfl) (by kernel_rfl) (fun _ _ _ h => h) (Or.inl ⟨by rfl, ?_⟩) (by assumption) ?_
    · intro w' hSw
      go_simp
    simp only [List.getElem_toArray, List.getElem_cons_succ, List.getElem_cons_zero, Act.put, List.setIfInBounds_toArray, List.set_cons_zero, List.set_cons_succ]
    refine wpAnyH_done (by kernel_rfl) ?_ _
    clear hHeld
    go_wp2_with fail
    go_ret
    exact ⟨rfl, DB⟩
  · have hcn := MM.no hq
    subst hcn
    have hq' : (q == 0) = false := by simpa using hq
    clear K0 MM
    go_wp2_with (first
      | (refine wpList_store_row rfl 29 _ _ rfl w2.heap.size noW rfl rfl 29 _ Z2 Try.infoW rfl hone ?_; rw [hw4])
      | (go_at_call 11; refine (RS _).mono ?_; rintro e w5 ⟨rfl, B5⟩)
      | (go_at_call 9; refine (awake6_any _).mono ?_; rintro e w6 ⟨rfl, B6⟩; have KB := below_then B5 B6; have DB := below_then B3 KB; have Y6 := Y2.below KB)
      | (refine wpList_load_row rfl 29 _ rfl w2.heap.size rfl 29 noW (0, 0) _ Y6 Try.underlying29 rfl Try.infoW ?_)
      | (go_at_call 7; refine (told_none _).mono ?_; rintro e w7 ⟨ge, ce, gl, cl, gu, cu, rfl, B7⟩; have SM := same6_any ⟨⟨0, 0, ⟨some ⟨ge, 0, none⟩, 0, ce⟩⟩, ⟨none, 0, 0⟩, ⟨some ⟨gl, 0, none⟩, 0, cl⟩, ⟨0, 0, ⟨some ⟨gu, 0, none⟩, 0, cu⟩⟩⟩ ⟨⟨0, 0, ⟨none, 0, 0⟩⟩, ⟨none, 0, 0⟩, ⟨none, 0, 0⟩, ⟨0, 0, ⟨none, 0, 0⟩⟩⟩ [] [] w7 (ownB_nil w7 0).blocks (ownB_nil w7 0).blocks rfl ⟨rfl, rfl, sl_none _ _ _ _ _⟩ (sl_none _ _ _ _ _) ⟨rfl, rfl, sl_none _ _ _ _ _⟩ (fun t x y hx _ => by simp at hx))
      | (go_at_call 17; refine SM.mono ?_; rintro e w8 ⟨rfl, B8⟩))
    go_ret
    exact ⟨rfl, below_then (below_then DB B7) B8⟩
end Go.Proofs.Ytklgaokhillinaa
