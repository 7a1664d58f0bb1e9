/- Made numbers lie within their bounds: the walk. Laid by tools/genbounds.py. -/
import Derived.Test.YtklgaokhillinaaModelMakesWalk
import Derived.Test.YtklgaokhillinaaMdList
namespace Go.Proofs.Ytklgaokhillinaa
open Go.ChangeShapes Go.WideShapes Go.ChangeAt Go.RowKit
theorem gain_mem {seed i n : Nat} {y : Int} (h : y ∈ gainR seed i n) : 49152 ≤ y ∧ y < 81920 := by
  unfold gainR tab at h
  obtain ⟨j, _, rfl⟩ := List.mem_map.1 h
  have := numN_bd seed (i + j) 16384 (by omega) (by omega)
  omega
theorem bk_two {w : World} {B B2 seed i D H f q k v o s u d f2 q2 k2 v2 o2 s2 u2 d2 : Nat} (h : MadeB w B seed i D H f q k v o s u d) (h2 : MadeB w B2 seed i D H f2 q2 k2 v2 o2 s2 u2 d2) : BkSame w (mkB D H f q k v o s u d) (mkB D H f2 q2 k2 v2 o2 s2 u2 d2) :=
  ⟨⟨rfl, _, h.f.rowAt, h2.f.rowAt⟩, ⟨rfl, rfl, rfl, _, h.q.rowAt, h2.q.rowAt⟩, ⟨rfl, rfl, rfl, _, h.k.rowAt, h2.k.rowAt⟩, ⟨rfl, rfl, rfl, _, h.v.rowAt, h2.v.rowAt⟩, ⟨rfl, rfl, rfl, _, h.o.rowAt, h2.o.rowAt⟩, ⟨rfl, _, h.s.rowAt, h2.s.rowAt⟩, ⟨rfl, rfl, rfl, _, h.u.rowAt, h2.u.rowAt⟩, ⟨rfl, rfl, rfl, _, h.d.rowAt, h2.d.rowAt⟩⟩
theorem brw_of {w : World} {B seed i D H f q k v o s u d : Nat} (h : MadeB w B seed i D H f q k v o s u d) : BRw w D H (mkB D H f q k v o s u d) :=
  ⟨f, q, k, v, o, s, u, d, rfl, ⟨_, h.f.rowAt⟩, ⟨_, h.q.rowAt⟩, ⟨_, h.k.rowAt⟩, ⟨_, h.v.rowAt⟩, ⟨_, h.o.rowAt⟩, ⟨_, h.s.rowAt⟩, ⟨_, h.u.rowAt⟩, ⟨_, h.d.rowAt⟩⟩
theorem num_bd (seed k : Nat) : -131072 ≤ numN seed k 131072 ∧ numN seed k 131072 < 131072 := by
  have h := numN_bd seed k 131072 (Nat.le_refl _) (by decide)
  rw [show ((131072 : Nat) : Int) = 131072 from rfl] at h
  exact h
theorem wmul {a b c : Nat} (h : c = a * b) (hb : c ≤ 1000000) : IntKind.i64.wrap ((a : Int) * (b : Int)) = (c : Int) := by
  subst h
  rw [← Int.natCast_mul]
  exact wrap_in (by omega)
theorem wadd {a b c : Nat} (h : c = a + b) (hb : c ≤ 1000000) : IntKind.i64.wrap ((a : Int) + (b : Int)) = (c : Int) := by
  subst h
  rw [← Int.natCast_add]
  exact wrap_in (by omega)
theorem wtwo {b c : Nat} (h : c = 2 * b) (hb : c ≤ 1000000) : IntKind.i64.wrap (2 * (b : Int)) = (c : Int) := wmul (a := 2) h hb
theorem wfour {b c : Nat} (h : c = 4 * b) (hb : c ≤ 1000000) : IntKind.i64.wrap (4 * (b : Int)) = (c : Int) := wmul (a := 4) h hb
theorem lenB_eq (D H : Nat) : lenB D H = 2 * D + 4 * D * D + 2 * D * H := by
  unfold lenB
  rw [Nat.mul_assoc 4 D D, Nat.mul_assoc 2 D H, Nat.mul_comm H D]
  omega
set_option maxRecDepth 100000 in
set_option maxHeartbeats 6400000 in
theorem modelBounds_walk (C : Cfg) (sd : Int) (w : World) (h0 : C.Ok) (bs : 0 ≤ sd ∧ sd ≤ 18446744073709551615) :
    Calls Try.prog 6 #[C.val, .int .u64 sd] w fun e w' => e = .returned (.bool true) ∧ Below w.heap.size w w' := by
  obtain ⟨seed, rfl⟩ : ∃ n : Nat, sd = n := ⟨sd.toNat, by omega⟩
  have hsd : seed < 18446744073709551616 := by omega
  clear bs
  have X0 := blk_new w 23 (cfgC C.V C.D C.Hd C.H C.L)
  have B0 : Below w.heap.size w (w.alloc (.cells (cfgC C.V C.D C.Hd C.H C.L) 23)) := (Below.refl _ _).alloc (Nat.le_refl _) _
  have M0 := make_gen C h0 seed hsd
  unfold Cfg.val at *
  have hu : ∀ C : Cfg, cfgC C.V C.D C.Hd C.H C.L = #[.int .i64 C.V, .int .i64 C.D, .int .i64 C.Hd, .int .i64 C.H, .int .i64 C.L] := fun _ => rfl
  rw [hu] at B0 M0 ⊢
  generalize hw0 : w.alloc (.cells #[.int .i64 C.V, .int .i64 C.D, .int .i64 C.Hd, .int .i64 C.H, .int .i64 C.L] 23) = w0 at *
  replace X0 : Blk w0 w.heap.size 23 (cfgC C.V C.D C.Hd C.H C.L) := by rw [← hw0]; exact X0
  have X0' := X0
  obtain ⟨a0, a1, a2, a3, a4⟩ := cfg_cells X0
  go_enter Try.func6, Try.ntmps6
  go_wp2_with fail
  refine (M0 w0).mono ?_
  rintro e w2 ⟨cs, q, rfl, MM, B2⟩
  replace X0 := X0.below B2
  have s2 := B2.size
  have s0 : w.heap.size < w0.heap.size := X0'.lt
  replace B2 := below_then B0 B2
  clear hw0 a0 a1 a2 a3 a4 B0 X0'
  obtain ⟨Y2, B3⟩ := put_w w2 cs
  have Z2 := blk_new w2 29 #[.int .i64 0, .int .i64 0, .slice none 0 0, .slice none 0 0, .slice none 0 0, .int .i64 0, .int .i64 0, .slice none 0 0]
  generalize hw3 : w2.alloc (.cells #[.int .i64 0, .int .i64 0, .slice none 0 0, .slice none 0 0, .slice none 0 0, .int .i64 0, .int .i64 0, .slice none 0 0] 29) = w3 at *
  generalize hw4 : w3.setRow w2.heap.size cs = w4 at *
  replace X0 := X0.below B3
  replace MM := MM.below B3
  replace B3 := below_then B2 B3
  have hcs := MM.size
  obtain ⟨a0, a1, a2, a3, a4⟩ := cfg_cells X0
  go_wp2_with (refine wpList_store_row rfl 29 _ _ rfl w2.heap.size cs rfl rfl 29 _ Z2 (by rw [hcs]; exact Try.infoW) hcs.symm MM.one ?_; rw [hw4])
  refine (M0 w4).mono ?_
  rintro e w5 ⟨ds, r, rfl, NN, B5⟩
  replace MM := MM.below B5
  replace Y2 := Y2.below B5
  replace X0 := X0.below B5
  have s5 := B5.size
  replace B5 := below_then B3 B5
  clear hw3 hw4 a0 a1 a2 a3 a4 B2 B3 M0 Z2 hcs
  have hlt2 : w2.heap.size < w5.heap.size := Y2.lt
  generalize w2.heap.size = gv at *
  obtain ⟨Y6, B6⟩ := put_w w5 ds
  have Z6 := blk_new w5 29 #[.int .i64 0, .int .i64 0, .slice none 0 0, .slice none 0 0, .slice none 0 0, .int .i64 0, .int .i64 0, .slice none 0 0]
  generalize hw6 : w5.alloc (.cells #[.int .i64 0, .int .i64 0, .slice none 0 0, .slice none 0 0, .slice none 0 0, .int .i64 0, .int .i64 0, .slice none 0 0] 29) = w6 at *
  generalize hw7 : w6.setRow w5.heap.size ds = w7 at *
  replace MM := MM.below B6
  replace NN := NN.below B6
  replace Y2 := Y2.below B6
  replace X0 := X0.below B6
  replace B6 := below_then B5 B6
  have hds := NN.size
  obtain rfl : r = q := NN.err.trans MM.err.symm
  by_cases hq : r = 0
  rotate_left
  · have hq' : (r == 0) = false := by simpa using hq
    go_wp2_with (first | (refine wpList_store_row rfl 29 _ _ rfl w5.heap.size ds rfl rfl 29 _ Z6 (by rw [hds]; exact Try.infoW) hds.symm NN.one ?_; rw [hw7]) | (go_at_call 9; refine (awake6_any _).mono ?_; rintro e w9 ⟨rfl, B9⟩))
    go_ret
    exact ⟨rfl, below_then B6 B9⟩
  · subst hq
    obtain ⟨V, D, Hd, H, L, ge, gB, gl, go, e1, e2, e3, e4, e5, hcw, MW⟩ := MM.ok rfl
    obtain ⟨V2, D2, Hd2, H2, L2, ge2, gB2, gl2, go2, f1, f2, f3, f4, f5, hcw2, NW⟩ := NN.ok rfl
    obtain rfl : V = V2 := by omega
    obtain rfl : D = D2 := by omega
    obtain rfl : Hd = Hd2 := by omega
    obtain rfl : H = H2 := by omega
    obtain rfl : L = L2 := by omega
    have hshape := MM.err.symm
    rw [e1, e2, e3, e4, e5] at X0 hshape
    have k1 := shape_ok hshape
    rw [← mkW_cells V D L ge gB gl go] at hcw
    rw [← mkW_cells V D L ge2 gB2 gl2 go2] at hcw2
    subst hcw
    subst hcw2
    obtain ⟨bl, ML⟩ := madeL_of (i0 := V * D) L (fun j hj => MW.bs j hj)
    obtain ⟨bl2, NL⟩ := madeL_of (i0 := V * D) L (fun j hj => NW.bs j hj)
    have gBl : gB < w7.heap.size := by obtain ⟨c, hc, _⟩ := MW.bl; exact (Array.getElem?_eq_some_iff.1 hc).1
    have gBl2 : gB2 < w7.heap.size := by obtain ⟨c, hc, _⟩ := NW.bl; exact (Array.getElem?_eq_some_iff.1 hc).1
    have HM : Hid (∀ wv, Below w7.heap.size w7 wv → (MadeW wv w0.heap.size seed V D H L ge gB gl go ∧ MadeL wv w0.heap.size seed (V * D) gB D H L bl) ∧ (MadeW wv w4.heap.size seed V D H L ge2 gB2 gl2 go2 ∧ MadeL wv w4.heap.size seed (V * D) gB2 D H L bl2) ∧ Blk wv w.heap.size 23 (cfgC V D Hd H L) ∧ Blk wv gv 29 (mkW V D L ge gB gl go).cells ∧ Blk wv w5.heap.size 29 (mkW V D L ge2 gB2 gl2 go2).cells) := fun wv hb => ⟨⟨MW.below hb, ML.below gBl hb⟩, ⟨NW.below hb, NL.below gBl2 hb⟩, X0.below hb, Y2.below hb, Y6.below hb⟩
    have vd : V * D ≤ 64 * 32 := Nat.mul_le_mul (by omega) (by omega)
    have EC : Hid (∀ k, k < V * D → ∃ x, w7.cell? ⟨ge, k, none⟩ = some (.int .i32 x) ∧ -131072 ≤ x ∧ x < 131072) := fun k hk => by
      have c1 := MW.e.cell hk
      unfold numR at c1
      rw [el_tab hk] at c1
      exact ⟨_, c1, num_bd seed (0 + k)⟩
    have v2 : w7.cell? ⟨gv, 2, none⟩ = some (.slice (some ⟨ge, 0, none⟩) (V * D) (V * D)) := Y2.cell 2 rfl
    have v3 : w7.cell? ⟨gv, 3, none⟩ = some (.slice (some ⟨gB, 0, none⟩) L L) := Y2.cell 3 rfl
    obtain ⟨n, hn⟩ : ∃ n, n = V * D := ⟨_, rfl⟩
    rw [← hn] at v2 EC
    have nle : n ≤ 2048 := by omega
    clear hn MW NW ML NL MM NN X0 Y2 e1 e2 e3 e4 e5 f1 f2 f3 f4 f5 gBl gBl2 hshape
    go_wp2_with (refine wpList_store_row rfl 29 _ _ rfl w5.heap.size _ rfl rfl 29 _ Z6 Try.infoW rfl (wCells_one _ _ _ _ _ _ _ _ _ _ _ _) ?_; rw [hw7])
    clear hw6 hw7 Z6 hds Y6
    go_loopg [44] n (fun r i wr => ∃ k : Nat, k ≤ n ∧ r = n - k ∧ i = .int .i64 k ∧ wr = w7)
    case atStart => exact ⟨0, by omega, by omega, rfl, rfl⟩
    case round =>
      obtain ⟨k, hk, rfl, rfl, hw⟩ := hrel
      subst hw
      generalize wr = w7 at *
      by_cases hlt : k < n
      · obtain ⟨x, cx, x1, x2⟩ := EC.out k hlt
        go_wp2_with fail
        go_roundg (n - (k + 1))
        case measure => omega
        case rel => exact ⟨k + 1, by omega, rfl, by go_num, rfl⟩
      · obtain rfl : k = n := by omega
        go_wp2_with fail
        clear v2 v3 EC
        go_loopg [58] L (fun r i wr => ∃ t : Nat, t ≤ L ∧ r = L - t ∧ i = .int .i64 t ∧ Below w7.heap.size w7 wr)
        case atStart => exact ⟨0, by omega, by omega, rfl, Below.refl _ _⟩
        case round =>
          obtain ⟨t, ht, rfl, rfl, BD⟩ := hrel
          generalize wr = wt at *
          by_cases hlt : t < L
          · obtain ⟨⟨MW, ML⟩, -, -, -, -⟩ := HM.out wt BD
            obtain ⟨x, hx⟩ : ∃ x, bl[t]? = some x := ⟨_, List.getElem?_eq_getElem (by rw [ML.len]; exact hlt)⟩
            obtain ⟨RG0, xf, xq, xk, xv, xo, xs, xu, xd, rfl, MB⟩ := ML.at_ t x hx
            have RG : wt.rangeAt gB (t * 20) [.slice (some ⟨xf, 0, none⟩) D D, .int .i64 D, .int .i64 D, .slice (some ⟨xq, 0, none⟩) (D * D) (D * D), .int .i64 D, .int .i64 D, .slice (some ⟨xk, 0, none⟩) (D * D) (D * D), .int .i64 D, .int .i64 D, .slice (some ⟨xv, 0, none⟩) (D * D) (D * D), .int .i64 D, .int .i64 D, .slice (some ⟨xo, 0, none⟩) (D * D) (D * D), .slice (some ⟨xs, 0, none⟩) D D, .int .i64 H, .int .i64 D, .slice (some ⟨xu, 0, none⟩) (H * D) (H * D), .int .i64 D, .int .i64 H, .slice (some ⟨xd, 0, none⟩) (D * H) (D * H)] := RG0
            have Gf := MB.f
            have Gs := MB.s
            have HF : Hid (∀ wv, Below wt.heap.size wt wv → (∃ A, RowAt wv (some ⟨xf, 0, none⟩) D A ∧ ∀ y, y ∈ A → 49152 ≤ y ∧ y < 81920) ∧ (∃ A, RowAt wv (some ⟨xs, 0, none⟩) D A ∧ ∀ y, y ∈ A → 49152 ≤ y ∧ y < 81920)) := fun wv hb => ⟨⟨_, (Gf.below hb).rowAt, fun y hy => gain_mem hy⟩, ⟨_, (Gs.below hb).rowAt, fun y hy => gain_mem hy⟩⟩
            clear RG0 MB Gf Gs MW ML hx
            have XZ := blk_new wt 57 #[.slice none 0 0, .int .i64 0, .int .i64 0, .slice none 0 0, .int .i64 0, .int .i64 0, .slice none 0 0, .int .i64 0, .int .i64 0, .slice none 0 0, .int .i64 0, .int .i64 0, .slice none 0 0, .slice none 0 0, .int .i64 0, .int .i64 0, .slice none 0 0, .int .i64 0, .int .i64 0, .slice none 0 0]
            have BZ : Below wt.heap.size wt (wt.alloc (.cells #[.slice none 0 0, .int .i64 0, .int .i64 0, .slice none 0 0, .int .i64 0, .int .i64 0, .slice none 0 0, .int .i64 0, .int .i64 0, .slice none 0 0, .int .i64 0, .int .i64 0, .slice none 0 0, .slice none 0 0, .int .i64 0, .int .i64 0, .slice none 0 0, .int .i64 0, .int .i64 0, .slice none 0 0] 57)) := (Below.refl _ _).alloc (Nat.le_refl _) _
            generalize hwz : wt.alloc (.cells #[.slice none 0 0, .int .i64 0, .int .i64 0, .slice none 0 0, .int .i64 0, .int .i64 0, .slice none 0 0, .int .i64 0, .int .i64 0, .slice none 0 0, .int .i64 0, .int .i64 0, .slice none 0 0, .slice none 0 0, .int .i64 0, .int .i64 0, .slice none 0 0, .int .i64 0, .int .i64 0, .slice none 0 0] 57) = wz at *
            have one : Array.all (#[.slice (some ⟨xf, 0, none⟩) D D, .int .i64 D, .int .i64 D, .slice (some ⟨xq, 0, none⟩) (D * D) (D * D), .int .i64 D, .int .i64 D, .slice (some ⟨xk, 0, none⟩) (D * D) (D * D), .int .i64 D, .int .i64 D, .slice (some ⟨xv, 0, none⟩) (D * D) (D * D), .int .i64 D, .int .i64 D, .slice (some ⟨xo, 0, none⟩) (D * D) (D * D), .slice (some ⟨xs, 0, none⟩) D D, .int .i64 H, .int .i64 D, .slice (some ⟨xu, 0, none⟩) (H * D) (H * D), .int .i64 D, .int .i64 H, .slice (some ⟨xd, 0, none⟩) (D * H) (D * H)] : Array Value) (fun v => v.oneCell') = true := by simp [Value.oneCell']
            have XR := XZ.row #[.slice (some ⟨xf, 0, none⟩) D D, .int .i64 D, .int .i64 D, .slice (some ⟨xq, 0, none⟩) (D * D) (D * D), .int .i64 D, .int .i64 D, .slice (some ⟨xk, 0, none⟩) (D * D) (D * D), .int .i64 D, .int .i64 D, .slice (some ⟨xv, 0, none⟩) (D * D) (D * D), .int .i64 D, .int .i64 D, .slice (some ⟨xo, 0, none⟩) (D * D) (D * D), .slice (some ⟨xs, 0, none⟩) D D, .int .i64 H, .int .i64 D, .slice (some ⟨xu, 0, none⟩) (H * D) (H * D), .int .i64 D, .int .i64 H, .slice (some ⟨xd, 0, none⟩) (D * H) (D * H)]
            have BW := below_setRow BZ (Nat.le_refl _) #[.slice (some ⟨xf, 0, none⟩) D D, .int .i64 D, .int .i64 D, .slice (some ⟨xq, 0, none⟩) (D * D) (D * D), .int .i64 D, .int .i64 D, .slice (some ⟨xk, 0, none⟩) (D * D) (D * D), .int .i64 D, .int .i64 D, .slice (some ⟨xv, 0, none⟩) (D * D) (D * D), .int .i64 D, .int .i64 D, .slice (some ⟨xo, 0, none⟩) (D * D) (D * D), .slice (some ⟨xs, 0, none⟩) D D, .int .i64 H, .int .i64 D, .slice (some ⟨xu, 0, none⟩) (H * D) (H * D), .int .i64 D, .int .i64 H, .slice (some ⟨xd, 0, none⟩) (D * H) (D * H)]
            generalize hwy : wz.setRow wt.heap.size #[.slice (some ⟨xf, 0, none⟩) D D, .int .i64 D, .int .i64 D, .slice (some ⟨xq, 0, none⟩) (D * D) (D * D), .int .i64 D, .int .i64 D, .slice (some ⟨xk, 0, none⟩) (D * D) (D * D), .int .i64 D, .int .i64 D, .slice (some ⟨xv, 0, none⟩) (D * D) (D * D), .int .i64 D, .int .i64 D, .slice (some ⟨xo, 0, none⟩) (D * D) (D * D), .slice (some ⟨xs, 0, none⟩) D D, .int .i64 H, .int .i64 D, .slice (some ⟨xu, 0, none⟩) (H * D) (H * D), .int .i64 D, .int .i64 H, .slice (some ⟨xd, 0, none⟩) (D * H) (D * H)] = wy at *
            go_wp2_with (first | (refine wpList_load_mid rfl 57 _ rfl gB (t * 20) rfl [.slice (some ⟨xf, 0, none⟩) D D, .int .i64 D, .int .i64 D, .slice (some ⟨xq, 0, none⟩) (D * D) (D * D), .int .i64 D, .int .i64 D, .slice (some ⟨xk, 0, none⟩) (D * D) (D * D), .int .i64 D, .int .i64 D, .slice (some ⟨xv, 0, none⟩) (D * D) (D * D), .int .i64 D, .int .i64 D, .slice (some ⟨xo, 0, none⟩) (D * D) (D * D), .slice (some ⟨xs, 0, none⟩) D D, .int .i64 H, .int .i64 D, .slice (some ⟨xu, 0, none⟩) (H * D) (H * D), .int .i64 D, .int .i64 H, .slice (some ⟨xd, 0, none⟩) (D * H) (D * H)] _ RG Try.underlying57 rfl Try.infoB ?_) | (refine wpList_store_row rfl 57 _ _ rfl wt.heap.size #[.slice (some ⟨xf, 0, none⟩) D D, .int .i64 D, .int .i64 D, .slice (some ⟨xq, 0, none⟩) (D * D) (D * D), .int .i64 D, .int .i64 D, .slice (some ⟨xk, 0, none⟩) (D * D) (D * D), .int .i64 D, .int .i64 D, .slice (some ⟨xv, 0, none⟩) (D * D) (D * D), .int .i64 D, .int .i64 D, .slice (some ⟨xo, 0, none⟩) (D * D) (D * D), .slice (some ⟨xs, 0, none⟩) D D, .int .i64 H, .int .i64 D, .slice (some ⟨xu, 0, none⟩) (H * D) (H * D), .int .i64 D, .int .i64 H, .slice (some ⟨xd, 0, none⟩) (D * H) (D * H)] rfl rfl 57 _ XZ Try.infoB rfl one ?_; rw [hwy]))
            clear XZ BZ hwz hwy RG one
            replace BW := BW.drew
            replace XR : Blk wy.drew wt.heap.size _ _ := XR
            refine wp_region_held_drew (S := fun w' => Blk w' wt.heap.size 57 #[.slice (some ⟨xf, 0, none⟩) D D, .int .i64 D, .int .i64 D, .slice (some ⟨xq, 0, none⟩) (D * D) (D * D), .int .i64 D, .int .i64 D, .slice (some ⟨xk, 0, none⟩) (D * D) (D * D), .int .i64 D, .int .i64 D, .slice (some ⟨xv, 0, none⟩) (D * D) (D * D), .int .i64 D, .int .i64 D, .slice (some ⟨xo, 0, none⟩) (D * D) (D * D), .slice (some ⟨xs, 0, none⟩) D D, .int .i64 H, .int .i64 D, .slice (some ⟨xu, 0, none⟩) (H * D) (H * D), .int .i64 D, .int .i64 H, .slice (some ⟨xd, 0, none⟩) (D * H) (D * H)]) (by kernel_rfl) (XR) (fun hHeld => ?_)
            generalize hA : wy.drew = wA at *
            clear hA
            refine wpAnyH_take (i := 1) (v := (.pointer (some ⟨wt.heap.size, 0, none⟩))) rfl (by kernel_rfl) (by kernel_rfl) (by kernel_rfl) (fun _ _ _ h => h) (Or.inl ⟨by rfl, ?_⟩) (by assumption) ?_
            · intro w' hSw
              go_simp
            simp only [List.getElem_toArray, List.getElem_cons_succ, List.getElem_cons_zero, Act.put, List.setIfInBounds_toArray, List.set_cons_zero, List.set_cons_succ]
            refine wpAnyH_take (i := 2) (v := (.slice (some ⟨xf, 0, none⟩) D D)) rfl (by kernel_rfl) (by kernel_rfl) (by kernel_rfl) (fun _ _ _ h => h) (Or.inl ⟨by rfl, ?_⟩) (by assumption) ?_
            · intro w' hSw
              have cc0 : w'.cell? ⟨wt.heap.size, 0, none⟩ = some (.slice (some ⟨xf, 0, none⟩) D D) := hSw.cell 0 rfl
              go_simp
            simp only [List.getElem_toArray, List.getElem_cons_succ, List.getElem_cons_zero, Act.put, List.setIfInBounds_toArray, List.set_cons_zero, List.set_cons_succ]
            refine wpAnyH_take (i := 4) (v := (.pointer (some ⟨wt.heap.size, 13, none⟩))) rfl (by kernel_rfl) (by kernel_rfl) (by kernel_rfl) (fun _ _ _ h => h) (Or.inl ⟨by rfl, ?_⟩) (by assumption) ?_
            · intro w' hSw
              go_simp
            simp only [List.getElem_toArray, List.getElem_cons_succ, List.getElem_cons_zero, Act.put, List.setIfInBounds_toArray, List.set_cons_zero, List.set_cons_succ]
            refine wpAnyH_take (i := 5) (v := (.slice (some ⟨xs, 0, none⟩) D D)) rfl (by kernel_rfl) (by kernel_rfl) (by kernel_rfl) (fun _ _ _ h => h) (Or.inl ⟨by rfl, ?_⟩) (by assumption) ?_
            · intro w' hSw
              have cc13 : w'.cell? ⟨wt.heap.size, 13, none⟩ = some (.slice (some ⟨xs, 0, none⟩) D D) := hSw.cell 13 rfl
              go_simp
            simp only [List.getElem_toArray, List.getElem_cons_succ, List.getElem_cons_zero, Act.put, List.setIfInBounds_toArray, List.set_cons_zero, List.set_cons_succ]
            refine wpAnyH_take (i := 8) (v := (.int .i64 0)) rfl (by kernel_rfl) (by kernel_rfl) (by kernel_rfl) (fun _ _ _ h => h) (Or.inl ⟨by rfl, ?_⟩) (by assumption) ?_
            · intro w' hSw
              go_simp
            simp only [List.getElem_toArray, List.getElem_cons_succ, List.getElem_cons_zero, Act.put, List.setIfInBounds_toArray, List.set_cons_zero, List.set_cons_succ]
            have ltA := XR.lt
            refine wpAnyH_ready (rs := [0]) (by kernel_rfl) (by simp) ?_
            refine AllReadyH.cons rfl (fun Kc hKc => ?_) AllReadyH.nil
            simp only [List.getElem_toArray, List.getElem_cons_zero]
            rw [if_pos (by rfl)]
            go_wp2_with fail
            have F0 := fresh_empty wA
            have EM : Below wA.heap.size wA (wA.alloc (.cells #[] 55)) := (Below.refl _ _).alloc (Nat.le_refl _) _
            generalize hn : wA.alloc (.cells #[] 55) = wB at *
            have sB := EM.size
            replace XR := XR.below EM
            replace BW := below_then BW EM
            clear hn EM
            refine hKc.out _ _ XR (fun hHeld => ?_)
            clear hKc Kc
            obtain ⟨⟨Af, Rf, Ef⟩, -⟩ := HF.out wB BW
            have zA := ltA
            have szt : wt.heap.size ≤ wA.heap.size := Nat.le_of_lt ltA
            refine wpAnyH_ready (rs := [3]) (by kernel_rfl) (by simp) ?_
            refine AllReadyH.cons rfl (fun Kc hKc => ?_) AllReadyH.nil
            simp only [List.getElem_toArray, List.getElem_cons_succ, List.getElem_cons_zero]
            rw [if_pos (by rfl)]
            refine wp_append_fresh _ _ rfl wA.heap.size wA.heap.size 0 0 _ rfl F0 xf D D Af rfl Rf (by omega) (by omega) ?_
            intro g1 c1 wC F1 BC so
            replace XR := XR.of_block (BC.block _ ltA)
            replace BW := BW.trans (BC.mono szt)
            replace sB := Nat.le_trans sB BC.size
            clear so F0 Rf BC
            refine hKc.out _ _ XR (fun hHeld => ?_)
            clear hKc Kc
            obtain ⟨-, ⟨As, Rs, Es⟩⟩ := HF.out wC BW
            refine wpAnyH_ready (rs := [6]) (by kernel_rfl) (by simp) ?_
            refine AllReadyH.cons rfl (fun Kc hKc => ?_) AllReadyH.nil
            simp only [List.getElem_toArray, List.getElem_cons_succ, List.getElem_cons_zero]
            rw [if_pos (by rfl)]
            refine wp_append_fresh _ _ rfl wA.heap.size g1 (0 + D) c1 _ rfl F1 xs D D As rfl Rs (by omega) (by omega) ?_
            intro g2 c2 wE F2 BC so
            replace XR := XR.of_block (BC.block _ ltA)
            replace BW := BW.trans (BC.mono szt)
            replace sB := Nat.le_trans sB BC.size
            clear so F1 Rs BC
            refine hKc.out _ _ XR (fun hHeld => ?_)
            clear hKc Kc
            refine wpAnyH_take (i := 7) (v := (.int .i64 ((0 + D + D : Nat) : Int))) rfl (by kernel_rfl) (by kernel_rfl) (by kernel_rfl) (fun _ _ _ h => h) (Or.inl ⟨by rfl, ?_⟩) (by assumption) ?_
            · intro w' hSw
              go_simp
            simp only [List.getElem_toArray, List.getElem_cons_succ, List.getElem_cons_zero, Act.put, List.setIfInBounds_toArray, List.set_cons_zero, List.set_cons_succ]
            refine wpAnyH_done (by kernel_rfl) ?_ _
            clear hHeld
            rw [Nat.zero_add] at F2
            simp only [Nat.zero_add]
            obtain ⟨n2, hn2⟩ : ∃ n2, n2 = D + D := ⟨_, rfl⟩
            rw [← hn2] at F2 ⊢
            have n2le : n2 ≤ 64 := by omega
            clear hn2
            have EX : Hid (∀ k, k < n2 → ∃ x, wE.cell? ⟨g2, k, none⟩ = some (.int .i32 x) ∧ 49152 ≤ x ∧ x < 81920) := fun k hk => ⟨_, F2.cell hk, by
              have hm := el_mem (A := [] ++ Af ++ As) (k := k) (by rw [F2.len]; exact hk)
              rcases List.mem_append.1 hm with h | h
              · exact Ef _ (by simpa using h)
              · exact Es _ h⟩
            have BE := below_then BD BW
            clear F2 XR BW BD HF Ef Es sB ltA zA szt
            go_wp2_with fail
            go_loopg [70] n2 (fun r i wr => ∃ k : Nat, k ≤ n2 ∧ r = n2 - k ∧ i = .int .i64 k ∧ wr = wE)
            case atStart => exact ⟨0, by omega, by omega, rfl, rfl⟩
            case round =>
              obtain ⟨k2, hk2, rfl, rfl, hw⟩ := hrel
              subst hw
              generalize wr = wE at *
              by_cases hlt2 : k2 < n2
              · obtain ⟨x, cx, x1, x2⟩ := EX.out k2 hlt2
                go_wp2_with fail
                go_roundg (n2 - (k2 + 1))
                case measure => omega
                case rel => exact ⟨k2 + 1, by omega, rfl, by go_num, rfl⟩
              · obtain rfl : k2 = n2 := by omega
                go_wp2_with fail
                go_roundg (L - (t + 1))
                case measure => omega
                case rel => exact ⟨t + 1, by omega, rfl, by go_num, BE⟩
          · obtain rfl : t = L := by omega
            obtain ⟨-, -, X0, Y2, Y6⟩ := HM.out wt BD
            obtain ⟨n15, hn15⟩ : ∃ x : Nat, x = 2 * V := ⟨_, rfl⟩
            have bn15 : n15 ≤ 128 := by omega
            have wn15 := wtwo hn15 (by omega)
            obtain ⟨n18, hn18⟩ : ∃ x : Nat, x = n15 * D := ⟨_, rfl⟩
            have bn18 : n18 ≤ 128 * 32 := by rw [hn18]; exact Nat.mul_le_mul (by omega) (by omega)
            have wn18 := wmul hn18 (by omega)
            obtain ⟨n21, hn21⟩ : ∃ x : Nat, x = n18 + D := ⟨_, rfl⟩
            have bn21 : n21 ≤ 5000 := by omega
            have wn21 := wadd hn21 (by omega)
            obtain ⟨n26, hn26⟩ : ∃ x : Nat, x = 2 * D := ⟨_, rfl⟩
            have bn26 : n26 ≤ 64 := by omega
            have wn26 := wtwo hn26 (by omega)
            obtain ⟨n29, hn29⟩ : ∃ x : Nat, x = 4 * D := ⟨_, rfl⟩
            have bn29 : n29 ≤ 128 := by omega
            have wn29 := wfour hn29 (by omega)
            obtain ⟨n32, hn32⟩ : ∃ x : Nat, x = n29 * D := ⟨_, rfl⟩
            have bn32 : n32 ≤ 128 * 32 := by rw [hn32]; exact Nat.mul_le_mul (by omega) (by omega)
            have wn32 := wmul hn32 (by omega)
            obtain ⟨n33, hn33⟩ : ∃ x : Nat, x = n26 + n32 := ⟨_, rfl⟩
            have bn33 : n33 ≤ 5000 := by omega
            have wn33 := wadd hn33 (by omega)
            obtain ⟨n39, hn39⟩ : ∃ x : Nat, x = n26 * H := ⟨_, rfl⟩
            have bn39 : n39 ≤ 64 * 64 := by rw [hn39]; exact Nat.mul_le_mul (by omega) (by omega)
            have wn39 := wmul hn39 (by omega)
            obtain ⟨n40, hn40⟩ : ∃ x : Nat, x = n33 + n39 := ⟨_, rfl⟩
            have bn40 : n40 ≤ 10000 := by omega
            have wn40 := wadd hn40 (by omega)
            obtain ⟨n41, hn41⟩ : ∃ x : Nat, x = t * n40 := ⟨_, rfl⟩
            have bn41 : n41 ≤ 4 * 10000 := by rw [hn41]; exact Nat.mul_le_mul (by omega) (by omega)
            have wn41 := wmul hn41 (by omega)
            obtain ⟨n42, hn42⟩ : ∃ x : Nat, x = n21 + n41 := ⟨_, rfl⟩
            have bn42 : n42 ≤ 50000 := by omega
            have wn42 := wadd hn42 (by omega)
            have hfin : V * D + D + t * lenB D H + V * D = n42 := by
              have e1 : lenB D H = n40 := by rw [lenB_eq, hn40, hn33, hn39, hn32, hn26, hn29]
              have e2 : n18 = 2 * (V * D) := by rw [hn18, hn15, Nat.mul_assoc]
              rw [e1, hn42, hn41, hn21, e2]
              omega
            have LA := fun wv (S : Sl) (hb : BlocksAt wv S bl) (hS : S.n = t) (MW : MadeW wv w0.heap.size seed V D H t ge gB gl go) (ML : MadeL wv w0.heap.size seed (V * D) gB D H t bl) => list_any V D H t ge gl go S bl wv (by omega) (by omega) (by omega) (by omega) hb hS ⟨_, MW.e.rowAt⟩ ⟨_, MW.l.rowAt⟩ ⟨_, MW.o.rowAt⟩ (fun x hx => by obtain ⟨j, hj⟩ := List.mem_iff_getElem?.1 hx; obtain ⟨_, f, q, k, v, o, s, u, d, rfl, MB⟩ := ML.at_ j x hj; exact brw_of MB)
            rw [hfin] at LA
            clear hfin hn15 hn18 hn21 hn26 hn29 hn32 hn33 hn39 hn40 hn41 hn42
            replace X0 := X0.below ((Below.refl _ _).drew)
            replace Y2 := Y2.below ((Below.refl _ _).drew)
            replace Y6 := Y6.below ((Below.refl _ _).drew)
            replace BD := BD.drew
            go_wp2_with fail
            refine wp_region_held_drew (S := fun w' => Blk w' w.heap.size 23 (cfgC V D Hd H t) ∧ Blk w' gv 29 (mkW V D t ge gB gl go).cells ∧ Blk w' w5.heap.size 29 (mkW V D t ge2 gB2 gl2 go2).cells) (by kernel_rfl) (⟨X0, Y2, Y6⟩) (fun hHeld => ?_)
            generalize hA : wt.drew = wA at *
            clear hA
            refine wpAnyH_ready (rs := [0]) (by kernel_rfl) (by simp) ?_
            refine AllReadyH.cons rfl (fun Kc hKc => ?_) AllReadyH.nil
            simp only [List.getElem_toArray, List.getElem_cons_zero]
            rw [if_pos (by rfl)]
            go_wp2_with fail
            refine (awake6_any _).mono ?_
            rintro e wB ⟨rfl, EM⟩
            replace X0 := X0.below EM
            replace Y2 := Y2.below EM
            replace Y6 := Y6.below EM
            replace BD := below_then BD EM
            go_wp2_with fail
            refine hKc.out _ _ (⟨X0, Y2, Y6⟩) (fun hHeld => ?_)
            clear hKc Kc
            clear EM
            refine wpAnyH_take (i := 1) (v := (.bool true)) rfl (by kernel_rfl) (by kernel_rfl) (by kernel_rfl) (fun _ _ _ h => h) (Or.inl ⟨by rfl, ?_⟩) (by assumption) ?_
            · intro w' hSw
              go_simp
            simp only [List.getElem_toArray, List.getElem_cons_succ, List.getElem_cons_zero, Act.put, List.setIfInBounds_toArray, List.set_cons_zero, List.set_cons_succ]
            refine wpAnyH_take (i := 2) (v := .agg (mkW V D t ge gB gl go).cells) rfl (by kernel_rfl) (by kernel_rfl) (by kernel_rfl) (fun _ _ _ h => h) (yields_row (by rfl) 29 _ rfl gv rfl 29 (mkW V D t ge gB gl go).cells _ (fun w' hS => hS.2.1) Try.underlying29 rfl Try.infoW) (by assumption) ?_
            simp only [List.getElem_toArray, List.getElem_cons_succ, List.getElem_cons_zero, Act.put, List.setIfInBounds_toArray, List.set_cons_zero, List.set_cons_succ]
            refine wpAnyH_take (i := 4) (v := .agg (mkW V D t ge2 gB2 gl2 go2).cells) rfl (by kernel_rfl) (by kernel_rfl) (by kernel_rfl) (fun _ _ _ h => h) (yields_row (by rfl) 29 _ rfl w5.heap.size rfl 29 (mkW V D t ge2 gB2 gl2 go2).cells _ (fun w' hS => hS.2.2) Try.underlying29 rfl Try.infoW) (by assumption) ?_
            simp only [List.getElem_toArray, List.getElem_cons_succ, List.getElem_cons_zero, Act.put, List.setIfInBounds_toArray, List.set_cons_zero, List.set_cons_succ]
            have BL := (HM.out _ BD).1.2.blocks (by omega) (by omega) (by omega)
            refine wpAnyH_ready (rs := [3]) (by kernel_rfl) (by simp) ?_
            refine AllReadyH.cons rfl (fun Kc hKc => ?_) AllReadyH.nil
            simp only [List.getElem_toArray, List.getElem_cons_succ, List.getElem_cons_zero]
            rw [if_pos (by rfl)]
            go_wp2_with fail
            refine (full_any (mkW V D t ge gB gl go) bl _ BL (by show t ≤ 1000; omega)).mono ?_
            rintro e wC ⟨S1, rfl, O1, EM⟩
            replace X0 := X0.below EM
            replace Y2 := Y2.below EM
            replace Y6 := Y6.below EM
            replace BD := below_then BD EM
            go_wp2_with fail
            refine hKc.out _ _ (⟨X0, Y2, Y6⟩) (fun hHeld => ?_)
            clear hKc Kc
            clear BL
            clear EM
            have BL := (HM.out _ BD).2.1.2.blocks (by omega) (by omega) (by omega)
            refine wpAnyH_ready (rs := [5]) (by kernel_rfl) (by simp) ?_
            refine AllReadyH.cons rfl (fun Kc hKc => ?_) AllReadyH.nil
            simp only [List.getElem_toArray, List.getElem_cons_succ, List.getElem_cons_zero]
            rw [if_pos (by rfl)]
            go_wp2_with fail
            refine (full_any (mkW V D t ge2 gB2 gl2 go2) bl2 _ BL (by show t ≤ 1000; omega)).mono ?_
            rintro e wD ⟨S2, rfl, O2, EM⟩
            replace X0 := X0.below EM
            replace Y2 := Y2.below EM
            replace Y6 := Y6.below EM
            replace BD := below_then BD EM
            go_wp2_with fail
            refine hKc.out _ _ (⟨X0, Y2, Y6⟩) (fun hHeld => ?_)
            clear hKc Kc
            clear BL
            replace O1 := O1.below EM
            clear EM
            obtain ⟨⟨MW, ML⟩, ⟨NW, NL⟩, -⟩ := HM.out _ BD
            have SM := same6_any ⟨(mkW V D t ge gB gl go).e, S1, (mkW V D t ge gB gl go).l, (mkW V D t ge gB gl go).o⟩ ⟨(mkW V D t ge2 gB2 gl2 go2).e, S2, (mkW V D t ge2 gB2 gl2 go2).l, (mkW V D t ge2 gB2 gl2 go2).o⟩ bl bl2 wD O1.blocks O2.blocks (by show S2.n = S1.n; rw [← O1.len, ← O2.len, ML.len, NL.len]) ⟨rfl, rfl, rfl, _, MW.e.rowAt, NW.e.rowAt⟩ ⟨rfl, _, MW.l.rowAt, NW.l.rowAt⟩ ⟨rfl, rfl, rfl, _, MW.o.rowAt, NW.o.rowAt⟩ (fun j x y hx hy => by obtain ⟨_, f, q, k, v, o, s, u, d, rfl, MB⟩ := ML.at_ j x hx; obtain ⟨_, f2, q2, k2, v2, o2, s2, u2, d2, rfl, NB⟩ := NL.at_ j y hy; exact bk_two MB NB)
            refine wpAnyH_ready (rs := [6]) (by kernel_rfl) (by simp) ?_
            refine AllReadyH.cons rfl (fun Kc hKc => ?_) AllReadyH.nil
            simp only [List.getElem_toArray, List.getElem_cons_succ, List.getElem_cons_zero]
            rw [if_pos (by rfl)]
            go_wp2_with fail
            refine SM.mono ?_
            rintro e wE ⟨rfl, EM⟩
            replace X0 := X0.below EM
            replace Y2 := Y2.below EM
            replace Y6 := Y6.below EM
            replace BD := below_then BD EM
            go_wp2_with fail
            refine hKc.out _ _ (⟨X0, Y2, Y6⟩) (fun hHeld => ?_)
            clear hKc Kc
            clear EM SM MW ML NW NL O1 O2
            refine wpAnyH_take (i := 7) (v := (.bool true)) rfl (by kernel_rfl) (by kernel_rfl) (by kernel_rfl) (fun _ _ _ h => h) (Or.inl ⟨by rfl, ?_⟩) (by assumption) ?_
            · intro w' hSw
              go_simp
            simp only [List.getElem_toArray, List.getElem_cons_succ, List.getElem_cons_zero, Act.put, List.setIfInBounds_toArray, List.set_cons_zero, List.set_cons_succ]
            refine wpAnyH_take (i := 8) (v := (.bool true)) rfl (by kernel_rfl) (by kernel_rfl) (by kernel_rfl) (fun _ _ _ h => h) (Or.inl ⟨by rfl, ?_⟩) (by assumption) ?_
            · intro w' hSw
              go_simp
            simp only [List.getElem_toArray, List.getElem_cons_succ, List.getElem_cons_zero, Act.put, List.setIfInBounds_toArray, List.set_cons_zero, List.set_cons_succ]
            refine wpAnyH_take (i := 9) (v := .agg (mkW V D t ge gB gl go).cells) rfl (by kernel_rfl) (by kernel_rfl) (by kernel_rfl) (fun _ _ _ h => h) (yields_row (by rfl) 29 _ rfl gv rfl 29 (mkW V D t ge gB gl go).cells _ (fun w' hS => hS.2.1) Try.underlying29 rfl Try.infoW) (by assumption) ?_
            simp only [List.getElem_toArray, List.getElem_cons_succ, List.getElem_cons_zero, Act.put, List.setIfInBounds_toArray, List.set_cons_zero, List.set_cons_succ]
            refine wpAnyH_take (i := 13) (v := (.pointer (some ⟨w.heap.size, 0, none⟩))) rfl (by kernel_rfl) (by kernel_rfl) (by kernel_rfl) (fun _ _ _ h => h) (Or.inl ⟨by rfl, ?_⟩) (by assumption) ?_
            · intro w' hSw
              go_simp
            simp only [List.getElem_toArray, List.getElem_cons_succ, List.getElem_cons_zero, Act.put, List.setIfInBounds_toArray, List.set_cons_zero, List.set_cons_succ]
            refine wpAnyH_take (i := 14) (v := (.int .i64 (V : Int))) rfl (by kernel_rfl) (by kernel_rfl) (by kernel_rfl) (fun _ _ _ h => h) (Or.inl ⟨by rfl, ?_⟩) (by assumption) ?_
            · intro w' hSw
              have cc : w'.cell? ⟨w.heap.size, 0, none⟩ = some (.int .i64 (V : Int)) := hSw.1.cell 0 rfl
              go_simp
            simp only [List.getElem_toArray, List.getElem_cons_succ, List.getElem_cons_zero, Act.put, List.setIfInBounds_toArray, List.set_cons_zero, List.set_cons_succ]
            refine wpAnyH_take (i := 15) (v := (.int .i64 (n15 : Int))) rfl (by kernel_rfl) (by kernel_rfl) (by kernel_rfl) (fun _ _ _ h => h) (Or.inl ⟨by rfl, ?_⟩) (by assumption) ?_
            · intro w' hSw
              go_simp
            simp only [List.getElem_toArray, List.getElem_cons_succ, List.getElem_cons_zero, Act.put, List.setIfInBounds_toArray, List.set_cons_zero, List.set_cons_succ]
            refine wpAnyH_take (i := 16) (v := (.pointer (some ⟨w.heap.size, 1, none⟩))) rfl (by kernel_rfl) (by kernel_rfl) (by kernel_rfl) (fun _ _ _ h => h) (Or.inl ⟨by rfl, ?_⟩) (by assumption) ?_
            · intro w' hSw
              go_simp
            simp only [List.getElem_toArray, List.getElem_cons_succ, List.getElem_cons_zero, Act.put, List.setIfInBounds_toArray, List.set_cons_zero, List.set_cons_succ]
            refine wpAnyH_take (i := 17) (v := (.int .i64 (D : Int))) rfl (by kernel_rfl) (by kernel_rfl) (by kernel_rfl) (fun _ _ _ h => h) (Or.inl ⟨by rfl, ?_⟩) (by assumption) ?_
            · intro w' hSw
              have cc : w'.cell? ⟨w.heap.size, 1, none⟩ = some (.int .i64 (D : Int)) := hSw.1.cell 1 rfl
              go_simp
            simp only [List.getElem_toArray, List.getElem_cons_succ, List.getElem_cons_zero, Act.put, List.setIfInBounds_toArray, List.set_cons_zero, List.set_cons_succ]
            refine wpAnyH_take (i := 18) (v := (.int .i64 (n18 : Int))) rfl (by kernel_rfl) (by kernel_rfl) (by kernel_rfl) (fun _ _ _ h => h) (Or.inl ⟨by rfl, ?_⟩) (by assumption) ?_
            · intro w' hSw
              go_simp
            simp only [List.getElem_toArray, List.getElem_cons_succ, List.getElem_cons_zero, Act.put, List.setIfInBounds_toArray, List.set_cons_zero, List.set_cons_succ]
            refine wpAnyH_take (i := 19) (v := (.pointer (some ⟨w.heap.size, 1, none⟩))) rfl (by kernel_rfl) (by kernel_rfl) (by kernel_rfl) (fun _ _ _ h => h) (Or.inl ⟨by rfl, ?_⟩) (by assumption) ?_
            · intro w' hSw
              go_simp
            simp only [List.getElem_toArray, List.getElem_cons_succ, List.getElem_cons_zero, Act.put, List.setIfInBounds_toArray, List.set_cons_zero, List.set_cons_succ]
            refine wpAnyH_take (i := 20) (v := (.int .i64 (D : Int))) rfl (by kernel_rfl) (by kernel_rfl) (by kernel_rfl) (fun _ _ _ h => h) (Or.inl ⟨by rfl, ?_⟩) (by assumption) ?_
            · intro w' hSw
              have cc : w'.cell? ⟨w.heap.size, 1, none⟩ = some (.int .i64 (D : Int)) := hSw.1.cell 1 rfl
              go_simp
            simp only [List.getElem_toArray, List.getElem_cons_succ, List.getElem_cons_zero, Act.put, List.setIfInBounds_toArray, List.set_cons_zero, List.set_cons_succ]
            refine wpAnyH_take (i := 21) (v := (.int .i64 (n21 : Int))) rfl (by kernel_rfl) (by kernel_rfl) (by kernel_rfl) (fun _ _ _ h => h) (Or.inl ⟨by rfl, ?_⟩) (by assumption) ?_
            · intro w' hSw
              go_simp
            simp only [List.getElem_toArray, List.getElem_cons_succ, List.getElem_cons_zero, Act.put, List.setIfInBounds_toArray, List.set_cons_zero, List.set_cons_succ]
            refine wpAnyH_take (i := 22) (v := (.pointer (some ⟨w.heap.size, 4, none⟩))) rfl (by kernel_rfl) (by kernel_rfl) (by kernel_rfl) (fun _ _ _ h => h) (Or.inl ⟨by rfl, ?_⟩) (by assumption) ?_
            · intro w' hSw
              go_simp
            simp only [List.getElem_toArray, List.getElem_cons_succ, List.getElem_cons_zero, Act.put, List.setIfInBounds_toArray, List.set_cons_zero, List.set_cons_succ]
            refine wpAnyH_take (i := 23) (v := (.int .i64 (t : Int))) rfl (by kernel_rfl) (by kernel_rfl) (by kernel_rfl) (fun _ _ _ h => h) (Or.inl ⟨by rfl, ?_⟩) (by assumption) ?_
            · intro w' hSw
              have cc : w'.cell? ⟨w.heap.size, 4, none⟩ = some (.int .i64 (t : Int)) := hSw.1.cell 4 rfl
              go_simp
            simp only [List.getElem_toArray, List.getElem_cons_succ, List.getElem_cons_zero, Act.put, List.setIfInBounds_toArray, List.set_cons_zero, List.set_cons_succ]
            refine wpAnyH_take (i := 24) (v := (.pointer (some ⟨w.heap.size, 1, none⟩))) rfl (by kernel_rfl) (by kernel_rfl) (by kernel_rfl) (fun _ _ _ h => h) (Or.inl ⟨by rfl, ?_⟩) (by assumption) ?_
            · intro w' hSw
              go_simp
            simp only [List.getElem_toArray, List.getElem_cons_succ, List.getElem_cons_zero, Act.put, List.setIfInBounds_toArray, List.set_cons_zero, List.set_cons_succ]
            refine wpAnyH_take (i := 25) (v := (.int .i64 (D : Int))) rfl (by kernel_rfl) (by kernel_rfl) (by kernel_rfl) (fun _ _ _ h => h) (Or.inl ⟨by rfl, ?_⟩) (by assumption) ?_
            · intro w' hSw
              have cc : w'.cell? ⟨w.heap.size, 1, none⟩ = some (.int .i64 (D : Int)) := hSw.1.cell 1 rfl
              go_simp
            simp only [List.getElem_toArray, List.getElem_cons_succ, List.getElem_cons_zero, Act.put, List.setIfInBounds_toArray, List.set_cons_zero, List.set_cons_succ]
            refine wpAnyH_take (i := 26) (v := (.int .i64 (n26 : Int))) rfl (by kernel_rfl) (by kernel_rfl) (by kernel_rfl) (fun _ _ _ h => h) (Or.inl ⟨by rfl, ?_⟩) (by assumption) ?_
            · intro w' hSw
              go_simp
            simp only [List.getElem_toArray, List.getElem_cons_succ, List.getElem_cons_zero, Act.put, List.setIfInBounds_toArray, List.set_cons_zero, List.set_cons_succ]
            refine wpAnyH_take (i := 27) (v := (.pointer (some ⟨w.heap.size, 1, none⟩))) rfl (by kernel_rfl) (by kernel_rfl) (by kernel_rfl) (fun _ _ _ h => h) (Or.inl ⟨by rfl, ?_⟩) (by assumption) ?_
            · intro w' hSw
              go_simp
            simp only [List.getElem_toArray, List.getElem_cons_succ, List.getElem_cons_zero, Act.put, List.setIfInBounds_toArray, List.set_cons_zero, List.set_cons_succ]
            refine wpAnyH_take (i := 28) (v := (.int .i64 (D : Int))) rfl (by kernel_rfl) (by kernel_rfl) (by kernel_rfl) (fun _ _ _ h => h) (Or.inl ⟨by rfl, ?_⟩) (by assumption) ?_
            · intro w' hSw
              have cc : w'.cell? ⟨w.heap.size, 1, none⟩ = some (.int .i64 (D : Int)) := hSw.1.cell 1 rfl
              go_simp
            simp only [List.getElem_toArray, List.getElem_cons_succ, List.getElem_cons_zero, Act.put, List.setIfInBounds_toArray, List.set_cons_zero, List.set_cons_succ]
            refine wpAnyH_take (i := 29) (v := (.int .i64 (n29 : Int))) rfl (by kernel_rfl) (by kernel_rfl) (by kernel_rfl) (fun _ _ _ h => h) (Or.inl ⟨by rfl, ?_⟩) (by assumption) ?_
            · intro w' hSw
              go_simp
            simp only [List.getElem_toArray, List.getElem_cons_succ, List.getElem_cons_zero, Act.put, List.setIfInBounds_toArray, List.set_cons_zero, List.set_cons_succ]
            refine wpAnyH_take (i := 30) (v := (.pointer (some ⟨w.heap.size, 1, none⟩))) rfl (by kernel_rfl) (by kernel_rfl) (by kernel_rfl) (fun _ _ _ h => h) (Or.inl ⟨by rfl, ?_⟩) (by assumption) ?_
            · intro w' hSw
              go_simp
            simp only [List.getElem_toArray, List.getElem_cons_succ, List.getElem_cons_zero, Act.put, List.setIfInBounds_toArray, List.set_cons_zero, List.set_cons_succ]
            refine wpAnyH_take (i := 31) (v := (.int .i64 (D : Int))) rfl (by kernel_rfl) (by kernel_rfl) (by kernel_rfl) (fun _ _ _ h => h) (Or.inl ⟨by rfl, ?_⟩) (by assumption) ?_
            · intro w' hSw
              have cc : w'.cell? ⟨w.heap.size, 1, none⟩ = some (.int .i64 (D : Int)) := hSw.1.cell 1 rfl
              go_simp
            simp only [List.getElem_toArray, List.getElem_cons_succ, List.getElem_cons_zero, Act.put, List.setIfInBounds_toArray, List.set_cons_zero, List.set_cons_succ]
            refine wpAnyH_take (i := 32) (v := (.int .i64 (n32 : Int))) rfl (by kernel_rfl) (by kernel_rfl) (by kernel_rfl) (fun _ _ _ h => h) (Or.inl ⟨by rfl, ?_⟩) (by assumption) ?_
            · intro w' hSw
              go_simp
            simp only [List.getElem_toArray, List.getElem_cons_succ, List.getElem_cons_zero, Act.put, List.setIfInBounds_toArray, List.set_cons_zero, List.set_cons_succ]
            refine wpAnyH_take (i := 33) (v := (.int .i64 (n33 : Int))) rfl (by kernel_rfl) (by kernel_rfl) (by kernel_rfl) (fun _ _ _ h => h) (Or.inl ⟨by rfl, ?_⟩) (by assumption) ?_
            · intro w' hSw
              go_simp
            simp only [List.getElem_toArray, List.getElem_cons_succ, List.getElem_cons_zero, Act.put, List.setIfInBounds_toArray, List.set_cons_zero, List.set_cons_succ]
            refine wpAnyH_take (i := 34) (v := (.pointer (some ⟨w.heap.size, 1, none⟩))) rfl (by kernel_rfl) (by kernel_rfl) (by kernel_rfl) (fun _ _ _ h => h) (Or.inl ⟨by rfl, ?_⟩) (by assumption) ?_
            · intro w' hSw
              go_simp
            simp only [List.getElem_toArray, List.getElem_cons_succ, List.getElem_cons_zero, Act.put, List.setIfInBounds_toArray, List.set_cons_zero, List.set_cons_succ]
            refine wpAnyH_take (i := 35) (v := (.int .i64 (D : Int))) rfl (by kernel_rfl) (by kernel_rfl) (by kernel_rfl) (fun _ _ _ h => h) (Or.inl ⟨by rfl, ?_⟩) (by assumption) ?_
            · intro w' hSw
              have cc : w'.cell? ⟨w.heap.size, 1, none⟩ = some (.int .i64 (D : Int)) := hSw.1.cell 1 rfl
              go_simp
            simp only [List.getElem_toArray, List.getElem_cons_succ, List.getElem_cons_zero, Act.put, List.setIfInBounds_toArray, List.set_cons_zero, List.set_cons_succ]
            refine wpAnyH_take (i := 36) (v := (.int .i64 (n26 : Int))) rfl (by kernel_rfl) (by kernel_rfl) (by kernel_rfl) (fun _ _ _ h => h) (Or.inl ⟨by rfl, ?_⟩) (by assumption) ?_
            · intro w' hSw
              go_simp
            simp only [List.getElem_toArray, List.getElem_cons_succ, List.getElem_cons_zero, Act.put, List.setIfInBounds_toArray, List.set_cons_zero, List.set_cons_succ]
            refine wpAnyH_take (i := 37) (v := (.pointer (some ⟨w.heap.size, 3, none⟩))) rfl (by kernel_rfl) (by kernel_rfl) (by kernel_rfl) (fun _ _ _ h => h) (Or.inl ⟨by rfl, ?_⟩) (by assumption) ?_
            · intro w' hSw
              go_simp
            simp only [List.getElem_toArray, List.getElem_cons_succ, List.getElem_cons_zero, Act.put, List.setIfInBounds_toArray, List.set_cons_zero, List.set_cons_succ]
            refine wpAnyH_take (i := 38) (v := (.int .i64 (H : Int))) rfl (by kernel_rfl) (by kernel_rfl) (by kernel_rfl) (fun _ _ _ h => h) (Or.inl ⟨by rfl, ?_⟩) (by assumption) ?_
            · intro w' hSw
              have cc : w'.cell? ⟨w.heap.size, 3, none⟩ = some (.int .i64 (H : Int)) := hSw.1.cell 3 rfl
              go_simp
            simp only [List.getElem_toArray, List.getElem_cons_succ, List.getElem_cons_zero, Act.put, List.setIfInBounds_toArray, List.set_cons_zero, List.set_cons_succ]
            refine wpAnyH_take (i := 39) (v := (.int .i64 (n39 : Int))) rfl (by kernel_rfl) (by kernel_rfl) (by kernel_rfl) (fun _ _ _ h => h) (Or.inl ⟨by rfl, ?_⟩) (by assumption) ?_
            · intro w' hSw
              go_simp
            simp only [List.getElem_toArray, List.getElem_cons_succ, List.getElem_cons_zero, Act.put, List.setIfInBounds_toArray, List.set_cons_zero, List.set_cons_succ]
            refine wpAnyH_take (i := 40) (v := (.int .i64 (n40 : Int))) rfl (by kernel_rfl) (by kernel_rfl) (by kernel_rfl) (fun _ _ _ h => h) (Or.inl ⟨by rfl, ?_⟩) (by assumption) ?_
            · intro w' hSw
              go_simp
            simp only [List.getElem_toArray, List.getElem_cons_succ, List.getElem_cons_zero, Act.put, List.setIfInBounds_toArray, List.set_cons_zero, List.set_cons_succ]
            refine wpAnyH_take (i := 41) (v := (.int .i64 (n41 : Int))) rfl (by kernel_rfl) (by kernel_rfl) (by kernel_rfl) (fun _ _ _ h => h) (Or.inl ⟨by rfl, ?_⟩) (by assumption) ?_
            · intro w' hSw
              go_simp
            simp only [List.getElem_toArray, List.getElem_cons_succ, List.getElem_cons_zero, Act.put, List.setIfInBounds_toArray, List.set_cons_zero, List.set_cons_succ]
            refine wpAnyH_take (i := 42) (v := (.int .i64 (n42 : Int))) rfl (by kernel_rfl) (by kernel_rfl) (by kernel_rfl) (fun _ _ _ h => h) (Or.inl ⟨by rfl, ?_⟩) (by assumption) ?_
            · intro w' hSw
              go_simp
            simp only [List.getElem_toArray, List.getElem_cons_succ, List.getElem_cons_zero, Act.put, List.setIfInBounds_toArray, List.set_cons_zero, List.set_cons_succ]
            have BL := (HM.out _ BD).1.2.blocks (by omega) (by omega) (by omega)
            refine wpAnyH_ready (rs := [10]) (by kernel_rfl) (by simp) ?_
            refine AllReadyH.cons rfl (fun Kc hKc => ?_) AllReadyH.nil
            simp only [List.getElem_toArray, List.getElem_cons_succ, List.getElem_cons_zero]
            rw [if_pos (by rfl)]
            go_wp2_with fail
            refine (full_any (mkW V D t ge gB gl go) bl _ BL (by show t ≤ 1000; omega)).mono ?_
            rintro e wF ⟨S3, rfl, O3, EM⟩
            replace X0 := X0.below EM
            replace Y2 := Y2.below EM
            replace Y6 := Y6.below EM
            replace BD := below_then BD EM
            go_wp2_with fail
            refine hKc.out _ _ (⟨X0, Y2, Y6⟩) (fun hHeld => ?_)
            clear hKc Kc
            clear BL
            clear EM
            obtain ⟨⟨MW, ML⟩, -⟩ := HM.out _ BD
            have LL := LA _ S3 O3.blocks (by rw [← O3.len, ML.len]) MW ML
            refine wpAnyH_ready (rs := [11]) (by kernel_rfl) (by simp) ?_
            refine AllReadyH.cons rfl (fun Kc hKc => ?_) AllReadyH.nil
            simp only [List.getElem_toArray, List.getElem_cons_succ, List.getElem_cons_zero]
            rw [if_pos (by rfl)]
            go_wp2_with fail
            refine LL.mono ?_
            rintro e wG ⟨g9, c9, rfl, EM⟩
            replace X0 := X0.below EM
            replace Y2 := Y2.below EM
            replace Y6 := Y6.below EM
            replace BD := below_then BD EM
            go_wp2_with fail
            refine hKc.out _ _ (⟨X0, Y2, Y6⟩) (fun hHeld => ?_)
            clear hKc Kc
            clear EM LL MW ML O3
            refine wpAnyH_take (i := 12) (v := (.int .i64 (n42 : Int))) rfl (by kernel_rfl) (by kernel_rfl) (by kernel_rfl) (fun _ _ _ h => h) (Or.inl ⟨by rfl, ?_⟩) (by assumption) ?_
            · intro w' hSw
              go_simp
            simp only [List.getElem_toArray, List.getElem_cons_succ, List.getElem_cons_zero, Act.put, List.setIfInBounds_toArray, List.set_cons_zero, List.set_cons_succ]
            refine wpAnyH_take (i := 43) (v := (.bool true)) rfl (by kernel_rfl) (by kernel_rfl) (by kernel_rfl) (fun _ _ _ h => h) (Or.inl ⟨by rfl, ?_⟩) (by assumption) ?_
            · intro w' hSw
              go_simp
            simp only [List.getElem_toArray, List.getElem_cons_succ, List.getElem_cons_zero, Act.put, List.setIfInBounds_toArray, List.set_cons_zero, List.set_cons_succ]
            refine wpAnyH_take (i := 44) (v := (.bool true)) rfl (by kernel_rfl) (by kernel_rfl) (by kernel_rfl) (fun _ _ _ h => h) (Or.inl ⟨by rfl, ?_⟩) (by assumption) ?_
            · intro w' hSw
              go_simp
            simp only [List.getElem_toArray, List.getElem_cons_succ, List.getElem_cons_zero, Act.put, List.setIfInBounds_toArray, List.set_cons_zero, List.set_cons_succ]
            refine wpAnyH_take (i := 45) (v := (.bool true)) rfl (by kernel_rfl) (by kernel_rfl) (by kernel_rfl) (fun _ _ _ h => h) (Or.inl ⟨by rfl, ?_⟩) (by assumption) ?_
            · intro w' hSw
              go_simp
            simp only [List.getElem_toArray, List.getElem_cons_succ, List.getElem_cons_zero, Act.put, List.setIfInBounds_toArray, List.set_cons_zero, List.set_cons_succ]
            refine wpAnyH_done (by kernel_rfl) ?_ _
            clear hHeld
            go_wp2_with fail
            go_ret
            exact ⟨rfl, below_then B6 BD⟩
end Go.Proofs.Ytklgaokhillinaa
