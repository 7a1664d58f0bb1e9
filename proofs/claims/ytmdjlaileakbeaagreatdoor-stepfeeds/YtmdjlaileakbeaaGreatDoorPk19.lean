/- Contracts of the program's functions, part 19 of 19: what each call returns and leaves of memory. -/
import Derived.Test.YtmdjlaileakbeaaGreatDoorPk10
import Derived.Test.YtmdjlaileakbeaaGreatDoorPk11
import Derived.Test.YtmdjlaileakbeaaGreatDoorPk3
import Derived.Test.YtmdjlaileakbeaaGreatDoorPk6
import Derived.Test.YtmdjlaileakbeaaGreatDoorPk12
import Derived.Test.YtmdjlaileakbeaaGreatDoorPk2
import Derived.LaidMore
import Derived.Lib.LaidTab
import Derived.Stop.Joined
import Derived.Test.YtmdjlaileakbeaaGreatDoorPk4
import Derived.Test.YtmdjlaileakbeaaGreatDoorPk17
import Derived.Deep.Matrix
import Derived.Deep.Slices
import Derived.Test.YtmdjlaileakbeaaGreatDoorPk13
import Derived.Lib.SmallJoins
/- A model that was made fits, and reads as its seed's numbers. -/
namespace Go.Proofs.YtmdjlaileakbeaaGreatDoor
open Go.ChangeShapes Go.WideShapes Go.ChangeAt Go.RowKit
def layS (seed i D H : Nat) : Lay := ⟨gainR seed i D, numR seed (i + D) (D * D) 65536, numR seed (i + D + D * D) (D * D) 65536, numR seed (i + D + D * D + D * D) (D * D) 65536, numR seed (i + D + D * D + D * D + D * D) (D * D) 65536, gainR seed (i + D + D * D + D * D + D * D + D * D) D, numR seed (i + D + D * D + D * D + D * D + D * D + D) (H * D) 65536, numR seed (i + D + D * D + D * D + D * D + D * D + D + H * D) (D * H) 65536⟩
/-- The numbers of a seed. -/
def mdlS (seed V D H L : Nat) : Mdl := ⟨numR seed 0 (V * D) 131072, (List.range L).map fun t => layS seed (V * D + t * lenB D H) D H, gainR seed (V * D + L * lenB D H) D, numR seed (V * D + L * lenB D H + D) (V * D) 65536⟩
theorem Fresh.slAt {w : World} {B g n : Nat} {A : List Int} (h : Fresh w B g n n A) : SlAt w (rs g n) n A := ⟨rfl, h.arg⟩
theorem Fresh.mtAt {w : World} {B g r c : Nat} {A : List Int} (h : Fresh w B g (r * c) (r * c) A) (h1 : 1 ≤ r) (h2 : r ≤ 128) (h3 : 1 ≤ c) (h4 : c ≤ 128) : MtAt w ⟨r, c, rs g (r * c)⟩ r c A :=
  ⟨g, 0, r * c, r * c, rfl, h1, h2, h3, h4, rfl, Nat.le_refl _, h.max, h.rowAt⟩
theorem MadeB.bkAt {w : World} {B seed i D H f q k v o s u d : Nat} (h : MadeB w B seed i D H f q k v o s u d) (h1 : 1 ≤ D) (h2 : D ≤ 128) (h3 : 1 ≤ H) (h4 : H ≤ 128) : BkAt w D H (mkB D H f q k v o s u d) (layS seed i D H) :=
  ⟨h.f.slAt, h.q.mtAt h1 h2 h1 h2, h.k.mtAt h1 h2 h1 h2, h.v.mtAt h1 h2 h1 h2, h.o.mtAt h1 h2 h1 h2, h.s.slAt, h.u.mtAt h3 h4 h1 h2, h.d.mtAt h1 h2 h3 h4⟩
theorem made_good {w : World} {B seed V D Hd H L ge gB gl go : Nat} (h : MadeW w B seed V D H L ge gB gl go) (hs : shapeN V D Hd H L = 0) : ∃ bs, Good w V D Hd H L (mkW V D L ge gB gl go) bs (mdlS seed V D H L) := by
  have hk := shape_ok hs
  obtain ⟨bs, ML⟩ := madeL_of L h.bs
  have BL := ML.blocks (by omega) (by omega) (by omega)
  have hl : bs.length = L := ML.len
  refine ⟨bs, ⟨⟨?_, BL, by unfold mdlS; simp [hl], fun t x hx => ?_, ?_, ?_⟩, mkW_ok (by omega) (by omega), hl, hs, ?_⟩⟩
  · exact h.e.mtAt (by omega) (by omega) (by omega) (by omega)
  · obtain ⟨_, f, q, k, v, o, s, u, d, rfl, m⟩ := ML.at_ t x hx
    have ht : t < L := by rw [← hl]; exact (List.getElem?_eq_some_iff.1 hx).1
    refine ⟨layS seed (V * D + t * lenB D H) D H, ?_, m.bkAt (by omega) (by omega) (by omega) (by omega)⟩
    unfold mdlS
    simp only [List.getElem?_map, List.getElem?_range ht]
    rfl
  · exact h.l.slAt
  · exact h.o.mtAt (by omega) (by omega) (by omega) (by omega)
  · exact made_fits (C := ⟨V, D, Hd, H, L⟩) ML rfl rfl rfl rfl hs
end Go.Proofs.YtmdjlaileakbeaaGreatDoor

/- The awake check of the laws of layer 10 is true. -/
namespace Go.Proofs.YtmdjlaileakbeaaGreatDoor
open Go.ChangeShapes Go.WideShapes Go.ChangeAt Go.RowKit
theorem wt_one (W : Wt) : W.cells.all (·.oneCell') = true := by simp [Wt.cells, Sl.v, Value.oneCell']
theorem make_small (w : World) : Calls Tryz.prog 25 #[.agg #[.int .i64 2, .int .i64 1, .int .i64 1, .int .i64 1, .int .i64 1], .int .u64 1] w fun e w' => ∃ W bs M, e = .returned (.tuple #[.agg (Wt.cells W), .int .i64 0]) ∧ Good w' 2 1 1 1 1 W bs M ∧ Below w.heap.size w w' := by
  refine (make_any 2 1 1 1 1 1 w (by omega) (by decide)).mono ?_
  rintro e w' ⟨ge, gB, gl, go, rfl, M, B⟩
  obtain ⟨bs, G⟩ := made_good (Hd := 1) M (by decide)
  exact ⟨_, bs, _, rfl, G, B⟩
/-- An answer of one token. -/
theorem run_one {M : Mdl} {V D H Hd L : Nat} {P : List Int} {j : Nat} (h1 : overB (runS M V D H Hd L P j).Y 1 = true) (h2 : ∀ i, i < j → overB (runS M V D H Hd L P i).Y 1 = false) : j = 1 := by
  rcases Nat.lt_trichotomy j 1 with h | h | h
  · obtain rfl : j = 0 := by omega
    have e : (runS M V D H Hd L P 0).Y = [] := rfl
    rw [e] at h1
    exact absurd h1 (by decide)
  · exact h
  · have := over_not (h2 1 h)
    rw [runS_len] at this
    omega
end Go.Proofs.YtmdjlaileakbeaaGreatDoor

/- The awake check of the laws of layer 9 is true. -/
namespace Go.Proofs.YtmdjlaileakbeaaGreatDoor
open Go.ChangeShapes Go.WideShapes Go.ChangeAt Go.RowKit
theorem noV_at (w : World) : VwAt w ⟨⟨none, 0, 0⟩, ⟨none, 0, 0⟩, ⟨none, 0, 0⟩⟩ noX := ⟨iarg_nil _, ⟨rfl, by show 0 ≤ _; omega, fun h => absurd (show 0 < 0 from h) (by omega)⟩, ⟨rfl, by show 0 ≤ _; omega, fun h => absurd (show 0 < 0 from h) (by omega)⟩⟩
set_option maxRecDepth 100000 in
set_option maxHeartbeats 1600000 in
theorem sawake_any (w : World) (hT : Tab w) : Calls Tryz.prog 10 #[] w fun e w' => e = .returned (.bool true) ∧ Below w.heap.size w w' := by
  have X0 := blk_new w 23 #[.int .i64 2, .int .i64 1, .int .i64 1, .int .i64 1, .int .i64 1]
  have B0 : Below w.heap.size w (w.alloc (.cells #[.int .i64 2, .int .i64 1, .int .i64 1, .int .i64 1, .int .i64 1] 23)) := (Below.refl _ _).alloc (Nat.le_refl _) _
  generalize hw0 : w.alloc (.cells #[.int .i64 2, .int .i64 1, .int .i64 1, .int .i64 1, .int .i64 1] 23) = w0 at *
  have a0 : w0.cell? ⟨w.heap.size, 0, none⟩ = some (.int .i64 2) := X0.cell 0 rfl
  have a1 : w0.cell? ⟨w.heap.size, 1, none⟩ = some (.int .i64 1) := X0.cell 1 rfl
  have a2 : w0.cell? ⟨w.heap.size, 2, none⟩ = some (.int .i64 1) := X0.cell 2 rfl
  have a3 : w0.cell? ⟨w.heap.size, 3, none⟩ = some (.int .i64 1) := X0.cell 3 rfl
  have a4 : w0.cell? ⟨w.heap.size, 4, none⟩ = some (.int .i64 1) := X0.cell 4 rfl
  have HT : Hid (∀ wv, Below w.heap.size w wv → Tab wv) := fun wv hb => hT.next hb
  clear hT
  go_enter Tryz.func10, Tryz.ntmps10
  go_wp2_with fail
  refine (make_small _).mono ?_
  rintro e w1 ⟨W, bs, M, rfl, G1, B1⟩
  replace X0 := X0.below B1
  have D1 := below_then B0 B1
  clear hw0 a0 a1 a2 a3 a4 B0 B1
  have siz : W.cells.size = 8 := rfl
  have one := wt_one W
  have CF := fun (wv : World) (hg : Good wv 2 1 1 1 1 W bs M) (hT : Tab wv) => feed_ok 2 1 1 1 1 W bs M ⟨⟨none, 0, 0⟩, ⟨none, 0, 0⟩, ⟨none, 0, 0⟩⟩ noX 1 wv hT (by show 0 ≤ 127; omega) (by omega) hg (noV_at wv) (noX_fit _ _ _)
  have CB := fun (wv : World) (hg : Good wv 2 1 1 1 1 W bs M) => feed_tok 2 1 1 1 1 W bs M ⟨⟨none, 0, 0⟩, ⟨none, 0, 0⟩, ⟨none, 0, 0⟩⟩ noX 2 wv (by show 0 ≤ 127; omega) (by decide) hg (noV_at wv) (noX_fit _ _ _)
  have CU := fun (wv : World) (hg : Good wv 2 1 1 1 1 W bs M) (hT : Tab wv) (ao : Option Addr) (ha : IArg wv ao 1 1 [1]) => full_ok 2 1 1 1 1 W bs M ao 1 1 [1] wv hg ha hT (by decide)
  have HE : Hid (likR M 2 1 (feedX M 1 1 1 1 noX 1) = fullX M 2 1 1 1 1 [1]) := fullX_last (cached_none M 1 1 1 1) 1
  have HTl : Hid ((feedV M 1 1 1 1 noX 1).T = [1]) := rfl
  unfold cfgC at CF CB CU
  unfold VwV.cells Sl.v at CF CB
  unfold noV at CB
  simp only at CF CB
  generalize hws : W.cells = ws at *
  have XA1 := blk_new w1 29 #[.int .i64 0, .int .i64 0, .slice none 0 0, .slice none 0 0, .slice none 0 0, .int .i64 0, .int .i64 0, .slice none 0 0]
  have BA1 : Below w1.heap.size w1 (w1.alloc (.cells #[.int .i64 0, .int .i64 0, .slice none 0 0, .slice none 0 0, .slice none 0 0, .int .i64 0, .int .i64 0, .slice none 0 0] 29)) := (Below.refl _ _).alloc (Nat.le_refl _) _
  generalize hwa1 : w1.alloc (.cells #[.int .i64 0, .int .i64 0, .slice none 0 0, .slice none 0 0, .slice none 0 0, .int .i64 0, .int .i64 0, .slice none 0 0] 29) = wa1 at *
  have XB1 := XA1.row ws
  have BB1 := below_setRow BA1 (Nat.le_refl _) ws
  generalize hwb1 : wa1.setRow w1.heap.size ws = wb1 at *
  have XR := XB1
  replace X0 := X0.below BB1
  have D2 := below_then D1 BB1
  have G2 := G1.below BB1
  have a0 : wb1.cell? ⟨w.heap.size, 0, none⟩ = some (.int .i64 2) := X0.cell 0 rfl
  have a1 : wb1.cell? ⟨w.heap.size, 1, none⟩ = some (.int .i64 1) := X0.cell 1 rfl
  have a2 : wb1.cell? ⟨w.heap.size, 2, none⟩ = some (.int .i64 1) := X0.cell 2 rfl
  have a3 : wb1.cell? ⟨w.heap.size, 3, none⟩ = some (.int .i64 1) := X0.cell 3 rfl
  have a4 : wb1.cell? ⟨w.heap.size, 4, none⟩ = some (.int .i64 1) := X0.cell 4 rfl
  go_wp2_with (first | (refine wpList_store_row rfl 29 _ _ rfl w1.heap.size ws rfl rfl 29 _ XA1 (by rw [siz]; exact Tryz.infoW) (by rw [siz]; rfl) one ?_; rw [hwb1]) | (refine wpList_load_row rfl 29 _ rfl w1.heap.size rfl 29 ws (0, 0) _ XR Tryz.underlying29 rfl (by rw [siz]; exact Tryz.infoW) ?_))
  refine (CF _ G2 (HT.out _ D2)).mono ?_
  rintro e w4 ⟨vv, g4, rfl, N4, F4, B4⟩
  have hT4 := N4.now.t
  have onev := vwv_one vv
  have sizv := vwv_size vv
  obtain ⟨⟨ta, tn, tz⟩, ⟨ka, kn, kz⟩, ⟨va, vn, vz⟩⟩ := vv
  simp only at hT4
  have htn : tn = 1 := by have h9 := hT4.row.len; rw [HTl.out] at h9; exact h9.symm
  subst htn
  replace X0 := X0.below B4
  replace XR := XR.below B4
  have D4 := below_then D2 B4
  have G4 := G2.below B4
  rw [HE.out] at F4
  clear hwa1 hwb1 a0 a1 a2 a3 a4 CF N4 hT4 XA1 BA1 XB1 BB1 D1 D2 G1 G2 HTl HE B4
  unfold VwV.cells Sl.v at onev sizv
  simp only at onev sizv
  have XA2 := blk_new w4 35 #[.slice none 0 0, .slice none 0 0, .slice none 0 0]
  have BA2 : Below w4.heap.size w4 (w4.alloc (.cells #[.slice none 0 0, .slice none 0 0, .slice none 0 0] 35)) := (Below.refl _ _).alloc (Nat.le_refl _) _
  generalize hwa2 : w4.alloc (.cells #[.slice none 0 0, .slice none 0 0, .slice none 0 0] 35) = wa2 at *
  have XB2 := XA2.row #[.slice ta 1 tz, .slice ka kn kz, .slice va vn vz]
  have BB2 := below_setRow BA2 (Nat.le_refl _) #[.slice ta 1 tz, .slice ka kn kz, .slice va vn vz]
  generalize hwb2 : wa2.setRow w4.heap.size #[.slice ta 1 tz, .slice ka kn kz, .slice va vn vz] = wb2 at *
  replace X0 := X0.below BB2
  replace XR := XR.below BB2
  replace D4 := below_then D4 BB2
  replace G4 := G4.below BB2
  replace F4 := F4.below BB2
  have XV := XB2
  have XT := blk_new wb2 3 #[.int .i64 1]
  have BT : Below wb2.heap.size wb2 (wb2.alloc (.cells #[.int .i64 1] 3)) := (Below.refl _ _).alloc (Nat.le_refl _) _
  generalize hwt : wb2.alloc (.cells #[.int .i64 1] 3) = wt at *
  have a0 : wb2.cell? ⟨w.heap.size, 0, none⟩ = some (.int .i64 2) := X0.cell 0 rfl
  have a1 : wb2.cell? ⟨w.heap.size, 1, none⟩ = some (.int .i64 1) := X0.cell 1 rfl
  have a2 : wb2.cell? ⟨w.heap.size, 2, none⟩ = some (.int .i64 1) := X0.cell 2 rfl
  have a3 : wb2.cell? ⟨w.heap.size, 3, none⟩ = some (.int .i64 1) := X0.cell 3 rfl
  have a4 : wb2.cell? ⟨w.heap.size, 4, none⟩ = some (.int .i64 1) := X0.cell 4 rfl
  go_wp2_with (first | (refine wpList_store_row rfl 35 _ _ rfl w4.heap.size #[.slice ta 1 tz, .slice ka kn kz, .slice va vn vz] rfl rfl 35 _ XA2 Tryz.infoV rfl onev ?_; rw [hwb2]) | (refine wpList_load_row rfl 29 _ rfl w1.heap.size rfl 29 ws (0, 0) _ XR Tryz.underlying29 rfl (by rw [siz]; exact Tryz.infoW) ?_))
  have D5 := below_then D4 BT
  refine (CU _ (G4.below BT) (HT.out _ D5) _ (iarg_one XT (by omega) (by omega))).mono ?_
  rintro e w6 ⟨g6, gK, gV, rfl, F6, N6, N7, B6⟩
  replace X0 := (X0.below BT).below B6
  replace XR := (XR.below BT).below B6
  replace XV := (XV.below BT).below B6
  have F5 := (F4.below BT).below B6
  have D6 := below_then D5 B6
  have G6 := (G4.below BT).below B6
  clear hwa2 hwb2 hwt a0 a1 a2 a3 a4 CU N6 N7 XA2 BA2 XB2 BB2 XT BT D4 D5 G4 F4 B6
  have XA3 := blk_new w6 33 #[.slice none 0 0, .slice none 0 0]
  have BA3 : Below w6.heap.size w6 (w6.alloc (.cells #[.slice none 0 0, .slice none 0 0] 33)) := (Below.refl _ _).alloc (Nat.le_refl _) _
  generalize hwa3 : w6.alloc (.cells #[.slice none 0 0, .slice none 0 0] 33) = wa3 at *
  have XB3 := XA3.row #[.slice (some ⟨gK, 0, none⟩) 1 1, .slice (some ⟨gV, 0, none⟩) 1 1]
  have BB3 := below_setRow BA3 (Nat.le_refl _) #[.slice (some ⟨gK, 0, none⟩) 1 1, .slice (some ⟨gV, 0, none⟩) 1 1]
  generalize hwb3 : wa3.setRow w6.heap.size #[.slice (some ⟨gK, 0, none⟩) 1 1, .slice (some ⟨gV, 0, none⟩) 1 1] = wb3 at *
  have hall3 : Array.all (#[.slice (some ⟨gK, 0, none⟩) 1 1, .slice (some ⟨gV, 0, none⟩) 1 1] : Array Value) (fun v => v.oneCell') = true := by simp [Value.oneCell']
  replace X0 := X0.below BB3
  replace XR := XR.below BB3
  replace XV := XV.below BB3
  replace D6 := below_then D6 BB3
  replace G6 := G6.below BB3
  replace F5 := F5.below BB3
  replace F6 := F6.below BB3
  have a0 : wb3.cell? ⟨w.heap.size, 0, none⟩ = some (.int .i64 2) := X0.cell 0 rfl
  have a1 : wb3.cell? ⟨w.heap.size, 1, none⟩ = some (.int .i64 1) := X0.cell 1 rfl
  have a2 : wb3.cell? ⟨w.heap.size, 2, none⟩ = some (.int .i64 1) := X0.cell 2 rfl
  have a3 : wb3.cell? ⟨w.heap.size, 3, none⟩ = some (.int .i64 1) := X0.cell 3 rfl
  have a4 : wb3.cell? ⟨w.heap.size, 4, none⟩ = some (.int .i64 1) := X0.cell 4 rfl
  go_wp2_with (first | (refine wpList_store_row rfl 33 _ _ rfl w6.heap.size #[.slice (some ⟨gK, 0, none⟩) 1 1, .slice (some ⟨gV, 0, none⟩) 1 1] rfl rfl 33 _ XA3 Tryz.infoCa rfl hall3 ?_; rw [hwb3]) | (refine wpList_load_row rfl 29 _ rfl w1.heap.size rfl 29 ws (0, 0) _ XR Tryz.underlying29 rfl (by rw [siz]; exact Tryz.infoW) ?_))
  refine (CB _ G6).mono ?_
  rintro e w8 ⟨rfl, B8⟩
  replace XV := XV.below B8
  have D8 := below_then D6 B8
  replace F5 := F5.below B8
  replace F6 := F6.below B8
  clear hwa3 hwb3 a0 a1 a2 a3 a4 CB XA3 BA3 XB3 BB3 D6 G6 X0 XR B8
  have XA4 := blk_new w8 35 #[.slice none 0 0, .slice none 0 0, .slice none 0 0]
  have BA4 : Below w8.heap.size w8 (w8.alloc (.cells #[.slice none 0 0, .slice none 0 0, .slice none 0 0] 35)) := (Below.refl _ _).alloc (Nat.le_refl _) _
  generalize hwa4 : w8.alloc (.cells #[.slice none 0 0, .slice none 0 0, .slice none 0 0] 35) = wa4 at *
  have XB4 := XA4.row #[.slice none 0 0, .slice none 0 0, .slice none 0 0]
  have BB4 := below_setRow BA4 (Nat.le_refl _) #[.slice none 0 0, .slice none 0 0, .slice none 0 0]
  generalize hwb4 : wa4.setRow w8.heap.size #[.slice none 0 0, .slice none 0 0, .slice none 0 0] = wb4 at *
  have hall4 : Array.all (#[.slice none 0 0, .slice none 0 0, .slice none 0 0] : Array Value) (fun v => v.oneCell') = true := by simp [Value.oneCell']
  replace XV := XV.below BB4
  have D9 := below_then D8 BB4
  replace F5 := F5.below BB4
  replace F6 := F6.below BB4
  have cT : wb4.cell? ⟨w4.heap.size, 0, none⟩ = some (.slice ta 1 tz) := XV.cell 0 rfl
  have CS := same_any (some ⟨g4, 0, none⟩) (some ⟨g6, 0, none⟩) 2 2 2 _ wb4 F5.rowAt F6.rowAt
  go_upto_region 6 with (refine wpList_store_row rfl 35 _ _ rfl w8.heap.size #[.slice none 0 0, .slice none 0 0, .slice none 0 0] rfl rfl 35 _ XA4 Tryz.infoV rfl hall4 ?_; rw [hwb4])
  clear hwa4 hwb4
  go_wp2_with (go_at_call 15; refine CS.mono ?_; rintro e wz ⟨rfl, mq, hz⟩; have Dz : Below w.heap.size w wz := (by rw [hz]; exact below_drewN D9 mq); have cZ : wz.cell? ⟨w4.heap.size, 0, none⟩ = some (.slice ta 1 tz) := (by rw [hz]; simpa using cT); clear hz cT)
  go_ret
  exact ⟨rfl, Dz⟩
end Go.Proofs.YtmdjlaileakbeaaGreatDoor

/- Package step: the first rows of lists. -/
namespace Go.Proofs.YtmdjlaileakbeaaGreatDoor
open Go.ChangeShapes Go.WideShapes Go.ChangeAt Go.RowKit
theorem rowOf_take9 {R : List (List Int)} {m t : Nat} (h : t < m) : rowOf (R.take m) t = rowOf R t := by
  unfold rowOf
  rw [List.getD_eq_getElem?_getD, List.getD_eq_getElem?_getD, List.getElem?_take_of_lt h]
theorem GridAt.take {w : World} {ao : Option Addr} {n : Nat} {R : List (List Int)} (h : GridAt w ao n R) {m : Nat} (hm : m ≤ n) : GridAt w ao m (R.take m) := by
  have hl := h.len
  have hx := h.max
  refine ⟨by rw [List.length_take]; omega, by omega, fun h0 => ?_⟩
  obtain ⟨b, o, e, hc⟩ := h.cells (by omega)
  refine ⟨b, o, e, fun t ht => ?_⟩
  rw [rowOf_take9 ht]
  exact hc t (by omega)
theorem Lists.cube {w : World} {g m : Nat} {C : List (List (List Int))} (h : Lists w g m m C) (hl : C.length = m) (hm : m ≤ 4096) {B : Nat} (hB : B ≤ g) : New B w (fun w => CubeAt w (some ⟨g, 0, none⟩) m C) := by
  have hlt := h.lt
  obtain ⟨cs, h1, hsz, h3⟩ := h.row
  intro w2 h2
  have hg := (h2 g hB hlt).trans h1
  refine ⟨hl, by omega, fun _ => ⟨g, 0, rfl, fun t R hR => ?_⟩⟩
  have htm : t < m := by rw [← hl]; exact (List.getElem?_eq_some_iff.1 hR).1
  obtain ⟨ro, n, vs, e, h4, N⟩ := h3 t R htm hR
  have GV := N w2 fun b hb hb2 => h2 b (Nat.le_trans (by omega) hb) hb2
  refine ⟨ro, n, n, ?_, h4, Nat.le_refl _, GV.max, GV.grid⟩
  rw [Nat.zero_add]
  unfold World.cell?
  simp only [hg]
  exact e
/-- The view of the first n tokens. -/
def cutV (X : Vw) (n : Nat) : Vw := ⟨X.T.take n, X.K.map (List.take n), X.V.map (List.take n)⟩
end Go.Proofs.YtmdjlaileakbeaaGreatDoor

/- An answer, token by token: what is fed in parts is what is fed at once. -/
namespace Go.Proofs.YtmdjlaileakbeaaGreatDoor
open Go.ChangeShapes Go.WideShapes Go.ChangeAt Go.RowKit
theorem feedAll_append (M : Mdl) (D H Hd L : Nat) (X : Vw) (A B : List Int) : feedAll M D H Hd L X (A ++ B) = feedAll M D H Hd L (feedAll M D H Hd L X A) B := by
  unfold feedAll
  rw [List.foldl_append]
theorem lik_split (M : Mdl) (V D H Hd L : Nat) (Q T : List Int) (hT : T ≠ []) : likAt M V D H Hd L (feedAll M D H Hd L noX Q) T T.length = likAt M V D H Hd L noX (Q ++ T) (Q ++ T).length := by
  obtain ⟨m, hm⟩ : ∃ m, T.length = m + 1 := ⟨T.length - 1, by have := List.length_pos_iff.2 hT; omega⟩
  have h2 : (Q ++ T).length = (Q.length + m) + 1 := by rw [List.length_append, hm]; omega
  rw [hm, h2]
  show likR M V D (feedX M D H Hd L (feedAll M D H Hd L (feedAll M D H Hd L noX Q) (T.take m)) (el T m).toNat) = likR M V D (feedX M D H Hd L (feedAll M D H Hd L noX ((Q ++ T).take (Q.length + m))) (el (Q ++ T) (Q.length + m)).toNat)
  have et : (Q ++ T).take (Q.length + m) = Q ++ T.take m := by rw [List.take_append, List.take_of_length_le (by omega : Q.length ≤ Q.length + m), Nat.add_sub_cancel_left]
  rw [el_append_right, et, ← feedAll_append]
/-- The token that is liked best behind a row of them. -/
def nextT (M : Mdl) (V D H Hd L : Nat) (A : List Int) : Int := amax (likAt M V D H Hd L noX A A.length) V
def runY (M : Mdl) (V D H Hd L : Nat) (P : List Int) : Nat → List Int
  | 0 => []
  | j + 1 => runY M V D H Hd L P j ++ [nextT M V D H Hd L (P ++ runY M V D H Hd L P j)]
theorem runS_inv (M : Mdl) (V D H Hd L : Nat) (P : List Int) (hP : P ≠ []) : ∀ j, (runS M V D H Hd L P j).Y = runY M V D H Hd L P j ∧ (runS M V D H Hd L P j).T ≠ [] ∧ ∃ Q, (runS M V D H Hd L P j).X = feedAll M D H Hd L noX Q ∧ Q ++ (runS M V D H Hd L P j).T = P ++ (runS M V D H Hd L P j).Y
  | 0 => ⟨rfl, hP, [], rfl, by show [] ++ P = P ++ []; simp⟩
  | j + 1 => by
    obtain ⟨h1, h2, Q, h3, h4⟩ := runS_inv M V D H Hd L P hP j
    have e : likAt M V D H Hd L (runS M V D H Hd L P j).X (runS M V D H Hd L P j).T (runS M V D H Hd L P j).T.length = likAt M V D H Hd L noX (P ++ runY M V D H Hd L P j) (P ++ runY M V D H Hd L P j).length := by
      rw [h3, lik_split M V D H Hd L Q _ h2, h4, h1]
    have eY : (runS M V D H Hd L P (j + 1)).Y = runY M V D H Hd L P j ++ [nextT M V D H Hd L (P ++ runY M V D H Hd L P j)] := by
      show (runS M V D H Hd L P j).Y ++ [amax _ V] = _
      rw [e, h1]
      rfl
    have eT : (runS M V D H Hd L P (j + 1)).T = [nextT M V D H Hd L (P ++ runY M V D H Hd L P j)] := by
      show [amax _ V] = _
      rw [e]
      rfl
    refine ⟨eY, by rw [eT]; simp, P ++ runY M V D H Hd L P j, ?_, ?_⟩
    · show feedAll M D H Hd L (runS M V D H Hd L P j).X (runS M V D H Hd L P j).T = _
      rw [h3, ← feedAll_append, h4, h1]
    · rw [eT, eY, List.append_assoc]
theorem runY_len (M : Mdl) (V D H Hd L : Nat) (P : List Int) : ∀ j, (runY M V D H Hd L P j).length = j
  | 0 => rfl
  | j + 1 => by
    show (runY M V D H Hd L P j ++ [nextT M V D H Hd L (P ++ runY M V D H Hd L P j)]).length = _
    rw [List.length_append, runY_len M V D H Hd L P j]
    rfl
theorem runY_take (M : Mdl) (V D H Hd L : Nat) (P : List Int) (n : Nat) : ∀ i, (runY M V D H Hd L P (n + i)).take n = runY M V D H Hd L P n
  | 0 => by rw [Nat.add_zero]; exact List.take_of_length_le (by rw [runY_len]; omega)
  | i + 1 => by
    show (runY M V D H Hd L P (n + i) ++ [_]).take n = _
    rw [List.take_append_of_le_length (by rw [runY_len]; omega)]
    exact runY_take M V D H Hd L P n i
theorem runY_shift (M : Mdl) (V D H Hd L : Nat) (P : List Int) (n : Nat) : ∀ i, runY M V D H Hd L (P ++ runY M V D H Hd L P n) i = (runY M V D H Hd L P (n + i)).drop n
  | 0 => by rw [Nat.add_zero, List.drop_of_length_le (by rw [runY_len]; omega)]; rfl
  | i + 1 => by
    have ih := runY_shift M V D H Hd L P n i
    show runY M V D H Hd L (P ++ runY M V D H Hd L P n) i ++ [_] = (runY M V D H Hd L P (n + i) ++ [_]).drop n
    rw [List.drop_append_of_le_length (by rw [runY_len]; omega), ih]
    have e : P ++ runY M V D H Hd L P n ++ (runY M V D H Hd L P (n + i)).drop n = P ++ runY M V D H Hd L P (n + i) := by
      rw [List.append_assoc, ← runY_take M V D H Hd L P n i, List.take_append_drop]
    rw [e]
    rfl
theorem runY_toks (M : Mdl) {V D H Hd L : Nat} (hV : 1 ≤ V) (P : List Int) : ∀ j, (runY M V D H Hd L P j).all (tokB V) = true
  | 0 => rfl
  | j + 1 => by
    show (runY M V D H Hd L P j ++ [_]).all (tokB V) = true
    rw [List.all_append, runY_toks M hV P j, Bool.true_and]
    simp only [List.all_cons, List.all_nil, Bool.and_true]
    unfold tokB nextT
    exact decide_eq_true (amax_tok _ hV)
/-- The answer's length: the first at which it is over. -/
theorem run_first {M : Mdl} {V D H Hd L : Nat} {P : List Int} {most n : Int} {j : Nat} (h2 : ∀ i, i < j → overB (runY M V D H Hd L P i) most = false) {m : Nat} (hn : n = m) (hm : m ≤ j) {i : Nat} (k1 : overB (runY M V D H Hd L P i) n = true) (k2 : ∀ t, t < i → overB (runY M V D H Hd L P t) n = false) : i = m := by
  have e : ∀ t, t < m → overB (runY M V D H Hd L P t) n = false := fun t ht => by
    have := h2 t (by omega)
    unfold overB at this ⊢
    rw [Bool.or_eq_false_iff] at this ⊢
    exact ⟨decide_eq_false (by rw [runY_len]; omega), this.2⟩
  have e2 : overB (runY M V D H Hd L P m) n = true := by unfold overB; rw [decide_eq_true (by rw [runY_len]; omega)]; rfl
  rcases Nat.lt_trichotomy i m with h | h | h
  · rw [e i h] at k1; cases k1
  · exact h
  · rw [k2 m h] at e2; cases e2
/-- The end of an answer that was gone on from. -/
theorem over_drop {M : Mdl} {V D H Hd L : Nat} {P : List Int} {most : Int} {n i : Nat} (hi : 1 ≤ i) : overB ((runY M V D H Hd L P (n + i)).drop n) (most - n) = overB (runY M V D H Hd L P (n + i)) most := by
  have hl : ((runY M V D H Hd L P (n + i)).drop n).length = i := by rw [List.length_drop, runY_len]; omega
  have hl2 := runY_len M V D H Hd L P (n + i)
  unfold overB endB
  rw [hl, hl2, el_drop]
  have e1 : decide (most - (n : Int) ≤ (i : Int)) = decide (most ≤ ((n + i : Nat) : Int)) := by
    by_cases h : most - (n : Int) ≤ (i : Int)
    · rw [decide_eq_true h, decide_eq_true (by omega)]
    · rw [decide_eq_false h, decide_eq_false (by omega)]
  rw [e1, decide_eq_true (by omega : 0 < i), decide_eq_true (by omega : 0 < n + i), show n + (i - 1) = n + i - 1 by omega]
end Go.Proofs.YtmdjlaileakbeaaGreatDoor

/- The cut of a view of tokens is the view of the first ones. -/
namespace Go.Proofs.YtmdjlaileakbeaaGreatDoor
theorem map_take_getD {C E : List (List (List Int))} {L n : Nat} (h1 : C.length = L) (h2 : E.length = L) (h : ∀ l, l < L → (E.getD l []).take n = (C.getD l []).take n) : E.map (List.take n) = C.map (List.take n) := by
  apply List.ext_getElem?
  intro i
  rw [List.getElem?_map, List.getElem?_map]
  by_cases hi : i < L
  · have := h i hi
    rw [List.getD_eq_getElem?_getD, List.getD_eq_getElem?_getD, List.getElem?_eq_getElem (by omega), List.getElem?_eq_getElem (by omega)] at this
    rw [List.getElem?_eq_getElem (by omega), List.getElem?_eq_getElem (by omega)]
    simpa using this
  · rw [List.getElem?_eq_none (by omega), List.getElem?_eq_none (by omega)]
theorem cut_feed {M : Mdl} {V D H Hd L : Nat} {X : Vw} {tok n : Nat} (hf : VwFit V D L X) (h1 : 1 ≤ n) (hn : n ≤ X.T.length) : cutV (feedV M D H Hd L X tok) n = cutV X n := by
  have kl : ∀ l, l < L → (X.K.getD l []).length = X.T.length ∧ ∀ t, t < X.T.length → (rowOf (X.K.getD l []) t).length = D := fun l h => fit_list hf.k hf.ks h
  have vl : ∀ l, l < L → (X.V.getD l []).length = X.T.length ∧ ∀ t, t < X.T.length → (rowOf (X.V.getD l []) t).length = D := fun l h => fit_list hf.v hf.vs h
  have hk : X.K.length = L := by rw [hf.k, if_neg (by omega)]
  have hv : X.V.length = L := by rw [hf.v, if_neg (by omega)]
  unfold cutV feedV
  simp only [Vw.mk.injEq]
  refine ⟨List.take_append_of_le_length hn, map_take_getD hk (by unfold newK; simp) fun l hl => ?_, map_take_getD hv (by unfold newV; simp) fun l hl => ?_⟩
  · unfold newK
    rw [List.getD_eq_getElem?_getD, List.getElem?_map, List.getElem?_range hl]
    exact List.take_append_of_le_length (by rw [(kl l hl).1]; exact hn)
  · unfold newV
    rw [List.getD_eq_getElem?_getD, List.getElem?_map, List.getElem?_range hl]
    exact List.take_append_of_le_length (by rw [(vl l hl).1]; exact hn)
theorem cut_all {M : Mdl} {V D H Hd L n : Nat} (h1 : 1 ≤ n) {A : List Int} : ∀ {X : Vw}, VwFit V D L X → A.all (tokB V) = true → X.T.length + A.length ≤ 128 → n ≤ X.T.length → cutV (feedAll M D H Hd L X A) n = cutV X n := by
  induction A with
  | nil => intro X hf _ _ _; rfl
  | cons a A ih =>
    intro X hf ha hl hn
    simp only [List.all_cons, Bool.and_eq_true] at ha
    simp only [List.length_cons] at hl
    have ht : 0 ≤ a ∧ a < V := by have := ha.1; unfold tokB at this; simpa using this
    show cutV (feedAll M D H Hd L (feedV M D H Hd L X a.toNat) A) n = _
    rw [ih (fit_feed hf (by omega) (by omega)) ha.2 (by unfold feedV; simp; omega) (by unfold feedV; simp; omega)]
    exact cut_feed hf h1 hn
theorem cut_whole {V D L : Nat} {X : Vw} (hf : VwFit V D L X) : cutV X X.T.length = X := by
  have hm : ∀ {C : List (List (List Int))}, (∀ R ∈ C, R.length = X.T.length ∧ ∀ t, t < X.T.length → (rowOf R t).length = D) → C.map (List.take X.T.length) = C := fun {C} h => by
    have : C.map (List.take X.T.length) = C.map id := List.map_congr_left fun R hR => List.take_of_length_le (by rw [(h R hR).1]; exact Nat.le_refl _)
    rw [this, List.map_id]
  obtain ⟨T, K, W⟩ := X
  unfold cutV
  simp only [Vw.mk.injEq] at *
  exact ⟨List.take_of_length_le (Nat.le_refl _), hm hf.ks, hm hf.vs⟩
/-- The cut of the view of P at n is the view of the first n of P. -/
theorem cut_feedAll {M : Mdl} {V D H Hd L n : Nat} {P : List Int} (h1 : 1 ≤ n) (hn : n ≤ P.length) (hP : P.all (tokB V) = true) (hl : P.length ≤ 128) (hf : VwFit V D L noX) : cutV (feedAll M D H Hd L noX P) n = feedAll M D H Hd L noX (P.take n) := by
  have ha : (P.take n).all (tokB V) = true ∧ (P.drop n).all (tokB V) = true := by
    have := hP
    rw [← List.take_append_drop n P, List.all_append, Bool.and_eq_true] at this
    exact this
  have l1 : (P.take n).length = n := by rw [List.length_take]; omega
  have l2 : (P.drop n).length = P.length - n := List.length_drop
  have hfn : VwFit V D L (feedAll M D H Hd L noX (P.take n)) := feedAll_fit hf ha.1 (by show 0 + _ ≤ _; omega)
  have hlen : (feedAll M D H Hd L noX (P.take n)).T.length = n := by rw [feedAll_len]; show 0 + _ = _; omega
  have e : feedAll M D H Hd L noX P = feedAll M D H Hd L (feedAll M D H Hd L noX (P.take n)) (P.drop n) := by rw [← feedAll_append, List.take_append_drop]
  rw [e, cut_all h1 hfn ha.2 (by omega) (by omega)]
  have := cut_whole hfn
  rw [hlen] at this
  exact this
end Go.Proofs.YtmdjlaileakbeaaGreatDoor

/- What is fed one by one is what is made from the beginning: the views, as lists; a small view is told whole. -/
namespace Go.Proofs.YtmdjlaileakbeaaGreatDoor
theorem rows_whole {R : List (List Int)} {D : Nat} (h1 : R.length ≤ 130) (hD : D ≤ 40) (h2 : ∀ t, t < R.length → (rowOf R t).length = D) : rowsN R 130 = R := by
  unfold rowsN
  rw [List.take_of_length_le h1]
  apply List.ext_getElem?
  intro i
  rw [List.getElem?_map]
  by_cases hi : i < R.length
  · have := h2 i hi
    unfold rowOf at this
    rw [List.getD_eq_getElem?_getD, List.getElem?_eq_getElem hi] at this
    rw [List.getElem?_eq_getElem hi]
    simp only [Option.getD_some] at this
    simp only [Option.map_some, Option.some.injEq]
    exact List.take_of_length_le (by omega)
  · rw [List.getElem?_eq_none (by omega)]; rfl
theorem fit_whole {V : Int} {D L : Nat} {X : Vw} (hf : VwFit V D L X) (hD : D ≤ 40) : (∀ R ∈ X.K, rowsN R 130 = R) ∧ ∀ R ∈ X.V, rowsN R 130 = R := by
  have hm := hf.most
  exact ⟨fun R hR => rows_whole (by rw [(hf.ks R hR).1]; omega) hD (fun t ht => (hf.ks R hR).2 t (by rw [← (hf.ks R hR).1]; exact ht)), fun R hR => rows_whole (by rw [(hf.vs R hR).1]; omega) hD (fun t ht => (hf.vs R hR).2 t (by rw [← (hf.vs R hR).1]; exact ht))⟩
theorem list_eq {C E : List (List (List Int))} {L : Nat} (h1 : C.length = L) (h2 : E.length = L) (h : ∀ l, l < L → C.getD l [] = E.getD l []) : C = E := by
  apply List.ext_getElem?
  intro i
  by_cases hi : i < L
  · have := h i hi
    rw [List.getD_eq_getElem?_getD, List.getD_eq_getElem?_getD, List.getElem?_eq_getElem (by omega), List.getElem?_eq_getElem (by omega)] at this
    rw [List.getElem?_eq_getElem (by omega), List.getElem?_eq_getElem (by omega)]
    simpa using this
  · rw [List.getElem?_eq_none (by omega), List.getElem?_eq_none (by omega)]
/-- The view of P, fed one by one, holds the lists that are made from the beginning. -/
theorem feed_full {M : Mdl} {V D H Hd L : Nat} {P : List Int} (hP : P.all (tokB V) = true) (h0 : 1 ≤ P.length) (hl : P.length ≤ 128) (hf : VwFit V D L noX) :
    (feedAll M D H Hd L noX P).T = P ∧ (feedAll M D H Hd L noX P).K = fullK M D H Hd L P ∧ (feedAll M D H Hd L noX P).V = fullV M D H Hd L P := by
  have hc : Cached M D H Hd L (feedAll M D H Hd L noX P) ([] ++ P) := cached_all P (cached_none M D H Hd L) fun x hx => by
    have := List.all_eq_true.1 hP x hx
    unfold tokB at this
    have : 0 ≤ x ∧ x < V := by simpa using this
    exact this.1
  rw [List.nil_append] at hc
  have hfn : VwFit V D L (feedAll M D H Hd L noX P) := feedAll_fit hf hP (by show 0 + _ ≤ _; omega)
  have hlen : (feedAll M D H Hd L noX P).T.length = P.length := by rw [hc.1]
  refine ⟨hc.1, list_eq (by rw [hfn.k, if_neg (by omega)]) (by unfold fullK; simp) fun l h => ?_, list_eq (by rw [hfn.v, if_neg (by omega)]) (by unfold fullV; simp) fun l h => ?_⟩
  · rw [hc.2.1 l h]
    unfold fullK
    rw [List.getD_eq_getElem?_getD, List.getElem?_map, List.getElem?_range h]
    rfl
  · rw [hc.2.2 l h]
    unfold fullV
    rw [List.getD_eq_getElem?_getD, List.getElem?_map, List.getElem?_range h]
    rfl
end Go.Proofs.YtmdjlaileakbeaaGreatDoor

/- The table of steps lies in its block, wherever the row's listed variable reads as listed. -/
namespace Go.Proofs.YtmdjlaileakbeaaGreatDoor
open Go.ChangeShapes Go.WideShapes Go.ChangeAt Go.RowKit
theorem gSteps : Tryz.prog.globalNamed "tiller/curve.steps" = some 0 := by kernel_rfl
theorem tSteps : (Tryz.prog.globals[0]?).map (·.type) = some 148 := by kernel_rfl
theorem cSteps : Tryz.prog.cellsOf 148 = 65 := by kernel_rfl
theorem cNum : Tryz.prog.cellsOf 83 = 1 := by kernel_rfl
theorem tab_of_laid {W : World} (h : laidMetH Tryz.prog [("tiller/curve.steps", Rows.laid_tiller_curve_steps)] W) : Tab W := by
  rw [MakeChecks.laidMetH_plain _ _ _ (by kernel_rfl)] at h
  have h' : laidMet Tryz.prog [("tiller/curve.steps", Lib.tabData .i32 (stp.map fun (n : Nat) => (n : Int)))] W := h
  have ht := Lib.tabIs_of_head gSteps tSteps Tryz.underlying148 Tryz.underlying83 cNum cSteps h'
  unfold Lib.TabIs World.var? at ht
  rw [gSteps] at ht
  simp only [Option.bind_some] at ht
  split at ht
  · rename_i cs t fr hc
    refine ⟨t, fr, ?_⟩
    rw [hc]
    simp only [Option.some.injEq] at ht
    rw [ht]
    simp [tabCells]
  · cases ht
end Go.Proofs.YtmdjlaileakbeaaGreatDoor

/- An argument that is a row of whole numbers, opened once: nil, empty or not. -/
namespace Go.Proofs.YtmdjlaileakbeaaGreatDoor
open Go.ChangeShapes Go.WideShapes Go.ChangeAt Go.RowKit
theorem Tryz.cellsInt : Tryz.prog.cellsOf 3 = 1 := by kernel_rfl
theorem viewI_cells {H : Type} {enc : TypeId × Value → H} {W : World} {fuel : Nat} {cs : List Value} {x : DataW H × List MemPlace}
    (hf : DataW.trod enc Tryz.prog W 0 (fun _ => true) true fuel 30 cs = some x) :
    ∃ (a0 : Option Addr) (len cap : Nat) (Z : List Int), cs = [.slice a0 len cap] ∧ IArg W a0 len cap Z := by
  rcases open_ints Tryz.underlying30 Tryz.underlying3 Tryz.cellsInt hf with ⟨hcs, hx⟩ | ⟨a, len', cap', zs, hcs, _, hl, hm, hz, hx, hcell, hwz⟩
  · exact ⟨none, 0, 0, [], hcs, iarg_nil _⟩
  · simp only [if_true] at hz
    unfold maxLen at hm
    refine ⟨some a, len', cap', zs.take len', hcs, ⟨by simp; omega, by omega, fun k => ?_, fun hn => ?_⟩, hl, by omega, fun h => by cases h⟩
    · rcases Nat.lt_or_ge k (zs.take len').length with hk | hk
      · exact bounds_i64 (hwz _ (List.mem_of_mem_take (el_mem hk)))
      · rw [el_over hk]; omega
    · obtain ⟨b, o, s⟩ := a
      have h0 := hcell 0 (by omega)
      have hs : s = none := by simpa [Addr.add] using World.cell?_spot h0
      subst hs
      refine ⟨b, o, rfl, fun t ht => ?_⟩
      have e : (Addr.mk b o none).add t = ⟨b, o + t, none⟩ := by simp [Addr.add]
      rw [← e, hcell t (by omega), el_take ht]
      rfl
set_option maxRecDepth 100000 in
theorem viewI {H : Type} {enc : TypeId × Value → H} {W : World} {b0 : Nat} {v : Value} {d : DataW H} {p : List MemPlace} (hv : Value.okWide Tryz.prog W .any b0 30 v)
    (h : DataW.Trod enc Tryz.prog W 0 (fun _ => true) true 30 v d p) : ∃ (a0 : Option Addr) (len cap : Nat) (Z : List Int), v = .slice a0 len cap ∧ IArg W a0 len cap Z := by
  obtain ⟨a0, la, ca, rfl⟩ := okWide_slice Tryz.underlying30 hv
  obtain ⟨f, hf⟩ := h
  obtain ⟨a1, l1, c1, Z, e, hA⟩ := viewI_cells hf
  simp [Value.cells] at e
  obtain ⟨rfl, rfl, rfl⟩ := e
  exact ⟨_, _, _, Z, rfl, hA⟩
end Go.Proofs.YtmdjlaileakbeaaGreatDoor

/- Arguments that are rows of rows of fixed numbers, lists of them, and views, opened once. -/
namespace Go.Proofs.YtmdjlaileakbeaaGreatDoor
open Go.ChangeShapes Go.WideShapes Go.ChangeAt Go.RowKit
theorem Tryz.cellsRowR : Tryz.prog.cellsOf 24 = 1 := by kernel_rfl
theorem Tryz.cellsGridR : Tryz.prog.cellsOf 77 = 1 := by kernel_rfl
theorem viewRow_cells {H : Type} {enc : TypeId × Value → H} {W : World} {fuel : Nat} {cs : List Value} {x : DataW H × List MemPlace}
    (hf : DataW.trod enc Tryz.prog W 0 (fun _ => true) true fuel 24 cs = some x) :
    ∃ (a0 : Option Addr) (len cap : Nat) (Z : List Int), cs = [.slice a0 len cap] ∧ ArgR W a0 len cap Z := by
  rcases open_ints Tryz.underlying24 Tryz.underlying83 Tryz.cellsNum hf with ⟨hcs, hx⟩ | ⟨a, len', cap', zs, hcs, _, hl, hm, hz, hx, hcell, hwz⟩
  · exact ⟨none, 0, 0, [], hcs, RowAt.nil _ _, Nat.le_refl _, by omega, fun _ => rfl⟩
  · simp only [if_true] at hz
    unfold maxLen at hm
    refine ⟨some a, len', cap', zs.take len', hcs, ⟨by simp; omega, by omega, fun y hy => bounds_i32 (hwz y (List.mem_of_mem_take hy)), fun hn => ?_⟩, hl, by omega, fun h => by cases h⟩
    obtain ⟨b, o, s⟩ := a
    have h0 := hcell 0 (by omega)
    have hs : s = none := by simpa [Addr.add] using World.cell?_spot h0
    subst hs
    refine ⟨b, o, rfl, fun t ht => ?_⟩
    have e : (Addr.mk b o none).add t = ⟨b, o + t, none⟩ := by simp [Addr.add]
    rw [← e, hcell t (by omega), el_take ht]
    rfl
theorem viewGrid_cells {H : Type} {enc : TypeId × Value → H} {W : World} {fuel : Nat} {cs : List Value} {x : DataW H × List MemPlace}
    (hf : DataW.trod enc Tryz.prog W 0 (fun _ => true) true fuel 77 cs = some x) :
    ∃ (a0 : Option Addr) (len cap : Nat) (Z : List (List Int)), cs = [.slice a0 len cap] ∧ (a0 = none → cap = 0) ∧ len ≤ cap ∧ cap ≤ 9223372036854775807 ∧ GridR W a0 len Z := by
  rcases Deep.open_slice1 Tryz.underlying77 Tryz.cellsRowR hf with ⟨hcs, hx⟩ | ⟨a, len, cap, m, n, V, D, Pl, rfl, hb, hl, hm, hmm, rfl, hx⟩
  · exact ⟨none, 0, 0, [], hcs, fun _ => rfl, Nat.le_refl _, by omega, GridR.nil _ _⟩
  · simp only [if_true] at hmm
    subst hmm
    unfold maxLen at hm
    have each : ∀ i, i < m → ∃ z : (Option Addr × Nat × Nat × List Int), W.cell? (a.add i) = some (.slice z.1 z.2.1 z.2.2.1) ∧ ArgR W z.1 z.2.1 z.2.2.1 z.2.2.2 := fun i hi => by
      obtain ⟨h1, h2⟩ := hx i hi
      obtain ⟨a0, l, c, Z, e, hA⟩ := viewRow_cells h2
      simp only [List.cons.injEq, and_true] at e
      exact ⟨(a0, l, c, Z), by rw [h1, e], hA⟩
    obtain ⟨q, hq⟩ := Deep.choose_lt each
    refine ⟨some a, len, m, (List.range len).map fun t => (q t).2.2.2, rfl, (fun h => by cases h), hl, by omega, by simp, by omega, fun hn => ?_⟩
    obtain ⟨b, o, s⟩ := a
    have h0 := (hq 0 (by omega)).1
    have hs : s = none := by simpa [Addr.add] using World.cell?_spot h0
    subst hs
    refine ⟨b, o, rfl, fun t ht => ?_⟩
    obtain ⟨h1, h2⟩ := hq t (by omega)
    have e : (Addr.mk b o none).add t = ⟨b, o + t, none⟩ := by simp [Addr.add]
    have er : rowOf ((List.range len).map fun t => (q t).2.2.2) t = (q t).2.2.2 := by unfold rowOf; simp [List.getD_eq_getElem?_getD, ht]
    rw [er, ← e]
    exact ⟨_, _, _, h1, h2⟩
theorem viewCube_cells {H : Type} {enc : TypeId × Value → H} {W : World} {fuel : Nat} {cs : List Value} {x : DataW H × List MemPlace}
    (hf : DataW.trod enc Tryz.prog W 0 (fun _ => true) true fuel 31 cs = some x) :
    ∃ (a0 : Option Addr) (len cap : Nat) (Z : List (List (List Int))), cs = [.slice a0 len cap] ∧ (a0 = none → cap = 0) ∧ len ≤ cap ∧ cap ≤ 9223372036854775807 ∧ CubeR W a0 len Z := by
  rcases Deep.open_slice1 Tryz.underlying31 Tryz.cellsGridR hf with ⟨hcs, hx⟩ | ⟨a, len, cap, m, n, V, D, Pl, rfl, hb, hl, hm, hmm, rfl, hx⟩
  · exact ⟨none, 0, 0, [], hcs, fun _ => rfl, Nat.le_refl _, by omega, CubeR.nil _ _⟩
  · simp only [if_true] at hmm
    subst hmm
    unfold maxLen at hm
    have each : ∀ i, i < m → ∃ z : (Option Addr × Nat × Nat × List (List Int)), W.cell? (a.add i) = some (.slice z.1 z.2.1 z.2.2.1) ∧ (z.1 = none → z.2.2.1 = 0) ∧ z.2.1 ≤ z.2.2.1 ∧ z.2.2.1 ≤ 9223372036854775807 ∧ GridR W z.1 z.2.1 z.2.2.2 := fun i hi => by
      obtain ⟨h1, h2⟩ := hx i hi
      obtain ⟨a0, l, c, Z, e, e1, e2, e3, hA⟩ := viewGrid_cells h2
      simp only [List.cons.injEq, and_true] at e
      exact ⟨(a0, l, c, Z), by rw [h1, e], e1, e2, e3, hA⟩
    obtain ⟨q, hq⟩ := Deep.choose_lt each
    refine ⟨some a, len, m, (List.range len).map fun t => (q t).2.2.2, rfl, (fun h => by cases h), hl, by omega, by simp, by omega, fun hn => ?_⟩
    obtain ⟨b, o, s⟩ := a
    have h0 := (hq 0 (by omega)).1
    have hs : s = none := by simpa [Addr.add] using World.cell?_spot h0
    subst hs
    refine ⟨b, o, rfl, fun t R hR => ?_⟩
    have ht : t < len := by have := (List.getElem?_eq_some_iff.1 hR).1; simpa using this
    obtain ⟨h1, h2, h3, h4, h5⟩ := hq t (by omega)
    have e : (Addr.mk b o none).add t = ⟨b, o + t, none⟩ := by simp [Addr.add]
    have er : R = (q t).2.2.2 := by simpa [ht] using hR.symm
    rw [er, ← e]
    exact ⟨_, _, _, h1, h2, h3, h4, h5⟩
theorem Tryz.cellsSl3 : Tryz.prog.cellsOf 30 = 1 := by kernel_rfl
theorem Tryz.cellsCubeR : Tryz.prog.cellsOf 31 = 1 := by kernel_rfl
theorem Tryz.cellsCacheR : Tryz.prog.cellsOf 33 = 2 := by kernel_rfl
theorem Tryz.cellsViewR : Tryz.prog.cellsOf 35 = 3 := by kernel_rfl
set_option maxRecDepth 100000 in
theorem viewCache_cells {H : Type} {enc : TypeId × Value → H} {W : World} {fuel : Nat} {cs : List Value} {x : DataW H × List MemPlace}
    (hf : DataW.trod enc Tryz.prog W 0 (fun _ => true) true fuel 33 cs = some x) :
    ∃ (k v : Sl) (K V : List (List (List Int))), cs = [k.v, v.v] ∧ CubeR W k.ao k.n K ∧ CubeR W v.ao v.n V := by
  obtain ⟨y0, y1, n, rfl, hl, h0, h1⟩ := trod_struct2 Tryz.underlying33 hf
  rw [Tryz.cellsCacheR] at hl
  match cs, hl with
  | [c0, c1], _ =>
    simp [Tryz.cellsCubeR] at h0 h1
    obtain ⟨a0, l0, q0, Z0, e0, -, -, -, k0⟩ := viewCube_cells h0
    obtain ⟨a1, l1, q1, Z1, e1, -, -, -, k1⟩ := viewCube_cells h1
    simp only [List.cons.injEq, and_true] at e0 e1
    subst e0 e1
    exact ⟨⟨a0, l0, q0⟩, ⟨a1, l1, q1⟩, Z0, Z1, rfl, k0, k1⟩
set_option maxRecDepth 100000 in
theorem viewVw_cells {H : Type} {enc : TypeId × Value → H} {W : World} {fuel : Nat} {cs : List Value} {x : DataW H × List MemPlace}
    (hf : DataW.trod enc Tryz.prog W 0 (fun _ => true) true fuel 35 cs = some x) :
    ∃ (v : VwV) (X : Vw), cs = v.cells.toList ∧ VwR W v X := by
  obtain ⟨y0, y1, n, rfl, hl, h0, h1⟩ := trod_struct2 Tryz.underlying35 hf
  rw [Tryz.cellsViewR] at hl
  match cs, hl with
  | [c0, c1, c2], _ =>
    simp [Tryz.cellsSl3, Tryz.cellsCacheR] at h0 h1
    obtain ⟨a0, l0, q0, Z0, e0, k0⟩ := viewI_cells h0
    obtain ⟨k, v, K, V, e1, k1, k2⟩ := viewCache_cells h1
    simp only [List.cons.injEq, and_true] at e0 e1
    obtain ⟨rfl, rfl⟩ := e1
    subst e0
    exact ⟨⟨⟨a0, l0, q0⟩, k, v⟩, ⟨Z0, K, V⟩, rfl, k0, k1, k2⟩
set_option maxRecDepth 100000 in
theorem viewVw {H : Type} {enc : TypeId × Value → H} {W : World} {b0 : Nat} {v : Value} {d : DataW H} {p : List MemPlace} (hv : Value.okWide Tryz.prog W .any b0 35 v)
    (h : DataW.Trod enc Tryz.prog W 0 (fun _ => true) true 35 v d p) : ∃ (vv : VwV) (X : Vw), v = .agg vv.cells ∧ VwR W vv X := by
  obtain ⟨cs, rfl, hsz⟩ := okWide_struct Tryz.underlying35 hv
  obtain ⟨f, hf⟩ := h
  obtain ⟨vv, X, e, hA⟩ := viewVw_cells hf
  refine ⟨vv, X, ?_, hA⟩
  simp only [Value.cells] at e
  congr 1
  exact Array.toList_inj.1 e
end Go.Proofs.YtmdjlaileakbeaaGreatDoor

/- An argument that is a model's numbers, opened once. -/
namespace Go.Proofs.YtmdjlaileakbeaaGreatDoor
open Go.ChangeShapes Go.WideShapes Go.ChangeAt Go.RowKit
theorem Tryz.cellsMatW : Tryz.prog.cellsOf 26 = 3 := by kernel_rfl
theorem Tryz.cellsBlkW : Tryz.prog.cellsOf 60 = 20 := by kernel_rfl
theorem Tryz.cellsBlksW : Tryz.prog.cellsOf 27 = 1 := by kernel_rfl
theorem Tryz.cellsWW : Tryz.prog.cellsOf 29 = 8 := by kernel_rfl
theorem Tryz.cellsIntW : Tryz.prog.cellsOf 3 = 1 := by kernel_rfl
set_option maxRecDepth 100000 in
theorem viewMtW_cells {H : Type} {enc : TypeId × Value → H} {W : World} {fuel : Nat} {cs : List Value} {x : DataW H × List MemPlace}
    (hf : DataW.trod enc Tryz.prog W 0 (fun _ => true) true fuel 26 cs = some x) :
    ∃ (m : Mt) (Z : List Int), cs = [.int .i64 m.r, .int .i64 m.c, m.d.v] ∧ m.Ok ∧ ArgR W m.d.ao m.d.n m.d.c Z := by
  obtain ⟨y0, y1, y2, n, rfl, hl, h0, h1, h2⟩ := Deep.trod_struct3 Tryz.underlying26 hf
  rw [Tryz.cellsMatW] at hl
  match cs, hl with
  | [c0, c1, c2], _ =>
    simp [Tryz.cellsIntW, Tryz.cellsRowR] at h0 h1 h2
    obtain ⟨r, e0, _, w0⟩ := DataW.trod_int Tryz.underlying3 h0
    obtain ⟨c, e1, _, w1⟩ := DataW.trod_int Tryz.underlying3 h1
    obtain ⟨a, l, cp, Z, e2, hA⟩ := viewRow_cells h2
    simp only [List.cons.injEq, and_true] at e0 e1 e2
    subst e0 e1 e2
    exact ⟨⟨r, c, ⟨a, l, cp⟩⟩, Z, rfl, ⟨bounds_i64 w0, bounds_i64 w1⟩, hA⟩
set_option maxRecDepth 100000 in
set_option maxHeartbeats 1600000 in
theorem viewBk_cells {H : Type} {enc : TypeId × Value → H} {W : World} {fuel : Nat} {cs : List Value} {x : DataW H × List MemPlace}
    (hf : DataW.trod enc Tryz.prog W 0 (fun _ => true) true fuel 60 cs = some x) :
    ∃ (b : Bk) (y : Lay), cs = b.cells.toList ∧ b.Ok ∧ LyR W b y := by
  obtain ⟨xs, n, _, rfl, hl, hxl, hff⟩ := DataW.trod_struct Tryz.underlying60 hf
  rw [Tryz.cellsBlkW] at hl
  match xs, hxl, cs, hl with
  | [y0, y1, y2, y3, y4, y5, y6, y7], _, [c0, c1, c2, c3, c4, c5, c6, c7, c8, c9, c10, c11, c12, c13, c14, c15, c16, c17, c18, c19], _ =>
    have g0 := hff 0 _ rfl
    have g1 := hff 1 _ rfl
    have g2 := hff 2 _ rfl
    have g3 := hff 3 _ rfl
    have g4 := hff 4 _ rfl
    have g5 := hff 5 _ rfl
    have g6 := hff 6 _ rfl
    have g7 := hff 7 _ rfl
    simp [Tryz.cellsMatW, Tryz.cellsRowR] at g0 g1 g2 g3 g4 g5 g6 g7
    obtain ⟨aaf, llf, ppf, Zf, ef, hhf⟩ := viewRow_cells g0
    obtain ⟨mq, Zq, eq, oq, hhq⟩ := viewMtW_cells g1
    obtain ⟨mk, Zk, ek, ok, hhk⟩ := viewMtW_cells g2
    obtain ⟨mv, Zv, ev, ov, hhv⟩ := viewMtW_cells g3
    obtain ⟨mo, Zo, eo, oo, hho⟩ := viewMtW_cells g4
    obtain ⟨aas, lls, pps, Zs, es, hhs⟩ := viewRow_cells g5
    obtain ⟨mu, Zu, eu, ou, hhu⟩ := viewMtW_cells g6
    obtain ⟨md, Zd, ed, od, hhd⟩ := viewMtW_cells g7
    simp only [List.cons.injEq, and_true] at ef eq ek ev eo es eu ed
    subst ef
    obtain ⟨rfl, rfl, rfl⟩ := eq
    obtain ⟨rfl, rfl, rfl⟩ := ek
    obtain ⟨rfl, rfl, rfl⟩ := ev
    obtain ⟨rfl, rfl, rfl⟩ := eo
    subst es
    obtain ⟨rfl, rfl, rfl⟩ := eu
    obtain ⟨rfl, rfl, rfl⟩ := ed
    exact ⟨⟨⟨aaf, llf, ppf⟩, mq, mk, mv, mo, ⟨aas, lls, pps⟩, mu, md⟩, ⟨Zf, Zq, Zk, Zv, Zo, Zs, Zu, Zd⟩, rfl, ⟨by have := hhf.row.max; exact this, oq, ok, ov, oo, by have := hhs.row.max; exact this, ou, od⟩, ⟨hhf, hhq, hhk, hhv, hho, hhs, hhu, hhd⟩⟩
set_option maxRecDepth 100000 in
theorem viewBks_cells {H : Type} {enc : TypeId × Value → H} {W : World} {fuel : Nat} {cs : List Value} {x : DataW H × List MemPlace}
    (hf : DataW.trod enc Tryz.prog W 0 (fun _ => true) true fuel 27 cs = some x) :
    ∃ (s : Sl) (bs : List Bk) (Ls : List Lay), cs = [s.v] ∧ BlocksAt W s bs ∧ bs.length = Ls.length ∧ (∀ (t : Nat) (x : Bk), bs[t]? = some x → ∃ y, Ls[t]? = some y ∧ LyR W x y) := by
  rcases Deep.open_slice Tryz.underlying27 hf with ⟨hcs, hx⟩ | ⟨a, len, cap, m, n, D, Pl, rfl, hb, hl, hm, hmm, rfl, hx⟩
  · exact ⟨⟨none, 0, 0⟩, [], [], hcs, ⟨rfl, by show 0 ≤ _; omega, (fun x hx => by cases hx), fun h => absurd h (by show ¬ 0 < 0; omega)⟩, rfl, fun t x h => by simp at h⟩
  · simp only [if_true] at hmm
    subst hmm
    unfold maxLen at hm
    have each : ∀ i, i < m → ∃ z : Bk × Lay, (∀ j v, z.1.cells.toList[j]? = some v → W.cell? (a.add (i * 20 + j)) = some v) ∧ z.1.Ok ∧ LyR W z.1 z.2 := by
      intro i hi
      obtain ⟨cs', h1, h2⟩ := hx i hi
      rw [Tryz.cellsBlkW] at h1
      obtain ⟨_, hlen, hcell⟩ := World.cells?_some h1
      obtain ⟨b, y, rfl, hok, hA⟩ := viewBk_cells h2
      refine ⟨(b, y), fun j v hj => ?_, hok, hA⟩
      have hj2 : j < 20 := (List.getElem?_eq_some_iff.1 hj).1
      have cj := hcell j (by omega)
      rw [Deep.add_add] at cj
      rw [cj]
      exact hj
    haveI : Inhabited (Bk × Lay) := ⟨(⟨⟨none, 0, 0⟩, ⟨0, 0, ⟨none, 0, 0⟩⟩, ⟨0, 0, ⟨none, 0, 0⟩⟩, ⟨0, 0, ⟨none, 0, 0⟩⟩, ⟨0, 0, ⟨none, 0, 0⟩⟩, ⟨none, 0, 0⟩, ⟨0, 0, ⟨none, 0, 0⟩⟩, ⟨0, 0, ⟨none, 0, 0⟩⟩⟩, ⟨[], [], [], [], [], [], [], []⟩)⟩
    obtain ⟨q, hq⟩ := Deep.choose_lt each
    have hat : ∀ {t : Nat} {x : Bk}, ((List.range len).map fun t => (q t).1)[t]? = some x → t < len ∧ x = (q t).1 := fun {t x} h => by
      have ht : t < len := by have := (List.getElem?_eq_some_iff.1 h).1; simpa using this
      exact ⟨ht, by simpa [ht] using h.symm⟩
    refine ⟨⟨some a, len, m⟩, (List.range len).map fun t => (q t).1, (List.range len).map fun t => (q t).2, rfl, ⟨by simp, by show len ≤ _; omega, fun x hx => ?_, fun hn => ?_⟩, by simp, fun t x hx => ?_⟩
    · obtain ⟨t, ht, rfl⟩ := List.mem_map.1 hx
      exact (hq t (by have := List.mem_range.1 ht; omega)).2.1
    · have hn' : 0 < len := hn
      obtain ⟨b, o, s⟩ := a
      have h0 := (hq 0 (by omega)).1 0 _ rfl
      have hs : s = none := by simpa [Addr.add] using World.cell?_spot h0
      subst hs
      refine ⟨b, o, rfl, fun t x hx j v hj => ?_⟩
      obtain ⟨ht, rfl⟩ := hat hx
      have := (hq t (by omega)).1 j v hj
      have e : (Addr.mk b o none).add (t * 20 + j) = ⟨b, o + t * 20 + j, none⟩ := by simp [Addr.add, Nat.add_assoc]
      rw [← e]
      exact this
    · obtain ⟨ht, rfl⟩ := hat hx
      exact ⟨(q t).2, by simp [ht], (hq t (by omega)).2.2⟩
set_option maxRecDepth 100000 in
set_option maxHeartbeats 1600000 in
theorem viewWt {H : Type} {enc : TypeId × Value → H} {W : World} {b0 : Nat} {v : Value} {d : DataW H} {p : List MemPlace} (hv : Value.okWide Tryz.prog W .any b0 29 v)
    (h : DataW.Trod enc Tryz.prog W 0 (fun _ => true) true 29 v d p) : ∃ (V : Wt) (X : List Bk × Mdl), v = .agg V.cells ∧ WtR W V X.1 X.2 := by
  obtain ⟨cs, rfl, hsz⟩ := okWide_struct Tryz.underlying29 hv
  obtain ⟨f, hf⟩ := h
  obtain ⟨xs, n, _, _, hl, hxl, hff⟩ := DataW.trod_struct Tryz.underlying29 hf
  rw [Tryz.cellsWW] at hl
  simp only [Value.cells] at hl hff
  generalize hcs : cs.toList = L at *
  match xs, hxl, L, hl with
  | [y0, y1, y2, y3], _, [c0, c1, c2, c3, c4, c5, c6, c7], _ =>
    have g0 := hff 0 _ rfl
    have g1 := hff 1 _ rfl
    have g2 := hff 2 _ rfl
    have g3 := hff 3 _ rfl
    simp [Tryz.cellsMatW, Tryz.cellsRowR, Tryz.cellsBlksW] at g0 g1 g2 g3
    obtain ⟨me, Ze, ee, oe, he⟩ := viewMtW_cells g0
    obtain ⟨s, bs, Ls, eb, hb, hlen, hbs⟩ := viewBks_cells g1
    obtain ⟨al, ll, pl, Zl, el', hl'⟩ := viewRow_cells g2
    obtain ⟨mo, Zo, eo, oo, ho⟩ := viewMtW_cells g3
    simp only [List.cons.injEq, and_true] at ee eb el' eo
    obtain ⟨rfl, rfl, rfl⟩ := ee
    obtain ⟨rfl, rfl, rfl⟩ := eo
    subst eb el'
    refine ⟨⟨me, s, ⟨al, ll, pl⟩, mo⟩, (bs, ⟨Ze, Ls, Zl, Zo⟩), ?_, ⟨⟨oe, by have := hl'.row.max; exact this, oo⟩, he, hb, hlen, hbs, hl', ho⟩⟩
    congr 1
    exact Array.toList_inj.1 (by rw [hcs]; rfl)
end Go.Proofs.YtmdjlaileakbeaaGreatDoor
