/- Contracts of the program's functions, part 9 of 9: what each call returns and leaves of memory. -/
import Derived.Test.YthmpfmclbmhkfaaDoorPk8
import Derived.Test.YthmpfmclbmhkfaaDoorPk2
import Derived.Test.YthmpfmclbmhkfaaDoorPk5
import Derived.Test.YthmpfmclbmhkfaaDoorPk4
import Derived.Test.YthmpfmclbmhkfaaDoorPk1
import Derived.Test.YthmpfmclbmhkfaaDoorPk6
import Derived.Test.YthmpfmclbmhkfaaDoorPk3
import Derived.LaidMore
import Derived.Lib.LaidTab
import Derived.Stop.Joined
/- The awake check of the laws of layer 9 is true. -/
namespace Go.Proofs.YthmpfmclbmhkfaaDoor
open Go.ChangeShapes Go.WideShapes Go.ChangeAt Go.RowKit
theorem noV_at (w : World) : VwAt w ⟨⟨none, 0, 0⟩, ⟨none, 0, 0⟩, ⟨none, 0, 0⟩⟩ noX := ⟨iarg_nil _, ⟨rfl, by show 0 ≤ _; omega, fun h => absurd (show 0 < 0 from h) (by omega)⟩, ⟨rfl, by show 0 ≤ _; omega, fun h => absurd (show 0 < 0 from h) (by omega)⟩⟩
set_option maxRecDepth 100000 in
set_option maxHeartbeats 1600000 in
theorem sawake_any (w : World) (hT : Tab w) : Calls Tryd.prog 7 #[] w fun e w' => e = .returned (.bool true) ∧ Below w.heap.size w w' := by
  have X0 := blk_new w 23 #[.int .i64 2, .int .i64 1, .int .i64 1, .int .i64 1, .int .i64 1]
  have B0 : Below w.heap.size w (w.alloc (.cells #[.int .i64 2, .int .i64 1, .int .i64 1, .int .i64 1, .int .i64 1] 23)) := (Below.refl _ _).alloc (Nat.le_refl _) _
  generalize hw0 : w.alloc (.cells #[.int .i64 2, .int .i64 1, .int .i64 1, .int .i64 1, .int .i64 1] 23) = w0 at *
  have a0 : w0.cell? ⟨w.heap.size, 0, none⟩ = some (.int .i64 2) := X0.cell 0 rfl
  have a1 : w0.cell? ⟨w.heap.size, 1, none⟩ = some (.int .i64 1) := X0.cell 1 rfl
  have a2 : w0.cell? ⟨w.heap.size, 2, none⟩ = some (.int .i64 1) := X0.cell 2 rfl
  have a3 : w0.cell? ⟨w.heap.size, 3, none⟩ = some (.int .i64 1) := X0.cell 3 rfl
  have a4 : w0.cell? ⟨w.heap.size, 4, none⟩ = some (.int .i64 1) := X0.cell 4 rfl
  have HT : Hid (∀ wv, Below w.heap.size w wv → Tab wv) := fun wv hb => hT.next hb
  clear hT
  go_enter Tryd.func7, Tryd.ntmps7
  go_wp2_with fail
  refine (make_small _).mono ?_
  rintro e w1 ⟨W, bs, M, rfl, G1, B1⟩
  replace X0 := X0.below B1
  have D1 := below_then B0 B1
  clear hw0 a0 a1 a2 a3 a4 B0 B1
  have siz : W.cells.size = 8 := rfl
  have one := wt_one W
  have CF := fun (wv : World) (hg : Good wv 2 1 1 1 1 W bs M) (hT : Tab wv) => feed_ok 2 1 1 1 1 W bs M ⟨⟨none, 0, 0⟩, ⟨none, 0, 0⟩, ⟨none, 0, 0⟩⟩ noX 1 wv hT (by show 0 ≤ 127; omega) (by omega) hg (noV_at wv) (noX_fit _ _ _)
  have CB := fun (wv : World) (hg : Good wv 2 1 1 1 1 W bs M) => feed_tok 2 1 1 1 1 W bs M ⟨⟨none, 0, 0⟩, ⟨none, 0, 0⟩, ⟨none, 0, 0⟩⟩ noX 2 wv (by show 0 ≤ 127; omega) (by decide) hg (noV_at wv) (noX_fit _ _ _)
  have CU := fun (wv : World) (hg : Good wv 2 1 1 1 1 W bs M) (hT : Tab wv) (ao : Option Addr) (ha : IArg wv ao 1 1 [1]) => full_ok 2 1 1 1 1 W bs M ao 1 1 [1] wv hg ha hT (by decide)
  have HE : Hid (likR M 2 1 (feedX M 1 1 1 1 noX 1) = fullX M 2 1 1 1 1 [1]) := fullX_last (cached_none M 1 1 1 1) 1
  have HTl : Hid ((feedV M 1 1 1 1 noX 1).T = [1]) := rfl
  unfold cfgC at CF CB CU
  unfold VwV.cells Sl.v at CF CB
  unfold noV at CB
  simp only at CF CB
  generalize hws : W.cells = ws at *
  have XA1 := blk_new w1 32 #[.int .i64 0, .int .i64 0, .slice none 0 0, .slice none 0 0, .slice none 0 0, .int .i64 0, .int .i64 0, .slice none 0 0]
  have BA1 : Below w1.heap.size w1 (w1.alloc (.cells #[.int .i64 0, .int .i64 0, .slice none 0 0, .slice none 0 0, .slice none 0 0, .int .i64 0, .int .i64 0, .slice none 0 0] 32)) := (Below.refl _ _).alloc (Nat.le_refl _) _
  generalize hwa1 : w1.alloc (.cells #[.int .i64 0, .int .i64 0, .slice none 0 0, .slice none 0 0, .slice none 0 0, .int .i64 0, .int .i64 0, .slice none 0 0] 32) = wa1 at *
  have XB1 := XA1.row ws
  have BB1 := below_setRow BA1 (Nat.le_refl _) ws
  generalize hwb1 : wa1.setRow w1.heap.size ws = wb1 at *
  have XR := XB1
  replace X0 := X0.below BB1
  have D2 := below_then D1 BB1
  have G2 := G1.below BB1
  have a0 : wb1.cell? ⟨w.heap.size, 0, none⟩ = some (.int .i64 2) := X0.cell 0 rfl
  have a1 : wb1.cell? ⟨w.heap.size, 1, none⟩ = some (.int .i64 1) := X0.cell 1 rfl
  have a2 : wb1.cell? ⟨w.heap.size, 2, none⟩ = some (.int .i64 1) := X0.cell 2 rfl
  have a3 : wb1.cell? ⟨w.heap.size, 3, none⟩ = some (.int .i64 1) := X0.cell 3 rfl
  have a4 : wb1.cell? ⟨w.heap.size, 4, none⟩ = some (.int .i64 1) := X0.cell 4 rfl
  go_wp2_with (first | (refine wpList_store_row rfl 32 _ _ rfl w1.heap.size ws rfl rfl 32 _ XA1 (by rw [siz]; exact Tryd.infoW) (by rw [siz]; rfl) one ?_; rw [hwb1]) | (refine wpList_load_row rfl 32 _ rfl w1.heap.size rfl 32 ws (0, 0) _ XR Tryd.underlying32 rfl (by rw [siz]; exact Tryd.infoW) ?_))
  refine (CF _ G2 (HT.out _ D2)).mono ?_
  rintro e w4 ⟨vv, g4, rfl, N4, F4, B4⟩
  have hT4 := N4.now.t
  have onev := vwv_one vv
  have sizv := vwv_size vv
  obtain ⟨⟨ta, tn, tz⟩, ⟨ka, kn, kz⟩, ⟨va, vn, vz⟩⟩ := vv
  simp only at hT4
  have htn : tn = 1 := by have h9 := hT4.row.len; rw [HTl.out] at h9; exact h9.symm
  subst htn
  replace X0 := X0.below B4
  replace XR := XR.below B4
  have D4 := below_then D2 B4
  have G4 := G2.below B4
  rw [HE.out] at F4
  clear hwa1 hwb1 a0 a1 a2 a3 a4 CF N4 hT4 XA1 BA1 XB1 BB1 D1 D2 G1 G2 HTl HE B4
  unfold VwV.cells Sl.v at onev sizv
  simp only at onev sizv
  have XA2 := blk_new w4 42 #[.slice none 0 0, .slice none 0 0, .slice none 0 0]
  have BA2 : Below w4.heap.size w4 (w4.alloc (.cells #[.slice none 0 0, .slice none 0 0, .slice none 0 0] 42)) := (Below.refl _ _).alloc (Nat.le_refl _) _
  generalize hwa2 : w4.alloc (.cells #[.slice none 0 0, .slice none 0 0, .slice none 0 0] 42) = wa2 at *
  have XB2 := XA2.row #[.slice ta 1 tz, .slice ka kn kz, .slice va vn vz]
  have BB2 := below_setRow BA2 (Nat.le_refl _) #[.slice ta 1 tz, .slice ka kn kz, .slice va vn vz]
  generalize hwb2 : wa2.setRow w4.heap.size #[.slice ta 1 tz, .slice ka kn kz, .slice va vn vz] = wb2 at *
  replace X0 := X0.below BB2
  replace XR := XR.below BB2
  replace D4 := below_then D4 BB2
  replace G4 := G4.below BB2
  replace F4 := F4.below BB2
  have XV := XB2
  have XT := blk_new wb2 3 #[.int .i64 1]
  have BT : Below wb2.heap.size wb2 (wb2.alloc (.cells #[.int .i64 1] 3)) := (Below.refl _ _).alloc (Nat.le_refl _) _
  generalize hwt : wb2.alloc (.cells #[.int .i64 1] 3) = wt at *
  have a0 : wb2.cell? ⟨w.heap.size, 0, none⟩ = some (.int .i64 2) := X0.cell 0 rfl
  have a1 : wb2.cell? ⟨w.heap.size, 1, none⟩ = some (.int .i64 1) := X0.cell 1 rfl
  have a2 : wb2.cell? ⟨w.heap.size, 2, none⟩ = some (.int .i64 1) := X0.cell 2 rfl
  have a3 : wb2.cell? ⟨w.heap.size, 3, none⟩ = some (.int .i64 1) := X0.cell 3 rfl
  have a4 : wb2.cell? ⟨w.heap.size, 4, none⟩ = some (.int .i64 1) := X0.cell 4 rfl
  go_wp2_with (first | (refine wpList_store_row rfl 42 _ _ rfl w4.heap.size #[.slice ta 1 tz, .slice ka kn kz, .slice va vn vz] rfl rfl 42 _ XA2 Tryd.infoV rfl onev ?_; rw [hwb2]) | (refine wpList_load_row rfl 32 _ rfl w1.heap.size rfl 32 ws (0, 0) _ XR Tryd.underlying32 rfl (by rw [siz]; exact Tryd.infoW) ?_))
  have D5 := below_then D4 BT
  refine (CU _ (G4.below BT) (HT.out _ D5) _ (iarg_one XT (by omega) (by omega))).mono ?_
  rintro e w6 ⟨g6, gK, gV, rfl, F6, N6, N7, B6⟩
  replace X0 := (X0.below BT).below B6
  replace XR := (XR.below BT).below B6
  replace XV := (XV.below BT).below B6
  have F5 := (F4.below BT).below B6
  have D6 := below_then D5 B6
  have G6 := (G4.below BT).below B6
  clear hwa2 hwb2 hwt a0 a1 a2 a3 a4 CU N6 N7 XA2 BA2 XB2 BB2 XT BT D4 D5 G4 F4 B6
  have XA3 := blk_new w6 40 #[.slice none 0 0, .slice none 0 0]
  have BA3 : Below w6.heap.size w6 (w6.alloc (.cells #[.slice none 0 0, .slice none 0 0] 40)) := (Below.refl _ _).alloc (Nat.le_refl _) _
  generalize hwa3 : w6.alloc (.cells #[.slice none 0 0, .slice none 0 0] 40) = wa3 at *
  have XB3 := XA3.row #[.slice (some ⟨gK, 0, none⟩) 1 1, .slice (some ⟨gV, 0, none⟩) 1 1]
  have BB3 := below_setRow BA3 (Nat.le_refl _) #[.slice (some ⟨gK, 0, none⟩) 1 1, .slice (some ⟨gV, 0, none⟩) 1 1]
  generalize hwb3 : wa3.setRow w6.heap.size #[.slice (some ⟨gK, 0, none⟩) 1 1, .slice (some ⟨gV, 0, none⟩) 1 1] = wb3 at *
  have hall3 : Array.all (#[.slice (some ⟨gK, 0, none⟩) 1 1, .slice (some ⟨gV, 0, none⟩) 1 1] : Array Value) (fun v => v.oneCell') = true := by simp [Value.oneCell']
  replace X0 := X0.below BB3
  replace XR := XR.below BB3
  replace XV := XV.below BB3
  replace D6 := below_then D6 BB3
  replace G6 := G6.below BB3
  replace F5 := F5.below BB3
  replace F6 := F6.below BB3
  have a0 : wb3.cell? ⟨w.heap.size, 0, none⟩ = some (.int .i64 2) := X0.cell 0 rfl
  have a1 : wb3.cell? ⟨w.heap.size, 1, none⟩ = some (.int .i64 1) := X0.cell 1 rfl
  have a2 : wb3.cell? ⟨w.heap.size, 2, none⟩ = some (.int .i64 1) := X0.cell 2 rfl
  have a3 : wb3.cell? ⟨w.heap.size, 3, none⟩ = some (.int .i64 1) := X0.cell 3 rfl
  have a4 : wb3.cell? ⟨w.heap.size, 4, none⟩ = some (.int .i64 1) := X0.cell 4 rfl
  go_wp2_with (first | (refine wpList_store_row rfl 40 _ _ rfl w6.heap.size #[.slice (some ⟨gK, 0, none⟩) 1 1, .slice (some ⟨gV, 0, none⟩) 1 1] rfl rfl 40 _ XA3 Tryd.infoCa rfl hall3 ?_; rw [hwb3]) | (refine wpList_load_row rfl 32 _ rfl w1.heap.size rfl 32 ws (0, 0) _ XR Tryd.underlying32 rfl (by rw [siz]; exact Tryd.infoW) ?_))
  refine (CB _ G6).mono ?_
  rintro e w8 ⟨rfl, B8⟩
  replace XV := XV.below B8
  have D8 := below_then D6 B8
  replace F5 := F5.below B8
  replace F6 := F6.below B8
  clear hwa3 hwb3 a0 a1 a2 a3 a4 CB XA3 BA3 XB3 BB3 D6 G6 X0 XR B8
  have XA4 := blk_new w8 42 #[.slice none 0 0, .slice none 0 0, .slice none 0 0]
  have BA4 : Below w8.heap.size w8 (w8.alloc (.cells #[.slice none 0 0, .slice none 0 0, .slice none 0 0] 42)) := (Below.refl _ _).alloc (Nat.le_refl _) _
  generalize hwa4 : w8.alloc (.cells #[.slice none 0 0, .slice none 0 0, .slice none 0 0] 42) = wa4 at *
  have XB4 := XA4.row #[.slice none 0 0, .slice none 0 0, .slice none 0 0]
  have BB4 := below_setRow BA4 (Nat.le_refl _) #[.slice none 0 0, .slice none 0 0, .slice none 0 0]
  generalize hwb4 : wa4.setRow w8.heap.size #[.slice none 0 0, .slice none 0 0, .slice none 0 0] = wb4 at *
  have hall4 : Array.all (#[.slice none 0 0, .slice none 0 0, .slice none 0 0] : Array Value) (fun v => v.oneCell') = true := by simp [Value.oneCell']
  replace XV := XV.below BB4
  have D9 := below_then D8 BB4
  replace F5 := F5.below BB4
  replace F6 := F6.below BB4
  have cT : wb4.cell? ⟨w4.heap.size, 0, none⟩ = some (.slice ta 1 tz) := XV.cell 0 rfl
  have CS := same_any (some ⟨g4, 0, none⟩) (some ⟨g6, 0, none⟩) 2 2 2 _ wb4 F5.rowAt F6.rowAt
  go_upto_region 6 with (refine wpList_store_row rfl 42 _ _ rfl w8.heap.size #[.slice none 0 0, .slice none 0 0, .slice none 0 0] rfl rfl 42 _ XA4 Tryd.infoV rfl hall4 ?_; rw [hwb4])
  clear hwa4 hwb4
  go_wp2_with (go_at_call 18; refine CS.mono ?_; rintro e wz ⟨rfl, mq, hz⟩; have Dz : Below w.heap.size w wz := (by rw [hz]; exact below_drewN D9 mq); have cZ : wz.cell? ⟨w4.heap.size, 0, none⟩ = some (.slice ta 1 tz) := (by rw [hz]; simpa using cT); clear hz cT)
  go_ret
  exact ⟨rfl, Dz⟩
end Go.Proofs.YthmpfmclbmhkfaaDoor

/- The document's Same of lists of rows, and of views: of two that read alike it is true. -/
namespace Go.Proofs.YthmpfmclbmhkfaaDoor
open Go.ChangeShapes Go.WideShapes Go.ChangeAt Go.RowKit
theorem drewN_cell (w : World) (m : Nat) {a : Addr} {v : Value} (h : w.cell? a = some v) : (w.drewN m).cell? a = some v := by
  have hlt := World.block_lt_of_cell? w _ h
  rw [(below_drewN (Below.refl w.heap.size w) m).cell hlt]; exact h
set_option maxHeartbeats 800000 in
theorem cubeSame_eq (ao bo : Option Addr) (n ca cb : Nat) (C : List (List (List Int))) (w : World) (hA : CubeAt w ao n C) (hB : CubeAt w bo n C) :
   Calls Tryd.prog 28 #[.slice ao n ca, .slice bo n cb] w fun e w' => e = .returned (.bool true) ∧ ∃ m, w' = w.drewN m := by
  have hn := hA.max
  have hl := hA.len
  go_enter Tryd.func28, Tryd.ntmps28
  go_wp2
  go_loopg [14] n (fun r i wr => ∃ k : Nat, k ≤ n ∧ r = n - k ∧ i = .int .i64 k ∧ ∃ m, wr = w.drewN m)
  case atStart => exact ⟨0, by omega, by omega, rfl, 0, rfl⟩
  case round =>
    obtain ⟨k, hk, rfl, rfl, m0, hw0⟩ := hrel
    have HW : Hid (wr = w.drewN m0) := hw0
    clear hw0
    by_cases hlt : k < n
    · obtain ⟨b, o, rfl, hc⟩ := hA.cells (by omega)
      obtain ⟨b', o', rfl, hc'⟩ := hB.cells (by omega)
      obtain ⟨R, hR⟩ : ∃ R, C[k]? = some R := ⟨_, List.getElem?_eq_getElem (show k < C.length by omega)⟩
      obtain ⟨ro, n1, c1, q1, -, -, -, G1⟩ := hc k R hR
      obtain ⟨ro2, n2, c2, q2, -, -, -, G2⟩ := hc' k R hR
      have e12 : n2 = n1 := by rw [← G2.len, G1.len]
      subst e12
      have hn2 := G1.max
      have Q1 : Hid (∀ m, (w.drewN m).cell? ⟨b, o + k, none⟩ = some (.slice ro n2 c1)) := fun m => drewN_cell w m q1
      have Q2 : Hid (∀ m, (w.drewN m).cell? ⟨b', o' + k, none⟩ = some (.slice ro2 n2 c2)) := fun m => drewN_cell w m q2
      clear hA hB hc hc' q1 q2
      have q1 : wr.cell? ⟨b, o + k, none⟩ = some (.slice ro n2 c1) := by rw [HW.out]; exact Q1.out _
      have q2 : wr.cell? ⟨b', o' + k, none⟩ = some (.slice ro2 n2 c2) := by rw [HW.out]; exact Q2.out _
      go_wp2_with fail
      go_quiet (fail)
      replace HW : Hid (wr.drewN nq = w.drewN (m0 + nq)) := by show _ = _; rw [HW.out, World.drewN_drewN]
      generalize wr.drewN nq = wq at *
      generalize m0 + nq = m1 at *
      clear q1 q2
      have q1 : wq.cell? ⟨b, o + k, none⟩ = some (.slice ro n2 c1) := by rw [HW.out]; exact Q1.out _
      go_wp2_with fail
      clear q1
      go_loopg [33] n2 (fun r i wr => ∃ j : Nat, j ≤ n2 ∧ r = n2 - j ∧ i = .int .i64 j ∧ ∃ m, wr = w.drewN m)
      case atStart => exact ⟨0, by omega, by omega, rfl, m1, HW.out⟩
      case round =>
        obtain ⟨j, hj, rfl, rfl, m2, hw2⟩ := hrel
        have HV : Hid (wr = w.drewN m2) := hw2
        clear hw2 HW
        by_cases hjt : j < n2
        · obtain ⟨d, p, rfl, hd⟩ := G1.cells (by omega)
          obtain ⟨d', p', rfl, hd'⟩ := G2.cells (by omega)
          obtain ⟨r1, l1, x1, s1, A1⟩ := hd j hjt
          obtain ⟨r2, l2, x2, s2, A2⟩ := hd' j hjt
          have el12 : l2 = l1 := by rw [← A2.row.len, A1.row.len]
          subst el12
          have q1 : wr.cell? ⟨b, o + k, none⟩ = some (.slice (some ⟨d, p, none⟩) n2 c1) := by rw [HV.out]; exact Q1.out _
          have q2 : wr.cell? ⟨b', o' + k, none⟩ = some (.slice (some ⟨d', p', none⟩) n2 c2) := by rw [HV.out]; exact Q2.out _
          have t1 : wr.cell? ⟨d, p + j, none⟩ = some (.slice r1 l2 x1) := by rw [HV.out]; exact drewN_cell w m2 s1
          have t2 : wr.cell? ⟨d', p' + j, none⟩ = some (.slice r2 l2 x2) := by rw [HV.out]; exact drewN_cell w m2 s2
          have SS := fun m => same_any r1 r2 l2 x1 x2 _ (wr.drewN m) (by rw [HV.out, World.drewN_drewN]; exact A1.row.below (below_drewN (Below.refl _ _) _)) (by rw [HV.out, World.drewN_drewN]; exact A2.row.below (below_drewN (Below.refl _ _) _))
          clear hd hd' s1 s2 A1 A2 G1 G2
          go_wp2_with fail
          go_quiet (first | (go_at_call 18; exact Calls.quiet_of (SS _)))
          go_wp2_with fail
          go_roundg (n2 - (j + 1))
          case measure => omega
          case rel => exact ⟨j + 1, by omega, rfl, by go_num, m2 + nq, by rw [HV.out, World.drewN_drewN]⟩
        · obtain rfl : j = n2 := by omega
          clear G1 G2
          go_wp2_with fail
          go_roundg (n - (k + 1))
          case measure => omega
          case rel => exact ⟨k + 1, by omega, rfl, by go_num, m2, HV.out⟩
    · obtain rfl : k = n := by omega
      go_wp2
      go_ret
      exact ⟨rfl, m0, HW.out⟩
/-- A view that was told, as cells. -/
structure ToldAt (w : World) (t k v : Sl) (X : Vw) : Prop where
  t : IArg w t.ao t.n t.c X.T
  k : CubeAt w k.ao k.n X.K
  v : CubeAt w v.ao v.n X.V
theorem ToldAt.below {w w' : World} {t k v : Sl} {X : Vw} (h : ToldAt w t k v X) (hb : Below w.heap.size w w') : ToldAt w' t k v X := ⟨h.t.below hb, h.k.below hb, h.v.below hb⟩
set_option maxHeartbeats 800000 in
theorem viewSame_eq (t k v t' k' v' : Sl) (X : Vw) (w : World) (h1 : ToldAt w t k v X) (h2 : ToldAt w t' k' v' X) :
   Calls Tryd.prog 12 #[.agg #[t.v, k.v, v.v], .agg #[t'.v, k'.v, v'.v]] w fun e w' => e = .returned (.bool true) ∧ Below w.heap.size w w' := by
  obtain ⟨tn, hn⟩ : ∃ tn, X.T.length = tn := ⟨_, rfl⟩
  obtain ⟨kn, hkn⟩ : ∃ kn, X.K.length = kn := ⟨_, rfl⟩
  obtain ⟨vn, hvn⟩ : ∃ vn, X.V.length = vn := ⟨_, rfl⟩
  have et1 := h1.t.row.len
  have et2 := h2.t.row.len
  have ek1 := h1.k.len
  have ek2 := h2.k.len
  have ev1 := h1.v.len
  have ev2 := h2.v.len
  rw [hn] at et1 et2
  rw [hkn] at ek1 ek2
  rw [hvn] at ev1 ev2
  have T1 : Hid (∀ wv, Below w.heap.size w wv → IArg wv t.ao t.n t.c X.T) := fun wv hb => h1.t.below hb
  have T2 : Hid (∀ wv, Below w.heap.size w wv → IArg wv t'.ao t'.n t'.c X.T) := fun wv hb => h2.t.below hb
  have K1 : Hid (∀ wv, Below w.heap.size w wv → CubeAt wv k.ao k.n X.K) := fun wv hb => h1.k.below hb
  have K2 : Hid (∀ wv, Below w.heap.size w wv → CubeAt wv k'.ao k'.n X.K) := fun wv hb => h2.k.below hb
  have V1 : Hid (∀ wv, Below w.heap.size w wv → CubeAt wv v.ao v.n X.V) := fun wv hb => h1.v.below hb
  have V2 : Hid (∀ wv, Below w.heap.size w wv → CubeAt wv v'.ao v'.n X.V) := fun wv hb => h2.v.below hb
  obtain ⟨ta, t1, tc⟩ := t
  obtain ⟨ta', t1', tc'⟩ := t'
  obtain ⟨ka, k1, kc⟩ := k
  obtain ⟨ka', k1', kc'⟩ := k'
  obtain ⟨va, v1, vc⟩ := v
  obtain ⟨va', v1', vc'⟩ := v'
  unfold Sl.v
  simp only at *
  subst et1 et2 ek1 ek2 ev1 ev2
  clear h1 h2 hn hkn hvn
  have X0 := blk_new w 46 #[.slice ta tn tc, .slice ka kn kc, .slice va vn vc]
  have B0 : Below w.heap.size w (w.alloc (.cells #[.slice ta tn tc, .slice ka kn kc, .slice va vn vc] 46)) := (Below.refl _ _).alloc (Nat.le_refl _) _
  generalize hw0 : w.alloc (.cells #[.slice ta tn tc, .slice ka kn kc, .slice va vn vc] 46) = w0 at *
  have X1 := blk_new w0 46 #[.slice ta' tn tc', .slice ka' kn kc', .slice va' vn vc']
  have B1 : Below w0.heap.size w0 (w0.alloc (.cells #[.slice ta' tn tc', .slice ka' kn kc', .slice va' vn vc'] 46)) := (Below.refl _ _).alloc (Nat.le_refl _) _
  generalize hw1 : w0.alloc (.cells #[.slice ta' tn tc', .slice ka' kn kc', .slice va' vn vc'] 46) = w1 at *
  replace X0 := X0.below B1
  have D1 := below_then B0 B1
  clear B0 B1
  have a0 : w1.cell? ⟨w.heap.size, 0, none⟩ = some (.slice ta tn tc) := X0.cell 0 rfl
  have a1 : w1.cell? ⟨w.heap.size, 1, none⟩ = some (.slice ka kn kc) := X0.cell 1 rfl
  have a2 : w1.cell? ⟨w.heap.size, 2, none⟩ = some (.slice va vn vc) := X0.cell 2 rfl
  have b0 : w1.cell? ⟨w0.heap.size, 0, none⟩ = some ((.slice ta' tn tc')) := X1.cell 0 rfl
  have b1 : w1.cell? ⟨w0.heap.size, 1, none⟩ = some ((.slice ka' kn kc')) := X1.cell 1 rfl
  have b2 : w1.cell? ⟨w0.heap.size, 2, none⟩ = some ((.slice va' vn vc')) := X1.cell 2 rfl
  have hn := (T1.out w (Below.refl _ _)).row.max
  go_enter Tryd.func12, Tryd.ntmps12
  go_wp2_with fail
  refine (cubeSame_eq ka ka' kn kc kc' X.K _ (K1.out _ D1) (K2.out _ D1)).mono ?_
  rintro e w2 ⟨rfl, m2, hm2⟩
  have B2 : Below w1.heap.size w1 w2 := by rw [hm2]; exact below_drewN (Below.refl _ _) m2
  clear hm2 a0 a1 a2 b0 b1 b2 hw0 hw1
  replace X0 := X0.below B2
  replace X1 := X1.below B2
  have D2 := below_then D1 B2
  have a0 : w2.cell? ⟨w.heap.size, 0, none⟩ = some (.slice ta tn tc) := X0.cell 0 rfl
  have a1 : w2.cell? ⟨w.heap.size, 1, none⟩ = some (.slice ka kn kc) := X0.cell 1 rfl
  have a2 : w2.cell? ⟨w.heap.size, 2, none⟩ = some (.slice va vn vc) := X0.cell 2 rfl
  have b0 : w2.cell? ⟨w0.heap.size, 0, none⟩ = some ((.slice ta' tn tc')) := X1.cell 0 rfl
  have b1 : w2.cell? ⟨w0.heap.size, 1, none⟩ = some ((.slice ka' kn kc')) := X1.cell 1 rfl
  have b2 : w2.cell? ⟨w0.heap.size, 2, none⟩ = some ((.slice va' vn vc')) := X1.cell 2 rfl
  go_wp2_with fail
  refine (cubeSame_eq va va' vn vc vc' X.V _ (V1.out _ D2) (V2.out _ D2)).mono ?_
  rintro e w3 ⟨rfl, m3, hm3⟩
  have B3 : Below w2.heap.size w2 w3 := by rw [hm3]; exact below_drewN (Below.refl _ _) m3
  clear hm3 a0 a1 a2 b0 b1 b2 D1
  replace X0 := X0.below B3
  replace X1 := X1.below B3
  have D3 := below_then D2 B3
  have a0 : w3.cell? ⟨w.heap.size, 0, none⟩ = some (.slice ta tn tc) := X0.cell 0 rfl
  have a1 : w3.cell? ⟨w.heap.size, 1, none⟩ = some (.slice ka kn kc) := X0.cell 1 rfl
  have a2 : w3.cell? ⟨w.heap.size, 2, none⟩ = some (.slice va vn vc) := X0.cell 2 rfl
  have b0 : w3.cell? ⟨w0.heap.size, 0, none⟩ = some ((.slice ta' tn tc')) := X1.cell 0 rfl
  have b1 : w3.cell? ⟨w0.heap.size, 1, none⟩ = some ((.slice ka' kn kc')) := X1.cell 1 rfl
  have b2 : w3.cell? ⟨w0.heap.size, 2, none⟩ = some ((.slice va' vn vc')) := X1.cell 2 rfl
  go_wp2_with fail
  clear a0 a1 a2 b0 b1 b2
  go_loopg [32] tn (fun r i wr => ∃ j : Nat, j ≤ tn ∧ r = tn - j ∧ i = .int .i64 j ∧ Blk wr w.heap.size 46 #[.slice ta tn tc, .slice ka kn kc, .slice va vn vc] ∧ Blk wr w0.heap.size 46 #[.slice ta' tn tc', .slice ka' kn kc', .slice va' vn vc'] ∧ Below w.heap.size w wr)
  case atStart => exact ⟨0, by omega, by omega, rfl, X0, X1, D3⟩
  case round =>
    clear X0 X1 D3 B3 B2 D2
    obtain ⟨j, hj, rfl, rfl, X0, X1, DR⟩ := hrel
    by_cases hjt : j < tn
    · obtain ⟨d, p, rfl, hd⟩ := (T1.out _ DR).row.cells (by omega)
      obtain ⟨d', p', rfl, hd'⟩ := (T2.out _ DR).row.cells (by omega)
      have c1 := hd j hjt
      have c2 := hd' j hjt
      clear hd hd'
      have a0 : wr.cell? ⟨w.heap.size, 0, none⟩ = some (.slice (some ⟨d, p, none⟩) tn tc) := X0.cell 0 rfl
      have b0 : wr.cell? ⟨w0.heap.size, 0, none⟩ = some (.slice (some ⟨d', p', none⟩) tn tc') := X1.cell 0 rfl
      go_wp2_with fail
      go_quiet (fail)
      go_wp2
      go_roundg (tn - (j + 1))
      case measure => omega
      case rel => exact ⟨j + 1, by omega, rfl, by go_num, X0.below (below_drewN (Below.refl _ _) nq), X1.below (below_drewN (Below.refl _ _) nq), below_drewN DR nq⟩
    · obtain rfl : j = tn := by omega
      go_wp2
      go_ret
      exact ⟨rfl, DR⟩
end Go.Proofs.YthmpfmclbmhkfaaDoor

/- Rows of rows of the call's own: a copy of at most so many rows of at most 40 numbers. -/
namespace Go.Proofs.YthmpfmclbmhkfaaDoor
open Go.ChangeShapes Go.WideShapes Go.ChangeAt Go.RowKit
theorem rowOf_snoc (R : List (List Int)) (Y : List Int) (t : Nat) : rowOf (R ++ [Y]) t = if t < R.length then rowOf R t else if t = R.length then Y else [] := by
  unfold rowOf
  simp only [List.getD_eq_getElem?_getD]
  by_cases h : t < R.length
  · rw [if_pos h, List.getElem?_append_left h]
  · rw [if_neg h, List.getElem?_append_right (by omega)]
    by_cases e : t = R.length
    · subst e; simp
    · rw [if_neg e, List.getElem?_eq_none (by simp; omega)]; rfl
/-- Block g is a row of rows, all of the call's own, one above the other. -/
structure OwnGrid (w : World) (B g k cap : Nat) (R : List (List Int)) : Prop where
  base : B ≤ g
  len : R.length = k
  own : ∃ vs, w.ownsRow B 27 1 (.slice (some ⟨g, 0, none⟩) k cap) k vs ∧ ∃ gs : Nat → Nat, (∀ t, t < k → ∃ m c, vs[t]? = some (.slice (some ⟨gs t, 0, none⟩) m c) ∧ Fresh w B (gs t) m c (rowOf R t)) ∧ ∀ t u, t < u → u < k → gs t < gs u
theorem own_block {w : World} {B e g k cap : Nat} {vs : List Value} (h : w.ownsRow B e 1 (.slice (some ⟨g, 0, none⟩) k cap) k vs) : B ≤ g ∧ ∃ cur, w.heap[g]? = some (.cells cur e (0, 0)) := by
  rcases h.2 with ⟨h3, _⟩ | ⟨g', c', cur, hv, hg, hh, _⟩
  · cases h3
  · simp only [Value.slice.injEq, Option.some.injEq, Addr.mk.injEq, and_true] at hv
    obtain ⟨rfl, -⟩ := hv
    exact ⟨hg, cur, hh⟩
theorem OwnGrid.grid {w : World} {B g k cap : Nat} {R : List (List Int)} (h : OwnGrid w B g k cap R) (hk : k ≤ 9223372036854775807) : GridAt w (some ⟨g, 0, none⟩) k R := by
  obtain ⟨vs, h1, gs, h2, _⟩ := h.own
  refine ⟨h.len, hk, fun _ => ⟨g, 0, rfl, fun t ht => ?_⟩⟩
  obtain ⟨m, c, e, F⟩ := h2 t ht
  have hc := h1.cells (g := g) rfl t _ e
  have e2 : (Addr.mk g 0 none).add t = ⟨g, t, none⟩ := by simp [Addr.add]; intro h; exact h.symm
  rw [e2] at hc
  exact ⟨_, _, _, by rw [Nat.zero_add]; exact hc, F.arg⟩
theorem OwnGrid.below {w w' : World} {B g k cap : Nat} {R : List (List Int)} (h : OwnGrid w B g k cap R) (hb : Below w.heap.size w w') : OwnGrid w' B g k cap R := by
  obtain ⟨vs, h1, gs, h2, h3⟩ := h.own
  exact ⟨h.base, h.len, vs, owns_below h1 hb, gs, fun t ht => let ⟨m, c, e, F⟩ := h2 t ht; ⟨m, c, e, F.below hb⟩, h3⟩
theorem ownGrid_empty (w : World) : OwnGrid (w.alloc (.cells #[] 27)) w.heap.size w.heap.size 0 0 [] :=
  ⟨Nat.le_refl _, rfl, [], ⟨rfl, Or.inr ⟨w.heap.size, 0, #[], rfl, Nat.le_refl _, heap_alloc_new _ _, Nat.le_refl _, by decide, rfl, rfl⟩⟩, fun t => t, fun t ht => by omega, fun t u _ hu => by omega⟩
/-- append(out, row), out a row of rows of the call's own, the row a newer one. -/
theorem wpList_append_grid {w : World} {ops : Array Oper} {rest : List Oper} {o : Oper} {a : Act} {Q : Exit → Act → World → Prop} (hgd : o.guard = none) (s x : Operand)
    (ho : o.op = .call { callee := .builtin .append, args := #[s, x], argTypes := #[51, 51] })
    (B g k cap : Nat) (R : List (List Int)) (hs : a.eval s = .slice (some ⟨g, 0, none⟩) k cap) (hF : OwnGrid w B g k cap R) (w1 : World) (hF1 : OwnGrid w1 B g k cap R) (hold : Below w1.heap.size w1 w)
    (bo g1 m1 c1 : Nat) (Y : List Int) (hx : a.eval x = .slice (some ⟨bo, 0, none⟩) 1 1) (hX : w.cell? ⟨bo, 0, none⟩ = some (.slice (some ⟨g1, 0, none⟩) m1 c1)) (hY : Fresh w B g1 m1 c1 Y) (hg1 : w1.heap.size ≤ g1)
    (hlen : k + 1 ≤ 1048576) (hB : B ≤ w.heap.size)
    (h : ∀ g' cap' w', OwnGrid w' B g' (k + 1) cap' (R ++ [Y]) → Below B w w' → wpList Tryd.prog ops Q rest (a.put o.dst (.slice (some ⟨g', 0, none⟩) (k + 1) cap')) w') : wpList Tryd.prog ops Q (o :: rest) a w := by
  obtain ⟨i0, hi, hz0, hz1, hz2⟩ := info_parts Tryd.infoRow
  obtain ⟨vs, h1', gs, h2', h3⟩ := hF1.own
  have h1 := owns_below h1' hold
  have h2 : ∀ t, t < k → ∃ m c, vs[t]? = some (.slice (some ⟨gs t, 0, none⟩) m c) ∧ Fresh w B (gs t) m c (rowOf R t) := fun t ht => let ⟨m, c, e, F⟩ := h2' t ht; ⟨m, c, e, F.below hold⟩
  have hlt : ∀ t, t < k → gs t < w1.heap.size := fun t ht => let ⟨m, c, e, F⟩ := h2' t ht; F.lt
  refine wpList_append_own w hgd s x 51 ho B 27 i0 (.slice none 0 0) 1 24 Tryd.underlying51 hi hz0 hz1 hz2 rfl (by decide) _ k _ hs h1 ⟨bo, 0, none⟩ 1 1 [.slice (some ⟨g1, 0, none⟩) m1 c1] hx rfl ?_ (by intro u hu; simp at hu; subst hu; rfl) (by unfold maxLen; omega) (by omega) hB ?_
  · intro j u hj
    match j, hj with
    | 0, hj =>
      simp at hj
      subst hj
      have e2 : (Addr.mk bo 0 none).add 0 = ⟨bo, 0, none⟩ := by simp [Addr.add]
      rw [e2, hX]
  · intro v' w' hown hg hnil
    have hb : Below B w w' := (Below.refl _ _).grown hg hB (fun k hk => by simp [Value.ownBlock] at hk; subst hk; exact hF.base)
    obtain ⟨_, cur, hcur⟩ := own_block h1
    have keep : ∀ {b m c : Nat} {Z : List Int}, Fresh w B b m c Z → Fresh w' B b m c Z := fun {b m c Z} F => F.of_block (hg.block b F.lt (by
      intro e
      simp [Value.ownBlock] at e
      subst e
      obtain ⟨c2, hb2, _⟩ := F.row
      rw [hcur] at hb2
      simp at hb2))
    have hlv : vs.length = k := by have := h1.1; omega
    have hown2 := hown
    obtain ⟨_, h4⟩ := hown2
    rcases h4 with ⟨_, h5⟩ | ⟨g', c', cur', hv, hg2, hr⟩
    · omega
    · subst hv
      refine h g' c' w' ⟨hg2, by simp [hF.len], _, hown, fun t => if t < k then gs t else g1, fun t ht => ?_, fun t u htu hu => ?_⟩ hb
      · rw [rowOf_snoc, hF.len]
        by_cases htk : t < k
        · obtain ⟨m3, c3, e3, F3⟩ := h2 t htk
          simp only [if_pos htk]
          exact ⟨m3, c3, by rw [List.getElem?_append_left (by omega)]; exact e3, keep F3⟩
        · obtain rfl : t = k := by omega
          simp only [Nat.lt_irrefl, if_false, if_pos]
          exact ⟨m1, c1, by rw [List.getElem?_append_right (by omega), hlv]; simp, keep hY⟩
      · simp only []
        rw [if_pos (show t < k by omega)]
        by_cases huk : u < k
        · rw [if_pos huk]; exact h3 t u htu huk
        · rw [if_neg huk]; have := hlt t (by omega); omega
theorem cellRow_new (w : World) (v : Value) : (w.alloc (.cells #[v] 27)).cell? ⟨w.heap.size, 0, none⟩ = some v := by
  have e := heap_alloc_new w (.cells #[v] 27)
  unfold World.cell?
  simp only [e]
  rfl
theorem take_snoc {R : List (List Int)} {k : Nat} (hk : k < R.length) : (R.take (k + 1)).map (List.take 40) = (R.take k).map (List.take 40) ++ [(rowOf R k).take 40] := by
  unfold rowOf
  rw [List.take_add_one, List.map_append, List.getD_eq_getElem?_getD, List.getElem?_eq_getElem hk]
  rfl
/-- At most lim rows of at most 40 numbers. -/
def rowsN (R : List (List Int)) (lim : Nat) : List (List Int) := (R.take lim).map (List.take 40)
set_option maxHeartbeats 1600000 in
theorem hrows_any (ao : Option Addr) (n ca : Nat) (R : List (List Int)) (lim : Nat) (li : Int) (w : World) (hli : li = lim) (hR : GridAt w ao n R) (hlim : lim ≤ 5000) :
   Calls Tryd.prog 32 #[.slice ao n ca, .int .i64 li] w fun e w' => ∃ g k cap, e = .returned (.slice (some ⟨g, 0, none⟩) k cap) ∧ k ≤ lim ∧ OwnGrid w' w.heap.size g k cap (rowsN R lim) ∧ Below w.heap.size w w' := by
  subst hli
  have hn := hR.max
  have hl := hR.len
  have F0 := ownGrid_empty w
  have B0 : Below w.heap.size w (w.alloc (.cells #[] 27)) := (Below.refl _ _).alloc (Nat.le_refl _) _
  have HR : Hid (∀ wv, Below w.heap.size w wv → GridAt wv ao n R) := fun wv hb => hR.below hb
  go_enter Tryd.func32, Tryd.ntmps32
  go_wp2
  generalize w.alloc (.cells #[] 27) = w0 at *
  clear hR
  go_loopg [5, 6] lim (fun r s i wr => ∃ (k g cap : Nat), k ≤ lim ∧ k ≤ n ∧ r = lim - k ∧ i = .int .i64 k ∧ s = .slice (some ⟨g, 0, none⟩) k cap ∧ OwnGrid wr w.heap.size g k cap (rowsN R k) ∧ Below w.heap.size w wr)
  case atStart => exact ⟨0, _, _, by omega, by omega, by omega, rfl, rfl, by unfold rowsN; rw [List.take_zero]; exact F0, B0⟩
  case round =>
    obtain ⟨k, g, cap, hk, hkn, rfl, rfl, rfl, F2, B2⟩ := hrel
    clear F0 B0
    by_cases hlt : k < n
    · by_cases h6 : k < lim
      · obtain ⟨b, o, rfl, hc⟩ := (HR.out _ B2).cells (by omega)
        obtain ⟨ro, m1, c1, q1, A1⟩ := hc k hlt
        have HS : Hid (rowsN R (k + 1) = rowsN R k ++ [(rowOf R k).take 40]) := take_snoc (by omega)
        have s2 := B2.size
        clear hc
        go_wp2_with (first | (go_at_call 42; refine (few_any _ _ _ _ 40 _ _ rfl A1 (by omega)).mono ?_; rintro e w3 ⟨g3, n3, c3, rfl, hm3, F3, B3⟩; have BL : Below w3.heap.size w3 (w3.alloc (.cells #[.slice (some ⟨g3, 0, none⟩) n3 c3] 27)) := (Below.refl _ _).alloc (Nat.le_refl _) _; have cX := cellRow_new w3 (.slice (some ⟨g3, 0, none⟩) n3 c3); have F4 := (F3.mono s2).below BL; have G4 := (F2.below B3).below BL; have s3 := B3.size; have s4 := BL.size; have B4 := below_then (below_then B2 B3) BL; have BO := below_then B3 BL; have hg3 := F3.base; generalize hw4 : w3.alloc (.cells #[.slice (some ⟨g3, 0, none⟩) n3 c3] 27) = w4 at *) | (at_builtin; refine wpList_append_grid rfl _ _ rfl w.heap.size g k cap _ rfl (by exact G4) _ (by exact F2) (by exact BO) w3.heap.size g3 n3 c3 _ rfl (by exact cX) (by exact F4) (by exact hg3) (by omega) (by omega) ?_; intro g' cap' w' F7 B7))
        go_roundg (lim - (k + 1))
        case measure => omega
        case rel => exact ⟨k + 1, _, _, by omega, by omega, rfl, by go_num, rfl, by rw [HS.out]; exact F7, B4.trans B7⟩
      · obtain rfl : k = lim := by omega
        go_wp2
        go_ret
        exact ⟨_, _, _, rfl, Nat.le_refl _, F2, B2⟩
    · obtain rfl : k = n := by omega
      have e : rowsN R k = rowsN R lim := by unfold rowsN; rw [List.take_of_length_le (by omega), List.take_of_length_le (by omega)]
      rw [e] at F2
      clear e
      go_wp2
      go_ret
      exact ⟨_, _, _, rfl, hk, F2, B2⟩
theorem rowsN_len (R : List (List Int)) (lim t : Nat) : (rowOf (rowsN R lim) t).length ≤ 40 := by
  unfold rowOf rowsN
  rw [List.getD_eq_getElem?_getD]
  cases e : ((R.take lim).map (List.take 40))[t]? with
  | none => simp
  | some x =>
    obtain ⟨y, _, rfl⟩ := List.mem_map.1 (List.mem_of_getElem? e)
    simp
    omega
end Go.Proofs.YthmpfmclbmhkfaaDoor

/- At most so many tokens, in memory of one's own. -/
namespace Go.Proofs.YthmpfmclbmhkfaaDoor
open Go.ChangeShapes Go.WideShapes Go.ChangeAt Go.RowKit
theorem IArg.take {w : World} {ao : Option Addr} {n ca : Nat} {A : List Int} (h : IArg w ao n ca A) {m : Nat} (hm : m ≤ n) : IArg w ao m ca (A.take m) := by
  have hl := h.row.len
  have hf := h.fit
  refine ⟨⟨by rw [List.length_take]; omega, by have := h.row.max; omega, fun k => ?_, fun hn => ?_⟩, by omega, h.max, h.nil⟩
  · rcases Nat.lt_or_ge k m with hk | hk
    · rw [el_take hk]; exact h.row.small k
    · rw [el_over (by rw [List.length_take]; omega)]; omega
  · obtain ⟨b, o, e, hc⟩ := h.row.cells (by omega)
    refine ⟨b, o, e, fun t ht => ?_⟩
    rw [el_take ht]
    exact hc t (by omega)
theorem few8_gen (ao : Option Addr) (n ca : Nat) (A Z : List Int) (lim : Nat) (w : World) (hA : IArg w ao n ca A) (hlim : lim ≤ 4096) (hZ : Z = A.take lim) :
   Calls Tryd.prog 4 #[.slice ao n ca, .int .i64 (lim : Int)] w fun e w' => ∃ b c, e = .returned (.slice (some ⟨b, 0, none⟩) Z.length c) ∧ IOwn w' w.heap.size (.slice (some ⟨b, 0, none⟩) Z.length c) Z.length Z ∧ Below w.heap.size w w' := by
  obtain ⟨i0, hi, hz0, hz1, hz2⟩ := info_parts Tryd.infoInt
  have hl := hA.row.len
  have hf := hA.fit
  have hmx := hA.max
  have B0 : Below w.heap.size w (w.alloc (.cells #[] 3)) := (Below.refl _ _).alloc (Nat.le_refl _) _
  have O0 : (w.alloc (.cells #[] 3)).ownsRow w.heap.size 3 1 (.slice (some ⟨w.heap.size, 0, none⟩) 0 0) 0 [] := World.ownsRow_made w #[] 0 (Nat.le_refl _) (by decide) rfl
  have key : ∀ (ao : Option Addr) (m : Nat) (Z' : List Int), IArg w ao m ca Z' → Z' = Z → m ≤ 4096 → ∀ (ops : Array Oper) (rest : List Oper) (o : Oper) (a : Act) (Q : Exit → Act → World → Prop) (s x : Operand), o.guard = none → o.op = .call { callee := .builtin .append, args := #[s, x], argTypes := #[25, 25] } → a.eval s = .slice (some ⟨w.heap.size, 0, none⟩) 0 0 → a.eval x = .slice ao m ca →
      (∀ b c w', IOwn w' w.heap.size (.slice (some ⟨b, 0, none⟩) Z.length c) Z.length Z → Below w.heap.size w w' → wpList Tryd.prog ops Q rest (a.put o.dst (.slice (some ⟨b, 0, none⟩) Z.length c)) w') → wpList Tryd.prog ops Q (o :: rest) a (w.alloc (.cells #[] 3)) := by
    intro ao m Z' hZ' eZ hm ops rest o a Q s x hg ho hs hx hK
    have hlz : Z'.length = m := hZ'.row.len
    cases ao with
    | none =>
      have hc0 := hZ'.nil rfl
      have hm0 : m = 0 := by have := hZ'.fit; omega
      subst hm0
      obtain rfl : Z' = [] := List.length_eq_zero_iff.1 hlz
      rw [hc0] at hx
      refine wpList_append_own_none hg s x 25 ho w.heap.size 3 i0 1 Tryd.underlying25 hi _ 0 [] hs O0 hx ?_
      have := hK w.heap.size 0 _ (by rw [← eZ]; exact O0) B0
      rw [← eZ] at this
      exact this
    | some ad =>
      refine wpList_append_own _ hg s x 25 ho w.heap.size 3 i0 (.int .i64 0) 1 8 Tryd.underlying25 hi hz0 hz1 hz2 rfl (by decide) _ 0 [] hs O0 ad m ca (Z'.map (Value.int .i64)) hx (by simp [hlz]) ((hZ'.row.below B0).vals) (ints_oneCell _ _) (by unfold maxLen; omega) (by omega) (by simp) ?_
      intro v' w' O1 G1 N1
      have hb : Below w.heap.size (w.alloc (.cells #[] 3)) w' := (Below.refl _ _).grown G1 (by simp) (fun k hk => (O0.lt k hk).1)
      rw [Nat.zero_add, List.nil_append] at O1
      have hv : ∃ b c, v' = .slice (some ⟨b, 0, none⟩) m c := by
        rcases O1.2 with ⟨h3, _⟩ | ⟨g, cap, cur, hv, _⟩
        · have := (N1.1 h3).1; cases this
        · exact ⟨_, _, hv⟩
      obtain ⟨b, c, rfl⟩ := hv
      have e : Z.length = m := by rw [← eZ, hlz]
      have := hK b c w' (by rw [e, ← eZ]; exact O1) (B0.trans hb)
      rw [e] at this
      exact this
  have hZl : Z.length ≤ lim := by rw [hZ, List.length_take]; omega
  by_cases h0 : lim < n
  · have hle : (lim : Int) ≤ (ca : Int) := by omega
    have KT := hA.take (m := lim) (by omega)
    rw [← hZ] at KT
    clear hl hA hZ
    go_enter Tryd.func4, Tryd.ntmps4
    go_wp2_with (at_builtin; refine key _ _ _ KT rfl (by omega) _ _ _ _ _ _ _ rfl rfl rfl rfl ?_; intro b c w' O1 B1)
    go_ret
    exact ⟨b, c, rfl, O1, B1⟩
  · have e1 : Hid (A = Z) := by show _ = _; rw [hZ, List.take_of_length_le (by omega)]
    have hn : n ≤ 4096 := by omega
    clear hl hZ
    go_enter Tryd.func4, Tryd.ntmps4
    go_wp2_with (at_builtin; refine key _ _ _ hA e1.out hn _ _ _ _ _ _ _ rfl rfl rfl rfl ?_; intro b c w' O1 B1)
    go_ret
    exact ⟨b, c, rfl, O1, B1⟩
theorem few8_any (ao : Option Addr) (n ca : Nat) (A : List Int) (lim : Nat) (w : World) (hA : IArg w ao n ca A) (hlim : lim ≤ 4096) :
   Calls Tryd.prog 4 #[.slice ao n ca, .int .i64 (lim : Int)] w fun e w' => ∃ b c, e = .returned (.slice (some ⟨b, 0, none⟩) (A.take lim).length c) ∧ IOwn w' w.heap.size (.slice (some ⟨b, 0, none⟩) (A.take lim).length c) (A.take lim).length (A.take lim) ∧ Below w.heap.size w w' := few8_gen ao n ca A _ lim w hA hlim rfl
end Go.Proofs.YthmpfmclbmhkfaaDoor

/- append onto a row of the call's own: the row stays in its block, or goes into a new one; all other blocks stay. -/
namespace Go.Proofs.YthmpfmclbmhkfaaDoor
open Go.ChangeShapes Go.WideShapes Go.ChangeAt Go.RowKit
section
variable {P : Program} (w : World)
theorem run_append_own2 (base : Nat) (t ty e : TypeId) (i : TypeInfo) (z : Value) (size bytes : Nat) (ht : P.underlying t = some (.slice e)) (hi : P.info? e = some i) (hz : i.zero = some z)
    (hsize : i.size = size) (hby : i.bytes = bytes) (hzs : z.cells.size = size) (hsz : 0 < size)
    (v : Value) (n : Nat) (xs : List Value) (hown : w.ownsRow base e size v n xs)
    (a : Addr) (m c : Nat) (news : List Value) (hl : news.length = m * size) (hnews : ∀ j u, news[j]? = some u → w.cell? (a.add j) = some u) (h1 : ∀ u ∈ news, u.oneCell' = true)
    (h63 : n + m ≤ maxLen) (hbytes : (n + m) * bytes ≤ 140737488355328) (hbase : base ≤ w.heap.size) :
    ∃ v' w', (Builtin.append_ #[t, t] ty #[v, .slice (some a) m c]).run P w = .ok v' w' ∧ w'.ownsRow base e size v' (n + m) (xs ++ news) ∧ w.grownBy w' v.ownBlock ∧
      (v' = .slice none 0 0 ↔ v = .slice none 0 0 ∧ m = 0) ∧ ∀ g', v'.ownBlock = some g' → v.ownBlock = some g' ∨ g' = w.heap.size := by
  obtain ⟨v', w', hr, h2, h3, h4⟩ := run_append_own (P := P) w base t ty e i z size bytes ht hi hz hsize hby hzs hsz v n xs hown a m c news hl hnews h1 h63 hbytes hbase
  refine ⟨v', w', hr, h2, h3, h4, ?_⟩
  subst hsize
  subst hby
  have hsmall : n + m ≤ 9223372036854775807 := by simp only [maxLen] at h63; omega
  rcases hown.2 with ⟨rfl, rfl⟩ | ⟨g, cap, cur, rfl, hbg, hg, hnc, hcm, hcs, htake⟩
  · by_cases hm : m = 0
    · have := h4.2 ⟨rfl, hm⟩
      subst this
      intro g' hg'
      cases hg'
    · have hr2 := run_append_nil (P := P) w t ty e i z ht hi hz a m c news hl hnews (by omega) (by omega) (by have hb := hbytes; simp only [Nat.zero_add] at hb; omega)
      rw [hr] at hr2
      injection hr2 with e1 e2
      subst e1
      intro g' hg'
      exact Or.inr (Option.some.inj hg').symm
  · by_cases hroom : n + m ≤ cap
    · have hfit : n * i.size + news.length ≤ cur.size := by rw [hl, hcs, ← Nat.add_mul]; exact Nat.mul_le_mul_right _ hroom
      have hr2 := run_append_room (P := P) w t ty e i ht hi g n cap cur hg a m c news hl hnews h1 hroom hfit
      rw [hr] at hr2
      injection hr2 with e1 e2
      subst e1
      intro g' hg'
      exact Or.inl hg'
    · have holds : ∀ j u, xs[j]? = some u → w.cell? ((⟨g, 0, none⟩ : Addr).add j) = some u := hown.cells (g := g) rfl
      have hr2 := run_append_grow (P := P) w t ty e i z ht hi hz ⟨g, 0, none⟩ n cap xs hown.1 holds a m c news hl hnews (by omega) (by omega) (growslice_fits (by omega) hbytes)
      rw [hr] at hr2
      injection hr2 with e1 e2
      subst e1
      intro g' hg'
      exact Or.inr (Option.some.inj hg').symm
theorem wp_append_own2 {o : Oper} {a : Act} {K : Act → World → Prop} {Q : Exit → Act → World → Prop} (s x : Operand) (t : TypeId)
    (ho : o.op = .call { callee := .builtin .append, args := #[s, x], argTypes := #[t, t] })
    (base : Nat) (e : TypeId) (i : TypeInfo) (z : Value) (size bytes : Nat) (ht : P.underlying t = some (.slice e)) (hi : P.info? e = some i) (hz : i.zero = some z)
    (hsize : i.size = size) (hby : i.bytes = bytes) (hzs : z.cells.size = size) (hsz : 0 < size)
    (v : Value) (n : Nat) (xs : List Value) (hs : a.eval s = v) (hown : w.ownsRow base e size v n xs)
    (ad : Addr) (m c : Nat) (news : List Value) (hx : a.eval x = .slice (some ad) m c) (hl : news.length = m * size) (hnews : ∀ j u, news[j]? = some u → w.cell? (ad.add j) = some u) (h1 : ∀ u ∈ news, u.oneCell' = true)
    (h63 : n + m ≤ maxLen) (hbytes : (n + m) * bytes ≤ 140737488355328) (hbase : base ≤ w.heap.size)
    (h : ∀ v' w', w'.ownsRow base e size v' (n + m) (xs ++ news) → w.grownBy w' v.ownBlock → (v' = .slice none 0 0 ↔ v = .slice none 0 0 ∧ m = 0) → (∀ g', v'.ownBlock = some g' → v.ownBlock = some g' ∨ g' = w.heap.size) → K (a.put o.dst v') w') : o.wp P a w K Q := by
  obtain ⟨v', w', hr, h2, h3, h4, h5⟩ := run_append_own2 (P := P) w base t o.type e i z size bytes ht hi hz hsize hby hzs hsz v n xs hown ad m c news hl hnews h1 h63 hbytes hbase
  unfold Oper.wp execOp
  simp only [ho, resolve, invoke, builtin, Sem.run_bind, Sem.run_pure, Result.andThen_ok, List.map_toArray, List.map_cons, List.map_nil, hs, hx, hr]
  exact h v' w' h2 h3 h4 h5
end
/-- append(out, x), out a row of the call's own, x one number: all other blocks stay. -/
theorem wpList_append_one2 {w : World} {ops : Array Oper} {rest : List Oper} {o : Oper} {a : Act} {Q : Exit → Act → World → Prop} (hgd : o.guard = none) (s x : Operand)
    (ho : o.op = .call { callee := .builtin .append, args := #[s, x], argTypes := #[27, 27] })
    (B g n cap : Nat) (A : List Int) (hs : a.eval s = .slice (some ⟨g, 0, none⟩) n cap) (hF : Fresh w B g n cap A)
    (bo : Nat) (y : Int) (hx : a.eval x = .slice (some ⟨bo, 0, none⟩) 1 1) (hX : RowAt w (some ⟨bo, 0, none⟩) 1 [y])
    (hlen : n + 1 ≤ 1048576) (hB : B ≤ w.heap.size)
    (h : ∀ g' cap' w', Fresh w' B g' (n + 1) cap' (A ++ [y]) → Below B w w' → (∀ b, b < w.heap.size → b ≠ g → w'.heap[b]? = w.heap[b]?) → (g' = g ∨ g' = w.heap.size) → wpList Tryd.prog ops Q rest (a.put o.dst (.slice (some ⟨g', 0, none⟩) (n + 1) cap')) w') : wpList Tryd.prog ops Q (o :: rest) a w := by
  obtain ⟨i0, hi, hz0, hz1, hz2⟩ := info_parts Tryd.infoNum
  refine wpList_plain hgd fun _ hK => wp_append_own2 w s x 27 ho B 52 i0 (.int .i32 0) 1 4 Tryd.underlying27 hi hz0 hz1 hz2 rfl (by decide) _ n _ hs hF.owns ⟨bo, 0, none⟩ 1 1 [.int .i32 y] hx rfl ?_ (ints_oneCell .i32 [y]) (by unfold maxLen; omega) (by omega) hB ?_
  · intro j u hj
    obtain ⟨b, o', e, hcell⟩ := hX.cells (by omega)
    simp only [Option.some.injEq, Addr.mk.injEq, and_true] at e
    obtain ⟨rfl, rfl⟩ := e
    match j, hj with
    | 0, hj =>
      have h0 := hcell 0 (by omega)
      simp at hj
      subst hj
      have e2 : (Addr.mk bo 0 none).add 0 = ⟨bo, 0 + 0, none⟩ := by simp [Addr.add]
      rw [e2, h0]
      rfl
  · intro v' w' hown hg hnil hwh
    have hb : Below B w w' := (Below.refl _ _).grown hg hB (fun k hk => by simp [Value.ownBlock] at hk; subst hk; exact hF.base)
    obtain ⟨h1, h2⟩ := hown
    rcases h2 with ⟨h3, h4⟩ | ⟨g', c', cur, hv, hr⟩
    · omega
    · subst hv
      have e : A.map (Value.int .i32) ++ [.int .i32 y] = (A ++ [y]).map (Value.int .i32) := by simp
      rw [e] at h1 hr
      obtain ⟨g2, e2, F⟩ := fresh_of_owns (w := w') (B := B) (n := n + 1) (cap := c') (ao := some ⟨g', 0, none⟩) (A := A ++ [y]) ⟨h1, Or.inr ⟨g', c', cur, rfl, hr⟩⟩ (hF.small.append hX.small) (by simp)
      simp only [Option.some.injEq, Addr.mk.injEq, and_true] at e2
      subst e2
      refine hK _ _ (h g' c' w' F hb (fun b hb2 hne => hg.block b hb2 (fun e => hne (Option.some.inj e))) ?_)
      rcases hwh g' rfl with hq | hq
      · exact Or.inl (Option.some.inj hq).symm
      · exact Or.inr hq
end Go.Proofs.YthmpfmclbmhkfaaDoor

/- lists: a copy of lists of rows, of the call's own. -/
namespace Go.Proofs.YthmpfmclbmhkfaaDoor
open Go.ChangeShapes Go.WideShapes Go.ChangeAt Go.RowKit
theorem OwnGrid.hangs {w : World} {B g k cap : Nat} {R : List (List Int)} (h : OwnGrid w B g k cap R) (hk : k ≤ 9223372036854775807) : Hangs (fun b => B ≤ b) w (fun w => GridAt w (some ⟨g, 0, none⟩) k R) := by
  intro w2 h2
  obtain ⟨vs, h1, gs, h3, h4⟩ := h.own
  have hl : g < w.heap.size := by obtain ⟨_, cur, hc⟩ := own_block h1; exact (Array.getElem?_eq_some_iff.1 hc).1
  refine OwnGrid.grid (B := B) (cap := cap) ⟨h.base, h.len, vs, owns_mono h1 (Nat.le_refl _) (fun b hb => ?_), gs, fun t ht => ?_, h4⟩ hk
  · simp [Value.ownBlock] at hb
    subst hb
    exact h2 _ h.base hl
  · obtain ⟨m, c, e, F⟩ := h3 t ht
    exact ⟨m, c, e, F.of_block (h2 _ F.base F.lt)⟩
theorem own_caps {w : World} {B e g k cap : Nat} {vs : List Value} (h : w.ownsRow B e 1 (.slice (some ⟨g, 0, none⟩) k cap) k vs) : k ≤ cap ∧ cap ≤ 9223372036854775807 := by
  rcases h.2 with ⟨h3, _⟩ | ⟨g', c', cur, hv, hg, hh, hnc, hcm, _⟩
  · cases h3
  · simp only [Value.slice.injEq, Option.some.injEq, Addr.mk.injEq, and_true] at hv
    obtain ⟨-, -, rfl⟩ := hv
    exact ⟨hnc, hcm⟩
/-- Block g is a list of lists, of the call's own. -/
structure OwnCube (w : World) (B g k cap : Nat) (C : List (List (List Int))) : Prop where
  base : B ≤ g
  len : C.length = k
  own : ∃ vs, w.ownsRow B 51 1 (.slice (some ⟨g, 0, none⟩) k cap) k vs ∧ ∀ (t : Nat) (R : List (List Int)), C[t]? = some R → ∃ ro m c, vs[t]? = some (.slice ro m c) ∧ (ro = none → c = 0) ∧ m ≤ c ∧ c ≤ 9223372036854775807 ∧ Hangs (fun b => B ≤ b ∧ b ≠ g) w (fun w => GridAt w ro m R)
theorem OwnCube.below {w w' : World} {B g k cap : Nat} {C : List (List (List Int))} (h : OwnCube w B g k cap C) (hb : Below w.heap.size w w') : OwnCube w' B g k cap C := by
  obtain ⟨vs, h1, h2⟩ := h.own
  exact ⟨h.base, h.len, vs, owns_below h1 hb, fun t R hR => let ⟨ro, m, c, e, h3, h4, h5, h6⟩ := h2 t R hR; ⟨ro, m, c, e, h3, h4, h5, h6.below hb⟩⟩
theorem OwnCube.lt {w : World} {B g k cap : Nat} {C : List (List (List Int))} (h : OwnCube w B g k cap C) : g < w.heap.size := by
  obtain ⟨vs, h1, _⟩ := h.own
  obtain ⟨_, cur, hc⟩ := own_block h1
  exact (Array.getElem?_eq_some_iff.1 hc).1
theorem OwnCube.cube {w : World} {B g k cap : Nat} {C : List (List (List Int))} (h : OwnCube w B g k cap C) (hk : k ≤ 9223372036854775807) : CubeAt w (some ⟨g, 0, none⟩) k C := by
  obtain ⟨vs, h1, h2⟩ := h.own
  refine ⟨h.len, hk, fun _ => ⟨g, 0, rfl, fun t R hR => ?_⟩⟩
  obtain ⟨ro, m, c, e, h3, h4, h5, h6⟩ := h2 t R hR
  have hc := h1.cells (g := g) rfl t _ e
  have e2 : (Addr.mk g 0 none).add t = ⟨g, t, none⟩ := by simp [Addr.add]; intro h; exact h.symm
  rw [e2] at hc
  exact ⟨ro, m, c, by rw [Nat.zero_add]; exact hc, h3, h4, h5, h6.now⟩
theorem OwnCube.hangs {w : World} {B g k cap : Nat} {C : List (List (List Int))} (h : OwnCube w B g k cap C) (hk : k ≤ 9223372036854775807) : New B w (fun w => CubeAt w (some ⟨g, 0, none⟩) k C) := by
  intro w2 h2
  obtain ⟨vs, h1, h3⟩ := h.own
  refine OwnCube.cube (B := B) (cap := cap) ⟨h.base, h.len, vs, owns_mono h1 (Nat.le_refl _) (fun b hb => ?_), fun t R hR => ?_⟩ hk
  · simp [Value.ownBlock] at hb
    subst hb
    exact h2 _ h.base h.lt
  · obtain ⟨ro, m, c, e, h4, h5, h6, h7⟩ := h3 t R hR
    have hs : w.heap.size ≤ w.heap.size := Nat.le_refl _
    exact ⟨ro, m, c, e, h4, h5, h6, fun w3 h8 => h7 w3 fun b hb hlt => (h8 b hb (Nat.lt_of_not_le fun hge => by
      have e1 := h2 b hb.1 hlt
      rw [Array.getElem?_eq_none hge, Array.getElem?_eq_getElem hlt] at e1
      cases e1)).trans (h2 b hb.1 hlt)⟩
theorem ownCube_empty (w : World) : OwnCube (w.alloc (.cells #[] 51)) w.heap.size w.heap.size 0 0 [] :=
  ⟨Nat.le_refl _, rfl, [], ⟨rfl, Or.inr ⟨w.heap.size, 0, #[], rfl, Nat.le_refl _, heap_alloc_new _ _, Nat.le_refl _, by decide, rfl, rfl⟩⟩, fun t R hR => by simp at hR⟩
theorem wpList_append_cube {w : World} {ops : Array Oper} {rest : List Oper} {o : Oper} {a : Act} {Q : Exit → Act → World → Prop} (hgd : o.guard = none) (s x : Operand)
    (ho : o.op = .call { callee := .builtin .append, args := #[s, x], argTypes := #[38, 38] })
    (B g k cap : Nat) (C : List (List (List Int))) (hs : a.eval s = .slice (some ⟨g, 0, none⟩) k cap) (hF : OwnCube w B g k cap C)
    (bo g1 m1 c1 : Nat) (R : List (List Int)) (hx : a.eval x = .slice (some ⟨bo, 0, none⟩) 1 1) (hX : w.cell? ⟨bo, 0, none⟩ = some (.slice (some ⟨g1, 0, none⟩) m1 c1)) (hm1 : m1 ≤ c1) (hc1 : c1 ≤ 9223372036854775807) (hY : Hangs (fun b => B ≤ b ∧ b ≠ g) w (fun w => GridAt w (some ⟨g1, 0, none⟩) m1 R))
    (hlen : k + 1 ≤ 1048576) (hB : B ≤ w.heap.size)
    (h : ∀ g' cap' w', OwnCube w' B g' (k + 1) cap' (C ++ [R]) → Below B w w' → wpList Tryd.prog ops Q rest (a.put o.dst (.slice (some ⟨g', 0, none⟩) (k + 1) cap')) w') : wpList Tryd.prog ops Q (o :: rest) a w := by
  obtain ⟨i0, hi, hz0, hz1, hz2⟩ := info_parts Tryd.infoList
  obtain ⟨vs, h1, h2⟩ := hF.own
  refine wpList_plain hgd fun _ hK => wp_append_own2 w s x 38 ho B 51 i0 (.slice none 0 0) 1 24 Tryd.underlying38 hi hz0 hz1 hz2 rfl (by decide) _ k _ hs h1 ⟨bo, 0, none⟩ 1 1 [.slice (some ⟨g1, 0, none⟩) m1 c1] hx rfl ?_ (by intro u hu; simp at hu; subst hu; rfl) (by unfold maxLen; omega) (by omega) hB ?_
  · intro j u hj
    match j, hj with
    | 0, hj =>
      simp at hj
      subst hj
      have e2 : (Addr.mk bo 0 none).add 0 = ⟨bo, 0, none⟩ := by simp [Addr.add]
      rw [e2, hX]
  · intro v' w' hown hg hnil hwh
    have hb : Below B w w' := (Below.refl _ _).grown hg hB (fun k hk => by simp [Value.ownBlock] at hk; subst hk; exact hF.base)
    have hlv : vs.length = k := by have := h1.1; omega
    have hown2 := hown
    obtain ⟨_, h4⟩ := hown2
    rcases h4 with ⟨_, h5⟩ | ⟨g', c', cur', hv, hg2, hr⟩
    · omega
    · subst hv
      have hw := hwh g' rfl
      have tr : ∀ {Φ : World → Prop}, Hangs (fun b => B ≤ b ∧ b ≠ g) w Φ → Hangs (fun b => B ≤ b ∧ b ≠ g') w' Φ := fun {Φ} hh w2 hh2 => hh w2 fun b hb1 hlt => by
        have hne : b ≠ g' := by
          rcases hw with e | e
          · simp [Value.ownBlock] at e; omega
          · omega
        exact (hh2 b ⟨hb1.1, hne⟩ (Nat.lt_of_lt_of_le hlt hg.size)).trans (hg.block b hlt (by simp [Value.ownBlock]; omega))
      refine hK _ _ (h g' c' w' ⟨hg2, by simp [hF.len], _, hown, fun t R' hR' => ?_⟩ hb)
      by_cases htk : t < k
      · rw [List.getElem?_append_left (by rw [hF.len]; exact htk)] at hR'
        obtain ⟨ro, m3, c3, e3, q1, q2, q3, q4⟩ := h2 t R' hR'
        exact ⟨ro, m3, c3, by rw [List.getElem?_append_left (by omega)]; exact e3, q1, q2, q3, tr q4⟩
      · rw [List.getElem?_append_right (by rw [hF.len]; omega), hF.len] at hR'
        have e0 : t - k = 0 := by
          rcases Nat.eq_zero_or_pos (t - k) with e | e
          · exact e
          · rw [List.getElem?_eq_none (by simp; omega)] at hR'; cases hR'
        rw [e0] at hR'
        simp at hR'
        subst hR'
        exact ⟨some ⟨g1, 0, none⟩, m1, c1, by rw [List.getElem?_append_right (by omega), hlv, e0]; rfl, (fun h => by cases h), hm1, hc1, tr hY⟩
theorem cellList_new (w : World) (v : Value) : (w.alloc (.cells #[v] 51)).cell? ⟨w.heap.size, 0, none⟩ = some v := by
  have e := heap_alloc_new w (.cells #[v] 51)
  unfold World.cell?
  simp only [e]
  rfl
end Go.Proofs.YthmpfmclbmhkfaaDoor

/- Told: a view as the document's, of the call's own. -/
namespace Go.Proofs.YthmpfmclbmhkfaaDoor
open Go.ChangeShapes Go.WideShapes Go.ChangeAt Go.RowKit
theorem take_one {C : List (List (List Int))} {k : Nat} {R : List (List Int)} (h : C[k]? = some R) : C.take (k + 1) = C.take k ++ [R] := by
  rw [List.take_add_one, h]; rfl
set_option maxHeartbeats 800000 in
theorem lists_any (ao : Option Addr) (n ca : Nat) (C : List (List (List Int))) (w : World) (hC : CubeAt w ao n C) (hn : n ≤ 5) (hr : ∀ R ∈ C, rowsN R 130 = R) :
   Calls Tryd.prog 20 #[.slice ao n ca] w fun e w' => ∃ g cap, e = .returned (.slice (some ⟨g, 0, none⟩) n cap) ∧ New w.heap.size w' (fun w => CubeAt w (some ⟨g, 0, none⟩) n C) ∧ Below w.heap.size w w' := by
  have hl := hC.len
  have F0 := ownCube_empty w
  have B0 : Below w.heap.size w (w.alloc (.cells #[] 51)) := (Below.refl _ _).alloc (Nat.le_refl _) _
  have HC : Hid (∀ wv, Below w.heap.size w wv → CubeAt wv ao n C) := fun wv hb => hC.below hb
  go_enter Tryd.func20, Tryd.ntmps20
  go_wp2
  generalize w.alloc (.cells #[] 51) = w0 at *
  clear hC
  go_loopg [3, 4] n (fun r s i wr => ∃ (k g cap : Nat), k ≤ n ∧ r = n - k ∧ i = .int .i64 k ∧ s = .slice (some ⟨g, 0, none⟩) k cap ∧ OwnCube wr w.heap.size g k cap (C.take k) ∧ Below w.heap.size w wr)
  case atStart => exact ⟨0, _, _, by omega, by omega, rfl, rfl, by rw [List.take_zero]; exact F0, B0⟩
  case round =>
    obtain ⟨k, g, cap, hk, rfl, rfl, rfl, F2, B2⟩ := hrel
    clear F0 B0
    by_cases hlt : k < n
    · obtain ⟨b, o, rfl, hc⟩ := (HC.out _ B2).cells (by omega)
      obtain ⟨R, hR⟩ : ∃ R, C[k]? = some R := ⟨_, List.getElem?_eq_getElem (show k < C.length by omega)⟩
      obtain ⟨ro, m1, c1, q1, -, -, -, G1⟩ := hc k R hR
      have HS : Hid (C.take (k + 1) = C.take k ++ [R]) := take_one hR
      have HRR : Hid (rowsN R 130 = R) := hr R (List.mem_of_getElem? hR)
      have s2 := B2.size
      have lg := F2.lt
      have h5 : (k : Int) < 5 := by omega
      clear hc
      go_wp2_with fail
      refine (hrows_any ro m1 c1 R 130 130 _ rfl G1 (by omega)).mono ?_
      rintro e w3 ⟨g3, n3, c3, rfl, hm3, OG, B3⟩
      rw [HRR.out] at OG
      obtain ⟨p1, p2⟩ := own_caps OG.own.choose_spec.1
      have NG := OG.hangs (by omega)
      have BL : Below w3.heap.size w3 (w3.alloc (.cells #[.slice (some ⟨g3, 0, none⟩) n3 c3] 51)) := (Below.refl _ _).alloc (Nat.le_refl _) _
      have cX := cellList_new w3 (.slice (some ⟨g3, 0, none⟩) n3 c3)
      have F4 := (F2.below B3).below BL
      have s3 := B3.size
      have s4 := BL.size
      have NG4 : Hangs (fun b => w.heap.size ≤ b ∧ b ≠ g) (w3.alloc (.cells #[.slice (some ⟨g3, 0, none⟩) n3 c3] 51)) (fun w => GridAt w (some ⟨g3, 0, none⟩) n3 R) := Hangs.mono (Hangs.below NG BL) (fun b _ hb => ⟨by omega, by omega⟩)
      have B4 := below_then (below_then B2 B3) BL
      clear NG OG F2 G1 q1
      generalize hw4 : w3.alloc (.cells #[.slice (some ⟨g3, 0, none⟩) n3 c3] 51) = w4 at *
      go_wp2_with (at_builtin; refine wpList_append_cube rfl _ _ rfl w.heap.size g k cap _ rfl (by exact F4) w3.heap.size g3 n3 c3 R rfl (by exact cX) p1 p2 (by exact NG4) (by omega) (by omega) ?_; intro g' cap' w' F7 B7)
      go_roundg (n - (k + 1))
      case measure => omega
      case rel => exact ⟨k + 1, _, _, by omega, rfl, by go_num, rfl, by rw [HS.out]; exact F7, B4.trans B7⟩
    · obtain rfl : k = n := by omega
      go_wp2
      go_ret
      rw [List.take_of_length_le (by omega)] at F2
      exact ⟨_, _, rfl, F2.hangs (by omega), B2⟩
/-- Told. -/
theorem Tryd.infoRV : (Tryd.prog.info? 46).map (·.size) = some 3 := by kernel_rfl
set_option maxRecDepth 100000 in
set_option maxHeartbeats 800000 in
theorem told9_any (vv : VwV) (X : Vw) (w : World) (hv : VwAt w vv X) (hT : X.T.length ≤ 130) (hK : X.K.length ≤ 5) (hV : X.V.length ≤ 5) (hrk : ∀ R ∈ X.K, rowsN R 130 = R) (hrv : ∀ R ∈ X.V, rowsN R 130 = R) :
   Calls Tryd.prog 9 #[.agg vv.cells] w fun e w' => ∃ t k v : Sl, e = .returned (.agg #[t.v, k.v, v.v]) ∧ ToldAt w' t k v X ∧ Below w.heap.size w w' := by
  have lt := hv.t.row.len
  have lk := hv.k.len
  have lv := hv.v.len
  have hsm := hv.t.row.small
  have HT : Hid (∀ wv, Below w.heap.size w wv → IArg wv vv.t.ao vv.t.n vv.t.c X.T) := fun wv hb => hv.t.below hb
  have HK : Hid (∀ wv, Below w.heap.size w wv → CubeAt wv vv.k.ao vv.k.n X.K) := fun wv hb => hv.k.below hb
  have HV : Hid (∀ wv, Below w.heap.size w wv → CubeAt wv vv.v.ao vv.v.n X.V) := fun wv hb => hv.v.below hb
  clear hv
  obtain ⟨⟨ta, tn, tc⟩, ⟨ka, kn, kc⟩, ⟨va, vn, vc⟩⟩ := vv
  unfold VwV.cells Sl.v
  simp only at *
  have lt' : tn ≤ 130 := by omega
  have lk' : kn ≤ 5 := by omega
  have lv' : vn ≤ 5 := by omega
  clear lt lk lv hK hV
  have X0 := blk_new w 42 #[.slice ta tn tc, .slice ka kn kc, .slice va vn vc]
  have B0 : Below w.heap.size w (w.alloc (.cells #[.slice ta tn tc, .slice ka kn kc, .slice va vn vc] 42)) := (Below.refl _ _).alloc (Nat.le_refl _) _
  generalize hw0 : w.alloc (.cells #[.slice ta tn tc, .slice ka kn kc, .slice va vn vc] 42) = w0 at *
  have lt0 := X0.lt
  have X1 := blk_new w0 46 #[.slice none 0 0, .slice none 0 0, .slice none 0 0]
  have B1 : Below w0.heap.size w0 (w0.alloc (.cells #[.slice none 0 0, .slice none 0 0, .slice none 0 0] 46)) := (Below.refl _ _).alloc (Nat.le_refl _) _
  generalize hw1 : w0.alloc (.cells #[.slice none 0 0, .slice none 0 0, .slice none 0 0] 46) = w1 at *
  replace X0 := X0.below B1
  have D := below_then B0 B1
  clear B0 B1
  have lt1 := X1.lt
  go_enter Tryd.func9, Tryd.ntmps9
  go_wp2_with fail
  clear hw0 hw1
  replace X0 := X0.below ((Below.refl _ _).drew)
  replace X1 := X1.below ((Below.refl _ _).drew)
  replace D := D.drew
  replace lt1 : w0.heap.size < w1.drew.heap.size := lt1
  refine wp_region_held_drew (S := fun w' => Blk w' w.heap.size 42 #[.slice ta tn tc, .slice ka kn kc, .slice va vn vc]) (by kernel_rfl) (X0) (fun hHeld => ?_)
  generalize hA : w1.drew = wA at *
  clear hA
  refine wpAnyH_take (i := 0) (v := (.pointer (some ⟨w.heap.size, 0, none⟩))) rfl (by kernel_rfl) (by kernel_rfl) (by kernel_rfl) (fun _ _ _ h => h) (Or.inl ⟨by rfl, ?_⟩) (by assumption) ?_
  · intro w' hSw
    go_simp
  simp only [List.getElem_toArray, List.getElem_cons_zero, Act.put, List.setIfInBounds_toArray, List.set_cons_zero, List.set_cons_succ]
  refine wpAnyH_take (i := 1) (v := (.slice ta tn tc)) rfl (by kernel_rfl) (by kernel_rfl) (by kernel_rfl) (fun _ _ _ h => h) (Or.inl ⟨by rfl, ?_⟩) (by assumption) ?_
  · intro w' hSw
    have cc0 : w'.cell? ⟨w.heap.size, 0, none⟩ = some (.slice ta tn tc) := hSw.cell 0 rfl
    go_simp
  simp only [List.getElem_toArray, List.getElem_cons_succ, List.getElem_cons_zero, Act.put, List.setIfInBounds_toArray, List.set_cons_zero, List.set_cons_succ]
  refine wpAnyH_take (i := 3) (v := (.pointer (some ⟨w.heap.size, 1, none⟩))) rfl (by kernel_rfl) (by kernel_rfl) (by kernel_rfl) (fun _ _ _ h => h) (Or.inl ⟨by rfl, ?_⟩) (by assumption) ?_
  · intro w' hSw
    go_simp
  simp only [List.getElem_toArray, List.getElem_cons_succ, List.getElem_cons_zero, Act.put, List.setIfInBounds_toArray, List.set_cons_zero, List.set_cons_succ]
  refine wpAnyH_take (i := 4) (v := (.pointer (some ⟨w.heap.size, 1, none⟩))) rfl (by kernel_rfl) (by kernel_rfl) (by kernel_rfl) (fun _ _ _ h => h) (Or.inl ⟨by rfl, ?_⟩) (by assumption) ?_
  · intro w' hSw
    go_simp
  simp only [List.getElem_toArray, List.getElem_cons_succ, List.getElem_cons_zero, Act.put, List.setIfInBounds_toArray, List.set_cons_zero, List.set_cons_succ]
  refine wpAnyH_take (i := 5) (v := (.slice ka kn kc)) rfl (by kernel_rfl) (by kernel_rfl) (by kernel_rfl) (fun _ _ _ h => h) (Or.inl ⟨by rfl, ?_⟩) (by assumption) ?_
  · intro w' hSw
    have cc1 : w'.cell? ⟨w.heap.size, 1, none⟩ = some (.slice ka kn kc) := hSw.cell 1 rfl
    go_simp
  simp only [List.getElem_toArray, List.getElem_cons_succ, List.getElem_cons_zero, Act.put, List.setIfInBounds_toArray, List.set_cons_zero, List.set_cons_succ]
  refine wpAnyH_take (i := 7) (v := (.pointer (some ⟨w.heap.size, 1, none⟩))) rfl (by kernel_rfl) (by kernel_rfl) (by kernel_rfl) (fun _ _ _ h => h) (Or.inl ⟨by rfl, ?_⟩) (by assumption) ?_
  · intro w' hSw
    go_simp
  simp only [List.getElem_toArray, List.getElem_cons_succ, List.getElem_cons_zero, Act.put, List.setIfInBounds_toArray, List.set_cons_zero, List.set_cons_succ]
  refine wpAnyH_take (i := 8) (v := (.pointer (some ⟨w.heap.size, 2, none⟩))) rfl (by kernel_rfl) (by kernel_rfl) (by kernel_rfl) (fun _ _ _ h => h) (Or.inl ⟨by rfl, ?_⟩) (by assumption) ?_
  · intro w' hSw
    go_simp
  simp only [List.getElem_toArray, List.getElem_cons_succ, List.getElem_cons_zero, Act.put, List.setIfInBounds_toArray, List.set_cons_zero, List.set_cons_succ]
  refine wpAnyH_take (i := 9) (v := (.slice va vn vc)) rfl (by kernel_rfl) (by kernel_rfl) (by kernel_rfl) (fun _ _ _ h => h) (Or.inl ⟨by rfl, ?_⟩) (by assumption) ?_
  · intro w' hSw
    have cc2 : w'.cell? ⟨w.heap.size, 2, none⟩ = some (.slice va vn vc) := hSw.cell 2 rfl
    go_simp
  simp only [List.getElem_toArray, List.getElem_cons_succ, List.getElem_cons_zero, Act.put, List.setIfInBounds_toArray, List.set_cons_zero, List.set_cons_succ]
  refine wpAnyH_ready (rs := [2]) (by kernel_rfl) (by simp) ?_
  refine AllReadyH.cons rfl (fun Kc hKc => ?_) AllReadyH.nil
  simp only [List.getElem_toArray, List.getElem_cons_succ, List.getElem_cons_zero]
  rw [if_pos (by rfl)]
  go_wp2_with fail
  refine (few8_gen ta tn tc X.T X.T 130 _ (HT.out _ D) (by omega) (List.take_of_length_le (by omega)).symm).mono ?_
  rintro e w2 ⟨tb, tc2, rfl, OT, B2⟩
  have zA2 := B2.size
  replace X0 := X0.below B2
  replace X1 := X1.below B2
  replace D := below_then D B2
  go_wp2_with fail
  refine hKc.out _ _ (X0) (fun hHeld => ?_)
  clear hKc Kc
  refine wpAnyH_ready (rs := [6]) (by kernel_rfl) (by simp) ?_
  refine AllReadyH.cons rfl (fun Kc hKc => ?_) AllReadyH.nil
  simp only [List.getElem_toArray, List.getElem_cons_succ, List.getElem_cons_zero]
  rw [if_pos (by rfl)]
  go_wp2_with fail
  refine (lists_any ka kn kc X.K _ (HK.out _ D) (by omega) hrk).mono ?_
  rintro e w3 ⟨kg, kc2, rfl, NK, B3⟩
  replace OT := owns_below OT B3
  have z3 := B3.size
  replace X0 := X0.below B3
  replace X1 := X1.below B3
  replace D := below_then D B3
  go_wp2_with fail
  refine hKc.out _ _ (X0) (fun hHeld => ?_)
  clear hKc Kc
  refine wpAnyH_ready (rs := [10]) (by kernel_rfl) (by simp) ?_
  refine AllReadyH.cons rfl (fun Kc hKc => ?_) AllReadyH.nil
  simp only [List.getElem_toArray, List.getElem_cons_succ, List.getElem_cons_zero]
  rw [if_pos (by rfl)]
  go_wp2_with fail
  refine (lists_any va vn vc X.V _ (HV.out _ D) (by omega) hrv).mono ?_
  rintro e w4 ⟨vg, vc2, rfl, NV, B4⟩
  replace OT := owns_below OT B4
  replace NK := NK.below B4
  replace X0 := X0.below B4
  replace X1 := X1.below B4
  replace D := below_then D B4
  go_wp2_with fail
  refine hKc.out _ _ (X0) (fun hHeld => ?_)
  clear hKc Kc
  refine wpAnyH_take (i := 11) (v := (.agg #[.slice (some ⟨tb, 0, none⟩) X.T.length tc2, .slice (some ⟨kg, 0, none⟩) kn kc2, .slice (some ⟨vg, 0, none⟩) vn vc2])) rfl (by kernel_rfl) (by kernel_rfl) (by kernel_rfl) (fun _ _ _ h => h) (Or.inl ⟨by rfl, ?_⟩) (by assumption) ?_
  · intro w' hSw
    go_simp
  simp only [List.getElem_toArray, List.getElem_cons_succ, List.getElem_cons_zero, Act.put, List.setIfInBounds_toArray, List.set_cons_zero, List.set_cons_succ]
  refine wpAnyH_ready (rs := [12]) (by kernel_rfl) (by simp) ?_
  refine AllReadyH.cons rfl (fun Kc hKc => ?_) AllReadyH.nil
  simp only [List.getElem_toArray, List.getElem_cons_succ, List.getElem_cons_zero]
  rw [if_pos (by rfl)]
  have hall : Array.all (#[.slice (some ⟨tb, 0, none⟩) X.T.length tc2, .slice (some ⟨kg, 0, none⟩) kn kc2, .slice (some ⟨vg, 0, none⟩) vn vc2] : Array Value) (fun v => v.oneCell') = true := by simp [Value.oneCell']
  refine wp_store_row 46 _ _ rfl w0.heap.size #[.slice (some ⟨tb, 0, none⟩) X.T.length tc2, .slice (some ⟨kg, 0, none⟩) kn kc2, .slice (some ⟨vg, 0, none⟩) vn vc2] rfl rfl 46 _ X1 Tryd.infoRV rfl hall ?_
  refine hKc.out _ _ (Blk.of_block X0 (setRow_other _ _ _ _ (by omega))) (fun hHeld => ?_)
  clear hKc Kc
  refine wpAnyH_done (by kernel_rfl) ?_ _
  clear hHeld
  go_wp2
  refine bodyPost_ret (results_cell_row rfl _ _ w0.heap.size 46 _ _ _ rfl (X1.row _) Tryd.underlying46 rfl Tryd.infoRV) rfl ?_
  have so : ∀ (b : Nat) (x : Array Value), b ≠ w0.heap.size → (w4.setRow w0.heap.size x).heap[b]? = w4.heap[b]? := fun b x hb => setRow_other _ _ _ _ hb
  obtain ⟨x1, y1, e1, IT⟩ := IOwn.arg (A := X.T) (owns_mono OT (Nat.le_refl _) (fun b hb => so b #[.slice (some ⟨tb, 0, none⟩) X.T.length tc2, .slice (some ⟨kg, 0, none⟩) kn kc2, .slice (some ⟨vg, 0, none⟩) vn vc2] (by have := (OT.lt b hb).1; omega))) hsm
  simp only [Value.slice.injEq, true_and] at e1
  obtain ⟨rfl, rfl⟩ := e1
  refine ⟨⟨some ⟨tb, 0, none⟩, _, tc2⟩, ⟨some ⟨kg, 0, none⟩, kn, kc2⟩, ⟨some ⟨vg, 0, none⟩, vn, vc2⟩, rfl, ⟨IT, ?_, ?_⟩, below_setRow D (by omega) _⟩
  · exact (Hangs.row NK (g := w0.heap.size) (by show ¬ (_ ≤ _); omega) _).now
  · exact (Hangs.row NV (g := w0.heap.size) (by show ¬ (_ ≤ _); omega) _).now
end Go.Proofs.YthmpfmclbmhkfaaDoor

/- Package step: the first rows of lists. -/
namespace Go.Proofs.YthmpfmclbmhkfaaDoor
open Go.ChangeShapes Go.WideShapes Go.ChangeAt Go.RowKit
theorem rowOf_take9 {R : List (List Int)} {m t : Nat} (h : t < m) : rowOf (R.take m) t = rowOf R t := by
  unfold rowOf
  rw [List.getD_eq_getElem?_getD, List.getD_eq_getElem?_getD, List.getElem?_take_of_lt h]
theorem GridAt.take {w : World} {ao : Option Addr} {n : Nat} {R : List (List Int)} (h : GridAt w ao n R) {m : Nat} (hm : m ≤ n) : GridAt w ao m (R.take m) := by
  have hl := h.len
  have hx := h.max
  refine ⟨by rw [List.length_take]; omega, by omega, fun h0 => ?_⟩
  obtain ⟨b, o, e, hc⟩ := h.cells (by omega)
  refine ⟨b, o, e, fun t ht => ?_⟩
  rw [rowOf_take9 ht]
  exact hc t (by omega)
theorem Lists.cube {w : World} {g m : Nat} {C : List (List (List Int))} (h : Lists w g m m C) (hl : C.length = m) (hm : m ≤ 4096) {B : Nat} (hB : B ≤ g) : New B w (fun w => CubeAt w (some ⟨g, 0, none⟩) m C) := by
  have hlt := h.lt
  obtain ⟨cs, h1, hsz, h3⟩ := h.row
  intro w2 h2
  have hg := (h2 g hB hlt).trans h1
  refine ⟨hl, by omega, fun _ => ⟨g, 0, rfl, fun t R hR => ?_⟩⟩
  have htm : t < m := by rw [← hl]; exact (List.getElem?_eq_some_iff.1 hR).1
  obtain ⟨ro, n, vs, e, h4, N⟩ := h3 t R htm hR
  have GV := N w2 fun b hb hb2 => h2 b (Nat.le_trans (by omega) hb) hb2
  refine ⟨ro, n, n, ?_, h4, Nat.le_refl _, GV.max, GV.grid⟩
  rw [Nat.zero_add]
  unfold World.cell?
  simp only [hg]
  exact e
/-- The view of the first n tokens. -/
def cutV (X : Vw) (n : Nat) : Vw := ⟨X.T.take n, X.K.map (List.take n), X.V.map (List.take n)⟩
end Go.Proofs.YthmpfmclbmhkfaaDoor

/- An answer, token by token: what is fed in parts is what is fed at once. -/
namespace Go.Proofs.YthmpfmclbmhkfaaDoor
open Go.ChangeShapes Go.WideShapes Go.ChangeAt Go.RowKit
theorem feedAll_append (M : Mdl) (D H Hd L : Nat) (X : Vw) (A B : List Int) : feedAll M D H Hd L X (A ++ B) = feedAll M D H Hd L (feedAll M D H Hd L X A) B := by
  unfold feedAll
  rw [List.foldl_append]
theorem lik_split (M : Mdl) (V D H Hd L : Nat) (Q T : List Int) (hT : T ≠ []) : likAt M V D H Hd L (feedAll M D H Hd L noX Q) T T.length = likAt M V D H Hd L noX (Q ++ T) (Q ++ T).length := by
  obtain ⟨m, hm⟩ : ∃ m, T.length = m + 1 := ⟨T.length - 1, by have := List.length_pos_iff.2 hT; omega⟩
  have h2 : (Q ++ T).length = (Q.length + m) + 1 := by rw [List.length_append, hm]; omega
  rw [hm, h2]
  show likR M V D (feedX M D H Hd L (feedAll M D H Hd L (feedAll M D H Hd L noX Q) (T.take m)) (el T m).toNat) = likR M V D (feedX M D H Hd L (feedAll M D H Hd L noX ((Q ++ T).take (Q.length + m))) (el (Q ++ T) (Q.length + m)).toNat)
  have et : (Q ++ T).take (Q.length + m) = Q ++ T.take m := by rw [List.take_append, List.take_of_length_le (by omega : Q.length ≤ Q.length + m), Nat.add_sub_cancel_left]
  rw [el_append_right, et, ← feedAll_append]
/-- The token that is liked best behind a row of them. -/
def nextT (M : Mdl) (V D H Hd L : Nat) (A : List Int) : Int := amax (likAt M V D H Hd L noX A A.length) V
def runY (M : Mdl) (V D H Hd L : Nat) (P : List Int) : Nat → List Int
  | 0 => []
  | j + 1 => runY M V D H Hd L P j ++ [nextT M V D H Hd L (P ++ runY M V D H Hd L P j)]
theorem runS_inv (M : Mdl) (V D H Hd L : Nat) (P : List Int) (hP : P ≠ []) : ∀ j, (runS M V D H Hd L P j).Y = runY M V D H Hd L P j ∧ (runS M V D H Hd L P j).T ≠ [] ∧ ∃ Q, (runS M V D H Hd L P j).X = feedAll M D H Hd L noX Q ∧ Q ++ (runS M V D H Hd L P j).T = P ++ (runS M V D H Hd L P j).Y
  | 0 => ⟨rfl, hP, [], rfl, by show [] ++ P = P ++ []; simp⟩
  | j + 1 => by
    obtain ⟨h1, h2, Q, h3, h4⟩ := runS_inv M V D H Hd L P hP j
    have e : likAt M V D H Hd L (runS M V D H Hd L P j).X (runS M V D H Hd L P j).T (runS M V D H Hd L P j).T.length = likAt M V D H Hd L noX (P ++ runY M V D H Hd L P j) (P ++ runY M V D H Hd L P j).length := by
      rw [h3, lik_split M V D H Hd L Q _ h2, h4, h1]
    have eY : (runS M V D H Hd L P (j + 1)).Y = runY M V D H Hd L P j ++ [nextT M V D H Hd L (P ++ runY M V D H Hd L P j)] := by
      show (runS M V D H Hd L P j).Y ++ [amax _ V] = _
      rw [e, h1]
      rfl
    have eT : (runS M V D H Hd L P (j + 1)).T = [nextT M V D H Hd L (P ++ runY M V D H Hd L P j)] := by
      show [amax _ V] = _
      rw [e]
      rfl
    refine ⟨eY, by rw [eT]; simp, P ++ runY M V D H Hd L P j, ?_, ?_⟩
    · show feedAll M D H Hd L (runS M V D H Hd L P j).X (runS M V D H Hd L P j).T = _
      rw [h3, ← feedAll_append, h4, h1]
    · rw [eT, eY, List.append_assoc]
theorem runY_len (M : Mdl) (V D H Hd L : Nat) (P : List Int) : ∀ j, (runY M V D H Hd L P j).length = j
  | 0 => rfl
  | j + 1 => by
    show (runY M V D H Hd L P j ++ [nextT M V D H Hd L (P ++ runY M V D H Hd L P j)]).length = _
    rw [List.length_append, runY_len M V D H Hd L P j]
    rfl
theorem runY_take (M : Mdl) (V D H Hd L : Nat) (P : List Int) (n : Nat) : ∀ i, (runY M V D H Hd L P (n + i)).take n = runY M V D H Hd L P n
  | 0 => by rw [Nat.add_zero]; exact List.take_of_length_le (by rw [runY_len]; omega)
  | i + 1 => by
    show (runY M V D H Hd L P (n + i) ++ [_]).take n = _
    rw [List.take_append_of_le_length (by rw [runY_len]; omega)]
    exact runY_take M V D H Hd L P n i
theorem runY_shift (M : Mdl) (V D H Hd L : Nat) (P : List Int) (n : Nat) : ∀ i, runY M V D H Hd L (P ++ runY M V D H Hd L P n) i = (runY M V D H Hd L P (n + i)).drop n
  | 0 => by rw [Nat.add_zero, List.drop_of_length_le (by rw [runY_len]; omega)]; rfl
  | i + 1 => by
    have ih := runY_shift M V D H Hd L P n i
    show runY M V D H Hd L (P ++ runY M V D H Hd L P n) i ++ [_] = (runY M V D H Hd L P (n + i) ++ [_]).drop n
    rw [List.drop_append_of_le_length (by rw [runY_len]; omega), ih]
    have e : P ++ runY M V D H Hd L P n ++ (runY M V D H Hd L P (n + i)).drop n = P ++ runY M V D H Hd L P (n + i) := by
      rw [List.append_assoc, ← runY_take M V D H Hd L P n i, List.take_append_drop]
    rw [e]
    rfl
theorem runY_toks (M : Mdl) {V D H Hd L : Nat} (hV : 1 ≤ V) (P : List Int) : ∀ j, (runY M V D H Hd L P j).all (tokB V) = true
  | 0 => rfl
  | j + 1 => by
    show (runY M V D H Hd L P j ++ [_]).all (tokB V) = true
    rw [List.all_append, runY_toks M hV P j, Bool.true_and]
    simp only [List.all_cons, List.all_nil, Bool.and_true]
    unfold tokB nextT
    exact decide_eq_true (amax_tok _ hV)
/-- The answer's length: the first at which it is over. -/
theorem run_first {M : Mdl} {V D H Hd L : Nat} {P : List Int} {most n : Int} {j : Nat} (h2 : ∀ i, i < j → overB (runY M V D H Hd L P i) most = false) {m : Nat} (hn : n = m) (hm : m ≤ j) {i : Nat} (k1 : overB (runY M V D H Hd L P i) n = true) (k2 : ∀ t, t < i → overB (runY M V D H Hd L P t) n = false) : i = m := by
  have e : ∀ t, t < m → overB (runY M V D H Hd L P t) n = false := fun t ht => by
    have := h2 t (by omega)
    unfold overB at this ⊢
    rw [Bool.or_eq_false_iff] at this ⊢
    exact ⟨decide_eq_false (by rw [runY_len]; omega), this.2⟩
  have e2 : overB (runY M V D H Hd L P m) n = true := by unfold overB; rw [decide_eq_true (by rw [runY_len]; omega)]; rfl
  rcases Nat.lt_trichotomy i m with h | h | h
  · rw [e i h] at k1; cases k1
  · exact h
  · rw [k2 m h] at e2; cases e2
/-- The end of an answer that was gone on from. -/
theorem over_drop {M : Mdl} {V D H Hd L : Nat} {P : List Int} {most : Int} {n i : Nat} (hi : 1 ≤ i) : overB ((runY M V D H Hd L P (n + i)).drop n) (most - n) = overB (runY M V D H Hd L P (n + i)) most := by
  have hl : ((runY M V D H Hd L P (n + i)).drop n).length = i := by rw [List.length_drop, runY_len]; omega
  have hl2 := runY_len M V D H Hd L P (n + i)
  unfold overB endB
  rw [hl, hl2, el_drop]
  have e1 : decide (most - (n : Int) ≤ (i : Int)) = decide (most ≤ ((n + i : Nat) : Int)) := by
    by_cases h : most - (n : Int) ≤ (i : Int)
    · rw [decide_eq_true h, decide_eq_true (by omega)]
    · rw [decide_eq_false h, decide_eq_false (by omega)]
  rw [e1, decide_eq_true (by omega : 0 < i), decide_eq_true (by omega : 0 < n + i), show n + (i - 1) = n + i - 1 by omega]
end Go.Proofs.YthmpfmclbmhkfaaDoor

/- The cut of a view of tokens is the view of the first ones. -/
namespace Go.Proofs.YthmpfmclbmhkfaaDoor
theorem map_take_getD {C E : List (List (List Int))} {L n : Nat} (h1 : C.length = L) (h2 : E.length = L) (h : ∀ l, l < L → (E.getD l []).take n = (C.getD l []).take n) : E.map (List.take n) = C.map (List.take n) := by
  apply List.ext_getElem?
  intro i
  rw [List.getElem?_map, List.getElem?_map]
  by_cases hi : i < L
  · have := h i hi
    rw [List.getD_eq_getElem?_getD, List.getD_eq_getElem?_getD, List.getElem?_eq_getElem (by omega), List.getElem?_eq_getElem (by omega)] at this
    rw [List.getElem?_eq_getElem (by omega), List.getElem?_eq_getElem (by omega)]
    simpa using this
  · rw [List.getElem?_eq_none (by omega), List.getElem?_eq_none (by omega)]
theorem cut_feed {M : Mdl} {V D H Hd L : Nat} {X : Vw} {tok n : Nat} (hf : VwFit V D L X) (h1 : 1 ≤ n) (hn : n ≤ X.T.length) : cutV (feedV M D H Hd L X tok) n = cutV X n := by
  have kl : ∀ l, l < L → (X.K.getD l []).length = X.T.length ∧ ∀ t, t < X.T.length → (rowOf (X.K.getD l []) t).length = D := fun l h => fit_list hf.k hf.ks h
  have vl : ∀ l, l < L → (X.V.getD l []).length = X.T.length ∧ ∀ t, t < X.T.length → (rowOf (X.V.getD l []) t).length = D := fun l h => fit_list hf.v hf.vs h
  have hk : X.K.length = L := by rw [hf.k, if_neg (by omega)]
  have hv : X.V.length = L := by rw [hf.v, if_neg (by omega)]
  unfold cutV feedV
  simp only [Vw.mk.injEq]
  refine ⟨List.take_append_of_le_length hn, map_take_getD hk (by unfold newK; simp) fun l hl => ?_, map_take_getD hv (by unfold newV; simp) fun l hl => ?_⟩
  · unfold newK
    rw [List.getD_eq_getElem?_getD, List.getElem?_map, List.getElem?_range hl]
    exact List.take_append_of_le_length (by rw [(kl l hl).1]; exact hn)
  · unfold newV
    rw [List.getD_eq_getElem?_getD, List.getElem?_map, List.getElem?_range hl]
    exact List.take_append_of_le_length (by rw [(vl l hl).1]; exact hn)
theorem cut_all {M : Mdl} {V D H Hd L n : Nat} (h1 : 1 ≤ n) {A : List Int} : ∀ {X : Vw}, VwFit V D L X → A.all (tokB V) = true → X.T.length + A.length ≤ 128 → n ≤ X.T.length → cutV (feedAll M D H Hd L X A) n = cutV X n := by
  induction A with
  | nil => intro X hf _ _ _; rfl
  | cons a A ih =>
    intro X hf ha hl hn
    simp only [List.all_cons, Bool.and_eq_true] at ha
    simp only [List.length_cons] at hl
    have ht : 0 ≤ a ∧ a < V := by have := ha.1; unfold tokB at this; simpa using this
    show cutV (feedAll M D H Hd L (feedV M D H Hd L X a.toNat) A) n = _
    rw [ih (fit_feed hf (by omega) (by omega)) ha.2 (by unfold feedV; simp; omega) (by unfold feedV; simp; omega)]
    exact cut_feed hf h1 hn
theorem cut_whole {V D L : Nat} {X : Vw} (hf : VwFit V D L X) : cutV X X.T.length = X := by
  have hm : ∀ {C : List (List (List Int))}, (∀ R ∈ C, R.length = X.T.length ∧ ∀ t, t < X.T.length → (rowOf R t).length = D) → C.map (List.take X.T.length) = C := fun {C} h => by
    have : C.map (List.take X.T.length) = C.map id := List.map_congr_left fun R hR => List.take_of_length_le (by rw [(h R hR).1]; exact Nat.le_refl _)
    rw [this, List.map_id]
  obtain ⟨T, K, W⟩ := X
  unfold cutV
  simp only [Vw.mk.injEq] at *
  exact ⟨List.take_of_length_le (Nat.le_refl _), hm hf.ks, hm hf.vs⟩
/-- The cut of the view of P at n is the view of the first n of P. -/
theorem cut_feedAll {M : Mdl} {V D H Hd L n : Nat} {P : List Int} (h1 : 1 ≤ n) (hn : n ≤ P.length) (hP : P.all (tokB V) = true) (hl : P.length ≤ 128) (hf : VwFit V D L noX) : cutV (feedAll M D H Hd L noX P) n = feedAll M D H Hd L noX (P.take n) := by
  have ha : (P.take n).all (tokB V) = true ∧ (P.drop n).all (tokB V) = true := by
    have := hP
    rw [← List.take_append_drop n P, List.all_append, Bool.and_eq_true] at this
    exact this
  have l1 : (P.take n).length = n := by rw [List.length_take]; omega
  have l2 : (P.drop n).length = P.length - n := List.length_drop
  have hfn : VwFit V D L (feedAll M D H Hd L noX (P.take n)) := feedAll_fit hf ha.1 (by show 0 + _ ≤ _; omega)
  have hlen : (feedAll M D H Hd L noX (P.take n)).T.length = n := by rw [feedAll_len]; show 0 + _ = _; omega
  have e : feedAll M D H Hd L noX P = feedAll M D H Hd L (feedAll M D H Hd L noX (P.take n)) (P.drop n) := by rw [← feedAll_append, List.take_append_drop]
  rw [e, cut_all h1 hfn ha.2 (by omega) (by omega)]
  have := cut_whole hfn
  rw [hlen] at this
  exact this
end Go.Proofs.YthmpfmclbmhkfaaDoor

/- What is fed one by one is what is made from the beginning: the views, as lists; a small view is told whole. -/
namespace Go.Proofs.YthmpfmclbmhkfaaDoor
theorem rows_whole {R : List (List Int)} {D : Nat} (h1 : R.length ≤ 130) (hD : D ≤ 40) (h2 : ∀ t, t < R.length → (rowOf R t).length = D) : rowsN R 130 = R := by
  unfold rowsN
  rw [List.take_of_length_le h1]
  apply List.ext_getElem?
  intro i
  rw [List.getElem?_map]
  by_cases hi : i < R.length
  · have := h2 i hi
    unfold rowOf at this
    rw [List.getD_eq_getElem?_getD, List.getElem?_eq_getElem hi] at this
    rw [List.getElem?_eq_getElem hi]
    simp only [Option.getD_some] at this
    simp only [Option.map_some, Option.some.injEq]
    exact List.take_of_length_le (by omega)
  · rw [List.getElem?_eq_none (by omega)]; rfl
theorem fit_whole {V : Int} {D L : Nat} {X : Vw} (hf : VwFit V D L X) (hD : D ≤ 40) : (∀ R ∈ X.K, rowsN R 130 = R) ∧ ∀ R ∈ X.V, rowsN R 130 = R := by
  have hm := hf.most
  exact ⟨fun R hR => rows_whole (by rw [(hf.ks R hR).1]; omega) hD (fun t ht => (hf.ks R hR).2 t (by rw [← (hf.ks R hR).1]; exact ht)), fun R hR => rows_whole (by rw [(hf.vs R hR).1]; omega) hD (fun t ht => (hf.vs R hR).2 t (by rw [← (hf.vs R hR).1]; exact ht))⟩
theorem list_eq {C E : List (List (List Int))} {L : Nat} (h1 : C.length = L) (h2 : E.length = L) (h : ∀ l, l < L → C.getD l [] = E.getD l []) : C = E := by
  apply List.ext_getElem?
  intro i
  by_cases hi : i < L
  · have := h i hi
    rw [List.getD_eq_getElem?_getD, List.getD_eq_getElem?_getD, List.getElem?_eq_getElem (by omega), List.getElem?_eq_getElem (by omega)] at this
    rw [List.getElem?_eq_getElem (by omega), List.getElem?_eq_getElem (by omega)]
    simpa using this
  · rw [List.getElem?_eq_none (by omega), List.getElem?_eq_none (by omega)]
/-- The view of P, fed one by one, holds the lists that are made from the beginning. -/
theorem feed_full {M : Mdl} {V D H Hd L : Nat} {P : List Int} (hP : P.all (tokB V) = true) (h0 : 1 ≤ P.length) (hl : P.length ≤ 128) (hf : VwFit V D L noX) :
    (feedAll M D H Hd L noX P).T = P ∧ (feedAll M D H Hd L noX P).K = fullK M D H Hd L P ∧ (feedAll M D H Hd L noX P).V = fullV M D H Hd L P := by
  have hc : Cached M D H Hd L (feedAll M D H Hd L noX P) ([] ++ P) := cached_all P (cached_none M D H Hd L) fun x hx => by
    have := List.all_eq_true.1 hP x hx
    unfold tokB at this
    have : 0 ≤ x ∧ x < V := by simpa using this
    exact this.1
  rw [List.nil_append] at hc
  have hfn : VwFit V D L (feedAll M D H Hd L noX P) := feedAll_fit hf hP (by show 0 + _ ≤ _; omega)
  have hlen : (feedAll M D H Hd L noX P).T.length = P.length := by rw [hc.1]
  refine ⟨hc.1, list_eq (by rw [hfn.k, if_neg (by omega)]) (by unfold fullK; simp) fun l h => ?_, list_eq (by rw [hfn.v, if_neg (by omega)]) (by unfold fullV; simp) fun l h => ?_⟩
  · rw [hc.2.1 l h]
    unfold fullK
    rw [List.getD_eq_getElem?_getD, List.getElem?_map, List.getElem?_range h]
    rfl
  · rw [hc.2.2 l h]
    unfold fullV
    rw [List.getD_eq_getElem?_getD, List.getElem?_map, List.getElem?_range h]
    rfl
end Go.Proofs.YthmpfmclbmhkfaaDoor

/- Feed at any token, Copy as a view, and how a new view's lists may be written over. -/
namespace Go.Proofs.YthmpfmclbmhkfaaDoor
open Go.ChangeShapes Go.WideShapes Go.ChangeAt Go.RowKit
theorem var3 (w : World) (T : TypeId) (z row : Array Value) : Blk (w.alloc (.cells z T)) w.heap.size T z ∧ Blk ((w.alloc (.cells z T)).setRow w.heap.size row) w.heap.size T row ∧ Below w.heap.size w ((w.alloc (.cells z T)).setRow w.heap.size row) ∧ ((w.alloc (.cells z T)).setRow w.heap.size row).heap.size = w.heap.size + 1 :=
  ⟨blk_new w T z, (blk_new w T z).row row, below_setRow ((Below.refl _ _).alloc (Nat.le_refl _) _) (Nat.le_refl _) _, by simp⟩
/-- How new lists of lists of numbers lie, from any place on. -/
def SkelA (B : Nat) (w : World) (ao : Option Addr) (L n D : Nat) : Prop := ∀ l, l < L → ∃ g o gl ol cl, ao = some ⟨g, o, none⟩ ∧ w.cell? ⟨g, o + l, none⟩ = some (.slice (some ⟨gl, ol, none⟩) n cl) ∧ ∀ i, i < n → ∃ rb ro rc, w.cell? ⟨gl, ol + i, none⟩ = some (.slice (some ⟨rb, ro, none⟩) D rc) ∧ ∀ j, j < D → ∃ x, w.cell? ⟨rb, ro + j, none⟩ = some (.int .i32 x) ∧ I32 x ∧ w.frozen? ⟨rb, ro + j, none⟩ = false ∧ B ≤ rb
theorem skelA_new {B : Nat} {w : World} {ao : Option Addr} {L n D : Nat} {C : List (List (List Int))} (h : New B w (fun w => CubeAt w ao L C)) (hC : ∀ R ∈ C, R.length = n ∧ ∀ i, i < n → (rowOf R i).length = D) (hn : 1 ≤ n) (h1 : 1 ≤ D) : SkelA B w ao L n D := by
  have h2 : CubeAt (wiped w B) ao L C := h _ fun b hb _ => wiped_far w B hb
  intro l hl
  obtain ⟨b, o, e, hc⟩ := h2.cells (by omega)
  have hlen := h2.len
  have hl' : l < C.length := by omega
  obtain ⟨ro, m, c, k1, k2, k3, k4, k5⟩ := hc l _ (List.getElem?_eq_getElem hl')
  obtain ⟨f1, f2⟩ := hC _ (List.getElem_mem hl')
  have hm : m = n := by rw [← f1]; exact k5.len.symm
  subst hm
  obtain ⟨b1, o1, rfl, hr⟩ := k5.cells (by omega)
  refine ⟨b, o, b1, o1, c, e, wiped_cell w B k1, fun i hi => ?_⟩
  obtain ⟨r2, m2, c2, q1, q2⟩ := hr i hi
  have hm2 : m2 = D := by rw [← f2 i hi]; exact q2.row.len.symm
  subst hm2
  obtain ⟨b2, o2, rfl, hx⟩ := q2.row.cells (by omega)
  refine ⟨b2, o2, c2, wiped_cell w B q1, fun j hj => ?_⟩
  have c1 := hx j hj
  have hb2 : B ≤ b2 := by simpa using wiped_near w B c1
  refine ⟨_, wiped_cell w B c1, q2.row.small.el j, ?_, hb2⟩
  rw [← frozen_of_block (wiped_far w B hb2)]
  exact q2.cold b2 o2 rfl j hj
theorem SkelA.below {B : Nat} {w w' : World} {ao : Option Addr} {L n D : Nat} (h : SkelA B w ao L n D) (hb : Below w.heap.size w w') : SkelA B w' ao L n D := fun l hl => by
  obtain ⟨g, o, gl, ol, cl, e0, e, h2⟩ := h l hl
  refine ⟨g, o, gl, ol, cl, e0, cell_keep e hb, fun i hi => ?_⟩
  obtain ⟨rb, ro, rc, e2, h3⟩ := h2 i hi
  refine ⟨rb, ro, rc, cell_keep e2 hb, fun j hj => ?_⟩
  obtain ⟨x, e3, hx, hf, hB⟩ := h3 j hj
  have hlt : rb < w.heap.size := by simpa using World.block_lt_of_cell? w _ e3
  exact ⟨x, cell_keep e3 hb, hx, by rw [frozen_of_block (hb.block rb hlt)]; exact hf, hB⟩
theorem KV.cubeC {w : World} {g m : Nat} {p : Nat → Prop} {A C : List (List (List Int))} (h : KV w g m 0 p A C) (hl : C.length = m) (hm : m ≤ 9223372036854775807) (hr : ∀ R ∈ C, R.length ≤ 4096) : CubeAt w (some ⟨g, 0, none⟩) m C := by
  obtain ⟨cs, h1, h2, _, h4⟩ := h.row
  refine ⟨hl, hm, fun _ => ⟨g, 0, rfl, fun t R hR => ?_⟩⟩
  have ht : t < m := by have := (List.getElem?_eq_some_iff.1 hR).1; omega
  obtain ⟨ro, n, vs, e, q1, N⟩ := h4 t (by omega) ht
  have e2 : C.getD t [] = R := by rw [List.getD_eq_getElem?_getD, hR]; rfl
  rw [e2] at N
  have G := N.now.grid
  have hl2 := hr R (List.mem_of_getElem? hR)
  have hn := G.len
  refine ⟨ro, n, n, ?_, q1, Nat.le_refl _, by omega, G⟩
  rw [Nat.zero_add]
  unfold World.cell?
  simp only [h1]
  exact e
theorem tok_small9 {V : Nat} {A : List Int} (hV : V ≤ 64) (h : A.all (tokB V) = true) : ∀ k, -9223372036854775808 ≤ el A k ∧ el A k ≤ 9223372036854775807 := fun k => by
  rcases Nat.lt_or_ge k A.length with h9 | h9
  · have := all_el h9 h
    unfold tokB at this
    have : 0 ≤ el A k ∧ el A k < V := by simpa using this
    omega
  · rw [el_over h9]; omega
/-- Copy, as a view. -/
theorem scopyV_any (V D L : Nat) (v : VwV) (X : Vw) (w : World) (hv : VwAt w v X) (hf : VwFit V D L X) (hV : V ≤ 64) (hD : D ≤ 32) (hL : L ≤ 4) :
   Calls Tryd.prog 10 #[.agg v.cells] w fun e w' => ∃ v2 : VwV, e = .returned (.agg v2.cells) ∧ VwAt w' v2 X ∧ Below w.heap.size w w' := by
  have hm := hf.most
  have hk := hf.k
  have hvl := hf.v
  have kl : X.K.length ≤ 4 := by rw [hk]; split <;> omega
  have vl : X.V.length ≤ 4 := by rw [hvl]; split <;> omega
  refine (scopy_any v X [] [] w hv (by omega) (by omega) (by omega) (fun R hR => ⟨by rw [(hf.ks R hR).1]; omega, fun t ht => by rw [(hf.ks R hR).2 t (by rw [← (hf.ks R hR).1]; exact ht)]; omega⟩) (fun R hR => ⟨by rw [(hf.vs R hR).1]; omega, fun t ht => by rw [(hf.vs R hR).2 t (by rw [← (hf.vs R hR).1]; exact ht)]; omega⟩)).mono ?_
  rintro e w' ⟨tv, gk, gv, rfl, O, K1, K2, _, _, _, B⟩
  obtain ⟨ao, c, rfl, A⟩ := IOwn.arg O (tok_small9 hV hf.toks)
  exact ⟨⟨⟨ao, X.T.length, c⟩, ⟨some ⟨gk, 0, none⟩, X.K.length, X.K.length⟩, ⟨some ⟨gv, 0, none⟩, X.V.length, X.V.length⟩⟩, rfl, ⟨A, K1.cubeC rfl (by omega) (fun R hR => by rw [(hf.ks R hR).1]; omega), K2.cubeC rfl (by omega) (fun R hR => by rw [(hf.vs R hR).1]; omega)⟩, B⟩
def fErr (V : Nat) (tok : Int) : Int := if tokB V tok = true then 0 else 7
def fView (M : Mdl) (V D H Hd L : Nat) (X : Vw) (tok : Int) : Vw := if tokB V tok = true then feedV M D H Hd L X tok.toNat else noX
/-- Feed at any token. -/
theorem feed_any (V D Hd H L : Nat) (W : Wt) (bs : List Bk) (M : Mdl) (v : VwV) (X : Vw) (tok : Int) (w : World) (hT : Tab w) (hl : X.T.length ≤ 127) (hG : Good w V D Hd H L W bs M) (hv : VwAt w v X) (hf : VwFit V D L X) :
   Calls Tryd.prog 11 #[.agg (cfgC V D Hd H L), .agg W.cells, .agg v.cells, .int .i64 tok] w fun e w' => ∃ vv lk, e = .returned (.tuple #[.agg (VwV.cells vv), lk, .int .i64 (fErr V tok)]) ∧ New w.heap.size w' (fun w => VwAt w vv (fView M V D H Hd L X tok)) ∧ Below w.heap.size w w' := by
  unfold fErr fView
  by_cases ht : tokB V tok = true
  · rw [if_pos ht, if_pos ht]
    have h2 : 0 ≤ tok ∧ tok < V := by unfold tokB at ht; simpa using ht
    obtain ⟨t, rfl⟩ : ∃ t : Nat, tok = t := ⟨tok.toNat, by omega⟩
    refine (feed_ok V D Hd H L W bs M v X t w hT hl (by omega) hG hv hf).mono ?_
    rintro e w' ⟨vv, g, rfl, N, _, B⟩
    exact ⟨vv, _, rfl, N, B⟩
  · rw [if_neg ht, if_neg ht]
    refine (feed_tok V D Hd H L W bs M v X tok w hl (by simpa using ht) hG hv hf).mono ?_
    rintro e w' ⟨rfl, B⟩
    exact ⟨⟨⟨none, 0, 0⟩, ⟨none, 0, 0⟩, ⟨none, 0, 0⟩⟩, _, rfl, fun w2 _ => noV_at w2, B⟩
theorem fView_fit {M : Mdl} {V D H Hd L : Nat} {X : Vw} {tok : Int} (hf : VwFit V D L X) (hl : X.T.length ≤ 127) : VwFit V D L (fView M V D H Hd L X tok) := by
  unfold fView
  split
  · rename_i ht
    have h2 : 0 ≤ tok ∧ tok < V := by unfold tokB at ht; simpa using ht
    exact fit_feed hf (by omega) hl
  · exact noX_fit _ _ _
/-- Told of layer 9 of a view that fits. -/
theorem told9_fit (V D L : Nat) (vv : VwV) (X : Vw) (w : World) (hv : VwAt w vv X) (hf : VwFit V D L X) (hD : D ≤ 32) (hL : L ≤ 4) :
   Calls Tryd.prog 9 #[.agg vv.cells] w fun e w' => ∃ t k v : Sl, e = .returned (.agg #[t.v, k.v, v.v]) ∧ ToldAt w' t k v X ∧ Below w.heap.size w w' := by
  have hm := hf.most
  have hk := hf.k
  have hvl := hf.v
  exact told9_any vv X w hv (by omega) (by rw [hk]; split <;> omega) (by rw [hvl]; split <;> omega) (fit_whole hf (by omega)).1 (fit_whole hf (by omega)).2
end Go.Proofs.YthmpfmclbmhkfaaDoor

/- Small shapes, and rows of tokens that are the same. -/
namespace Go.Proofs.YthmpfmclbmhkfaaDoor
open Go.ChangeShapes Go.WideShapes Go.ChangeAt Go.RowKit
/-- Is a shape a small one? -/
def smallN (D H L : Int) : Int := if 8 < D ∨ 8 < H ∨ 2 < L then 0 else 1
theorem small8_any (V D Hd H L : Int) (w : World) : Calls Tryd.prog 6 #[.agg (cfgC V D Hd H L)] w fun e w' => e = .returned (.int .i64 (smallN D H L)) ∧ Below w.heap.size w w' := by
  have X0 := blk_new w 23 (cfgC V D Hd H L)
  have B0 : Below w.heap.size w (w.alloc (.cells (cfgC V D Hd H L) 23)) := (Below.refl _ _).alloc (Nat.le_refl _) _
  unfold cfgC at *
  generalize hw0 : w.alloc (.cells #[.int .i64 V, .int .i64 D, .int .i64 Hd, .int .i64 H, .int .i64 L] 23) = w0 at *
  have a1 : w0.cell? ⟨w.heap.size, 1, none⟩ = some (.int .i64 D) := X0.cell 1 rfl
  have a3 : w0.cell? ⟨w.heap.size, 3, none⟩ = some (.int .i64 H) := X0.cell 3 rfl
  have a4 : w0.cell? ⟨w.heap.size, 4, none⟩ = some (.int .i64 L) := X0.cell 4 rfl
  have HN : Hid (smallN D H L = if 8 < D ∨ 8 < H ∨ 2 < L then 0 else 1) := rfl
  generalize smallN D H L = res at *
  by_cases h1 : 8 < D
  · have HF : Hid (res = 0) := by show _ = _; rw [HN.out, if_pos (Or.inl h1)]
    clear HN
    go_enter Tryd.func6, Tryd.ntmps6
    go_wp2
    go_ret
    exact ⟨ret_int HF.out.symm, B0⟩
  · by_cases h2 : 8 < H
    · have HF : Hid (res = 0) := by show _ = _; rw [HN.out, if_pos (Or.inr (Or.inl h2))]
      clear HN
      go_enter Tryd.func6, Tryd.ntmps6
      go_wp2
      go_ret
      exact ⟨ret_int HF.out.symm, B0⟩
    · by_cases h3 : 2 < L
      · have HF : Hid (res = 0) := by show _ = _; rw [HN.out, if_pos (Or.inr (Or.inr h3))]
        clear HN
        go_enter Tryd.func6, Tryd.ntmps6
        go_wp2
        go_ret
        exact ⟨ret_int HF.out.symm, B0⟩
      · have HF : Hid (res = 1) := by show _ = _; rw [HN.out, if_neg (by omega)]
        clear HN
        go_enter Tryd.func6, Tryd.ntmps6
        go_wp2
        go_ret
        exact ⟨ret_int HF.out.symm, B0⟩
theorem IArg.drop {w : World} {b o n ca : Nat} {A : List Int} (h : IArg w (some ⟨b, o, none⟩) n ca A) {m : Nat} (hm : m ≤ n) : IRowAt w (some ⟨b, o + m, none⟩) (n - m) (A.drop m) := by
  have hl := h.row.len
  refine ⟨by rw [List.length_drop]; omega, by have := h.row.max; omega, fun k => ?_, fun hn => ?_⟩
  · rw [el_drop]; exact h.row.small _
  · obtain ⟨b', o', e, hc⟩ := h.row.cells (by omega)
    simp only [Option.some.injEq, Addr.mk.injEq, and_true] at e
    obtain ⟨rfl, rfl⟩ := e
    refine ⟨b, o + m, rfl, fun t ht => ?_⟩
    rw [el_drop, Nat.add_assoc]
    exact hc _ (by omega)
end Go.Proofs.YthmpfmclbmhkfaaDoor

/- The table of steps lies in its block, wherever the row's listed variable reads as listed. -/
namespace Go.Proofs.YthmpfmclbmhkfaaDoor
open Go.ChangeShapes Go.WideShapes Go.ChangeAt Go.RowKit
theorem gSteps : Tryd.prog.globalNamed "tiller/curve.steps" = some 0 := by kernel_rfl
theorem tSteps : (Tryd.prog.globals[0]?).map (·.type) = some 124 := by kernel_rfl
theorem cSteps : Tryd.prog.cellsOf 124 = 65 := by kernel_rfl
theorem cNum : Tryd.prog.cellsOf 52 = 1 := by kernel_rfl
theorem tab_of_laid {W : World} (h : laidMetH Tryd.prog [("tiller/curve.steps", Rows.laid_tiller_curve_steps)] W) : Tab W := by
  rw [MakeChecks.laidMetH_plain _ _ _ (by kernel_rfl)] at h
  have h' : laidMet Tryd.prog [("tiller/curve.steps", Lib.tabData .i32 (stp.map fun (n : Nat) => (n : Int)))] W := h
  have ht := Lib.tabIs_of_head gSteps tSteps Tryd.underlying124 Tryd.underlying52 cNum cSteps h'
  unfold Lib.TabIs World.var? at ht
  rw [gSteps] at ht
  simp only [Option.bind_some] at ht
  split at ht
  · rename_i cs t fr hc
    refine ⟨t, fr, ?_⟩
    rw [hc]
    simp only [Option.some.injEq] at ht
    rw [ht]
    simp [tabCells]
  · cases ht
end Go.Proofs.YthmpfmclbmhkfaaDoor

/- An argument that is a row of whole numbers, opened once: nil, empty or not. -/
namespace Go.Proofs.YthmpfmclbmhkfaaDoor
open Go.ChangeShapes Go.WideShapes Go.ChangeAt Go.RowKit
theorem Tryd.cellsInt : Tryd.prog.cellsOf 3 = 1 := by kernel_rfl
theorem viewI_cells {H : Type} {enc : TypeId × Value → H} {W : World} {fuel : Nat} {cs : List Value} {x : DataW H × List MemPlace}
    (hf : DataW.trod enc Tryd.prog W 0 (fun _ => true) true fuel 25 cs = some x) :
    ∃ (a0 : Option Addr) (len cap : Nat) (Z : List Int), cs = [.slice a0 len cap] ∧ IArg W a0 len cap Z := by
  rcases open_ints Tryd.underlying25 Tryd.underlying3 Tryd.cellsInt hf with ⟨hcs, hx⟩ | ⟨a, len', cap', zs, hcs, _, hl, hm, hz, hx, hcell, hwz⟩
  · exact ⟨none, 0, 0, [], hcs, iarg_nil _⟩
  · simp only [if_true] at hz
    unfold maxLen at hm
    refine ⟨some a, len', cap', zs.take len', hcs, ⟨by simp; omega, by omega, fun k => ?_, fun hn => ?_⟩, hl, by omega, fun h => by cases h⟩
    · rcases Nat.lt_or_ge k (zs.take len').length with hk | hk
      · exact bounds_i64 (hwz _ (List.mem_of_mem_take (el_mem hk)))
      · rw [el_over hk]; omega
    · obtain ⟨b, o, s⟩ := a
      have h0 := hcell 0 (by omega)
      have hs : s = none := by simpa [Addr.add] using World.cell?_spot h0
      subst hs
      refine ⟨b, o, rfl, fun t ht => ?_⟩
      have e : (Addr.mk b o none).add t = ⟨b, o + t, none⟩ := by simp [Addr.add]
      rw [← e, hcell t (by omega), el_take ht]
      rfl
set_option maxRecDepth 100000 in
theorem viewI {H : Type} {enc : TypeId × Value → H} {W : World} {b0 : Nat} {v : Value} {d : DataW H} {p : List MemPlace} (hv : Value.okWide Tryd.prog W .any b0 25 v)
    (h : DataW.Trod enc Tryd.prog W 0 (fun _ => true) true 25 v d p) : ∃ (a0 : Option Addr) (len cap : Nat) (Z : List Int), v = .slice a0 len cap ∧ IArg W a0 len cap Z := by
  obtain ⟨a0, la, ca, rfl⟩ := okWide_slice Tryd.underlying25 hv
  obtain ⟨f, hf⟩ := h
  obtain ⟨a1, l1, c1, Z, e, hA⟩ := viewI_cells hf
  simp [Value.cells] at e
  obtain ⟨rfl, rfl, rfl⟩ := e
  exact ⟨_, _, _, Z, rfl, hA⟩
end Go.Proofs.YthmpfmclbmhkfaaDoor
