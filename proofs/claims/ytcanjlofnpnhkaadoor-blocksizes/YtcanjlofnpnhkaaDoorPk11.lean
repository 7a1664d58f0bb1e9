/- Contracts of the program's functions, part 11 of 11: what each call returns and leaves of memory. -/
import Derived.Test.YtcanjlofnpnhkaaDoorPk7
import Derived.Test.YtcanjlofnpnhkaaDoorPk6
import Derived.Test.YtcanjlofnpnhkaaDoorPk8
import Derived.Test.YtcanjlofnpnhkaaDoorPk2
import Derived.Test.YtcanjlofnpnhkaaDoorPk5
import Derived.Test.YtcanjlofnpnhkaaDoorPk4
import Derived.Test.YtcanjlofnpnhkaaDoorPk3
import Derived.Test.YtcanjlofnpnhkaaDoorPk1
import Derived.LaidMore
import Derived.Lib.LaidTab
import Derived.Stop.Joined
/- Told: a view as the document's, of the call's own. -/
namespace Go.Proofs.YtcanjlofnpnhkaaDoor
open Go.ChangeShapes Go.WideShapes Go.ChangeAt Go.RowKit
theorem take_one {C : List (List (List Int))} {k : Nat} {R : List (List Int)} (h : C[k]? = some R) : C.take (k + 1) = C.take k ++ [R] := by
  rw [List.take_add_one, h]; rfl
set_option maxHeartbeats 800000 in
theorem lists_any (ao : Option Addr) (n ca : Nat) (C : List (List (List Int))) (w : World) (hC : CubeAt w ao n C) (hn : n ≤ 5) (hr : ∀ R ∈ C, rowsN R 130 = R) :
   Calls Tryd.prog 38 #[.slice ao n ca] w fun e w' => ∃ g cap, e = .returned (.slice (some ⟨g, 0, none⟩) n cap) ∧ New w.heap.size w' (fun w => CubeAt w (some ⟨g, 0, none⟩) n C) ∧ Below w.heap.size w w' := by
  have hl := hC.len
  have F0 := ownCube_empty w
  have B0 : Below w.heap.size w (w.alloc (.cells #[] 71)) := (Below.refl _ _).alloc (Nat.le_refl _) _
  have HC : Hid (∀ wv, Below w.heap.size w wv → CubeAt wv ao n C) := fun wv hb => hC.below hb
  go_enter Tryd.func38, Tryd.ntmps38
  go_wp2
  generalize w.alloc (.cells #[] 71) = w0 at *
  clear hC
  go_loopg [3, 4] n (fun r s i wr => ∃ (k g cap : Nat), k ≤ n ∧ r = n - k ∧ i = .int .i64 k ∧ s = .slice (some ⟨g, 0, none⟩) k cap ∧ OwnCube wr w.heap.size g k cap (C.take k) ∧ Below w.heap.size w wr)
  case atStart => exact ⟨0, _, _, by omega, by omega, rfl, rfl, by rw [List.take_zero]; exact F0, B0⟩
  case round =>
    obtain ⟨k, g, cap, hk, rfl, rfl, rfl, F2, B2⟩ := hrel
    clear F0 B0
    by_cases hlt : k < n
    · obtain ⟨b, o, rfl, hc⟩ := (HC.out _ B2).cells (by omega)
      obtain ⟨R, hR⟩ : ∃ R, C[k]? = some R := ⟨_, List.getElem?_eq_getElem (show k < C.length by omega)⟩
      obtain ⟨ro, m1, c1, q1, -, -, -, G1⟩ := hc k R hR
      have HS : Hid (C.take (k + 1) = C.take k ++ [R]) := take_one hR
      have HRR : Hid (rowsN R 130 = R) := hr R (List.mem_of_getElem? hR)
      have s2 := B2.size
      have lg := F2.lt
      have h5 : (k : Int) < 5 := by omega
      clear hc
      go_wp2_with fail
      refine (hrows_any ro m1 c1 R 130 130 _ rfl G1 (by omega)).mono ?_
      rintro e w3 ⟨g3, n3, c3, rfl, hm3, OG, B3⟩
      rw [HRR.out] at OG
      obtain ⟨p1, p2⟩ := own_caps OG.own.choose_spec.1
      have NG := OG.hangs (by omega)
      have BL : Below w3.heap.size w3 (w3.alloc (.cells #[.slice (some ⟨g3, 0, none⟩) n3 c3] 71)) := (Below.refl _ _).alloc (Nat.le_refl _) _
      have cX := cellList_new w3 (.slice (some ⟨g3, 0, none⟩) n3 c3)
      have F4 := (F2.below B3).below BL
      have s3 := B3.size
      have s4 := BL.size
      have NG4 : Hangs (fun b => w.heap.size ≤ b ∧ b ≠ g) (w3.alloc (.cells #[.slice (some ⟨g3, 0, none⟩) n3 c3] 71)) (fun w => GridAt w (some ⟨g3, 0, none⟩) n3 R) := Hangs.mono (Hangs.below NG BL) (fun b _ hb => ⟨by omega, by omega⟩)
      have B4 := below_then (below_then B2 B3) BL
      clear NG OG F2 G1 q1
      generalize hw4 : w3.alloc (.cells #[.slice (some ⟨g3, 0, none⟩) n3 c3] 71) = w4 at *
      go_wp2_with (at_builtin; refine wpList_append_cube rfl _ _ rfl w.heap.size g k cap _ rfl (by exact F4) w3.heap.size g3 n3 c3 R rfl (by exact cX) p1 p2 (by exact NG4) (by omega) (by omega) ?_; intro g' cap' w' F7 B7)
      go_roundg (n - (k + 1))
      case measure => omega
      case rel => exact ⟨k + 1, _, _, by omega, rfl, by go_num, rfl, by rw [HS.out]; exact F7, B4.trans B7⟩
    · obtain rfl : k = n := by omega
      go_wp2
      go_ret
      rw [List.take_of_length_le (by omega)] at F2
      exact ⟨_, _, rfl, F2.hangs (by omega), B2⟩
/-- Told. -/
theorem Tryd.infoRV : (Tryd.prog.info? 59).map (·.size) = some 3 := by kernel_rfl
set_option maxRecDepth 100000 in
set_option maxHeartbeats 800000 in
theorem told9_any (vv : VwV) (X : Vw) (w : World) (hv : VwAt w vv X) (hT : X.T.length ≤ 130) (hK : X.K.length ≤ 5) (hV : X.V.length ≤ 5) (hrk : ∀ R ∈ X.K, rowsN R 130 = R) (hrv : ∀ R ∈ X.V, rowsN R 130 = R) :
   Calls Tryd.prog 16 #[.agg vv.cells] w fun e w' => ∃ t k v : Sl, e = .returned (.agg #[t.v, k.v, v.v]) ∧ ToldAt w' t k v X ∧ Below w.heap.size w w' := by
  have lt := hv.t.row.len
  have lk := hv.k.len
  have lv := hv.v.len
  have hsm := hv.t.row.small
  have HT : Hid (∀ wv, Below w.heap.size w wv → IArg wv vv.t.ao vv.t.n vv.t.c X.T) := fun wv hb => hv.t.below hb
  have HK : Hid (∀ wv, Below w.heap.size w wv → CubeAt wv vv.k.ao vv.k.n X.K) := fun wv hb => hv.k.below hb
  have HV : Hid (∀ wv, Below w.heap.size w wv → CubeAt wv vv.v.ao vv.v.n X.V) := fun wv hb => hv.v.below hb
  clear hv
  obtain ⟨⟨ta, tn, tc⟩, ⟨ka, kn, kc⟩, ⟨va, vn, vc⟩⟩ := vv
  unfold VwV.cells Sl.v
  simp only at *
  have lt' : tn ≤ 130 := by omega
  have lk' : kn ≤ 5 := by omega
  have lv' : vn ≤ 5 := by omega
  clear lt lk lv hK hV
  have X0 := blk_new w 42 #[.slice ta tn tc, .slice ka kn kc, .slice va vn vc]
  have B0 : Below w.heap.size w (w.alloc (.cells #[.slice ta tn tc, .slice ka kn kc, .slice va vn vc] 42)) := (Below.refl _ _).alloc (Nat.le_refl _) _
  generalize hw0 : w.alloc (.cells #[.slice ta tn tc, .slice ka kn kc, .slice va vn vc] 42) = w0 at *
  have lt0 := X0.lt
  have X1 := blk_new w0 59 #[.slice none 0 0, .slice none 0 0, .slice none 0 0]
  have B1 : Below w0.heap.size w0 (w0.alloc (.cells #[.slice none 0 0, .slice none 0 0, .slice none 0 0] 59)) := (Below.refl _ _).alloc (Nat.le_refl _) _
  generalize hw1 : w0.alloc (.cells #[.slice none 0 0, .slice none 0 0, .slice none 0 0] 59) = w1 at *
  replace X0 := X0.below B1
  have D := below_then B0 B1
  clear B0 B1
  have lt1 := X1.lt
  go_enter Tryd.func16, Tryd.ntmps16
  go_wp2_with fail
  clear hw0 hw1
  replace X0 := X0.below ((Below.refl _ _).drew)
  replace X1 := X1.below ((Below.refl _ _).drew)
  replace D := D.drew
  replace lt1 : w0.heap.size < w1.drew.heap.size := lt1
  refine wp_region_held_drew (S := fun w' => Blk w' w.heap.size 42 #[.slice ta tn tc, .slice ka kn kc, .slice va vn vc]) (by kernel_rfl) (X0) (fun hHeld => ?_)
  generalize hA : w1.drew = wA at *
  clear hA
  refine wpAnyH_take (i := 0) (v := (.pointer (some ⟨w.heap.size, 0, none⟩))) rfl (by kernel_rfl) (by kernel_rfl) (by kernel_rfl) (fun _ _ _ h => h) (Or.inl ⟨by rfl, ?_⟩) (by assumption) ?_
  · intro w' hSw
    go_simp
  simp only [List.getElem_toArray, List.getElem_cons_zero, Act.put, List.setIfInBounds_toArray, List.set_cons_zero, List.set_cons_succ]
  refine wpAnyH_take (i := 1) (v := (.slice ta tn tc)) rfl (by kernel_rfl) (by kernel_rfl) (by kernel_rfl) (fun _ _ _ h => h) (Or.inl ⟨by rfl, ?_⟩) (by assumption) ?_
  · intro w' hSw
    have cc0 : w'.cell? ⟨w.heap.size, 0, none⟩ = some (.slice ta tn tc) := hSw.cell 0 rfl
    go_simp
  simp only [List.getElem_toArray, List.getElem_cons_succ, List.getElem_cons_zero, Act.put, List.setIfInBounds_toArray, List.set_cons_zero, List.set_cons_succ]
  refine wpAnyH_take (i := 3) (v := (.pointer (some ⟨w.heap.size, 1, none⟩))) rfl (by kernel_rfl) (by kernel_rfl) (by kernel_rfl) (fun _ _ _ h => h) (Or.inl ⟨by rfl, ?_⟩) (by assumption) ?_
  · intro w' hSw
    go_simp
  simp only [List.getElem_toArray, List.getElem_cons_succ, List.getElem_cons_zero, Act.put, List.setIfInBounds_toArray, List.set_cons_zero, List.set_cons_succ]
  refine wpAnyH_take (i := 4) (v := (.pointer (some ⟨w.heap.size, 1, none⟩))) rfl (by kernel_rfl) (by kernel_rfl) (by kernel_rfl) (fun _ _ _ h => h) (Or.inl ⟨by rfl, ?_⟩) (by assumption) ?_
  · intro w' hSw
    go_simp
  simp only [List.getElem_toArray, List.getElem_cons_succ, List.getElem_cons_zero, Act.put, List.setIfInBounds_toArray, List.set_cons_zero, List.set_cons_succ]
  refine wpAnyH_take (i := 5) (v := (.slice ka kn kc)) rfl (by kernel_rfl) (by kernel_rfl) (by kernel_rfl) (fun _ _ _ h => h) (Or.inl ⟨by rfl, ?_⟩) (by assumption) ?_
  · intro w' hSw
    have cc1 : w'.cell? ⟨w.heap.size, 1, none⟩ = some (.slice ka kn kc) := hSw.cell 1 rfl
    go_simp
  simp only [List.getElem_toArray, List.getElem_cons_succ, List.getElem_cons_zero, Act.put, List.setIfInBounds_toArray, List.set_cons_zero, List.set_cons_succ]
  refine wpAnyH_take (i := 7) (v := (.pointer (some ⟨w.heap.size, 1, none⟩))) rfl (by kernel_rfl) (by kernel_rfl) (by kernel_rfl) (fun _ _ _ h => h) (Or.inl ⟨by rfl, ?_⟩) (by assumption) ?_
  · intro w' hSw
    go_simp
  simp only [List.getElem_toArray, List.getElem_cons_succ, List.getElem_cons_zero, Act.put, List.setIfInBounds_toArray, List.set_cons_zero, List.set_cons_succ]
  refine wpAnyH_take (i := 8) (v := (.pointer (some ⟨w.heap.size, 2, none⟩))) rfl (by kernel_rfl) (by kernel_rfl) (by kernel_rfl) (fun _ _ _ h => h) (Or.inl ⟨by rfl, ?_⟩) (by assumption) ?_
  · intro w' hSw
    go_simp
  simp only [List.getElem_toArray, List.getElem_cons_succ, List.getElem_cons_zero, Act.put, List.setIfInBounds_toArray, List.set_cons_zero, List.set_cons_succ]
  refine wpAnyH_take (i := 9) (v := (.slice va vn vc)) rfl (by kernel_rfl) (by kernel_rfl) (by kernel_rfl) (fun _ _ _ h => h) (Or.inl ⟨by rfl, ?_⟩) (by assumption) ?_
  · intro w' hSw
    have cc2 : w'.cell? ⟨w.heap.size, 2, none⟩ = some (.slice va vn vc) := hSw.cell 2 rfl
    go_simp
  simp only [List.getElem_toArray, List.getElem_cons_succ, List.getElem_cons_zero, Act.put, List.setIfInBounds_toArray, List.set_cons_zero, List.set_cons_succ]
  refine wpAnyH_ready (rs := [2]) (by kernel_rfl) (by simp) ?_
  refine AllReadyH.cons rfl (fun Kc hKc => ?_) AllReadyH.nil
  simp only [List.getElem_toArray, List.getElem_cons_succ, List.getElem_cons_zero]
  rw [if_pos (by rfl)]
  go_wp2_with fail
  refine (few8_gen ta tn tc X.T X.T 130 _ (HT.out _ D) (by omega) (List.take_of_length_le (by omega)).symm).mono ?_
  rintro e w2 ⟨tb, tc2, rfl, OT, B2⟩
  have zA2 := B2.size
  replace X0 := X0.below B2
  replace X1 := X1.below B2
  replace D := below_then D B2
  go_wp2_with fail
  refine hKc.out _ _ (X0) (fun hHeld => ?_)
  clear hKc Kc
  refine wpAnyH_ready (rs := [6]) (by kernel_rfl) (by simp) ?_
  refine AllReadyH.cons rfl (fun Kc hKc => ?_) AllReadyH.nil
  simp only [List.getElem_toArray, List.getElem_cons_succ, List.getElem_cons_zero]
  rw [if_pos (by rfl)]
  go_wp2_with fail
  refine (lists_any ka kn kc X.K _ (HK.out _ D) (by omega) hrk).mono ?_
  rintro e w3 ⟨kg, kc2, rfl, NK, B3⟩
  replace OT := owns_below OT B3
  have z3 := B3.size
  replace X0 := X0.below B3
  replace X1 := X1.below B3
  replace D := below_then D B3
  go_wp2_with fail
  refine hKc.out _ _ (X0) (fun hHeld => ?_)
  clear hKc Kc
  refine wpAnyH_ready (rs := [10]) (by kernel_rfl) (by simp) ?_
  refine AllReadyH.cons rfl (fun Kc hKc => ?_) AllReadyH.nil
  simp only [List.getElem_toArray, List.getElem_cons_succ, List.getElem_cons_zero]
  rw [if_pos (by rfl)]
  go_wp2_with fail
  refine (lists_any va vn vc X.V _ (HV.out _ D) (by omega) hrv).mono ?_
  rintro e w4 ⟨vg, vc2, rfl, NV, B4⟩
  replace OT := owns_below OT B4
  replace NK := NK.below B4
  replace X0 := X0.below B4
  replace X1 := X1.below B4
  replace D := below_then D B4
  go_wp2_with fail
  refine hKc.out _ _ (X0) (fun hHeld => ?_)
  clear hKc Kc
  refine wpAnyH_take (i := 11) (v := (.agg #[.slice (some ⟨tb, 0, none⟩) X.T.length tc2, .slice (some ⟨kg, 0, none⟩) kn kc2, .slice (some ⟨vg, 0, none⟩) vn vc2])) rfl (by kernel_rfl) (by kernel_rfl) (by kernel_rfl) (fun _ _ _ h => h) (Or.inl ⟨by rfl, ?_⟩) (by assumption) ?_
  · intro w' hSw
    go_simp
  simp only [List.getElem_toArray, List.getElem_cons_succ, List.getElem_cons_zero, Act.put, List.setIfInBounds_toArray, List.set_cons_zero, List.set_cons_succ]
  refine wpAnyH_ready (rs := [12]) (by kernel_rfl) (by simp) ?_
  refine AllReadyH.cons rfl (fun Kc hKc => ?_) AllReadyH.nil
  simp only [List.getElem_toArray, List.getElem_cons_succ, List.getElem_cons_zero]
  rw [if_pos (by rfl)]
  have hall : Array.all (#[.slice (some ⟨tb, 0, none⟩) X.T.length tc2, .slice (some ⟨kg, 0, none⟩) kn kc2, .slice (some ⟨vg, 0, none⟩) vn vc2] : Array Value) (fun v => v.oneCell') = true := by simp [Value.oneCell']
  refine wp_store_row 59 _ _ rfl w0.heap.size #[.slice (some ⟨tb, 0, none⟩) X.T.length tc2, .slice (some ⟨kg, 0, none⟩) kn kc2, .slice (some ⟨vg, 0, none⟩) vn vc2] rfl rfl 59 _ X1 Tryd.infoRV rfl hall ?_
  refine hKc.out _ _ (Blk.of_block X0 (setRow_other _ _ _ _ (by omega))) (fun hHeld => ?_)
  clear hKc Kc
  refine wpAnyH_done (by kernel_rfl) ?_ _
  clear hHeld
  go_wp2
  refine bodyPost_ret (results_cell_row rfl _ _ w0.heap.size 59 _ _ _ rfl (X1.row _) Tryd.underlying59 rfl Tryd.infoRV) rfl ?_
  have so : ∀ (b : Nat) (x : Array Value), b ≠ w0.heap.size → (w4.setRow w0.heap.size x).heap[b]? = w4.heap[b]? := fun b x hb => setRow_other _ _ _ _ hb
  obtain ⟨x1, y1, e1, IT⟩ := IOwn.arg (A := X.T) (owns_mono OT (Nat.le_refl _) (fun b hb => so b #[.slice (some ⟨tb, 0, none⟩) X.T.length tc2, .slice (some ⟨kg, 0, none⟩) kn kc2, .slice (some ⟨vg, 0, none⟩) vn vc2] (by have := (OT.lt b hb).1; omega))) hsm
  simp only [Value.slice.injEq, true_and] at e1
  obtain ⟨rfl, rfl⟩ := e1
  refine ⟨⟨some ⟨tb, 0, none⟩, _, tc2⟩, ⟨some ⟨kg, 0, none⟩, kn, kc2⟩, ⟨some ⟨vg, 0, none⟩, vn, vc2⟩, rfl, ⟨IT, ?_, ?_⟩, below_setRow D (by omega) _⟩
  · exact (Hangs.row NK (g := w0.heap.size) (by show ¬ (_ ≤ _); omega) _).now
  · exact (Hangs.row NV (g := w0.heap.size) (by show ¬ (_ ≤ _); omega) _).now
end Go.Proofs.YtcanjlofnpnhkaaDoor

/- What stays where numbers of the call's own rows are written over. -/
namespace Go.Proofs.YtcanjlofnpnhkaaDoor
open Go.ChangeShapes Go.WideShapes Go.ChangeAt Go.RowKit
def I32 (y : Int) : Prop := -2147483648 ≤ y ∧ y ≤ 2147483647
theorem i32_wrap (y : Int) : I32 (IntKind.i32.wrap y) := by
  unfold I32
  rw [IntKind.wrap_i32]
  omega
/-- From w0 to w numbers alone were turned, in blocks from B on. -/
structure Nums (B : Nat) (w0 w : World) : Prop where
  kp : Below B w0 w
  cell : ∀ a v, w0.cell? a = some v → w.cell? a = some v ∨ ∃ x y, v = .int .i32 x ∧ w.cell? a = some (.int .i32 y) ∧ I32 y
  fro : ∀ a, w.frozen? a = w0.frozen? a
theorem Nums.refl (B : Nat) (w : World) : Nums B w w := ⟨Below.refl _ _, fun _ _ h => .inl h, fun _ => rfl⟩
theorem Nums.slice {B : Nat} {w0 w : World} (h : Nums B w0 w) {a : Addr} {ro : Option Addr} {n c : Nat} (e : w0.cell? a = some (.slice ro n c)) : w.cell? a = some (.slice ro n c) :=
  (h.cell a _ e).resolve_right (fun ⟨_, _, e, _⟩ => by cases e)
theorem Nums.num {B : Nat} {w0 w : World} (h : Nums B w0 w) {a : Addr} {x : Int} (e : w0.cell? a = some (.int .i32 x)) (hx : I32 x) : ∃ y, w.cell? a = some (.int .i32 y) ∧ I32 y := by
  rcases h.cell a _ e with h1 | ⟨x', y, _, h1, h2⟩
  · exact ⟨x, h1, hx⟩
  · exact ⟨y, h1, h2⟩
theorem Nums.set {B : Nat} {w0 w : World} (h : Nums B w0 w) {a : Addr} {x y : Int} (e : w0.cell? a = some (.int .i32 x)) (hb : B ≤ a.block) (hy : I32 y) : Nums B w0 (w.setCell a (.int .i32 y)) := by
  refine ⟨h.kp.setCell hb _, fun a' v e' => ?_, fun a' => by rw [World.frozen?_setCell]; exact h.fro a'⟩
  by_cases ha : a = a'
  · subst ha
    rw [e] at e'
    simp only [Option.some.injEq] at e'
    subst e'
    refine .inr ⟨x, y, rfl, ?_, hy⟩
    rcases h.cell a _ e with h1 | ⟨_, _, _, h1, _⟩
    · exact World.cell?_setCell_same _ _ _ h1
    · exact World.cell?_setCell_same _ _ _ h1
  · rw [World.cell?_setCell_other _ _ _ _ ha]
    exact h.cell a' v e'
/-- The blocks of a world from B on; those ahead are empty. -/
def wiped (w : World) (B : Nat) : World := { w with heap := w.heap.mapIdx fun i o => if i < B then .cells #[] 0 else o }
theorem wiped_far (w : World) (B : Nat) {b : Nat} (hb : B ≤ b) : (wiped w B).heap[b]? = w.heap[b]? := by
  unfold wiped
  simp only [Array.getElem?_mapIdx]
  cases w.heap[b]? with
  | none => rfl
  | some o => simp [show ¬ b < B by omega]
theorem wiped_near (w : World) (B : Nat) {a : Addr} {v : Value} (h : (wiped w B).cell? a = some v) : B ≤ a.block := by
  rcases Nat.lt_or_ge a.block B with hb | hb
  · exfalso
    unfold World.cell? at h
    have e : (wiped w B).heap[a.block]? = w.heap[a.block]?.map fun _ => .cells #[] 0 := by
      unfold wiped
      simp only [Array.getElem?_mapIdx]
      cases w.heap[a.block]? with
      | none => rfl
      | some o => simp [hb]
    rw [e] at h
    cases hh : w.heap[a.block]? with
    | none => simp [hh] at h
    | some o => simp [hh] at h
  · exact hb
theorem wiped_cell (w : World) (B : Nat) {a : Addr} {v : Value} (h : (wiped w B).cell? a = some v) : w.cell? a = some v := by
  have hb := wiped_near w B h
  rw [World.cell?_of_block (w := w) (wiped_far w B hb)] at h
  exact h
/-- How new lists of lists of numbers lie: slices, slices, and numbers that may be written. -/
def Skel (B : Nat) (w : World) (g L n D : Nat) : Prop := ∀ l, l < L → ∃ gl ol cl, w.cell? ⟨g, l, none⟩ = some (.slice (some ⟨gl, ol, none⟩) n cl) ∧ ∀ i, i < n → ∃ rb ro rc, w.cell? ⟨gl, ol + i, none⟩ = some (.slice (some ⟨rb, ro, none⟩) D rc) ∧ ∀ j, j < D → ∃ x, w.cell? ⟨rb, ro + j, none⟩ = some (.int .i32 x) ∧ I32 x ∧ w.frozen? ⟨rb, ro + j, none⟩ = false ∧ B ≤ rb
theorem skel_new {B : Nat} {w : World} {g L n D : Nat} {C : List (List (List Int))} (h : New B w (fun w => CubeAt w (some ⟨g, 0, none⟩) L C)) (hC : ∀ t, t < L → (C.getD t []).length = n) (hD : ∀ t i, t < L → i < n → (rowOf (C.getD t []) i).length = D) (hn : 1 ≤ n) (h1 : 1 ≤ D) : Skel B w g L n D := by
  have h2 : CubeAt (wiped w B) (some ⟨g, 0, none⟩) L C := h _ fun b hb _ => wiped_far w B hb
  intro l hl
  obtain ⟨b, o, e, hc⟩ := h2.cells (by omega)
  simp only [Option.some.injEq, Addr.mk.injEq, and_true] at e
  obtain ⟨rfl, rfl⟩ := e
  have hlen := h2.len
  have hl' : l < C.length := by omega
  obtain ⟨ro, m, c, k1, k2, k3, k4, k5⟩ := hc l _ (List.getElem?_eq_getElem hl')
  have hR : C.getD l [] = C[l] := by simp [List.getD_eq_getElem?_getD, List.getElem?_eq_getElem hl']
  have hm : m = n := by rw [← hC l hl, hR]; exact k5.len.symm
  subst hm
  rw [Nat.zero_add] at k1
  obtain ⟨b1, o1, rfl, hr⟩ := k5.cells (by omega)
  refine ⟨b1, o1, c, wiped_cell w B k1, fun i hi => ?_⟩
  obtain ⟨r2, m2, c2, q1, q2⟩ := hr i hi
  have hm2 : m2 = D := by rw [← hD l i hl hi, hR]; exact q2.row.len.symm
  subst hm2
  obtain ⟨b2, o2, rfl, hx⟩ := q2.row.cells (by omega)
  refine ⟨b2, o2, c2, wiped_cell w B q1, fun j hj => ?_⟩
  have c1 := hx j hj
  have hb2 : B ≤ b2 := by simpa using wiped_near w B c1
  refine ⟨_, wiped_cell w B c1, q2.row.small.el j, ?_, hb2⟩
  rw [← frozen_of_block (wiped_far w B hb2)]
  exact q2.cold b2 o2 rfl j hj
theorem skel_none (B : Nat) (w : World) (g n D : Nat) : Skel B w g 0 n D := fun l hl => by omega
theorem Skel.below {B : Nat} {w w' : World} {g L n D : Nat} (h : Skel B w g L n D) (hb : Below w.heap.size w w') : Skel B w' g L n D := fun l hl => by
  obtain ⟨gl, ol, cl, e, h2⟩ := h l hl
  refine ⟨gl, ol, cl, cell_keep e hb, fun i hi => ?_⟩
  obtain ⟨rb, ro, rc, e2, h3⟩ := h2 i hi
  refine ⟨rb, ro, rc, cell_keep e2 hb, fun j hj => ?_⟩
  obtain ⟨x, e3, hx, hf, hB⟩ := h3 j hj
  have hlt : rb < w.heap.size := by simpa using World.block_lt_of_cell? w _ e3
  exact ⟨x, cell_keep e3 hb, hx, by rw [frozen_of_block (hb.block rb hlt)]; exact hf, hB⟩
end Go.Proofs.YtcanjlofnpnhkaaDoor

/- Package pass: layer: what a layer makes of rows, and the key and the value of each. -/
namespace Go.Proofs.YtcanjlofnpnhkaaDoor
open Go.ChangeShapes Go.WideShapes Go.ChangeAt Go.RowKit
def keysR (L : Lay) (D : Nat) (R : List (List Int)) : List (List Int) := R.map (keyR L D)
def valsR (L : Lay) (D : Nat) (R : List (List Int)) : List (List Int) := R.map (valR L D)
def madeR (L : Lay) (D H Hd : Nat) (R : List (List Int)) : List (List Int) := (List.range R.length).map fun i => oneR L D H Hd (rowOf R i) ((keysR L D R).take i) ((valsR L D R).take i) i
theorem keysR_at (L : Lay) (D : Nat) {R : List (List Int)} {t : Nat} (h : t < R.length) : rowOf (keysR L D R) t = keyR L D (rowOf R t) := by
  unfold rowOf keysR
  simp only [List.getD_eq_getElem?_getD, List.getElem?_map, List.getElem?_eq_getElem h]
  rfl
theorem valsR_at (L : Lay) (D : Nat) {R : List (List Int)} {t : Nat} (h : t < R.length) : rowOf (valsR L D R) t = valR L D (rowOf R t) := by
  unfold rowOf valsR
  simp only [List.getD_eq_getElem?_getD, List.getElem?_map, List.getElem?_eq_getElem h]
  rfl
theorem madeR_at (L : Lay) (D H Hd : Nat) {R : List (List Int)} {t : Nat} (h : t < R.length) : rowOf (madeR L D H Hd R) t = oneR L D H Hd (rowOf R t) ((keysR L D R).take t) ((valsR L D R).take t) t := by
  unfold madeR
  conv => lhs; unfold rowOf
  rw [List.getD_eq_getElem?_getD, List.getElem?_map, List.getElem?_range h]
  rfl
theorem rowOf_take {R : List (List Int)} {k t : Nat} (h : t < k) : rowOf (R.take k) t = rowOf R t := by
  unfold rowOf
  simp only [List.getD_eq_getElem?_getD, List.getElem?_take, if_pos h]
/-- Block g is filled up to place k with rows that hang on the blocks that p tells. -/
structure FP (w : World) (g m k : Nat) (p : Nat → Prop) (R : List (List Int)) : Prop where
  row : ∃ cs : Array Value, w.heap[g]? = some (.cells cs 27 (0, 0)) ∧ cs.size = m ∧ ∀ t, t < k → ∃ ro n c, cs[t]? = some (.slice ro n c) ∧ Hangs p w (fun w => Arg w ro n c (rowOf R t))
theorem FP.lt {w : World} {g m k : Nat} {p : Nat → Prop} {R : List (List Int)} (h : FP w g m k p R) : g < w.heap.size := by
  obtain ⟨cs, h1, _⟩ := h.row
  exact (Array.getElem?_eq_some_iff.1 h1).1
theorem FP.below {w w' : World} {g m k : Nat} {p : Nat → Prop} {R : List (List Int)} (h : FP w g m k p R) (hb : Below w.heap.size w w') : FP w' g m k p R := by
  have hl := h.lt
  obtain ⟨cs, h1, h2, h3⟩ := h.row
  exact ⟨cs, (hb.block g hl).trans h1, h2, fun t ht => let ⟨ro, n, c, e, N⟩ := h3 t ht; ⟨ro, n, c, e, N.below hb⟩⟩
theorem FP.frozen {w : World} {g m k : Nat} {p : Nat → Prop} {R : List (List Int)} (h : FP w g m k p R) (t : Nat) : w.frozen? ⟨g, t, none⟩ = false := by
  obtain ⟨cs, h1, _⟩ := h.row
  unfold World.frozen?; simp only [h1]; rfl
theorem FP.cell {w : World} {g m k : Nat} {p : Nat → Prop} {R : List (List Int)} (h : FP w g m k p R) {t : Nat} (ht : t < m) : ∃ v, w.cell? ⟨g, t, none⟩ = some v := by
  obtain ⟨cs, h1, h2, _⟩ := h.row
  refine ⟨cs[t]'(by omega), ?_⟩
  unfold World.cell?; simp only [h1]
  exact Array.getElem?_eq_getElem (by omega)
theorem FP.step {w : World} {g m k : Nat} {p : Nat → Prop} {R : List (List Int)} (h : FP w g m k p R) (hk : k < m) (hp : ¬ p g) {ro : Option Addr} {n c : Nat} (hA : Hangs p w fun w => Arg w ro n c (rowOf R k)) : FP (w.setCell ⟨g, k, none⟩ (.slice ro n c)) g m (k + 1) p R := by
  obtain ⟨cs, h1, h2, h3⟩ := h.row
  refine ⟨cs.setIfInBounds k (.slice ro n c), by simp [World.setCell, Array.getElem?_modify, h1], by simpa using h2, fun t ht => ?_⟩
  rw [Array.getElem?_setIfInBounds]
  by_cases e : k = t
  · subst e
    rw [if_pos rfl, if_pos (by omega)]
    exact ⟨ro, n, c, rfl, hA.set hp _⟩
  · rw [if_neg e]
    obtain ⟨ro', n', c', e2, N⟩ := h3 t (by omega)
    exact ⟨ro', n', c', e2, N.set hp _⟩
theorem FP.far {w : World} {g m k : Nat} {p : Nat → Prop} {R : List (List Int)} (h : FP w g m k p R) {a : Addr} (hg : a.block ≠ g) (hp : ¬ p a.block) (v : Value) : FP (w.setCell a v) g m k p R := by
  obtain ⟨cs, h1, h2, h3⟩ := h.row
  exact ⟨cs, (Below.heap_setCell _ _ _ _ (Ne.symm hg)).trans h1, h2, fun t ht => let ⟨ro, n, c, e, N⟩ := h3 t ht; ⟨ro, n, c, e, N.set hp _⟩⟩
theorem fp_made (w : World) (m : Nat) (p : Nat → Prop) (R : List (List Int)) : FP (w.alloc (.cells (madeCells #[.slice none 0 0] m) 27)) w.heap.size m 0 p R :=
  ⟨_, heap_alloc_new _ _, by simp [madeCells], fun t ht => by omega⟩
/-- The rows ahead of place k. -/
theorem FP.front {w : World} {g m k : Nat} {p : Nat → Prop} {R : List (List Int)} (h : FP w g m k p R) (hk : k ≤ m) (hl : m ≤ R.length) (hm : m ≤ 9223372036854775807) : GridAt w (some ⟨g, 0, none⟩) k (R.take k) := by
  obtain ⟨cs, h1, h2, h3⟩ := h.row
  refine ⟨by rw [List.length_take]; omega, by omega, fun _ => ⟨g, 0, rfl, fun t ht => ?_⟩⟩
  obtain ⟨ro, n, c, e, N⟩ := h3 t ht
  refine ⟨ro, n, c, ?_, by rw [rowOf_take ht]; exact N.now⟩
  rw [Nat.zero_add]
  unfold World.cell?
  simp only [h1]
  exact e
theorem FP.whole {w : World} {g m : Nat} {p : Nat → Prop} {R : List (List Int)} (h : FP w g m m p R) (hl : R.length = m) (hm : m ≤ 9223372036854775807) {B : Nat} (hp : ∀ b, p b → B ≤ b) (hB : B ≤ g) : ∃ vs, New B w fun w => GridV w (some ⟨g, 0, none⟩) m vs R := by
  have hlt := h.lt
  obtain ⟨cs, h1, hsz, h3⟩ := h.row
  refine ⟨cs.toList, fun w2 h2 => ?_⟩
  have hg := (h2 g hB hlt).trans h1
  refine ⟨⟨by simp [hsz, hl], fun t ht => ?_⟩, by simp [hsz], hm, fun _ => ⟨g, 0, rfl, fun j u hj => ?_⟩⟩
  · obtain ⟨ro, n, c, e, N⟩ := h3 t (by omega)
    exact ⟨ro, n, c, by simpa using e, N w2 fun b hb hb2 => h2 b (hp b hb) hb2⟩
  · rw [Nat.zero_add]
    unfold World.cell?
    simp only [hg]
    simpa using hj
def offL (w : World) (gm gk gv b : Nat) : Prop := w.heap.size + 1 < b ∧ b ≠ gm ∧ b ≠ gk ∧ b ≠ gv
/-- Within layer. -/
structure LI (w wr : World) (cfg bc : Array Value) (gm gk gv n t : Nat) (Rm Rk Rv : List (List Int)) : Prop where
  x0 : Blk wr w.heap.size 23 cfg
  x1 : Blk wr (w.heap.size + 1) 68 bc
  m : FP wr gm n t (offL w gm gk gv) Rm
  k : FP wr gk n t (offL w gm gk gv) Rk
  v : FP wr gv n t (offL w gm gk gv) Rv
  ne : w.heap.size + 1 < gm ∧ w.heap.size + 1 < gk ∧ w.heap.size + 1 < gv ∧ gm ≠ gk ∧ gm ≠ gv ∧ gk ≠ gv
  kp : Below w.heap.size w wr
theorem LI.below {w wr w' : World} {cfg bc : Array Value} {gm gk gv n t : Nat} {Rm Rk Rv : List (List Int)} (h : LI w wr cfg bc gm gk gv n t Rm Rk Rv) (hb : Below wr.heap.size wr w') : LI w w' cfg bc gm gk gv n t Rm Rk Rv :=
  ⟨h.x0.below hb, h.x1.below hb, h.m.below hb, h.k.below hb, h.v.below hb, h.ne, below_then h.kp hb⟩
theorem LI.next {w wr : World} {cfg bc : Array Value} {gm gk gv n t : Nat} {Rm Rk Rv : List (List Int)} (h : LI w wr cfg bc gm gk gv n t Rm Rk Rv) (ht : t < n) {o1 o2 o3 d1 d2 d3 e1 e2 e3 : Nat} (N1 : Hangs (offL w gm gk gv) wr fun w => Arg w (some ⟨o1, 0, none⟩) d1 e1 (rowOf Rm t)) (N2 : Hangs (offL w gm gk gv) wr fun w => Arg w (some ⟨o2, 0, none⟩) d2 e2 (rowOf Rk t)) (N3 : Hangs (offL w gm gk gv) wr fun w => Arg w (some ⟨o3, 0, none⟩) d3 e3 (rowOf Rv t)) :
    LI w (((wr.setCell ⟨gm, t, none⟩ (.slice (some ⟨o1, 0, none⟩) d1 e1)).setCell ⟨gk, t, none⟩ (.slice (some ⟨o2, 0, none⟩) d2 e2)).setCell ⟨gv, t, none⟩ (.slice (some ⟨o3, 0, none⟩) d3 e3)) cfg bc gm gk gv n (t + 1) Rm Rk Rv := by
  obtain ⟨f1, f2, f3, f4, f5, f6⟩ := h.ne
  have pm : ¬ offL w gm gk gv gm := fun h => h.2.1 rfl
  have pk : ¬ offL w gm gk gv gk := fun h => h.2.2.1 rfl
  have pv : ¬ offL w gm gk gv gv := fun h => h.2.2.2 rfl
  refine ⟨((h.x0.other (by show _ ≠ gm; omega) _).other (by show _ ≠ gk; omega) _).other (by show _ ≠ gv; omega) _, ((h.x1.other (by show _ ≠ gm; omega) _).other (by show _ ≠ gk; omega) _).other (by show _ ≠ gv; omega) _, ?_, ?_, ?_, h.ne, ?_⟩
  · exact ((h.m.step ht pm N1).far (by show gk ≠ gm; omega) pk _).far (by show gv ≠ gm; omega) pv _
  · exact ((h.k.far (by show gm ≠ gk; omega) pm _).step ht pk (N2.set pm _)).far (by show gv ≠ gk; omega) pv _
  · exact ((h.v.far (by show gm ≠ gv; omega) pm _).far (by show gk ≠ gv; omega) pk _).step ht pv ((N3.set pm _).set pk _)
  · exact ((h.kp.setCell (p := ⟨gm, t, none⟩) (by show w.heap.size ≤ gm; omega) _).setCell (p := ⟨gk, t, none⟩) (by show w.heap.size ≤ gk; omega) _).setCell (p := ⟨gv, t, none⟩) (by show w.heap.size ≤ gv; omega) _
end Go.Proofs.YtcanjlofnpnhkaaDoor

/- Package step: All: several tokens more. -/
namespace Go.Proofs.YtcanjlofnpnhkaaDoor
open Go.ChangeShapes Go.WideShapes Go.ChangeAt Go.RowKit
/-- The view behind several tokens more, and what is liked behind the last one. -/
def feedAll (M : Mdl) (D H Hd L : Nat) (X : Vw) (A : List Int) : Vw := A.foldl (fun X t => feedV M D H Hd L X t.toNat) X
def likAt (M : Mdl) (V D H Hd L : Nat) (X : Vw) (A : List Int) : Nat → List Int
  | 0 => []
  | k + 1 => likR M V D (feedX M D H Hd L (feedAll M D H Hd L X (A.take k)) (el A k).toNat)
theorem feedAll_step (M : Mdl) (D H Hd L : Nat) (X : Vw) {A : List Int} {k : Nat} (h : k < A.length) : feedAll M D H Hd L X (A.take (k + 1)) = feedV M D H Hd L (feedAll M D H Hd L X (A.take k)) (el A k).toNat := by
  have e : A[k]? = some (el A k) := by unfold el; simp [List.getD_eq_getElem?_getD, List.getElem?_eq_getElem h]
  unfold feedAll
  rw [List.take_add_one, e, List.foldl_append]
  rfl
theorem feedAll_len (M : Mdl) (D H Hd L : Nat) (A : List Int) : ∀ X : Vw, (feedAll M D H Hd L X A).T.length = X.T.length + A.length := by
  induction A with
  | nil => intro X; rfl
  | cons a A ih =>
    intro X
    show (feedAll M D H Hd L (feedV M D H Hd L X a.toNat) A).T.length = _
    rw [ih]
    unfold feedV
    simp
    omega
theorem feedAll_fit {M : Mdl} {V D H Hd L : Nat} {A : List Int} : ∀ {X : Vw}, VwFit V D L X → A.all (tokB V) = true → X.T.length + A.length ≤ 128 → VwFit V D L (feedAll M D H Hd L X A) := by
  induction A with
  | nil => intro X hf _ _; exact hf
  | cons a A ih =>
    intro X hf ha hl
    simp only [List.all_cons, Bool.and_eq_true] at ha
    simp only [List.length_cons] at hl
    have ht : 0 ≤ a ∧ a < V := by have := ha.1; unfold tokB at this; simpa using this
    show VwFit V D L (feedAll M D H Hd L (feedV M D H Hd L X a.toNat) A)
    exact ih (fit_feed hf (by omega) (by omega)) ha.2 (by unfold feedV; simp; omega)
theorem vwv_one (v : VwV) : v.cells.all (·.oneCell') = true := by simp [VwV.cells, Sl.v, Value.oneCell']
theorem vwv_size (v : VwV) : v.cells.size = 3 := rfl
theorem prompt_ok {V : Int} {A : List Int} (h : promptN V A = 0) : 1 ≤ A.length ∧ A.length ≤ 128 ∧ A.all (tokB V) = true := by
  unfold promptN at h
  split at h
  · omega
  · split at h
    · omega
    · split at h
      · rename_i h1 h2 h3; exact ⟨by omega, by omega, h3⟩
      · omega
set_option maxRecDepth 100000 in
set_option maxHeartbeats 1600000 in
theorem all_bad (V D Hd H L : Nat) (ws cv : Array Value) (ao : Option Addr) (n ca : Nat) (A : List Int) (w : World) (hA : IArg w ao n ca A) (hp : promptN V A ≠ 0) :
   Calls Tryd.prog 9 #[.agg (cfgC V D Hd H L), .agg ws, .agg cv, .slice ao n ca] w fun e w' => e = .returned (.tuple #[.agg noV, .slice none 0 0, .int .i64 (promptN V A)]) ∧ Below w.heap.size w w' := by
  have CP := fun (wv : World) (hb : Below w.heap.size w wv) => prompt_any V D Hd H L ao n ca A wv (hA.below hb)
  have hp' : (promptN V A == 0) = false := by simpa using hp
  generalize promptN V A = q at *
  unfold cfgC at *
  have X0 := blk_new w 23 #[.int .i64 (V : Int), .int .i64 (D : Int), .int .i64 (Hd : Int), .int .i64 (H : Int), .int .i64 (L : Int)]
  have B0 : Below w.heap.size w (w.alloc (.cells #[.int .i64 (V : Int), .int .i64 (D : Int), .int .i64 (Hd : Int), .int .i64 (H : Int), .int .i64 (L : Int)] 23)) := (Below.refl _ _).alloc (Nat.le_refl _) _
  have s0 : (w.alloc (.cells #[.int .i64 (V : Int), .int .i64 (D : Int), .int .i64 (Hd : Int), .int .i64 (H : Int), .int .i64 (L : Int)] 23)).heap.size = w.heap.size + 1 := by simp
  generalize hw0 : w.alloc (.cells #[.int .i64 (V : Int), .int .i64 (D : Int), .int .i64 (Hd : Int), .int .i64 (H : Int), .int .i64 (L : Int)] 23) = w0 at *
  have X1 := blk_new w0 32 ws
  have B1 : Below w0.heap.size w0 (w0.alloc (.cells ws 32)) := (Below.refl _ _).alloc (Nat.le_refl _) _
  have s1 : (w0.alloc (.cells ws 32)).heap.size = w0.heap.size + 1 := by simp
  rw [s0] at X1 s1
  generalize hw1 : w0.alloc (.cells ws 32) = w1 at *
  have X2 := blk_new w1 42 cv
  have B2 : Below w1.heap.size w1 (w1.alloc (.cells cv 42)) := (Below.refl _ _).alloc (Nat.le_refl _) _
  have s2 : (w1.alloc (.cells cv 42)).heap.size = w1.heap.size + 1 := by simp
  rw [s1] at X2 s2
  generalize hw2 : w1.alloc (.cells cv 42) = w2 at *
  have X3 := blk_new w2 42 #[.slice none 0 0, .slice none 0 0, .slice none 0 0]
  have B3 : Below w2.heap.size w2 (w2.alloc (.cells #[.slice none 0 0, .slice none 0 0, .slice none 0 0] 42)) := (Below.refl _ _).alloc (Nat.le_refl _) _
  have s3 : (w2.alloc (.cells #[.slice none 0 0, .slice none 0 0, .slice none 0 0] 42)).heap.size = w2.heap.size + 1 := by simp
  rw [s2] at X3 s3
  generalize hw3 : w2.alloc (.cells #[.slice none 0 0, .slice none 0 0, .slice none 0 0] 42) = w3 at *
  replace X0 := ((X0.below B1).below B2).below B3
  replace X1 := (X1.below B2).below B3
  replace X2 := X2.below B3
  replace B3 := below_then (below_then (below_then B0 B1) B2) B3
  have a0 : w3.cell? ⟨w.heap.size, 0, none⟩ = some (.int .i64 (V : Int)) := X0.cell 0 rfl
  have a1 : w3.cell? ⟨w.heap.size, 1, none⟩ = some (.int .i64 (D : Int)) := X0.cell 1 rfl
  have a2 : w3.cell? ⟨w.heap.size, 2, none⟩ = some (.int .i64 (Hd : Int)) := X0.cell 2 rfl
  have a3 : w3.cell? ⟨w.heap.size, 3, none⟩ = some (.int .i64 (H : Int)) := X0.cell 3 rfl
  have a4 : w3.cell? ⟨w.heap.size, 4, none⟩ = some (.int .i64 (L : Int)) := X0.cell 4 rfl
  go_enter Tryd.func9, Tryd.ntmps9
  go_wp2_with fail
  refine (CP _ B3).mono ?_
  rintro e w4 ⟨rfl, B4⟩
  replace X3 := X3.below B4
  have D4 := below_then B3 B4
  clear a0 a1 a2 a3 a4 B3 B4 CP hw0 hw1 hw2 hw3 B0 B1 B2 s0 s1 s2 s3
  have hall : Array.all (#[.slice none 0 0, .slice none 0 0, .slice none 0 0] : Array Value) (fun v => v.oneCell') = true := by simp [Value.oneCell']
  go_wp2_with (refine wpList_store_row rfl 42 _ _ rfl (w.heap.size + 1 + 1 + 1) #[.slice none 0 0, .slice none 0 0, .slice none 0 0] rfl rfl 42 _ X3 Tryd.infoV rfl hall ?_)
  refine bodyPost_ret (results_blk3 rfl _ _ (w.heap.size + 1 + 1 + 1) _ rfl (load_v (X3.row _) rfl)) rfl ?_
  exact ⟨rfl, below_setRow D4 (by omega) _⟩
/-- Within All: boxes, and the view behind k tokens. -/
structure AI (w wr : World) (V D H Hd L : Nat) (cfg ws : Array Value) (M : Mdl) (X : Vw) (A : List Int) (k : Nat) (vv : VwV) (lv : Value) : Prop where
  x0 : Blk wr w.heap.size 23 cfg
  x1 : Blk wr (w.heap.size + 1) 32 ws
  x2 : Blk wr (w.heap.size + 2) 42 vv.cells
  x3 : Blk wr (w.heap.size + 3) 42 #[.slice none 0 0, .slice none 0 0, .slice none 0 0]
  at_ : VwAt wr vv (feedAll M D H Hd L X (A.take k))
  new : 0 < k → New (w.heap.size + 4) wr (fun w => VwAt w vv (feedAll M D H Hd L X (A.take k))) ∧ ∃ g, lv = .slice (some ⟨g, 0, none⟩) V V ∧ Fresh wr (w.heap.size + 4) g V V (likAt M V D H Hd L X A k)
  kp : Below w.heap.size w wr
  sz : w.heap.size + 3 < wr.heap.size
set_option maxRecDepth 100000 in
set_option maxHeartbeats 800000 in
theorem all_ok (V D Hd H L : Nat) (W : Wt) (bs : List Bk) (M : Mdl) (v : VwV) (X : Vw) (ao : Option Addr) (n ca : Nat) (A : List Int) (w : World) (hT : Tab w) (hG : Good w V D Hd H L W bs M) (hv : VwAt w v X) (hf : VwFit V D L X) (hA : IArg w ao n ca A) (hp : promptN V A = 0) (hs : X.T.length + A.length ≤ 128) :
   Calls Tryd.prog 9 #[.agg (cfgC V D Hd H L), .agg W.cells, .agg v.cells, .slice ao n ca] w fun e w' => ∃ vv g, e = .returned (.tuple #[.agg (VwV.cells vv), .slice (some ⟨g, 0, none⟩) V V, .int .i64 0]) ∧ New w.heap.size w' (fun w => VwAt w vv (feedAll M D H Hd L X A)) ∧ Fresh w' w.heap.size g V V (likAt M V D H Hd L X A A.length) ∧ Below w.heap.size w w' := by
  obtain ⟨p1, p2, p3⟩ := prompt_ok hp
  have CP := fun (wv : World) (hb : Below w.heap.size w wv) => prompt_any V D Hd H L ao n ca A wv (hA.below hb)
  rw [hp] at CP
  have hl := hA.row.len
  have HT : Hid (∀ wv, Below w.heap.size w wv → Tab wv) := fun wv hb => hT.next hb
  have HG : Hid (∀ wv, Below w.heap.size w wv → Good wv V D Hd H L W bs M) := fun wv hb => hG.below hb
  have HA : Hid (∀ wv, Below w.heap.size w wv → IRowAt wv ao n A) := fun wv hb => hA.row.below hb
  have HF : Hid (∀ k, k ≤ A.length → VwFit V D L (feedAll M D H Hd L X (A.take k))) := fun k hk => feedAll_fit hf (by
    rw [List.all_eq_true] at p3 ⊢
    intro x hx
    exact p3 x (List.mem_of_mem_take hx)) (by rw [List.length_take]; omega)
  have HL : Hid (∀ k, k ≤ A.length → (feedAll M D H Hd L X (A.take k)).T.length = X.T.length + k) := fun k hk => by rw [feedAll_len, List.length_take]; omega
  have HS : Hid (∀ k, k < A.length → feedAll M D H Hd L X (A.take (k + 1)) = feedV M D H Hd L (feedAll M D H Hd L X (A.take k)) (el A k).toNat) := fun k hk => feedAll_step M D H Hd L X hk
  have HK : Hid (∀ k, k < A.length → 0 ≤ el A k ∧ el A k < V) := fun k hk => by have := all_el hk p3; unfold tokB at this; simpa using this
  have CF := fun (vv : VwV) (Y : Vw) (tok : Nat) (wv : World) (h1 : Tab wv) (h2 : Y.T.length ≤ 127) (h3 : tok < V) (h4 : Good wv V D Hd H L W bs M) (h5 : VwAt wv vv Y) (h6 : VwFit V D L Y) => feed_ok V D Hd H L W bs M vv Y tok wv h1 h2 h3 h4 h5 h6
  have hv0 : VwAt w v (feedAll M D H Hd L X (A.take 0)) := hv
  have siz : W.cells.size = 8 := rfl
  clear hT hG hA hf hv
  generalize hws : W.cells = ws at *
  have siv := vwv_size v
  unfold cfgC at CP CF ⊢
  generalize hcv : v.cells = cv at *
  have X0 := blk_new w 23 #[.int .i64 (V : Int), .int .i64 (D : Int), .int .i64 (Hd : Int), .int .i64 (H : Int), .int .i64 (L : Int)]
  have B0 : Below w.heap.size w (w.alloc (.cells #[.int .i64 (V : Int), .int .i64 (D : Int), .int .i64 (Hd : Int), .int .i64 (H : Int), .int .i64 (L : Int)] 23)) := (Below.refl _ _).alloc (Nat.le_refl _) _
  have s0 : (w.alloc (.cells #[.int .i64 (V : Int), .int .i64 (D : Int), .int .i64 (Hd : Int), .int .i64 (H : Int), .int .i64 (L : Int)] 23)).heap.size = w.heap.size + 1 := by simp
  generalize hw0 : w.alloc (.cells #[.int .i64 (V : Int), .int .i64 (D : Int), .int .i64 (Hd : Int), .int .i64 (H : Int), .int .i64 (L : Int)] 23) = w0 at *
  have X1 := blk_new w0 32 ws
  have B1 : Below w0.heap.size w0 (w0.alloc (.cells ws 32)) := (Below.refl _ _).alloc (Nat.le_refl _) _
  have s1 : (w0.alloc (.cells ws 32)).heap.size = w0.heap.size + 1 := by simp
  rw [s0] at X1 s1
  generalize hw1 : w0.alloc (.cells ws 32) = w1 at *
  have X2 := blk_new w1 42 cv
  have B2 : Below w1.heap.size w1 (w1.alloc (.cells cv 42)) := (Below.refl _ _).alloc (Nat.le_refl _) _
  have s2 : (w1.alloc (.cells cv 42)).heap.size = w1.heap.size + 1 := by simp
  rw [s1] at X2 s2
  generalize hw2 : w1.alloc (.cells cv 42) = w2 at *
  have X3 := blk_new w2 42 #[.slice none 0 0, .slice none 0 0, .slice none 0 0]
  have B3 : Below w2.heap.size w2 (w2.alloc (.cells #[.slice none 0 0, .slice none 0 0, .slice none 0 0] 42)) := (Below.refl _ _).alloc (Nat.le_refl _) _
  have s3 : (w2.alloc (.cells #[.slice none 0 0, .slice none 0 0, .slice none 0 0] 42)).heap.size = w2.heap.size + 1 := by simp
  rw [s2] at X3 s3
  generalize hw3 : w2.alloc (.cells #[.slice none 0 0, .slice none 0 0, .slice none 0 0] 42) = w3 at *
  replace X0 := ((X0.below B1).below B2).below B3
  replace X1 := (X1.below B2).below B3
  replace X2 := X2.below B3
  replace B3 := below_then (below_then (below_then B0 B1) B2) B3
  replace hv0 := hv0.below B3
  have a0 : w3.cell? ⟨w.heap.size, 0, none⟩ = some (.int .i64 (V : Int)) := X0.cell 0 rfl
  have a1 : w3.cell? ⟨w.heap.size, 1, none⟩ = some (.int .i64 (D : Int)) := X0.cell 1 rfl
  have a2 : w3.cell? ⟨w.heap.size, 2, none⟩ = some (.int .i64 (Hd : Int)) := X0.cell 2 rfl
  have a3 : w3.cell? ⟨w.heap.size, 3, none⟩ = some (.int .i64 (H : Int)) := X0.cell 3 rfl
  have a4 : w3.cell? ⟨w.heap.size, 4, none⟩ = some (.int .i64 (L : Int)) := X0.cell 4 rfl
  go_enter Tryd.func9, Tryd.ntmps9
  go_wp2_with fail
  refine (CP _ B3).mono ?_
  rintro e w4 ⟨rfl, B4⟩
  have z3 := X3.lt
  have G0 : AI w w4 V D H Hd L #[.int .i64 (V : Int), .int .i64 (D : Int), .int .i64 (Hd : Int), .int .i64 (H : Int), .int .i64 (L : Int)] ws M X A 0 v (.slice none 0 0) := ⟨X0.below B4, X1.below B4, by rw [hcv]; exact X2.below B4, X3.below B4, hv0.below B4, fun h => by omega, below_then B3 B4, Nat.lt_of_lt_of_le z3 B4.size⟩
  clear a0 a1 a2 a3 a4 B3 B4 CP hw0 hw1 hw2 hw3 B0 B1 B2 s0 s1 s2 s3 X0 X1 X2 X3 hv0 siv hcv z3
  go_wp2_with fail
  go_loopg [27, 12] n (fun r i s wr => ∃ (k : Nat) (vv : VwV), k ≤ n ∧ r = n - k ∧ i = .int .i64 k ∧ AI w wr V D H Hd L #[.int .i64 (V : Int), .int .i64 (D : Int), .int .i64 (Hd : Int), .int .i64 (H : Int), .int .i64 (L : Int)] ws M X A k vv s)
  case atStart => exact ⟨0, v, by omega, by omega, rfl, G0⟩
  case round =>
    obtain ⟨k, vv, hk, rfl, rfl, G⟩ := hrel
    clear G0
    by_cases hlt : k < n
    · have R1 := HA.out wr G.kp
      obtain ⟨b, o, rfl, hc⟩ := R1.cells (by omega)
      have ck := hc k hlt
      clear hc R1
      obtain ⟨t1, t2⟩ := HK.out k (by omega)
      have EV := HS.out k (by omega)
      have FV := HF.out k (by omega)
      have LV := HL.out k (by omega)
      have HLK : Hid (likAt M V D H Hd L X A (k + 1) = likR M V D (feedX M D H Hd L (feedAll M D H Hd L X (A.take k)) (el A k).toNat)) := rfl
      obtain ⟨tk, htk⟩ : ∃ tk : Nat, el A k = tk := ⟨(el A k).toNat, by omega⟩
      rw [htk] at ck t2 EV HLK
      rw [Int.toNat_natCast] at EV HLK
      clear htk t1
      have X0 := G.x0
      have X1 := G.x1
      have X2 := G.x2
      have X3 := G.x3
      have AT := G.at_
      have KP := G.kp
      have SZ := G.sz
      clear G
      have a0 : wr.cell? ⟨w.heap.size, 0, none⟩ = some (.int .i64 (V : Int)) := X0.cell 0 rfl
      have a1 : wr.cell? ⟨w.heap.size, 1, none⟩ = some (.int .i64 (D : Int)) := X0.cell 1 rfl
      have a2 : wr.cell? ⟨w.heap.size, 2, none⟩ = some (.int .i64 (Hd : Int)) := X0.cell 2 rfl
      have a3 : wr.cell? ⟨w.heap.size, 3, none⟩ = some (.int .i64 (H : Int)) := X0.cell 3 rfl
      have a4 : wr.cell? ⟨w.heap.size, 4, none⟩ = some (.int .i64 (L : Int)) := X0.cell 4 rfl
      have one := vwv_one vv
      have siv := vwv_size vv
      have CC := CF vv (feedAll M D H Hd L X (A.take k)) tk wr (HT.out _ KP) (by omega) (by omega) (HG.out _ KP) AT FV
      generalize vv.cells = cv at *
      have LVe : Hid ((feedAll M D H Hd L X (A.take k)).T.length = X.T.length + k) := LV
      clear LV AT
      go_wp2_with (first | (refine wpList_load_row rfl 32 _ rfl (w.heap.size + 1) rfl 32 ws (0, 0) _ X1 Tryd.underlying32 rfl (by rw [siz]; exact Tryd.infoW) ?_) | (refine wpList_load_row rfl 42 _ rfl (w.heap.size + 2) rfl 42 cv (0, 0) _ X2 Tryd.underlying42 rfl (by rw [siv]; exact Tryd.infoV) ?_))
      refine CC.mono ?_
      rintro e w7 ⟨v2, g, rfl, N7, F7, B7⟩
      rw [← EV] at N7
      rw [← HLK.out] at F7
      have one2 := vwv_one v2
      have siv2 := vwv_size v2
      have HC : Hid (∀ wv, Blk wv (w.heap.size + 2) 42 v2.cells → Blk wv (w.heap.size + 2) 42 v2.cells) := fun _ h => h
      generalize hc2 : v2.cells = cw at *
      replace X0 := X0.below B7
      replace X1 := X1.below B7
      replace X2 := X2.below B7
      replace X3 := X3.below B7
      have D7 := below_then KP B7
      have z7 := B7.size
      clear a0 a1 a2 a3 a4 CC
      have XA := blk_new w7 42 #[.slice none 0 0, .slice none 0 0, .slice none 0 0]
      have BA : Below w7.heap.size w7 (w7.alloc (.cells #[.slice none 0 0, .slice none 0 0, .slice none 0 0] 42)) := (Below.refl _ _).alloc (Nat.le_refl _) _
      generalize hwa : w7.alloc (.cells #[.slice none 0 0, .slice none 0 0, .slice none 0 0] 42) = wa at *
      have XB := XA.row cw
      have BB := below_setRow BA (Nat.le_refl _) cw
      generalize hwb : wa.setRow w7.heap.size cw = wb at *
      replace X0 := X0.below BB
      replace X1 := X1.below BB
      replace X2 := X2.below BB
      replace X3 := X3.below BB
      replace N7 := N7.below BB
      replace F7 := F7.below BB
      have DB := below_then D7 BB
      have zb := BB.size
      go_wp2_with (first | (refine wpList_store_row rfl 42 _ _ rfl w7.heap.size cw rfl rfl 42 _ XA (by rw [siv2]; exact Tryd.infoV) (by rw [siv2]; rfl) one2 ?_; rw [hwb]) | (refine wpList_load_row rfl 42 _ rfl w7.heap.size rfl 42 cw (0, 0) _ XB Tryd.underlying42 rfl (by rw [siv2]; exact Tryd.infoV) ?_) | (refine wpList_store_row rfl 42 _ _ rfl (w.heap.size + 2) cw rfl rfl 42 _ X2 (by rw [siv2]; exact Tryd.infoV) (by rw [siv, siv2]) one2 ?_))
      have so : ∀ b, b ≠ w.heap.size + 2 → (wb.setRow (w.heap.size + 2) cw).heap[b]? = wb.heap[b]? := fun b hb => setRow_other _ _ _ _ hb
      have N8 := N7.row (g := w.heap.size + 2) (by omega) cw
      go_roundg (n - (k + 1))
      case measure => omega
      case rel =>
        refine ⟨k + 1, v2, by omega, rfl, by go_num, ⟨Blk.of_block X0 (so _ (by omega)), Blk.of_block X1 (so _ (by omega)), ?_, Blk.of_block X3 (so _ (by omega)), N8.now, fun _ => ⟨N8.mono (by omega), g, rfl, (F7.of_block (so g (F7.ne X2 (by decide)))).mono (by omega)⟩, below_setRow DB (by omega) _, ?_⟩⟩
        · rw [hc2]; exact X2.row cw
        · have := DB.size
          show _ < (wb.setRow _ _).heap.size
          simp [World.setRow]
          omega
    · obtain rfl : k = n := by omega
      obtain ⟨N9, g, rfl, F9⟩ := G.new (by omega)
      rw [← hl, List.take_length] at N9
      rw [← hl] at F9
      have X2 := G.x2
      have X3 := G.x3
      have KP := G.kp
      clear G
      have one := vwv_one vv
      have siv := vwv_size vv
      generalize hc2 : vv.cells = cw at *
      go_wp2_with (first | (refine wpList_load_row rfl 42 _ rfl (w.heap.size + 2) rfl 42 cw (0, 0) _ X2 Tryd.underlying42 rfl (by rw [siv]; exact Tryd.infoV) ?_) | (refine wpList_store_row rfl 42 _ _ rfl (w.heap.size + 3) cw rfl rfl 42 _ X3 (by rw [siv]; exact Tryd.infoV) (by rw [siv]; rfl) one ?_))
      refine bodyPost_ret (results_blk3 rfl _ _ (w.heap.size + 3) _ rfl (load_v (X3.row _) siv)) rfl ?_
      refine ⟨vv, g, by rw [hc2]; rfl, (N9.row (by omega) _).mono (by omega), (F9.of_block (setRow_other _ _ _ _ (F9.ne X3 (by decide)))).mono (by omega), below_setRow KP (by omega) _⟩
end Go.Proofs.YtcanjlofnpnhkaaDoor

/- Package pass: Full: how much a model likes each token behind a row of them, from the beginning. -/
namespace Go.Proofs.YtcanjlofnpnhkaaDoor
open Go.ChangeShapes Go.WideShapes Go.ChangeAt Go.RowKit
/-- The first rows of tokens; what l layers make of them. -/
def begL (E : List Int) (D : Nat) (A : List Int) : List (List Int) := (List.range A.length).map fun t => begR E D (el A t).toNat t
def rowsL (M : Mdl) (D H Hd : Nat) (A : List Int) : Nat → List (List Int)
  | 0 => begL M.E D A
  | l + 1 => madeR (layAt M l) D H Hd (rowsL M D H Hd A l)
def fullK (M : Mdl) (D H Hd L : Nat) (A : List Int) : List (List (List Int)) := (List.range L).map fun l => keysR (layAt M l) D (rowsL M D H Hd A l)
def fullV (M : Mdl) (D H Hd L : Nat) (A : List Int) : List (List (List Int)) := (List.range L).map fun l => valsR (layAt M l) D (rowsL M D H Hd A l)
def fullX (M : Mdl) (V D H Hd L : Nat) (A : List Int) : List Int := likR M V D (rowOf (rowsL M D H Hd A L) (A.length - 1))
theorem rowsL_len (M : Mdl) (D H Hd : Nat) (A : List Int) : ∀ l, (rowsL M D H Hd A l).length = A.length
  | 0 => by show (begL M.E D A).length = _; unfold begL; simp
  | l + 1 => by show (madeR _ _ _ _ (rowsL M D H Hd A l)).length = _; unfold madeR; simp [rowsL_len M D H Hd A l]
theorem rowsL_row (M : Mdl) (D H Hd : Nat) (A : List Int) : ∀ l t, t < A.length → (rowOf (rowsL M D H Hd A l) t).length = D
  | 0, t, h => by
    show (rowOf (begL M.E D A) t).length = D
    unfold rowOf begL
    rw [List.getD_eq_getElem?_getD, List.getElem?_map, List.getElem?_range h]
    exact tab_len _ _
  | l + 1, t, h => by
    show (rowOf (madeR _ _ _ _ (rowsL M D H Hd A l)) t).length = D
    rw [madeR_at _ _ _ _ (by rw [rowsL_len]; exact h)]
    exact tab_len _ _
theorem begL_at (E : List Int) (D : Nat) {A : List Int} {t : Nat} (h : t < A.length) : rowOf (begL E D A) t = begR E D (el A t).toNat t := by
  unfold rowOf begL
  rw [List.getD_eq_getElem?_getD, List.getElem?_map, List.getElem?_range h]
  rfl
theorem fullK_at (M : Mdl) (D H Hd L : Nat) (A : List Int) {l : Nat} (h : l < L) : (fullK M D H Hd L A).getD l [] = keysR (layAt M l) D (rowsL M D H Hd A l) := by
  unfold fullK
  rw [List.getD_eq_getElem?_getD, List.getElem?_map, List.getElem?_range h]
  rfl
theorem fullV_at (M : Mdl) (D H Hd L : Nat) (A : List Int) {l : Nat} (h : l < L) : (fullV M D H Hd L A).getD l [] = valsR (layAt M l) D (rowsL M D H Hd A l) := by
  unfold fullV
  rw [List.getD_eq_getElem?_getD, List.getElem?_map, List.getElem?_range h]
  rfl
theorem Tryd.infoCa : (Tryd.prog.info? 40).map (·.size) = some 2 := by kernel_rfl
theorem load_ca {w : World} {g : Nat} {cs : Array Value} (h : Blk w g 40 cs) (hs : cs.size = 2) : (loadVar 40 ⟨g, 0, none⟩).run Tryd.prog w = .ok (.agg cs) w :=
  run_loadVar_row w g _ _ cs _ _ h Tryd.underlying40 rfl (by rw [hs]; exact Tryd.infoCa)
theorem results_mid {fn : Func} {p u v : Tmp} {ty : TypeId} (h : fn.results = #[.tmp u, .cell p ty, .tmp v]) (tmps : Array Value) (w : World) (g : Nat) (cs : Array Value)
    (hp : tmps.getD p undef = .pointer (some ⟨g, 0, none⟩)) (hl : (loadVar ty ⟨g, 0, none⟩).run Tryd.prog w = .ok (.agg cs) w) :
    (results fn tmps).run Tryd.prog w = .ok (.tuple #[tmps.getD u undef, .agg cs, tmps.getD v undef]) w := by
  have hp' : tmps[p]?.getD undef = .pointer (some ⟨g, 0, none⟩) := by simpa using hp
  simp [results, h, hp', asAddr, hl]
def offF (w : World) (gK gV gC b : Nat) : Prop := w.heap.size + 2 < b ∧ b ≠ gK ∧ b ≠ gV ∧ b ≠ gC
/-- Within Full: boxes, the cache, and its lists up to layer t. -/
structure FI (w wr : World) (cfg ws : Array Value) (gC gK gV L t : Nat) (A1 A2 : List (List (List Int))) : Prop where
  x0 : Blk wr w.heap.size 23 cfg
  x1 : Blk wr (w.heap.size + 1) 32 ws
  x2 : Blk wr (w.heap.size + 2) 40 #[.slice none 0 0, .slice none 0 0]
  xc : Blk wr gC 40 #[.slice (some ⟨gK, 0, none⟩) L L, .slice (some ⟨gV, 0, none⟩) L L]
  k : KV wr gK L t (offF w gK gV gC) A1 []
  v : KV wr gV L t (offF w gK gV gC) A2 []
  ne : w.heap.size + 2 < gK ∧ w.heap.size + 2 < gV ∧ w.heap.size + 2 < gC ∧ gK ≠ gV ∧ gK ≠ gC ∧ gV ≠ gC
  kp : Below w.heap.size w wr
theorem FI.below {w wr w' : World} {cfg ws : Array Value} {gC gK gV L t : Nat} {A1 A2 : List (List (List Int))} (h : FI w wr cfg ws gC gK gV L t A1 A2) (hb : Below wr.heap.size wr w') : FI w w' cfg ws gC gK gV L t A1 A2 :=
  ⟨h.x0.below hb, h.x1.below hb, h.x2.below hb, h.xc.below hb, h.k.below hb, h.v.below hb, h.ne, below_then h.kp hb⟩
theorem FI.next {w wr : World} {cfg ws : Array Value} {gC gK gV L t : Nat} {A1 A2 : List (List (List Int))} (h : FI w wr cfg ws gC gK gV L t A1 A2) (ht : t < L) {r1 r2 n : Nat} {vs1 vs2 : List Value} (hn : n ≤ 9223372036854775807) (N1 : Hangs (offF w gK gV gC) wr fun w => GridV w (some ⟨r1, 0, none⟩) n vs1 (A1.getD t [])) (N2 : Hangs (offF w gK gV gC) wr fun w => GridV w (some ⟨r2, 0, none⟩) n vs2 (A2.getD t [])) :
    FI w ((wr.setCell ⟨gK, t, none⟩ (.slice (some ⟨r1, 0, none⟩) n n)).setCell ⟨gV, t, none⟩ (.slice (some ⟨r2, 0, none⟩) n n)) cfg ws gC gK gV L (t + 1) A1 A2 := by
  obtain ⟨e1, e2, e3, e4, e5, e6⟩ := h.ne
  have pk : ¬ offF w gK gV gC gK := fun h => h.2.1 rfl
  have pv : ¬ offF w gK gV gC gV := fun h => h.2.2.1 rfl
  refine ⟨(h.x0.other (by show _ ≠ gK; omega) _).other (by show _ ≠ gV; omega) _, (h.x1.other (by show _ ≠ gK; omega) _).other (by show _ ≠ gV; omega) _, (h.x2.other (by show _ ≠ gK; omega) _).other (by show _ ≠ gV; omega) _, (h.xc.other (by show _ ≠ gK; omega) _).other (by show _ ≠ gV; omega) _, ?_, ?_, h.ne, ?_⟩
  · exact (h.k.step ht pk (fun h => by cases h) (Nat.le_refl _) hn N1).far (by show gV ≠ gK; omega) pv _
  · exact (h.v.far (by show gK ≠ gV; omega) pk _).step ht pv (fun h => by cases h) (Nat.le_refl _) hn (N2.set pk _)
  · exact (h.kp.setCell (p := ⟨gK, t, none⟩) (by show w.heap.size ≤ gK; omega) _).setCell (p := ⟨gV, t, none⟩) (by show w.heap.size ≤ gV; omega) _
theorem Hangs.setRowFar {p : Nat → Prop} {w : World} {Φ : World → Prop} (h : Hangs p w Φ) {g : Nat} (hg : ¬ p g) (cs : Array Value) : Hangs p (w.setRow g cs) Φ := h.row hg cs
end Go.Proofs.YtcanjlofnpnhkaaDoor

/- Package greedy: requests, ends, and the token that is liked best. -/
namespace Go.Proofs.YtcanjlofnpnhkaaDoor
open Go.ChangeShapes Go.WideShapes Go.ChangeAt Go.RowKit
/-- Is the last token the end? -/
def endB (A : List Int) : Bool := decide (0 < A.length) && decide (el A (A.length - 1) = 0)
def overB (A : List Int) (most : Int) : Bool := decide (most ≤ (A.length : Int)) || endB A
/-- The error's number of a request. -/
def askedN (V : Int) (A : List Int) (most : Int) : Int := if promptN V A ≠ 0 then promptN V A else if most < 1 then 1 else if 128 - (A.length : Int) < most then 2 else 0
theorem amax_pos (A : List Int) : ∀ k, 0 ≤ amax A (k + 1)
  | 0 => by simp [amax]
  | k + 1 => by
    have := amax_pos A k
    rw [amax]
    split <;> omega
end Go.Proofs.YtcanjlofnpnhkaaDoor

/- Package greedy: Run: what a model says behind a prompt. -/
namespace Go.Proofs.YtcanjlofnpnhkaaDoor
open Go.ChangeShapes Go.WideShapes Go.ChangeAt Go.RowKit
def noX : Vw := ⟨[], [], []⟩
/-- Behind j tokens of an answer: the view, the answer, and the tokens that the view lacks. -/
structure RunS where
  X : Vw
  Y : List Int
  T : List Int
def runS (M : Mdl) (V D H Hd L : Nat) (P : List Int) : Nat → RunS
  | 0 => ⟨noX, [], P⟩
  | j + 1 => ⟨feedAll M D H Hd L (runS M V D H Hd L P j).X (runS M V D H Hd L P j).T,
      (runS M V D H Hd L P j).Y ++ [amax (likAt M V D H Hd L (runS M V D H Hd L P j).X (runS M V D H Hd L P j).T (runS M V D H Hd L P j).T.length) V],
      [amax (likAt M V D H Hd L (runS M V D H Hd L P j).X (runS M V D H Hd L P j).T (runS M V D H Hd L P j).T.length) V]⟩
theorem runS_len (M : Mdl) (V D H Hd L : Nat) (P : List Int) : ∀ j, (runS M V D H Hd L P j).Y.length = j
  | 0 => rfl
  | j + 1 => by show (_ ++ [_]).length = _; rw [List.length_append, runS_len M V D H Hd L P j]; rfl
theorem runS_sum (M : Mdl) (V D H Hd L : Nat) (P : List Int) : ∀ j, (runS M V D H Hd L P j).X.T.length + (runS M V D H Hd L P j).T.length = P.length + j
  | 0 => by show 0 + P.length = _; omega
  | j + 1 => by
    show (feedAll M D H Hd L _ _).T.length + 1 = _
    rw [feedAll_len, runS_sum M V D H Hd L P j]
    omega
theorem amax_tok (A : List Int) {V : Nat} (hV : 1 ≤ V) : 0 ≤ amax A V ∧ amax A V < V := by
  obtain ⟨k, rfl⟩ : ∃ k, V = k + 1 := ⟨V - 1, by omega⟩
  exact ⟨amax_pos A k, (amax_bd A (k + 1)).2⟩
theorem noX_fit (V : Int) (D L : Nat) : VwFit V D L noX := ⟨by show 0 ≤ 128; omega, rfl, rfl, rfl, (fun _ h => by cases h), (fun _ h => by cases h)⟩
theorem runS_toks {M : Mdl} {V D H Hd L : Nat} {P : List Int} (hV : 1 ≤ V) (hP : promptN V P = 0) : ∀ j, promptN V (runS M V D H Hd L P j).T = 0
  | 0 => hP
  | j + 1 => by
    have h := amax_tok (likAt M V D H Hd L (runS M V D H Hd L P j).X (runS M V D H Hd L P j).T (runS M V D H Hd L P j).T.length) hV
    show promptN V [amax _ V] = 0
    unfold promptN
    rw [if_neg (by simp), if_neg (by simp)]
    have : List.all [amax (likAt M V D H Hd L (runS M V D H Hd L P j).X (runS M V D H Hd L P j).T (runS M V D H Hd L P j).T.length) (V : Nat)] (tokB V) = true := by
      simp only [List.all_cons, List.all_nil, Bool.and_true]
      unfold tokB
      exact decide_eq_true h
    rw [if_pos this]
theorem runS_fit {M : Mdl} {V D H Hd L : Nat} {P : List Int} (hV : 1 ≤ V) (hP : promptN V P = 0) : ∀ j, P.length + j ≤ 129 → VwFit V D L (runS M V D H Hd L P j).X
  | 0, _ => noX_fit _ _ _
  | j + 1, h => by
    have hs := runS_sum M V D H Hd L P j
    exact feedAll_fit (runS_fit hV hP j (by omega)) (prompt_ok (runS_toks hV hP j)).2.2 (by omega)
theorem asked_ok {V : Int} {A : List Int} {most : Int} (h : askedN V A most = 0) : promptN V A = 0 ∧ 1 ≤ most ∧ most ≤ 128 - (A.length : Int) := by
  unfold askedN at h
  split at h
  · rename_i h1; exact absurd h h1
  · rename_i h1
    split at h
    · omega
    · split at h
      · omega
      · exact ⟨by simpa using h1, by omega, by omega⟩
theorem over_not {A : List Int} {most : Int} (h : overB A most = false) : (A.length : Int) < most := by
  unfold overB at h
  rw [Bool.or_eq_false_iff] at h
  simpa using h.1
theorem one_int {w : World} {bo : Nat} {x : Int} (h : w.cell? ⟨bo, 0, none⟩ = some (.int .i64 x)) : ∀ j u, ([x].map (Value.int .i64))[j]? = some u → w.cell? ((Addr.mk bo 0 none).add j) = some u := by
  intro j u hj
  match j, hj with
  | 0, hj =>
    simp at hj
    subst hj
    have e2 : (Addr.mk bo 0 none).add 0 = ⟨bo, 0, none⟩ := by simp [Addr.add]
    rw [e2, h]
theorem iarg_one {w : World} {bo : Nat} {x : Int} (h : Blk w bo 3 #[.int .i64 x]) (h1 : -9223372036854775808 ≤ x) (h2 : x ≤ 9223372036854775807) : IArg w (some ⟨bo, 0, none⟩) 1 1 [x] := by
  refine ⟨⟨rfl, by omega, fun k => ?_, fun _ => ⟨bo, 0, rfl, fun t ht => ?_⟩⟩, by omega, by omega, fun h => by cases h⟩
  · cases k with
    | zero => exact ⟨h1, h2⟩
    | succ k => simp [el]
  · obtain rfl : t = 0 := by omega
    exact h.cell 0 rfl
theorem el_snoc_bd {A : List Int} {x : Int} (h : ∀ k, -9223372036854775808 ≤ el A k ∧ el A k ≤ 9223372036854775807) (h1 : -9223372036854775808 ≤ x) (h2 : x ≤ 9223372036854775807) (k : Nat) : -9223372036854775808 ≤ el (A ++ [x]) k ∧ el (A ++ [x]) k ≤ 9223372036854775807 := by
  rcases Nat.lt_or_ge k A.length with hk | hk
  · rw [el_append_left hk]; exact h k
  · unfold el
    rw [List.getD_eq_getElem?_getD, List.getElem?_append_right hk]
    rcases Nat.eq_zero_or_pos (k - A.length) with h0 | h0
    · rw [h0]; exact ⟨h1, h2⟩
    · rw [List.getElem?_eq_none (by simp; omega)]; simp
theorem runS_yb (M : Mdl) (V D H Hd L : Nat) (P : List Int) (hV : 1 ≤ V) (hV2 : V ≤ 4096) : ∀ (j k : Nat), -9223372036854775808 ≤ el (runS M V D H Hd L P j).Y k ∧ el (runS M V D H Hd L P j).Y k ≤ 9223372036854775807
  | 0, k => by
    have e : el (runS M V D H Hd L P 0).Y k = 0 := by show el [] k = 0; simp [el]
    rw [e]; omega
  | j + 1, k => by
    have ih := runS_yb M V D H Hd L P hV hV2 j
    have ht := amax_tok (likAt M V D H Hd L (runS M V D H Hd L P j).X (runS M V D H Hd L P j).T (runS M V D H Hd L P j).T.length) hV
    have e : (runS M V D H Hd L P (j + 1)).Y = (runS M V D H Hd L P j).Y ++ [amax (likAt M V D H Hd L (runS M V D H Hd L P j).X (runS M V D H Hd L P j).T (runS M V D H Hd L P j).T.length) V] := rfl
    rw [e]
    exact el_snoc_bd ih (by omega) (by omega) k
/-- Within Run: boxes, the view, the answer and the tokens behind j rounds. -/
structure RI (w wr : World) (V D H Hd L : Nat) (cfg ws : Array Value) (M : Mdl) (P : List Int) (gV j : Nat) (vv : VwV) (ya ta : Option Addr) (yc tn tc : Nat) : Prop where
  x0 : Blk wr w.heap.size 23 cfg
  x1 : Blk wr (w.heap.size + 1) 32 ws
  xv : Blk wr gV 42 vv.cells
  at_ : VwAt wr vv (runS M V D H Hd L P j).X
  y : IOwn wr (gV + 1) (.slice ya j yc) j (runS M V D H Hd L P j).Y
  t : IArg wr ta tn tc (runS M V D H Hd L P j).T
  kp : Below w.heap.size w wr
  gv : w.heap.size + 1 < gV
end Go.Proofs.YtcanjlofnpnhkaaDoor

/- THE CACHE: token by token the same comes out as from the beginning. -/
namespace Go.Proofs.YtcanjlofnpnhkaaDoor
open Go.ChangeShapes Go.WideShapes Go.ChangeAt Go.RowKit
theorem rowOf_left {R S : List (List Int)} {t : Nat} (h : t < R.length) : rowOf (R ++ S) t = rowOf R t := by
  unfold rowOf
  simp only [List.getD_eq_getElem?_getD, List.getElem?_append_left h]
theorem rowOf_last (R : List (List Int)) (x : List Int) : rowOf (R ++ [x]) R.length = x := by
  unfold rowOf
  simp
theorem madeR_snoc (L : Lay) (D H Hd : Nat) (R : List (List Int)) (x : List Int) : madeR L D H Hd (R ++ [x]) = madeR L D H Hd R ++ [oneR L D H Hd x (keysR L D R) (valsR L D R) R.length] := by
  have tk : ∀ i, i ≤ R.length → (keysR L D (R ++ [x])).take i = (keysR L D R).take i := fun i hi => by
    unfold keysR
    rw [List.map_append, List.take_append_of_le_length (by simpa using hi)]
  have tv : ∀ i, i ≤ R.length → (valsR L D (R ++ [x])).take i = (valsR L D R).take i := fun i hi => by
    unfold valsR
    rw [List.map_append, List.take_append_of_le_length (by simpa using hi)]
  unfold madeR
  rw [List.length_append, List.length_singleton, List.range_succ, List.map_append]
  congr 1
  · refine List.map_congr_left fun i hi => ?_
    have hi' : i < R.length := List.mem_range.1 hi
    rw [rowOf_left hi', tk i (by omega), tv i (by omega)]
  · have ek : (keysR L D R).take R.length = keysR L D R := List.take_of_length_le (by unfold keysR; simp)
    have ev : (valsR L D R).take R.length = valsR L D R := List.take_of_length_le (by unfold valsR; simp)
    simp only [List.map_cons, List.map_nil]
    rw [rowOf_last, tk _ (Nat.le_refl _), tv _ (Nat.le_refl _), ek, ev]
theorem begL_snoc (E : List Int) (D : Nat) (A : List Int) (t : Int) : begL E D (A ++ [t]) = begL E D A ++ [begR E D t.toNat A.length] := by
  unfold begL
  rw [List.length_append, List.length_singleton, List.range_succ, List.map_append]
  congr 1
  · refine List.map_congr_left fun i hi => ?_
    rw [el_append_left (List.mem_range.1 hi)]
  · simp only [List.map_cons, List.map_nil]
    have := el_append_right (A := A) (B := [t]) (k := 0)
    rw [Nat.add_zero] at this
    rw [this]
    rfl
/-- The lists of a view are what the layers make of its rows. -/
def Cached (M : Mdl) (D H Hd L : Nat) (X : Vw) (A : List Int) : Prop := X.T = A ∧ (∀ l, l < L → X.K.getD l [] = keysR (layAt M l) D (rowsL M D H Hd A l)) ∧ ∀ l, l < L → X.V.getD l [] = valsR (layAt M l) D (rowsL M D H Hd A l)
theorem rowsL_snoc {M : Mdl} {D H Hd L : Nat} {X : Vw} {A : List Int} (h : Cached M D H Hd L X A) (t : Int) : ∀ l, l ≤ L → rowsL M D H Hd (A ++ [t]) l = rowsL M D H Hd A l ++ [xRow M D H Hd A.length X.K X.V (begR M.E D t.toNat A.length) l]
  | 0, _ => begL_snoc M.E D A t
  | l + 1, hl => by
    have ih := rowsL_snoc h t l (by omega)
    show madeR (layAt M l) D H Hd (rowsL M D H Hd (A ++ [t]) l) = madeR (layAt M l) D H Hd (rowsL M D H Hd A l) ++ [oneR (layAt M l) D H Hd (xRow M D H Hd A.length X.K X.V (begR M.E D t.toNat A.length) l) (X.K.getD l []) (X.V.getD l []) A.length]
    rw [ih, madeR_snoc, rowsL_len, h.2.1 l (by omega), h.2.2 l (by omega)]
theorem cached_none (M : Mdl) (D H Hd L : Nat) : Cached M D H Hd L noX [] := by
  have e : ∀ l, rowsL M D H Hd [] l = [] := fun l => List.length_eq_zero_iff.1 (rowsL_len M D H Hd [] l)
  exact ⟨rfl, fun l _ => by rw [e]; rfl, fun l _ => by rw [e]; rfl⟩
theorem cached_feed {M : Mdl} {D H Hd L : Nat} {X : Vw} {A : List Int} (h : Cached M D H Hd L X A) {t : Int} (ht : 0 ≤ t) : Cached M D H Hd L (feedV M D H Hd L X t.toNat) (A ++ [t]) := by
  obtain ⟨rfl, h2, h3⟩ := h
  refine ⟨?_, fun l hl => ?_, fun l hl => ?_⟩
  · show X.T ++ [((t.toNat : Nat) : Int)] = X.T ++ [t]
    rw [Int.toNat_of_nonneg ht]
  · show (newK M D H Hd X.T.length L X.K X.V (begR M.E D t.toNat X.T.length)).getD l [] = _
    rw [newK_at _ _ _ _ _ _ _ _ _ hl, rowsL_snoc ⟨rfl, h2, h3⟩ t l (by omega), h2 l hl]
    unfold keysR
    rw [List.map_append]
    rfl
  · show (newV M D H Hd X.T.length L X.K X.V (begR M.E D t.toNat X.T.length)).getD l [] = _
    rw [newV_at _ _ _ _ _ _ _ _ _ hl, rowsL_snoc ⟨rfl, h2, h3⟩ t l (by omega), h3 l hl]
    unfold valsR
    rw [List.map_append]
    rfl
theorem cached_all {M : Mdl} {D H Hd L : Nat} (B : List Int) : ∀ {X : Vw} {A : List Int}, Cached M D H Hd L X A → (∀ x ∈ B, 0 ≤ x) → Cached M D H Hd L (feedAll M D H Hd L X B) (A ++ B) := by
  induction B with
  | nil => intro X A h _; rw [List.append_nil]; exact h
  | cons b B ih =>
    intro X A h hb
    have h1 := cached_feed h (hb b (List.mem_cons_self ..))
    have h2 := ih h1 fun x hx => hb x (List.mem_cons_of_mem _ hx)
    rw [List.append_assoc] at h2
    exact h2
theorem feedX_last {M : Mdl} {D H Hd L : Nat} {X : Vw} {A : List Int} (h : Cached M D H Hd L X A) (t : Int) : feedX M D H Hd L X t.toNat = rowOf (rowsL M D H Hd (A ++ [t]) L) A.length := by
  rw [rowsL_snoc h t L (Nat.le_refl _)]
  have := rowOf_last (rowsL M D H Hd A L) (xRow M D H Hd A.length X.K X.V (begR M.E D t.toNat A.length) L)
  rw [rowsL_len] at this
  rw [this]
  show xRow M D H Hd X.T.length X.K X.V (begR M.E D t.toNat X.T.length) L = _
  rw [h.1]
theorem fullX_last {M : Mdl} {V D H Hd L : Nat} {X : Vw} {A : List Int} (h : Cached M D H Hd L X A) (t : Int) : likR M V D (feedX M D H Hd L X t.toNat) = fullX M V D H Hd L (A ++ [t]) := by
  unfold fullX
  rw [feedX_last h t, List.length_append, List.length_singleton, Nat.add_sub_cancel]
end Go.Proofs.YtcanjlofnpnhkaaDoor

/- A model that was made fits, and reads as its seed's numbers. -/
namespace Go.Proofs.YtcanjlofnpnhkaaDoor
open Go.ChangeShapes Go.WideShapes Go.ChangeAt Go.RowKit
def layS (seed i D H : Nat) : Lay := ⟨gainR seed i D, numR seed (i + D) (D * D) 65536, numR seed (i + D + D * D) (D * D) 65536, numR seed (i + D + D * D + D * D) (D * D) 65536, numR seed (i + D + D * D + D * D + D * D) (D * D) 65536, gainR seed (i + D + D * D + D * D + D * D + D * D) D, numR seed (i + D + D * D + D * D + D * D + D * D + D) (H * D) 65536, numR seed (i + D + D * D + D * D + D * D + D * D + D + H * D) (D * H) 65536⟩
/-- The numbers of a seed. -/
def mdlS (seed V D H L : Nat) : Mdl := ⟨numR seed 0 (V * D) 131072, (List.range L).map fun t => layS seed (V * D + t * lenB D H) D H, gainR seed (V * D + L * lenB D H) D, numR seed (V * D + L * lenB D H + D) (V * D) 65536⟩
theorem Fresh.slAt {w : World} {B g n : Nat} {A : List Int} (h : Fresh w B g n n A) : SlAt w (rs g n) n A := ⟨rfl, h.arg⟩
theorem Fresh.mtAt {w : World} {B g r c : Nat} {A : List Int} (h : Fresh w B g (r * c) (r * c) A) (h1 : 1 ≤ r) (h2 : r ≤ 128) (h3 : 1 ≤ c) (h4 : c ≤ 128) : MtAt w ⟨r, c, rs g (r * c)⟩ r c A :=
  ⟨g, 0, r * c, r * c, rfl, h1, h2, h3, h4, rfl, Nat.le_refl _, h.max, h.rowAt⟩
theorem MadeB.bkAt {w : World} {B seed i D H f q k v o s u d : Nat} (h : MadeB w B seed i D H f q k v o s u d) (h1 : 1 ≤ D) (h2 : D ≤ 128) (h3 : 1 ≤ H) (h4 : H ≤ 128) : BkAt w D H (mkB D H f q k v o s u d) (layS seed i D H) :=
  ⟨h.f.slAt, h.q.mtAt h1 h2 h1 h2, h.k.mtAt h1 h2 h1 h2, h.v.mtAt h1 h2 h1 h2, h.o.mtAt h1 h2 h1 h2, h.s.slAt, h.u.mtAt h3 h4 h1 h2, h.d.mtAt h1 h2 h3 h4⟩
theorem made_good {w : World} {B seed V D Hd H L ge gB gl go : Nat} (h : MadeW w B seed V D H L ge gB gl go) (hs : shapeN V D Hd H L = 0) : ∃ bs, Good w V D Hd H L (mkW V D L ge gB gl go) bs (mdlS seed V D H L) := by
  have hk := shape_ok hs
  obtain ⟨bs, ML⟩ := madeL_of L h.bs
  have BL := ML.blocks (by omega) (by omega) (by omega)
  have hl : bs.length = L := ML.len
  refine ⟨bs, ⟨⟨?_, BL, by unfold mdlS; simp [hl], fun t x hx => ?_, ?_, ?_⟩, mkW_ok (by omega) (by omega), hl, hs, ?_⟩⟩
  · exact h.e.mtAt (by omega) (by omega) (by omega) (by omega)
  · obtain ⟨_, f, q, k, v, o, s, u, d, rfl, m⟩ := ML.at_ t x hx
    have ht : t < L := by rw [← hl]; exact (List.getElem?_eq_some_iff.1 hx).1
    refine ⟨layS seed (V * D + t * lenB D H) D H, ?_, m.bkAt (by omega) (by omega) (by omega) (by omega)⟩
    unfold mdlS
    simp only [List.getElem?_map, List.getElem?_range ht]
    rfl
  · exact h.l.slAt
  · exact h.o.mtAt (by omega) (by omega) (by omega) (by omega)
  · exact made_fits (C := ⟨V, D, Hd, H, L⟩) ML rfl rfl rfl rfl hs
end Go.Proofs.YtcanjlofnpnhkaaDoor

/- The awake check of the laws of layer 10 is true. -/
namespace Go.Proofs.YtcanjlofnpnhkaaDoor
open Go.ChangeShapes Go.WideShapes Go.ChangeAt Go.RowKit
theorem wt_one (W : Wt) : W.cells.all (·.oneCell') = true := by simp [Wt.cells, Sl.v, Value.oneCell']
theorem make_small (w : World) : Calls Tryd.prog 6 #[.agg #[.int .i64 2, .int .i64 1, .int .i64 1, .int .i64 1, .int .i64 1], .int .u64 1] w fun e w' => ∃ W bs M, e = .returned (.tuple #[.agg (Wt.cells W), .int .i64 0]) ∧ Good w' 2 1 1 1 1 W bs M ∧ Below w.heap.size w w' := by
  refine (make_any 2 1 1 1 1 1 w (by omega) (by decide)).mono ?_
  rintro e w' ⟨ge, gB, gl, go, rfl, M, B⟩
  obtain ⟨bs, G⟩ := made_good (Hd := 1) M (by decide)
  exact ⟨_, bs, _, rfl, G, B⟩
/-- An answer of one token. -/
theorem run_one {M : Mdl} {V D H Hd L : Nat} {P : List Int} {j : Nat} (h1 : overB (runS M V D H Hd L P j).Y 1 = true) (h2 : ∀ i, i < j → overB (runS M V D H Hd L P i).Y 1 = false) : j = 1 := by
  rcases Nat.lt_trichotomy j 1 with h | h | h
  · obtain rfl : j = 0 := by omega
    have e : (runS M V D H Hd L P 0).Y = [] := rfl
    rw [e] at h1
    exact absurd h1 (by decide)
  · exact h
  · have := over_not (h2 1 h)
    rw [runS_len] at this
    omega
end Go.Proofs.YtcanjlofnpnhkaaDoor

/- The awake check of the laws of layer 9 is true. -/
namespace Go.Proofs.YtcanjlofnpnhkaaDoor
open Go.ChangeShapes Go.WideShapes Go.ChangeAt Go.RowKit
theorem noV_at (w : World) : VwAt w ⟨⟨none, 0, 0⟩, ⟨none, 0, 0⟩, ⟨none, 0, 0⟩⟩ noX := ⟨iarg_nil _, ⟨rfl, by show 0 ≤ _; omega, fun h => absurd (show 0 < 0 from h) (by omega)⟩, ⟨rfl, by show 0 ≤ _; omega, fun h => absurd (show 0 < 0 from h) (by omega)⟩⟩
end Go.Proofs.YtcanjlofnpnhkaaDoor

/- Package step: the first rows of lists. -/
namespace Go.Proofs.YtcanjlofnpnhkaaDoor
open Go.ChangeShapes Go.WideShapes Go.ChangeAt Go.RowKit
theorem rowOf_take9 {R : List (List Int)} {m t : Nat} (h : t < m) : rowOf (R.take m) t = rowOf R t := by
  unfold rowOf
  rw [List.getD_eq_getElem?_getD, List.getD_eq_getElem?_getD, List.getElem?_take_of_lt h]
theorem GridAt.take {w : World} {ao : Option Addr} {n : Nat} {R : List (List Int)} (h : GridAt w ao n R) {m : Nat} (hm : m ≤ n) : GridAt w ao m (R.take m) := by
  have hl := h.len
  have hx := h.max
  refine ⟨by rw [List.length_take]; omega, by omega, fun h0 => ?_⟩
  obtain ⟨b, o, e, hc⟩ := h.cells (by omega)
  refine ⟨b, o, e, fun t ht => ?_⟩
  rw [rowOf_take9 ht]
  exact hc t (by omega)
theorem Lists.cube {w : World} {g m : Nat} {C : List (List (List Int))} (h : Lists w g m m C) (hl : C.length = m) (hm : m ≤ 4096) {B : Nat} (hB : B ≤ g) : New B w (fun w => CubeAt w (some ⟨g, 0, none⟩) m C) := by
  have hlt := h.lt
  obtain ⟨cs, h1, hsz, h3⟩ := h.row
  intro w2 h2
  have hg := (h2 g hB hlt).trans h1
  refine ⟨hl, by omega, fun _ => ⟨g, 0, rfl, fun t R hR => ?_⟩⟩
  have htm : t < m := by rw [← hl]; exact (List.getElem?_eq_some_iff.1 hR).1
  obtain ⟨ro, n, vs, e, h4, N⟩ := h3 t R htm hR
  have GV := N w2 fun b hb hb2 => h2 b (Nat.le_trans (by omega) hb) hb2
  refine ⟨ro, n, n, ?_, h4, Nat.le_refl _, GV.max, GV.grid⟩
  rw [Nat.zero_add]
  unfold World.cell?
  simp only [hg]
  exact e
/-- The view of the first n tokens. -/
def cutV (X : Vw) (n : Nat) : Vw := ⟨X.T.take n, X.K.map (List.take n), X.V.map (List.take n)⟩
end Go.Proofs.YtcanjlofnpnhkaaDoor

/- An answer, token by token: what is fed in parts is what is fed at once. -/
namespace Go.Proofs.YtcanjlofnpnhkaaDoor
open Go.ChangeShapes Go.WideShapes Go.ChangeAt Go.RowKit
theorem feedAll_append (M : Mdl) (D H Hd L : Nat) (X : Vw) (A B : List Int) : feedAll M D H Hd L X (A ++ B) = feedAll M D H Hd L (feedAll M D H Hd L X A) B := by
  unfold feedAll
  rw [List.foldl_append]
theorem lik_split (M : Mdl) (V D H Hd L : Nat) (Q T : List Int) (hT : T ≠ []) : likAt M V D H Hd L (feedAll M D H Hd L noX Q) T T.length = likAt M V D H Hd L noX (Q ++ T) (Q ++ T).length := by
  obtain ⟨m, hm⟩ : ∃ m, T.length = m + 1 := ⟨T.length - 1, by have := List.length_pos_iff.2 hT; omega⟩
  have h2 : (Q ++ T).length = (Q.length + m) + 1 := by rw [List.length_append, hm]; omega
  rw [hm, h2]
  show likR M V D (feedX M D H Hd L (feedAll M D H Hd L (feedAll M D H Hd L noX Q) (T.take m)) (el T m).toNat) = likR M V D (feedX M D H Hd L (feedAll M D H Hd L noX ((Q ++ T).take (Q.length + m))) (el (Q ++ T) (Q.length + m)).toNat)
  have et : (Q ++ T).take (Q.length + m) = Q ++ T.take m := by rw [List.take_append, List.take_of_length_le (by omega : Q.length ≤ Q.length + m), Nat.add_sub_cancel_left]
  rw [el_append_right, et, ← feedAll_append]
/-- The token that is liked best behind a row of them. -/
def nextT (M : Mdl) (V D H Hd L : Nat) (A : List Int) : Int := amax (likAt M V D H Hd L noX A A.length) V
def runY (M : Mdl) (V D H Hd L : Nat) (P : List Int) : Nat → List Int
  | 0 => []
  | j + 1 => runY M V D H Hd L P j ++ [nextT M V D H Hd L (P ++ runY M V D H Hd L P j)]
theorem runS_inv (M : Mdl) (V D H Hd L : Nat) (P : List Int) (hP : P ≠ []) : ∀ j, (runS M V D H Hd L P j).Y = runY M V D H Hd L P j ∧ (runS M V D H Hd L P j).T ≠ [] ∧ ∃ Q, (runS M V D H Hd L P j).X = feedAll M D H Hd L noX Q ∧ Q ++ (runS M V D H Hd L P j).T = P ++ (runS M V D H Hd L P j).Y
  | 0 => ⟨rfl, hP, [], rfl, by show [] ++ P = P ++ []; simp⟩
  | j + 1 => by
    obtain ⟨h1, h2, Q, h3, h4⟩ := runS_inv M V D H Hd L P hP j
    have e : likAt M V D H Hd L (runS M V D H Hd L P j).X (runS M V D H Hd L P j).T (runS M V D H Hd L P j).T.length = likAt M V D H Hd L noX (P ++ runY M V D H Hd L P j) (P ++ runY M V D H Hd L P j).length := by
      rw [h3, lik_split M V D H Hd L Q _ h2, h4, h1]
    have eY : (runS M V D H Hd L P (j + 1)).Y = runY M V D H Hd L P j ++ [nextT M V D H Hd L (P ++ runY M V D H Hd L P j)] := by
      show (runS M V D H Hd L P j).Y ++ [amax _ V] = _
      rw [e, h1]
      rfl
    have eT : (runS M V D H Hd L P (j + 1)).T = [nextT M V D H Hd L (P ++ runY M V D H Hd L P j)] := by
      show [amax _ V] = _
      rw [e]
      rfl
    refine ⟨eY, by rw [eT]; simp, P ++ runY M V D H Hd L P j, ?_, ?_⟩
    · show feedAll M D H Hd L (runS M V D H Hd L P j).X (runS M V D H Hd L P j).T = _
      rw [h3, ← feedAll_append, h4, h1]
    · rw [eT, eY, List.append_assoc]
theorem runY_len (M : Mdl) (V D H Hd L : Nat) (P : List Int) : ∀ j, (runY M V D H Hd L P j).length = j
  | 0 => rfl
  | j + 1 => by
    show (runY M V D H Hd L P j ++ [nextT M V D H Hd L (P ++ runY M V D H Hd L P j)]).length = _
    rw [List.length_append, runY_len M V D H Hd L P j]
    rfl
theorem runY_take (M : Mdl) (V D H Hd L : Nat) (P : List Int) (n : Nat) : ∀ i, (runY M V D H Hd L P (n + i)).take n = runY M V D H Hd L P n
  | 0 => by rw [Nat.add_zero]; exact List.take_of_length_le (by rw [runY_len]; omega)
  | i + 1 => by
    show (runY M V D H Hd L P (n + i) ++ [_]).take n = _
    rw [List.take_append_of_le_length (by rw [runY_len]; omega)]
    exact runY_take M V D H Hd L P n i
theorem runY_shift (M : Mdl) (V D H Hd L : Nat) (P : List Int) (n : Nat) : ∀ i, runY M V D H Hd L (P ++ runY M V D H Hd L P n) i = (runY M V D H Hd L P (n + i)).drop n
  | 0 => by rw [Nat.add_zero, List.drop_of_length_le (by rw [runY_len]; omega)]; rfl
  | i + 1 => by
    have ih := runY_shift M V D H Hd L P n i
    show runY M V D H Hd L (P ++ runY M V D H Hd L P n) i ++ [_] = (runY M V D H Hd L P (n + i) ++ [_]).drop n
    rw [List.drop_append_of_le_length (by rw [runY_len]; omega), ih]
    have e : P ++ runY M V D H Hd L P n ++ (runY M V D H Hd L P (n + i)).drop n = P ++ runY M V D H Hd L P (n + i) := by
      rw [List.append_assoc, ← runY_take M V D H Hd L P n i, List.take_append_drop]
    rw [e]
    rfl
theorem runY_toks (M : Mdl) {V D H Hd L : Nat} (hV : 1 ≤ V) (P : List Int) : ∀ j, (runY M V D H Hd L P j).all (tokB V) = true
  | 0 => rfl
  | j + 1 => by
    show (runY M V D H Hd L P j ++ [_]).all (tokB V) = true
    rw [List.all_append, runY_toks M hV P j, Bool.true_and]
    simp only [List.all_cons, List.all_nil, Bool.and_true]
    unfold tokB nextT
    exact decide_eq_true (amax_tok _ hV)
/-- The answer's length: the first at which it is over. -/
theorem run_first {M : Mdl} {V D H Hd L : Nat} {P : List Int} {most n : Int} {j : Nat} (h2 : ∀ i, i < j → overB (runY M V D H Hd L P i) most = false) {m : Nat} (hn : n = m) (hm : m ≤ j) {i : Nat} (k1 : overB (runY M V D H Hd L P i) n = true) (k2 : ∀ t, t < i → overB (runY M V D H Hd L P t) n = false) : i = m := by
  have e : ∀ t, t < m → overB (runY M V D H Hd L P t) n = false := fun t ht => by
    have := h2 t (by omega)
    unfold overB at this ⊢
    rw [Bool.or_eq_false_iff] at this ⊢
    exact ⟨decide_eq_false (by rw [runY_len]; omega), this.2⟩
  have e2 : overB (runY M V D H Hd L P m) n = true := by unfold overB; rw [decide_eq_true (by rw [runY_len]; omega)]; rfl
  rcases Nat.lt_trichotomy i m with h | h | h
  · rw [e i h] at k1; cases k1
  · exact h
  · rw [k2 m h] at e2; cases e2
/-- The end of an answer that was gone on from. -/
theorem over_drop {M : Mdl} {V D H Hd L : Nat} {P : List Int} {most : Int} {n i : Nat} (hi : 1 ≤ i) : overB ((runY M V D H Hd L P (n + i)).drop n) (most - n) = overB (runY M V D H Hd L P (n + i)) most := by
  have hl : ((runY M V D H Hd L P (n + i)).drop n).length = i := by rw [List.length_drop, runY_len]; omega
  have hl2 := runY_len M V D H Hd L P (n + i)
  unfold overB endB
  rw [hl, hl2, el_drop]
  have e1 : decide (most - (n : Int) ≤ (i : Int)) = decide (most ≤ ((n + i : Nat) : Int)) := by
    by_cases h : most - (n : Int) ≤ (i : Int)
    · rw [decide_eq_true h, decide_eq_true (by omega)]
    · rw [decide_eq_false h, decide_eq_false (by omega)]
  rw [e1, decide_eq_true (by omega : 0 < i), decide_eq_true (by omega : 0 < n + i), show n + (i - 1) = n + i - 1 by omega]
end Go.Proofs.YtcanjlofnpnhkaaDoor

/- The cut of a view of tokens is the view of the first ones. -/
namespace Go.Proofs.YtcanjlofnpnhkaaDoor
theorem map_take_getD {C E : List (List (List Int))} {L n : Nat} (h1 : C.length = L) (h2 : E.length = L) (h : ∀ l, l < L → (E.getD l []).take n = (C.getD l []).take n) : E.map (List.take n) = C.map (List.take n) := by
  apply List.ext_getElem?
  intro i
  rw [List.getElem?_map, List.getElem?_map]
  by_cases hi : i < L
  · have := h i hi
    rw [List.getD_eq_getElem?_getD, List.getD_eq_getElem?_getD, List.getElem?_eq_getElem (by omega), List.getElem?_eq_getElem (by omega)] at this
    rw [List.getElem?_eq_getElem (by omega), List.getElem?_eq_getElem (by omega)]
    simpa using this
  · rw [List.getElem?_eq_none (by omega), List.getElem?_eq_none (by omega)]
theorem cut_feed {M : Mdl} {V D H Hd L : Nat} {X : Vw} {tok n : Nat} (hf : VwFit V D L X) (h1 : 1 ≤ n) (hn : n ≤ X.T.length) : cutV (feedV M D H Hd L X tok) n = cutV X n := by
  have kl : ∀ l, l < L → (X.K.getD l []).length = X.T.length ∧ ∀ t, t < X.T.length → (rowOf (X.K.getD l []) t).length = D := fun l h => fit_list hf.k hf.ks h
  have vl : ∀ l, l < L → (X.V.getD l []).length = X.T.length ∧ ∀ t, t < X.T.length → (rowOf (X.V.getD l []) t).length = D := fun l h => fit_list hf.v hf.vs h
  have hk : X.K.length = L := by rw [hf.k, if_neg (by omega)]
  have hv : X.V.length = L := by rw [hf.v, if_neg (by omega)]
  unfold cutV feedV
  simp only [Vw.mk.injEq]
  refine ⟨List.take_append_of_le_length hn, map_take_getD hk (by unfold newK; simp) fun l hl => ?_, map_take_getD hv (by unfold newV; simp) fun l hl => ?_⟩
  · unfold newK
    rw [List.getD_eq_getElem?_getD, List.getElem?_map, List.getElem?_range hl]
    exact List.take_append_of_le_length (by rw [(kl l hl).1]; exact hn)
  · unfold newV
    rw [List.getD_eq_getElem?_getD, List.getElem?_map, List.getElem?_range hl]
    exact List.take_append_of_le_length (by rw [(vl l hl).1]; exact hn)
theorem cut_all {M : Mdl} {V D H Hd L n : Nat} (h1 : 1 ≤ n) {A : List Int} : ∀ {X : Vw}, VwFit V D L X → A.all (tokB V) = true → X.T.length + A.length ≤ 128 → n ≤ X.T.length → cutV (feedAll M D H Hd L X A) n = cutV X n := by
  induction A with
  | nil => intro X hf _ _ _; rfl
  | cons a A ih =>
    intro X hf ha hl hn
    simp only [List.all_cons, Bool.and_eq_true] at ha
    simp only [List.length_cons] at hl
    have ht : 0 ≤ a ∧ a < V := by have := ha.1; unfold tokB at this; simpa using this
    show cutV (feedAll M D H Hd L (feedV M D H Hd L X a.toNat) A) n = _
    rw [ih (fit_feed hf (by omega) (by omega)) ha.2 (by unfold feedV; simp; omega) (by unfold feedV; simp; omega)]
    exact cut_feed hf h1 hn
theorem cut_whole {V D L : Nat} {X : Vw} (hf : VwFit V D L X) : cutV X X.T.length = X := by
  have hm : ∀ {C : List (List (List Int))}, (∀ R ∈ C, R.length = X.T.length ∧ ∀ t, t < X.T.length → (rowOf R t).length = D) → C.map (List.take X.T.length) = C := fun {C} h => by
    have : C.map (List.take X.T.length) = C.map id := List.map_congr_left fun R hR => List.take_of_length_le (by rw [(h R hR).1]; exact Nat.le_refl _)
    rw [this, List.map_id]
  obtain ⟨T, K, W⟩ := X
  unfold cutV
  simp only [Vw.mk.injEq] at *
  exact ⟨List.take_of_length_le (Nat.le_refl _), hm hf.ks, hm hf.vs⟩
/-- The cut of the view of P at n is the view of the first n of P. -/
theorem cut_feedAll {M : Mdl} {V D H Hd L n : Nat} {P : List Int} (h1 : 1 ≤ n) (hn : n ≤ P.length) (hP : P.all (tokB V) = true) (hl : P.length ≤ 128) (hf : VwFit V D L noX) : cutV (feedAll M D H Hd L noX P) n = feedAll M D H Hd L noX (P.take n) := by
  have ha : (P.take n).all (tokB V) = true ∧ (P.drop n).all (tokB V) = true := by
    have := hP
    rw [← List.take_append_drop n P, List.all_append, Bool.and_eq_true] at this
    exact this
  have l1 : (P.take n).length = n := by rw [List.length_take]; omega
  have l2 : (P.drop n).length = P.length - n := List.length_drop
  have hfn : VwFit V D L (feedAll M D H Hd L noX (P.take n)) := feedAll_fit hf ha.1 (by show 0 + _ ≤ _; omega)
  have hlen : (feedAll M D H Hd L noX (P.take n)).T.length = n := by rw [feedAll_len]; show 0 + _ = _; omega
  have e : feedAll M D H Hd L noX P = feedAll M D H Hd L (feedAll M D H Hd L noX (P.take n)) (P.drop n) := by rw [← feedAll_append, List.take_append_drop]
  rw [e, cut_all h1 hfn ha.2 (by omega) (by omega)]
  have := cut_whole hfn
  rw [hlen] at this
  exact this
end Go.Proofs.YtcanjlofnpnhkaaDoor

/- What is fed one by one is what is made from the beginning: the views, as lists; a small view is told whole. -/
namespace Go.Proofs.YtcanjlofnpnhkaaDoor
theorem rows_whole {R : List (List Int)} {D : Nat} (h1 : R.length ≤ 130) (hD : D ≤ 40) (h2 : ∀ t, t < R.length → (rowOf R t).length = D) : rowsN R 130 = R := by
  unfold rowsN
  rw [List.take_of_length_le h1]
  apply List.ext_getElem?
  intro i
  rw [List.getElem?_map]
  by_cases hi : i < R.length
  · have := h2 i hi
    unfold rowOf at this
    rw [List.getD_eq_getElem?_getD, List.getElem?_eq_getElem hi] at this
    rw [List.getElem?_eq_getElem hi]
    simp only [Option.getD_some] at this
    simp only [Option.map_some, Option.some.injEq]
    exact List.take_of_length_le (by omega)
  · rw [List.getElem?_eq_none (by omega)]; rfl
theorem fit_whole {V : Int} {D L : Nat} {X : Vw} (hf : VwFit V D L X) (hD : D ≤ 40) : (∀ R ∈ X.K, rowsN R 130 = R) ∧ ∀ R ∈ X.V, rowsN R 130 = R := by
  have hm := hf.most
  exact ⟨fun R hR => rows_whole (by rw [(hf.ks R hR).1]; omega) hD (fun t ht => (hf.ks R hR).2 t (by rw [← (hf.ks R hR).1]; exact ht)), fun R hR => rows_whole (by rw [(hf.vs R hR).1]; omega) hD (fun t ht => (hf.vs R hR).2 t (by rw [← (hf.vs R hR).1]; exact ht))⟩
theorem list_eq {C E : List (List (List Int))} {L : Nat} (h1 : C.length = L) (h2 : E.length = L) (h : ∀ l, l < L → C.getD l [] = E.getD l []) : C = E := by
  apply List.ext_getElem?
  intro i
  by_cases hi : i < L
  · have := h i hi
    rw [List.getD_eq_getElem?_getD, List.getD_eq_getElem?_getD, List.getElem?_eq_getElem (by omega), List.getElem?_eq_getElem (by omega)] at this
    rw [List.getElem?_eq_getElem (by omega), List.getElem?_eq_getElem (by omega)]
    simpa using this
  · rw [List.getElem?_eq_none (by omega), List.getElem?_eq_none (by omega)]
/-- The view of P, fed one by one, holds the lists that are made from the beginning. -/
theorem feed_full {M : Mdl} {V D H Hd L : Nat} {P : List Int} (hP : P.all (tokB V) = true) (h0 : 1 ≤ P.length) (hl : P.length ≤ 128) (hf : VwFit V D L noX) :
    (feedAll M D H Hd L noX P).T = P ∧ (feedAll M D H Hd L noX P).K = fullK M D H Hd L P ∧ (feedAll M D H Hd L noX P).V = fullV M D H Hd L P := by
  have hc : Cached M D H Hd L (feedAll M D H Hd L noX P) ([] ++ P) := cached_all P (cached_none M D H Hd L) fun x hx => by
    have := List.all_eq_true.1 hP x hx
    unfold tokB at this
    have : 0 ≤ x ∧ x < V := by simpa using this
    exact this.1
  rw [List.nil_append] at hc
  have hfn : VwFit V D L (feedAll M D H Hd L noX P) := feedAll_fit hf hP (by show 0 + _ ≤ _; omega)
  have hlen : (feedAll M D H Hd L noX P).T.length = P.length := by rw [hc.1]
  refine ⟨hc.1, list_eq (by rw [hfn.k, if_neg (by omega)]) (by unfold fullK; simp) fun l h => ?_, list_eq (by rw [hfn.v, if_neg (by omega)]) (by unfold fullV; simp) fun l h => ?_⟩
  · rw [hc.2.1 l h]
    unfold fullK
    rw [List.getD_eq_getElem?_getD, List.getElem?_map, List.getElem?_range h]
    rfl
  · rw [hc.2.2 l h]
    unfold fullV
    rw [List.getD_eq_getElem?_getD, List.getElem?_map, List.getElem?_range h]
    rfl
end Go.Proofs.YtcanjlofnpnhkaaDoor

/- Feed at any token, Copy as a view, and how a new view's lists may be written over. -/
namespace Go.Proofs.YtcanjlofnpnhkaaDoor
open Go.ChangeShapes Go.WideShapes Go.ChangeAt Go.RowKit
theorem var3s (w : World) (T : TypeId) (z row : Array Value) : Blk (w.alloc (.cells z T)) w.heap.size T z ∧ Blk ((w.alloc (.cells z T)).setRow w.heap.size row) w.heap.size T row ∧ Below w.heap.size w ((w.alloc (.cells z T)).setRow w.heap.size row) ∧ ((w.alloc (.cells z T)).setRow w.heap.size row).heap.size = w.heap.size + 1 :=
  ⟨blk_new w T z, (blk_new w T z).row row, below_setRow ((Below.refl _ _).alloc (Nat.le_refl _) _) (Nat.le_refl _) _, by simp⟩
/-- How new lists of lists of numbers lie, from any place on. -/
def SkelA (B : Nat) (w : World) (ao : Option Addr) (L n D : Nat) : Prop := ∀ l, l < L → ∃ g o gl ol cl, ao = some ⟨g, o, none⟩ ∧ w.cell? ⟨g, o + l, none⟩ = some (.slice (some ⟨gl, ol, none⟩) n cl) ∧ ∀ i, i < n → ∃ rb ro rc, w.cell? ⟨gl, ol + i, none⟩ = some (.slice (some ⟨rb, ro, none⟩) D rc) ∧ ∀ j, j < D → ∃ x, w.cell? ⟨rb, ro + j, none⟩ = some (.int .i32 x) ∧ I32 x ∧ w.frozen? ⟨rb, ro + j, none⟩ = false ∧ B ≤ rb
theorem skelA_new {B : Nat} {w : World} {ao : Option Addr} {L n D : Nat} {C : List (List (List Int))} (h : New B w (fun w => CubeAt w ao L C)) (hC : ∀ R ∈ C, R.length = n ∧ ∀ i, i < n → (rowOf R i).length = D) (hn : 1 ≤ n) (h1 : 1 ≤ D) : SkelA B w ao L n D := by
  have h2 : CubeAt (wiped w B) ao L C := h _ fun b hb _ => wiped_far w B hb
  intro l hl
  obtain ⟨b, o, e, hc⟩ := h2.cells (by omega)
  have hlen := h2.len
  have hl' : l < C.length := by omega
  obtain ⟨ro, m, c, k1, k2, k3, k4, k5⟩ := hc l _ (List.getElem?_eq_getElem hl')
  obtain ⟨f1, f2⟩ := hC _ (List.getElem_mem hl')
  have hm : m = n := by rw [← f1]; exact k5.len.symm
  subst hm
  obtain ⟨b1, o1, rfl, hr⟩ := k5.cells (by omega)
  refine ⟨b, o, b1, o1, c, e, wiped_cell w B k1, fun i hi => ?_⟩
  obtain ⟨r2, m2, c2, q1, q2⟩ := hr i hi
  have hm2 : m2 = D := by rw [← f2 i hi]; exact q2.row.len.symm
  subst hm2
  obtain ⟨b2, o2, rfl, hx⟩ := q2.row.cells (by omega)
  refine ⟨b2, o2, c2, wiped_cell w B q1, fun j hj => ?_⟩
  have c1 := hx j hj
  have hb2 : B ≤ b2 := by simpa using wiped_near w B c1
  refine ⟨_, wiped_cell w B c1, q2.row.small.el j, ?_, hb2⟩
  rw [← frozen_of_block (wiped_far w B hb2)]
  exact q2.cold b2 o2 rfl j hj
theorem SkelA.below {B : Nat} {w w' : World} {ao : Option Addr} {L n D : Nat} (h : SkelA B w ao L n D) (hb : Below w.heap.size w w') : SkelA B w' ao L n D := fun l hl => by
  obtain ⟨g, o, gl, ol, cl, e0, e, h2⟩ := h l hl
  refine ⟨g, o, gl, ol, cl, e0, cell_keep e hb, fun i hi => ?_⟩
  obtain ⟨rb, ro, rc, e2, h3⟩ := h2 i hi
  refine ⟨rb, ro, rc, cell_keep e2 hb, fun j hj => ?_⟩
  obtain ⟨x, e3, hx, hf, hB⟩ := h3 j hj
  have hlt : rb < w.heap.size := by simpa using World.block_lt_of_cell? w _ e3
  exact ⟨x, cell_keep e3 hb, hx, by rw [frozen_of_block (hb.block rb hlt)]; exact hf, hB⟩
theorem KV.cubeC {w : World} {g m : Nat} {p : Nat → Prop} {A C : List (List (List Int))} (h : KV w g m 0 p A C) (hl : C.length = m) (hm : m ≤ 9223372036854775807) (hr : ∀ R ∈ C, R.length ≤ 4096) : CubeAt w (some ⟨g, 0, none⟩) m C := by
  obtain ⟨cs, h1, h2, _, h4⟩ := h.row
  refine ⟨hl, hm, fun _ => ⟨g, 0, rfl, fun t R hR => ?_⟩⟩
  have ht : t < m := by have := (List.getElem?_eq_some_iff.1 hR).1; omega
  obtain ⟨ro, n, vs, e, q1, N⟩ := h4 t (by omega) ht
  have e2 : C.getD t [] = R := by rw [List.getD_eq_getElem?_getD, hR]; rfl
  rw [e2] at N
  have G := N.now.grid
  have hl2 := hr R (List.mem_of_getElem? hR)
  have hn := G.len
  refine ⟨ro, n, n, ?_, q1, Nat.le_refl _, by omega, G⟩
  rw [Nat.zero_add]
  unfold World.cell?
  simp only [h1]
  exact e
theorem tok_small9 {V : Nat} {A : List Int} (hV : V ≤ 64) (h : A.all (tokB V) = true) : ∀ k, -9223372036854775808 ≤ el A k ∧ el A k ≤ 9223372036854775807 := fun k => by
  rcases Nat.lt_or_ge k A.length with h9 | h9
  · have := all_el h9 h
    unfold tokB at this
    have : 0 ≤ el A k ∧ el A k < V := by simpa using this
    omega
  · rw [el_over h9]; omega
/-- Copy, as a view. -/
theorem scopyV_any (V D L : Nat) (v : VwV) (X : Vw) (w : World) (hv : VwAt w v X) (hf : VwFit V D L X) (hV : V ≤ 64) (hD : D ≤ 32) (hL : L ≤ 4) :
   Calls Tryd.prog 47 #[.agg v.cells] w fun e w' => ∃ v2 : VwV, e = .returned (.agg v2.cells) ∧ VwAt w' v2 X ∧ Below w.heap.size w w' := by
  have hm := hf.most
  have hk := hf.k
  have hvl := hf.v
  have kl : X.K.length ≤ 4 := by rw [hk]; split <;> omega
  have vl : X.V.length ≤ 4 := by rw [hvl]; split <;> omega
  refine (scopy_any v X [] [] w hv (by omega) (by omega) (by omega) (fun R hR => ⟨by rw [(hf.ks R hR).1]; omega, fun t ht => by rw [(hf.ks R hR).2 t (by rw [← (hf.ks R hR).1]; exact ht)]; omega⟩) (fun R hR => ⟨by rw [(hf.vs R hR).1]; omega, fun t ht => by rw [(hf.vs R hR).2 t (by rw [← (hf.vs R hR).1]; exact ht)]; omega⟩)).mono ?_
  rintro e w' ⟨tv, gk, gv, rfl, O, K1, K2, _, _, _, B⟩
  obtain ⟨ao, c, rfl, A⟩ := IOwn.arg O (tok_small9 hV hf.toks)
  exact ⟨⟨⟨ao, X.T.length, c⟩, ⟨some ⟨gk, 0, none⟩, X.K.length, X.K.length⟩, ⟨some ⟨gv, 0, none⟩, X.V.length, X.V.length⟩⟩, rfl, ⟨A, K1.cubeC rfl (by omega) (fun R hR => by rw [(hf.ks R hR).1]; omega), K2.cubeC rfl (by omega) (fun R hR => by rw [(hf.vs R hR).1]; omega)⟩, B⟩
def fErr (V : Nat) (tok : Int) : Int := if tokB V tok = true then 0 else 7
def fView (M : Mdl) (V D H Hd L : Nat) (X : Vw) (tok : Int) : Vw := if tokB V tok = true then feedV M D H Hd L X tok.toNat else noX
/-- Feed at any token. -/
theorem feed_any (V D Hd H L : Nat) (W : Wt) (bs : List Bk) (M : Mdl) (v : VwV) (X : Vw) (tok : Int) (w : World) (hT : Tab w) (hl : X.T.length ≤ 127) (hG : Good w V D Hd H L W bs M) (hv : VwAt w v X) (hf : VwFit V D L X) :
   Calls Tryd.prog 14 #[.agg (cfgC V D Hd H L), .agg W.cells, .agg v.cells, .int .i64 tok] w fun e w' => ∃ vv lk, e = .returned (.tuple #[.agg (VwV.cells vv), lk, .int .i64 (fErr V tok)]) ∧ New w.heap.size w' (fun w => VwAt w vv (fView M V D H Hd L X tok)) ∧ Below w.heap.size w w' := by
  unfold fErr fView
  by_cases ht : tokB V tok = true
  · rw [if_pos ht, if_pos ht]
    have h2 : 0 ≤ tok ∧ tok < V := by unfold tokB at ht; simpa using ht
    obtain ⟨t, rfl⟩ : ∃ t : Nat, tok = t := ⟨tok.toNat, by omega⟩
    refine (feed_ok V D Hd H L W bs M v X t w hT hl (by omega) hG hv hf).mono ?_
    rintro e w' ⟨vv, g, rfl, N, _, B⟩
    exact ⟨vv, _, rfl, N, B⟩
  · rw [if_neg ht, if_neg ht]
    refine (feed_tok V D Hd H L W bs M v X tok w hl (by simpa using ht) hG hv hf).mono ?_
    rintro e w' ⟨rfl, B⟩
    exact ⟨⟨⟨none, 0, 0⟩, ⟨none, 0, 0⟩, ⟨none, 0, 0⟩⟩, _, rfl, fun w2 _ => noV_at w2, B⟩
theorem fView_fit {M : Mdl} {V D H Hd L : Nat} {X : Vw} {tok : Int} (hf : VwFit V D L X) (hl : X.T.length ≤ 127) : VwFit V D L (fView M V D H Hd L X tok) := by
  unfold fView
  split
  · rename_i ht
    have h2 : 0 ≤ tok ∧ tok < V := by unfold tokB at ht; simpa using ht
    exact fit_feed hf (by omega) hl
  · exact noX_fit _ _ _
/-- Told of layer 9 of a view that fits. -/
theorem told9_fit (V D L : Nat) (vv : VwV) (X : Vw) (w : World) (hv : VwAt w vv X) (hf : VwFit V D L X) (hD : D ≤ 32) (hL : L ≤ 4) :
   Calls Tryd.prog 16 #[.agg vv.cells] w fun e w' => ∃ t k v : Sl, e = .returned (.agg #[t.v, k.v, v.v]) ∧ ToldAt w' t k v X ∧ Below w.heap.size w w' := by
  have hm := hf.most
  have hk := hf.k
  have hvl := hf.v
  exact told9_any vv X w hv (by omega) (by rw [hk]; split <;> omega) (by rw [hvl]; split <;> omega) (fit_whole hf (by omega)).1 (fit_whole hf (by omega)).2
end Go.Proofs.YtcanjlofnpnhkaaDoor

/- Small shapes, and rows of tokens that are the same. -/
namespace Go.Proofs.YtcanjlofnpnhkaaDoor
open Go.ChangeShapes Go.WideShapes Go.ChangeAt Go.RowKit
/-- Is a shape a small one? -/
def smallN (D H L : Int) : Int := if 8 < D ∨ 8 < H ∨ 2 < L then 0 else 1
theorem small8_any (V D Hd H L : Int) (w : World) : Calls Tryd.prog 7 #[.agg (cfgC V D Hd H L)] w fun e w' => e = .returned (.int .i64 (smallN D H L)) ∧ Below w.heap.size w w' := by
  have X0 := blk_new w 23 (cfgC V D Hd H L)
  have B0 : Below w.heap.size w (w.alloc (.cells (cfgC V D Hd H L) 23)) := (Below.refl _ _).alloc (Nat.le_refl _) _
  unfold cfgC at *
  generalize hw0 : w.alloc (.cells #[.int .i64 V, .int .i64 D, .int .i64 Hd, .int .i64 H, .int .i64 L] 23) = w0 at *
  have a1 : w0.cell? ⟨w.heap.size, 1, none⟩ = some (.int .i64 D) := X0.cell 1 rfl
  have a3 : w0.cell? ⟨w.heap.size, 3, none⟩ = some (.int .i64 H) := X0.cell 3 rfl
  have a4 : w0.cell? ⟨w.heap.size, 4, none⟩ = some (.int .i64 L) := X0.cell 4 rfl
  have HN : Hid (smallN D H L = if 8 < D ∨ 8 < H ∨ 2 < L then 0 else 1) := rfl
  generalize smallN D H L = res at *
  by_cases h1 : 8 < D
  · have HF : Hid (res = 0) := by show _ = _; rw [HN.out, if_pos (Or.inl h1)]
    clear HN
    go_enter Tryd.func7, Tryd.ntmps7
    go_wp2
    go_ret
    exact ⟨ret_int HF.out.symm, B0⟩
  · by_cases h2 : 8 < H
    · have HF : Hid (res = 0) := by show _ = _; rw [HN.out, if_pos (Or.inr (Or.inl h2))]
      clear HN
      go_enter Tryd.func7, Tryd.ntmps7
      go_wp2
      go_ret
      exact ⟨ret_int HF.out.symm, B0⟩
    · by_cases h3 : 2 < L
      · have HF : Hid (res = 0) := by show _ = _; rw [HN.out, if_pos (Or.inr (Or.inr h3))]
        clear HN
        go_enter Tryd.func7, Tryd.ntmps7
        go_wp2
        go_ret
        exact ⟨ret_int HF.out.symm, B0⟩
      · have HF : Hid (res = 1) := by show _ = _; rw [HN.out, if_neg (by omega)]
        clear HN
        go_enter Tryd.func7, Tryd.ntmps7
        go_wp2
        go_ret
        exact ⟨ret_int HF.out.symm, B0⟩
theorem IArg.drop {w : World} {b o n ca : Nat} {A : List Int} (h : IArg w (some ⟨b, o, none⟩) n ca A) {m : Nat} (hm : m ≤ n) : IRowAt w (some ⟨b, o + m, none⟩) (n - m) (A.drop m) := by
  have hl := h.row.len
  refine ⟨by rw [List.length_drop]; omega, by have := h.row.max; omega, fun k => ?_, fun hn => ?_⟩
  · rw [el_drop]; exact h.row.small _
  · obtain ⟨b', o', e, hc⟩ := h.row.cells (by omega)
    simp only [Option.some.injEq, Addr.mk.injEq, and_true] at e
    obtain ⟨rfl, rfl⟩ := e
    refine ⟨b, o + m, rfl, fun t ht => ?_⟩
    rw [el_drop, Nat.add_assoc]
    exact hc _ (by omega)
end Go.Proofs.YtcanjlofnpnhkaaDoor

/- The table of steps lies in its block, wherever the row's listed variable reads as listed. -/
namespace Go.Proofs.YtcanjlofnpnhkaaDoor
open Go.ChangeShapes Go.WideShapes Go.ChangeAt Go.RowKit
theorem gSteps : Tryd.prog.globalNamed "tiller/curve.steps" = some 0 := by kernel_rfl
theorem tSteps : (Tryd.prog.globals[0]?).map (·.type) = some 147 := by kernel_rfl
theorem cSteps : Tryd.prog.cellsOf 147 = 65 := by kernel_rfl
theorem cNum : Tryd.prog.cellsOf 61 = 1 := by kernel_rfl
theorem tab_of_laid {W : World} (h : laidMetH Tryd.prog [("tiller/curve.steps", Rows.laid_tiller_curve_steps)] W) : Tab W := by
  rw [MakeChecks.laidMetH_plain _ _ _ (by kernel_rfl)] at h
  have h' : laidMet Tryd.prog [("tiller/curve.steps", Lib.tabData .i32 (stp.map fun (n : Nat) => (n : Int)))] W := h
  have ht := Lib.tabIs_of_head gSteps tSteps Tryd.underlying147 Tryd.underlying61 cNum cSteps h'
  unfold Lib.TabIs World.var? at ht
  rw [gSteps] at ht
  simp only [Option.bind_some] at ht
  split at ht
  · rename_i cs t fr hc
    refine ⟨t, fr, ?_⟩
    rw [hc]
    simp only [Option.some.injEq] at ht
    rw [ht]
    simp [tabCells]
  · cases ht
end Go.Proofs.YtcanjlofnpnhkaaDoor

/- An argument that is a row of whole numbers, opened once: nil, empty or not. -/
namespace Go.Proofs.YtcanjlofnpnhkaaDoor
open Go.ChangeShapes Go.WideShapes Go.ChangeAt Go.RowKit
theorem Tryd.cellsInt : Tryd.prog.cellsOf 3 = 1 := by kernel_rfl
theorem viewI_cells {H : Type} {enc : TypeId × Value → H} {W : World} {fuel : Nat} {cs : List Value} {x : DataW H × List MemPlace}
    (hf : DataW.trod enc Tryd.prog W 0 (fun _ => true) true fuel 25 cs = some x) :
    ∃ (a0 : Option Addr) (len cap : Nat) (Z : List Int), cs = [.slice a0 len cap] ∧ IArg W a0 len cap Z := by
  rcases open_ints Tryd.underlying25 Tryd.underlying3 Tryd.cellsInt hf with ⟨hcs, hx⟩ | ⟨a, len', cap', zs, hcs, _, hl, hm, hz, hx, hcell, hwz⟩
  · exact ⟨none, 0, 0, [], hcs, iarg_nil _⟩
  · simp only [if_true] at hz
    unfold maxLen at hm
    refine ⟨some a, len', cap', zs.take len', hcs, ⟨by simp; omega, by omega, fun k => ?_, fun hn => ?_⟩, hl, by omega, fun h => by cases h⟩
    · rcases Nat.lt_or_ge k (zs.take len').length with hk | hk
      · exact bounds_i64 (hwz _ (List.mem_of_mem_take (el_mem hk)))
      · rw [el_over hk]; omega
    · obtain ⟨b, o, s⟩ := a
      have h0 := hcell 0 (by omega)
      have hs : s = none := by simpa [Addr.add] using World.cell?_spot h0
      subst hs
      refine ⟨b, o, rfl, fun t ht => ?_⟩
      have e : (Addr.mk b o none).add t = ⟨b, o + t, none⟩ := by simp [Addr.add]
      rw [← e, hcell t (by omega), el_take ht]
      rfl
set_option maxRecDepth 100000 in
theorem viewI {H : Type} {enc : TypeId × Value → H} {W : World} {b0 : Nat} {v : Value} {d : DataW H} {p : List MemPlace} (hv : Value.okWide Tryd.prog W .any b0 25 v)
    (h : DataW.Trod enc Tryd.prog W 0 (fun _ => true) true 25 v d p) : ∃ (a0 : Option Addr) (len cap : Nat) (Z : List Int), v = .slice a0 len cap ∧ IArg W a0 len cap Z := by
  obtain ⟨a0, la, ca, rfl⟩ := okWide_slice Tryd.underlying25 hv
  obtain ⟨f, hf⟩ := h
  obtain ⟨a1, l1, c1, Z, e, hA⟩ := viewI_cells hf
  simp [Value.cells] at e
  obtain ⟨rfl, rfl, rfl⟩ := e
  exact ⟨_, _, _, Z, rfl, hA⟩
end Go.Proofs.YtcanjlofnpnhkaaDoor
