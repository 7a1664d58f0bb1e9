/- Contracts of the program's functions, part 9 of 19: what each call returns and leaves of memory. -/
import Derived.Test.YtmdjlaileakbeaaGreatDoorPk8
import Derived.Test.YtmdjlaileakbeaaGreatDoorPk6
import Derived.Deep.CutBlock
import Derived.Deep.CutRange
import Derived.Deep.MidRow
/- The document's layer 8: a token more. Written by tools/genr8.py. -/
namespace Go.Proofs.YtmdjlaileakbeaaGreatDoor
open Go.ChangeShapes Go.WideShapes Go.ChangeAt Go.RowKit
theorem Tryz.infoRW8 : (Tryz.prog.info? 38).map (·.size) = some 8 := by kernel_rfl
theorem Tryz.infoRP8 : (Tryz.prog.info? 80).map (·.size) = some 3 := by kernel_rfl
theorem Tryz.infoRB8 : (Tryz.prog.info? 61).map (·.size) = some 20 := by kernel_rfl
theorem load_rp {w : World} {g : Nat} {a b c : Value} (h : Blk w g 80 #[a, b, c]) : (loadVar 80 ⟨g, 0, none⟩).run Tryz.prog w = .ok (.agg #[a, b, c]) w :=
  run_loadVar_row w g _ _ _ _ _ h Tryz.underlying80 rfl Tryz.infoRP8
theorem results_c1 {fn : Func} {p : Tmp} {ty : TypeId} (h : fn.results = #[.cell p ty]) (tmps : Array Value) (w : World) (g : Nat) (cs : Array Value)
    (hp : tmps.getD p undef = .pointer (some ⟨g, 0, none⟩)) (hl : (loadVar ty ⟨g, 0, none⟩).run Tryz.prog w = .ok (.agg cs) w) :
    (results fn tmps).run Tryz.prog w = .ok (.agg cs) w := by
  have hp' : tmps[p]?.getD undef = .pointer (some ⟨g, 0, none⟩) := by simpa using hp
  simp [results, h, hp', asAddr, hl]
/-- What Go makes of the lists of layer l. -/
def goR (M : Mdl) (D H Hd m : Nat) (A1 A2 A3 : List (List (List Int))) (x : List Int) (l : Nat) : List (List Int) := A1.getD l [] ++ [xRow M D H Hd m A2 A3 x l]
def goK (M : Mdl) (D H Hd m : Nat) (A2 A3 : List (List (List Int))) (x : List Int) (l : Nat) : List (List Int) := A2.getD l [] ++ [keyR (layAt M l) D (xRow M D H Hd m A2 A3 x l)]
def goV (M : Mdl) (D H Hd m : Nat) (A2 A3 : List (List (List Int))) (x : List Int) (l : Nat) : List (List Int) := A3.getD l [] ++ [valR (layAt M l) D (xRow M D H Hd m A2 A3 x l)]
theorem map_range_succ {α : Type} (n : Nat) (f : Nat → α) : (List.range (n + 1)).map f = (List.range n).map f ++ [f n] := by rw [List.range_succ, List.map_append]; rfl
theorem cellRows_new (w : World) (v : Value) : (w.alloc (.cells #[v] 24)).cell? ⟨w.heap.size, 0, none⟩ = some v := by
  have e := heap_alloc_new w (.cells #[v] 24)
  unfold World.cell?
  simp only [e]
  rfl
theorem cellLists_new (w : World) (v : Value) : (w.alloc (.cells #[v] 77)).cell? ⟨w.heap.size, 0, none⟩ = some v := by
  have e := heap_alloc_new w (.cells #[v] 77)
  unfold World.cell?
  simp only [e]
  rfl
theorem one_at {w : World} {k : Nat} {v : Value} (h : w.cell? ⟨k, 0, none⟩ = some v) : ∀ j u, [v][j]? = some u → w.cell? ((Addr.mk k 0 none).add j) = some u := by
  intro j u hj
  match j, hj with
  | 0, hj =>
    simp at hj
    subst hj
    have e2 : (Addr.mk k 0 none).add 0 = ⟨k, 0, none⟩ := by simp [Addr.add]
    rw [e2, h]
theorem rows_made (w : World) (B : Nat) (hB : B ≤ w.heap.size) : (w.alloc (.cells #[] 24)).ownsRow B 24 1 (.slice (some ⟨w.heap.size, 0, none⟩) 0 0) 0 [] :=
  owns_mono (World.ownsRow_made w #[] 0 (Nat.le_refl _) (by decide) rfl) hB (fun _ _ => rfl)
/-- Fresh rows hang on their block, which is none of the lists' ones. -/
theorem Fresh.offO {q : Nat → Prop} {wr : World} {B g n c : Nat} {A : List Int} {v1 v2 v3 v4 v5 : Value} {h : Nat} (F : Fresh wr B g n c A) (hp : offO q v1 v2 v3 v4 v5 h g) : Hangs (offO q v1 v2 v3 v4 v5 h) wr fun w => Arg w (some ⟨g, 0, none⟩) n c A :=
  (F.hangs.mono fun b _ e => by rw [e]; exact hp).imp fun _ h => h.arg
/-- What is newer than all lists is none of them. -/
theorem GoS.newer {q : Nat → Prop} {wb wr : World} {v1 v2 v3 v4 v5 : Value} {C1 C2 C3 : List (List (List Int))} (h : GoS q wb wr v1 v2 v3 v4 v5 C1 C2 C3) (h4 : ∀ g, v4.ownBlock = some g → g < wr.heap.size) (h5 : ∀ g, v5.ownBlock = some g → g < wr.heap.size) {b : Nat} (hb : wr.heap.size ≤ b) (hq : q b) : offO q v1 v2 v3 v4 v5 wb.heap.size b :=
  ⟨fun e => by have := (h.c1.lt b e).2; omega, fun e => by have := (h.c2.lt b e).2; omega, fun e => by have := (h.c3.lt b e).2; omega, fun e => by have := h4 b e; omega, fun e => by have := h5 b e; omega, by have := h.blk.lt; omega, by have := h.blk.lt; omega, hq⟩
theorem no_own : ∀ g, (Value.slice none 0 0).ownBlock = some g → False := fun g e => by simp [Value.ownBlock] at e
/-- A row of rows is none of the lists of lists. -/
theorem GoS.rows_p {q : Nat → Prop} {wb wr : World} {v1 v2 v3 v4 v5 : Value} {C1 C2 C3 : List (List (List Int))} (h : GoS q wb wr v1 v2 v3 v4 v5 C1 C2 C3) {g n c : Nat} {vs : List Value} (O : wr.ownsRow (wb.heap.size + 1) 24 1 (.slice (some ⟨g, 0, none⟩) n c) n vs) (hq : q g) : offO q v1 v2 v3 (.slice none 0 0) (.slice none 0 0) wb.heap.size g :=
  ⟨fun e => h.c1.ne_rows O g e rfl, fun e => h.c2.ne_rows O g e rfl, fun e => h.c3.ne_rows O g e rfl, fun e => no_own g e, fun e => no_own g e, by have := (O.lt g rfl).1; omega, by have := (O.lt g rfl).1; omega, hq⟩
/-- What is older than the boxes is none of the lists. -/
theorem GoS.older {q : Nat → Prop} {wb wr : World} {v1 v2 v3 v4 v5 : Value} {C1 C2 C3 : List (List (List Int))} (h : GoS q wb wr v1 v2 v3 v4 v5 C1 C2 C3) (h4 : ∀ g, v4.ownBlock = some g → wb.heap.size ≤ g) (h5 : ∀ g, v5.ownBlock = some g → wb.heap.size ≤ g) {b : Nat} (hb : b + 1 < wb.heap.size) (hq : q b) : offO q v1 v2 v3 v4 v5 wb.heap.size b :=
  ⟨fun e => by have := (h.c1.lt b e).1; omega, fun e => by have := (h.c2.lt b e).1; omega, fun e => by have := (h.c3.lt b e).1; omega, fun e => by have := h4 b e; omega, fun e => by have := h5 b e; omega, by omega, by omega, hq⟩
theorem all3c {a b c : Value} (h1 : a.oneCell' = true) (h2 : b.oneCell' = true) (h3 : c.oneCell' = true) : Array.all (#[a, b, c] : Array Value) (fun v => v.oneCell') = true := by simp [h1, h2, h3]
theorem below_alloc8 (w : World) (o : Obj) : Below w.heap.size w (w.alloc o) := (Below.refl _ w).alloc (Nat.le_refl _) o
theorem own_caps8 {w : World} {B e k cap : Nat} {a : Option Addr} {vs : List Value} (h : w.ownsRow B e 1 (.slice a k cap) k vs) : k ≤ cap ∧ cap ≤ 9223372036854775807 := by
  rcases h.2 with ⟨h3, h4⟩ | ⟨g', c', cur, hv, hg, hh, hnc, hcm, _⟩
  · simp only [Value.slice.injEq] at h3
    omega
  · simp only [Value.slice.injEq] at hv
    obtain ⟨-, -, rfl⟩ := hv
    exact ⟨hnc, by unfold maxLen at hcm; exact hcm⟩
theorem GoS.drop {q : Nat → Prop} {wb wr : World} {v1 v2 v3 v4 v5 : Value} {C1 C2 C3 : List (List (List Int))} (h : GoS q wb wr v1 v2 v3 v4 v5 C1 C2 C3) : GoS q wb wr v1 v2 v3 (.slice none 0 0) (.slice none 0 0) C1 C2 C3 :=
  h.side (Tn.drop wr) (fun _ _ _ => rfl) (Below.refl _ _)

set_option maxRecDepth 100000 in
set_option maxHeartbeats 16000000 in
theorem rgo_any (p : Nat → Prop) (V D Hd H L m tok : Nat) (W : Wt) (bs : List Bk) (M : Mdl) (sr sk sv : Sl) (A1 A2 A3 : List (List (List Int))) (w : World) (hW : WtAt w V D H W bs M) (hbl : bs.length = L) (hr : PCubeW p w sr A1) (hk : PCubeW p w sk A2) (hv : PCubeW p w sv A3)
    (hm : (if A1.length = 0 then 0 else (A1.getD 0 []).length) = m) (hkl : A2.length = A3.length) (hr1 : ∀ l, (A1.getD l []).length ≤ 1000) (hkk : ∀ l, l < L → (A2.getD l []).length = m ∧ ∀ t, t < m → (rowOf (A2.getD l []) t).length = D) (hvv : ∀ l, l < L → (A3.getD l []).length = m ∧ ∀ t, t < m → (rowOf (A3.getD l []) t).length = D)
    (ht : tok < V) (m2 : m ≤ 127) (h1 : 1 ≤ D) (h2 : D ≤ 32) (g1 : 1 ≤ Hd) (g2 : Hd ≤ 4) (hd : D % Hd = 0) (q1 : 1 ≤ H) (q2 : H ≤ 128) (hL : L ≤ 900) :
   Calls Tryz.prog 30 #[.agg (cfgC V D Hd H L), .agg W.cells, .agg #[sr.v, sk.v, sv.v], .int .i64 tok] w fun e w' => ∃ tr tk tv : Sl, e = .returned (.agg #[tr.v, tk.v, tv.v]) ∧ PCube (fun b => p b ∨ w.heap.size ≤ b) w' tr ((List.range (L + 1)).map (goR M D H Hd m A1 A2 A3 (begR M.E D tok m))) ∧ PCube (fun b => p b ∨ w.heap.size ≤ b) w' tk ((List.range L).map (goK M D H Hd m A2 A3 (begR M.E D tok m))) ∧ PCube (fun b => p b ∨ w.heap.size ≤ b) w' tv ((List.range L).map (goV M D H Hd m A2 A3 (begR M.E D tok m))) ∧ Below w.heap.size w w' := by
  have RB := fun wv (hb : Below w.heap.size w wv) => rbeg_any V D H W bs M tok m wv (hW.below hb) ht (by omega)
  have HW : Hid (∀ wv, Below w.heap.size w wv → WtAt wv V D H W bs M) := fun wv hb => hW.below hb
  have HR : Hid (∀ wv, Below w.heap.size w wv → PCubeW p wv sr A1) := fun wv hb => hr.below hb
  have HK : Hid (∀ wv, Below w.heap.size w wv → PCubeW p wv sk A2) := fun wv hb => hk.below hb
  have HV : Hid (∀ wv, Below w.heap.size w wv → PCubeW p wv sv A3) := fun wv hb => hv.below hb
  obtain ⟨q, hqq⟩ : ∃ q : Nat → Prop, q = fun b => b < w.heap.size → p b := ⟨_, rfl⟩
  have HQ : Hid (∀ b, q b ↔ (b < w.heap.size → p b)) := fun b => by rw [hqq]
  have HQN : Hid (∀ b, w.heap.size ≤ b → q b) := fun b hb => (HQ.out b).2 (fun h => absurd h (by omega))
  clear hqq
  have lr := hr.len
  have lk := hk.len
  have lv := hv.len
  have lr2 := hr.small
  have lk2 := hk.small
  have lW := hW.b.len
  obtain ⟨⟨er, ec, ⟨ea, en, ez⟩⟩, ⟨ba, bn, bz⟩, ⟨la, ln, lz⟩, ⟨wr1, wc1, ⟨oa, on, oz⟩⟩⟩ := W
  obtain ⟨ra, rn, rz⟩ := sr
  obtain ⟨ka, kn, kz⟩ := sk
  obtain ⟨va, vn, vz⟩ := sv
  simp only at lr lk lv lr2 lk2 lW
  obtain rfl : vn = kn := by omega
  obtain rfl : bn = L := by omega
  have HHM : Hid ((if A1.length = 0 then 0 else (A1.getD 0 []).length) = m) := hm
  have HR1 : Hid (∀ l, (A1.getD l []).length ≤ 1000) := hr1
  have HKK : Hid (∀ l, l < bn → (A2.getD l []).length = m ∧ ∀ t, t < m → (rowOf (A2.getD l []) t).length = D) := hkk
  have HVV : Hid (∀ l, l < bn → (A3.getD l []).length = m ∧ ∀ t, t < m → (rowOf (A3.getD l []) t).length = D) := hvv
  have HLR : Hid (A1.length = rn) := lr
  have HLK : Hid (A2.length = vn) := lk
  have HLV : Hid (A3.length = vn) := lv
  clear hW hr hk hv hm hr1 hkk hvv hkl lr lk lv lW
  show Calls Tryz.prog 30 #[.agg #[.int .i64 (V : Int), .int .i64 (D : Int), .int .i64 (Hd : Int), .int .i64 (H : Int), .int .i64 (bn : Int)], .agg #[.int .i64 er, .int .i64 ec, .slice ea en ez, .slice ba bn bz, .slice la ln lz, .int .i64 wr1, .int .i64 wc1, .slice oa on oz], .agg #[.slice ra rn rz, .slice ka vn kz, .slice va vn vz], .int .i64 (tok : Int)] w _
  have X0 := blk_new w 23 #[.int .i64 (V : Int), .int .i64 (D : Int), .int .i64 (Hd : Int), .int .i64 (H : Int), .int .i64 (bn : Int)]
  have B0 : Below w.heap.size w (w.alloc (.cells #[.int .i64 (V : Int), .int .i64 (D : Int), .int .i64 (Hd : Int), .int .i64 (H : Int), .int .i64 (bn : Int)] 23)) := (Below.refl _ _).alloc (Nat.le_refl _) _
  have s0 : (w.alloc (.cells #[.int .i64 (V : Int), .int .i64 (D : Int), .int .i64 (Hd : Int), .int .i64 (H : Int), .int .i64 (bn : Int)] 23)).heap.size = w.heap.size + 1 := by simp
  generalize hw0 : w.alloc (.cells #[.int .i64 (V : Int), .int .i64 (D : Int), .int .i64 (Hd : Int), .int .i64 (H : Int), .int .i64 (bn : Int)] 23) = wx0 at *
  have X1 := blk_new wx0 38 #[.int .i64 er, .int .i64 ec, .slice ea en ez, .slice ba bn bz, .slice la ln lz, .int .i64 wr1, .int .i64 wc1, .slice oa on oz]
  have B1 : Below wx0.heap.size wx0 (wx0.alloc (.cells #[.int .i64 er, .int .i64 ec, .slice ea en ez, .slice ba bn bz, .slice la ln lz, .int .i64 wr1, .int .i64 wc1, .slice oa on oz] 38)) := (Below.refl _ _).alloc (Nat.le_refl _) _
  have s1 : (wx0.alloc (.cells #[.int .i64 er, .int .i64 ec, .slice ea en ez, .slice ba bn bz, .slice la ln lz, .int .i64 wr1, .int .i64 wc1, .slice oa on oz] 38)).heap.size = wx0.heap.size + 1 := by simp
  generalize hw1 : wx0.alloc (.cells #[.int .i64 er, .int .i64 ec, .slice ea en ez, .slice ba bn bz, .slice la ln lz, .int .i64 wr1, .int .i64 wc1, .slice oa on oz] 38) = wx1 at *
  have X2 := blk_new wx1 80 #[.slice ra rn rz, .slice ka vn kz, .slice va vn vz]
  have B2 : Below wx1.heap.size wx1 (wx1.alloc (.cells #[.slice ra rn rz, .slice ka vn kz, .slice va vn vz] 80)) := (Below.refl _ _).alloc (Nat.le_refl _) _
  have s2 : (wx1.alloc (.cells #[.slice ra rn rz, .slice ka vn kz, .slice va vn vz] 80)).heap.size = wx1.heap.size + 1 := by simp
  generalize hw2 : wx1.alloc (.cells #[.slice ra rn rz, .slice ka vn kz, .slice va vn vz] 80) = wx2 at *
  have X3 := blk_new wx2 80 #[.slice none 0 0, .slice none 0 0, .slice none 0 0]
  have B3 : Below wx2.heap.size wx2 (wx2.alloc (.cells #[.slice none 0 0, .slice none 0 0, .slice none 0 0] 80)) := (Below.refl _ _).alloc (Nat.le_refl _) _
  have s3 : (wx2.alloc (.cells #[.slice none 0 0, .slice none 0 0, .slice none 0 0] 80)).heap.size = wx2.heap.size + 1 := by simp
  generalize hw3 : wx2.alloc (.cells #[.slice none 0 0, .slice none 0 0, .slice none 0 0] 80) = wx3 at *
  have HSZ : Hid (wx0.heap.size = w.heap.size + 1 ∧ wx1.heap.size = wx0.heap.size + 1 ∧ wx2.heap.size = wx1.heap.size + 1 ∧ wx3.heap.size = wx2.heap.size + 1) := ⟨s0, s1, s2, s3⟩
  have X03 := ((X0.below B1).below B2).below B3
  have X13 := (X1.below B2).below B3
  have X23 := X2.below B3
  have D3 := below_then (below_then (below_then B0 B1) B2) B3
  have RB3 := RB wx3 D3
  clear RB X0 X1 X2 B0 B1 B2 B3
  obtain ⟨XA, XB, VB, zB⟩ := var3 wx3 80 #[.slice none 0 0, .slice none 0 0, .slice none 0 0] #[.slice none 0 0, .slice none 0 0, .slice none 0 0]
  generalize hwA : wx3.alloc (.cells #[.slice none 0 0, .slice none 0 0, .slice none 0 0] 80) = wA at *
  generalize hwB : wA.setRow wx3.heap.size #[.slice none 0 0, .slice none 0 0, .slice none 0 0] = w5 at *
  have X05 := X03.below VB
  have X15 := X13.below VB
  have X25 := X23.below VB
  have X35 := X3.below VB
  have D5 := below_then D3 VB
  have G0 : GoS q wx3 w5 (.slice none 0 0) (.slice none 0 0) (.slice none 0 0) (.slice none 0 0) (.slice none 0 0) [] [] [] := ⟨XB, OCu.nil _ _ _, OCu.nil _ _ _, OCu.nil _ _ _, fun g e => by simp [Value.ownBlock] at e, fun g e => by simp [Value.ownBlock] at e, fun g e => by simp [Value.ownBlock] at e, VB⟩
  have a5 : w5.cell? ⟨wx1.heap.size, 0, none⟩ = some (.slice ra rn rz) := X25.cell 0 rfl
  clear VB zB s0 s1 s2 s3 X03 X13 X23 X3
  go_enter Tryz.func30, Tryz.ntmps30
  go_upto_if 26 with (refine wpList_store_row rfl 80 _ _ rfl wx3.heap.size _ rfl rfl 80 _ XA Tryz.infoRP8 rfl (by simp [Value.oneCell']) ?_; rw [hwB])
  clear XA hwA hwB hw0 hw1 hw2 hw3
  go_cut [10] from 27 to 162 (fun s10 wc => s10 = .int .i64 (m : Int) ∧ wc = w5)
  case first =>
    rcases Nat.eq_zero_or_pos rn with hz | hz
    · have hzi : decide ((rn : Int) > 0) = false := decide_eq_false (by omega)
      obtain rfl : m = 0 := by have := HHM.out; rw [if_pos (by rw [HLR.out]; exact hz)] at this; exact this.symm
      go_wp2_with fail
      go_meet
      case rel => exact ⟨rfl, rfl⟩
    · have hzi : decide ((rn : Int) > 0) = true := decide_eq_true (by omega)
      obtain ⟨b, o, e, _, hc⟩ := (HR.out w5 D5).cells hz
      simp only at e
      subst e
      obtain ⟨b1, o1, n1, c1, k1, k2, k3, _, HG⟩ := hc 0 (A1.getD 0 []) (by rw [List.getD_eq_getElem?_getD, List.getElem?_eq_getElem (by rw [HLR.out]; exact hz)]; rfl)
      obtain rfl : n1 = m := by have := HHM.out; rw [if_neg (by rw [HLR.out]; omega)] at this; have := HG.now.len; omega
      rw [Nat.add_zero] at k1
      clear hc HG
      go_wp2_with fail
      go_meet
      case rel => exact ⟨rfl, rfl⟩
  case rest =>
  obtain ⟨rfl, h9⟩ := hcut
  obtain rfl := h9.symm
  clear a5 h9
  have RB5 := fun wv (hb : Below w.heap.size w wv) => rbeg_any V D H ⟨⟨er, ec, ⟨ea, en, ez⟩⟩, ⟨ba, bn, bz⟩, ⟨la, ln, lz⟩, ⟨wr1, wc1, ⟨oa, on, oz⟩⟩⟩ bs M tok m wv (HW.out wv hb) ht (by omega)
  have RB6 := RB5 w5 D5
  unfold Wt.cells Sl.v at RB6
  simp only at RB6
  clear RB3 RB5
  go_upto_region 7 with (first
    | (refine wpList_load_row rfl 38 _ rfl wx0.heap.size rfl 38 _ (0, 0) _ X15 Tryz.underlying38 rfl Tryz.infoRW8 ?_)
    | (go_at_call 47; refine RB6.mono ?_; rintro e w6 ⟨gx, cx, rfl, FX, B6⟩))
  have X06 := X05.below B6
  have X16 := X15.below B6
  have X26 := X25.below B6
  have X36 := X35.below B6
  have D6 := below_then D5 B6
  have G6 := G0.below B6
  have pX := G0.newer (fun g e => (no_own g e).elim) (fun g e => (no_own g e).elim) FX.base (HQN.out _ (by have := FX.base; have := D5.size; omega))
  have HX6 := FX.offO pX
  have KB6 := G6.kp
  have HX0 : Hid (∀ wv, Below wx3.heap.size wx3 wv → Blk wv w.heap.size 23 #[.int .i64 (V : Int), .int .i64 (D : Int), .int .i64 (Hd : Int), .int .i64 (H : Int), .int .i64 (bn : Int)] ∧ Blk wv wx0.heap.size 38 #[.int .i64 er, .int .i64 ec, .slice ea en ez, .slice ba bn bz, .slice la ln lz, .int .i64 wr1, .int .i64 wc1, .slice oa on oz] ∧ Blk wv wx1.heap.size 80 #[.slice ra rn rz, .slice ka vn kz, .slice va vn vz] ∧ Blk wv wx2.heap.size 80 #[.slice none 0 0, .slice none 0 0, .slice none 0 0] ∧ Below w.heap.size w wv) := fun wv hb => by
    have hlt3 : w.heap.size < wx3.heap.size ∧ wx0.heap.size < wx3.heap.size ∧ wx1.heap.size < wx3.heap.size ∧ wx2.heap.size < wx3.heap.size := by have := HSZ.out; omega
    refine ⟨X06.of_block ((hb.block _ hlt3.1).trans (KB6.block _ hlt3.1).symm), X16.of_block ((hb.block _ hlt3.2.1).trans (KB6.block _ hlt3.2.1).symm), X26.of_block ((hb.block _ hlt3.2.2.1).trans (KB6.block _ hlt3.2.2.1).symm), X36.of_block ((hb.block _ hlt3.2.2.2).trans (KB6.block _ hlt3.2.2.2).symm), ⟨hb.os.trans D3.os, hb.tape.trans D3.tape, hb.output.trans D3.output, by have := hb.size; omega, fun k hk => (hb.block k (by omega)).trans (D3.block k hk)⟩⟩
  clear RB6 X05 X15 X25 X35 X06 X16 X26 X36 D5 D6 B6 G0 FX pX KB6 D3
  have HBG : Hid (begR M.E D tok m = xRow M D H Hd m A2 A3 (begR M.E D tok m) 0) := rfl
  have HXL : Hid (∀ l, (xRow M D H Hd m A2 A3 (begR M.E D tok m) l).length = D) := fun l => by
    cases l with
    | zero => exact tab_len _ _
    | succ l => exact tab_len _ _
  obtain ⟨x0, hx0⟩ : ∃ x0, x0 = begR M.E D tok m := ⟨_, rfl⟩
  rw [← hx0] at HX6
  have HX00 : Hid (x0 = begR M.E D tok m) := hx0
  replace HXL : Hid (∀ l, (xRow M D H Hd m A2 A3 x0 l).length = D) := by rw [hx0]; exact HXL
  clear hx0 HBG
  go_loopg [11, 12] (bn + 2) (fun r s11 s12 wr => ∃ (l : Nat) (p1 p2 p3 : Option Addr) (z1 z2 z3 : Nat) (gx cx : Nat), l ≤ bn ∧ r = bn + 2 - l ∧ s12 = .int .i64 (l : Int) ∧ s11 = .slice (some ⟨gx, 0, none⟩) D cx ∧ GoS q wx3 wr (.slice p1 l z1) (.slice p2 l z2) (.slice p3 l z3) (.slice none 0 0) (.slice none 0 0) ((List.range l).map (goR M D H Hd m A1 A2 A3 x0)) ((List.range l).map (goK M D H Hd m A2 A3 x0)) ((List.range l).map (goV M D H Hd m A2 A3 x0)) ∧ Hangs (offO q (.slice p1 l z1) (.slice p2 l z2) (.slice p3 l z3) (.slice none 0 0) (.slice none 0 0) wx3.heap.size) wr (fun w => Arg w (some ⟨gx, 0, none⟩) D cx (xRow M D H Hd m A2 A3 x0 l)))
  case atStart => exact ⟨0, none, none, none, 0, 0, 0, gx, cx, by omega, by omega, rfl, rfl, G6, HX6⟩
  case round =>
  clear G6 HX6
  obtain ⟨l, p1, p2, p3, z1, z2, z3, gx, cx, hl, rfl, rfl, rfl, GS, HX⟩ := hrel
  obtain ⟨v1, hv1⟩ : ∃ v, v = Value.slice p1 l z1 := ⟨_, rfl⟩
  obtain ⟨v2, hv2⟩ : ∃ v, v = Value.slice p2 l z2 := ⟨_, rfl⟩
  obtain ⟨v3, hv3⟩ : ∃ v, v = Value.slice p3 l z3 := ⟨_, rfl⟩
  rw [← hv1, ← hv2, ← hv3] at GS HX
  have HV1 : Hid (v1 = Value.slice p1 l z1) := hv1
  have HV2 : Hid (v2 = Value.slice p2 l z2) := hv2
  have HV3 : Hid (v3 = Value.slice p3 l z3) := hv3
  clear hv1 hv2 hv3
  have hle : (l : Int) ≤ (bn : Int) := by omega
  obtain ⟨X0, X1, X2, X3, DW⟩ := HX0.out wr GS.kp
  have a4 : wr.cell? ⟨w.heap.size, 4, none⟩ = some (.int .i64 (bn : Int)) := X0.cell 4 rfl
  have zr := GS.blk.lt
  have BA : Below wr.heap.size wr (wr.alloc (.cells #[] 24)) := (Below.refl _ _).alloc (Nat.le_refl _) _
  have OA := rows_made wr (wx3.heap.size + 1) (by omega)
  have T0 : Tn (offO q v1 v2 v3 (.slice none 0 0) (.slice none 0 0) wx3.heap.size) (offO q v1 v2 v3 (.slice (some ⟨wr.heap.size, 0, none⟩) 0 0) (.slice none 0 0) wx3.heap.size) wr (wr.alloc (.cells #[] 24)) := (Tn.new4 wr (Nat.le_refl _)).trans (Tn.below BA)
  generalize hwa : wr.alloc (.cells #[] 24) = wa at *
  have GA := GS.side T0 (fun b hb _ => BA.block b hb) (BA.mono (by have := GS.kp.size; omega))
  have HXA := HX.turn T0
  have X2A := X2.below BA
  have b0 : wa.cell? ⟨wx1.heap.size, 0, none⟩ = some (.slice ra rn rz) := X2A.cell 0 rfl
  have DA := below_then DW BA
  clear T0 GS HX X0 X1 X2 X3 X2A
  go_upto_if 47 with fail
  clear hwa a4
  generalize hgr : wr.heap.size = gr0 at *
  go_cut [13] from 47 to 162 (fun s13 wc => ∃ (ya : Option Addr) (yc n : Nat) (vs : List Value), s13 = .slice ya n yc ∧ n = (A1.getD l []).length ∧ wc.ownsRow (wx3.heap.size + 1) 24 1 (.slice ya n yc) n vs ∧ HRows (offO q v1 v2 v3 (.slice ya n yc) (.slice none 0 0) wx3.heap.size) wc vs (A1.getD l []) ∧ GoS q wx3 wc v1 v2 v3 (.slice ya n yc) (.slice none 0 0) ((List.range l).map (goR M D H Hd m A1 A2 A3 x0)) ((List.range l).map (goK M D H Hd m A2 A3 x0)) ((List.range l).map (goV M D H Hd m A2 A3 x0)) ∧ Hangs (offO q v1 v2 v3 (.slice ya n yc) (.slice none 0 0) wx3.heap.size) wc (fun w => Arg w (some ⟨gx, 0, none⟩) D cx (xRow M D H Hd m A2 A3 x0 l)))
  case first =>
    by_cases hq : l < rn
    · have hqi : (l : Int) < (rn : Int) := by omega
      obtain ⟨b, o, e, _, hc⟩ := (HR.out w (Below.refl _ _)).cells (by show 0 < rn; omega)
      simp only at e
      subst e
      obtain ⟨b1, o1, n1, c1, k1', k2, k3, hp1, HG⟩ := hc l (A1.getD l []) (by rw [List.getD_eq_getElem?_getD, List.getElem?_eq_getElem (by rw [HLR.out]; exact hq)]; rfl)
      have GR := HG.now
      obtain ⟨vs, RS, hcs'⟩ := GR.vals
      have HRO : Hid (∀ (P : Nat → Prop) (W : World), Below w.heap.size w W → (∀ b, b < w.heap.size → p b → P b) → HRows P W vs (A1.getD l [])) := fun P W hW hP => HRows.oldp RS hcs' HG hp1 hW hP
      have k1 : wa.cell? ⟨b, o + l, none⟩ = some (.slice (some ⟨b1, o1, none⟩) n1 c1) := cell_keep k1' DA
      have hcs : ∀ j u, vs[j]? = some u → wa.cell? ((Addr.mk b1 o1 none).add j) = some u := fun j u hj => cell_keep (hcs' j u hj) DA
      have hvl : vs.length = n1 := by rw [RS.len, GR.len]
      have hn1 : n1 ≤ 1000 := by have := HR1.out l; have := GR.len; omega
      have one := RS.one
      have hgl := GR.len
      clear hc GR HG hp1 k1' hcs'
      go_upto_region 12 with (at_builtin; refine wpList_append_hr rfl _ _ rfl (wx3.heap.size + 1) (.slice (some ⟨gr0, 0, none⟩) 0 0) 0 [] rfl OA ⟨b1, o1, none⟩ n1 c1 vs rfl hvl hcs one (by omega) (by have := GA.blk.lt; omega) ?_; intro ya yc w' O1 G1 N1 _)
      go_meet
      case rel =>
        have hsz := HSZ.out
        rw [Nat.zero_add] at O1 N1
        have T1 := Tn.app4 (q := q) (v1 := v1) (v2 := v2) (v3 := v3) (v5 := (.slice none 0 0)) (h := wx3.heap.size) G1 N1
        obtain ⟨r1, r2⟩ := GA.rows_off OA G1
        have GB := GA.side T1 r1 r2
        refine ⟨ya, yc, n1, vs, rfl, hgl.symm, O1, HRO.out _ _ (DA.trans (r2.mono (by omega))) (fun b hb hpb => GB.older (fun g e => Nat.le_of_succ_le (O1.lt g e).1) (fun g e => (no_own g e).elim) (by omega) ((HQ.out b).2 fun _ => hpb)), GB, HXA.turn T1⟩
    · have hqi : ¬ (l : Int) < (rn : Int) := by omega
      have e0 : A1.getD l [] = [] := by rw [List.getD_eq_getElem?_getD, List.getElem?_eq_none (by rw [HLR.out]; omega)]; rfl
      go_upto_region 12 with fail
      go_meet
      case rel => exact ⟨_, 0, 0, [], rfl, by rw [e0]; rfl, OA, by rw [e0]; exact HRows.nil _ _, GA, HXA⟩
  case rest =>
  obtain ⟨ya, yc, n, vs, rfl, hn, OR, HRs, GB, HXB⟩ := hcut
  clear GA HXA OA b0 DA BA
  have hn2 : n ≤ 1000 := by rw [hn]; exact HR1.out l
  have HNN : Hid (n = (A1.getD l []).length) := hn
  clear hn
  have len1 : Hid (((List.range l).map (goR M D H Hd m A1 A2 A3 x0)).length = l) := by show _ = _; simp
  go_upto_region 12 with fail
  go_cut [] from 55 to 162 (fun wz => ∃ (b1 : Option Addr) (bc : Nat), GoS q wx3 wz (.slice b1 (l + 1) bc) v2 v3 (.slice none 0 0) (.slice none 0 0) ((List.range (l + 1)).map (goR M D H Hd m A1 A2 A3 x0)) ((List.range l).map (goK M D H Hd m A2 A3 x0)) ((List.range l).map (goV M D H Hd m A2 A3 x0)) ∧ Hangs (offO q (.slice b1 (l + 1) bc) v2 v3 (.slice none 0 0) (.slice none 0 0) wx3.heap.size) wz (fun w => Arg w (some ⟨gx, 0, none⟩) D cx (xRow M D H Hd m A2 A3 x0 l)))
  case first =>
    refine wp_region_late (S := fun w' => Blk w' wx3.heap.size 80 #[v1, v2, v3]) 9 (by kernel_rfl) (GB.blk) (fun hHeld => ?_)
    have BD : Below wc.heap.size wc wc.drew := (Below.refl _ wc).drew
    have GD := GB.below BD
    have OD := owns_below OR BD
    have HRD := HRs.turn (Tn.below BD)
    have HXD := HXB.turn (Tn.below BD)
    generalize hwd : wc.drew = wd at *
    clear hwd BD GB OR HRs HXB
    refine wpLate_pure (i := 0) (v := (.pointer (some ⟨wx3.heap.size, 0, none⟩))) rfl (by decide) (by kernel_rfl) (by kernel_rfl) (by kernel_rfl) (fun _ _ _ h => h) (Or.inl ⟨by rfl, ?_⟩) (fun _ => by assumption) ?_
    · intro w' _
      go_simp
    simp only [List.getElem_toArray, List.getElem_cons_zero, Act.put, List.setIfInBounds_toArray, List.set_cons_zero, List.set_cons_succ]
    refine wpLate_take (i := 1) (v := v1) rfl (by kernel_rfl) (by kernel_rfl) (by kernel_rfl) (by kernel_rfl) (by kernel_rfl) (fun _ _ _ h => h) (Or.inl ⟨by rfl, ?_⟩) (by assumption) ?_
    · intro w' hSw
      have y0 : w'.cell? ⟨wx3.heap.size, 0, none⟩ = some v1 := hSw.cell 0 rfl
      go_simp
    simp only [List.getElem_toArray, List.getElem_cons_succ, List.getElem_cons_zero, Act.put, List.setIfInBounds_toArray, List.set_cons_zero, List.set_cons_succ]
    refine wpLate_pure (i := 2) (v := (.slice ya n yc)) rfl (by decide) (by kernel_rfl) (by kernel_rfl) (by kernel_rfl) (fun _ _ _ h => h) (Or.inl ⟨by rfl, ?_⟩) (fun _ => by assumption) ?_
    · intro w' _
      go_simp
    simp only [List.getElem_toArray, List.getElem_cons_succ, List.getElem_cons_zero, Act.put, List.setIfInBounds_toArray, List.set_cons_zero, List.set_cons_succ]
    refine wpLate_pure (i := 3) (v := (.slice (some ⟨gx, 0, none⟩) D cx)) rfl (by decide) (by kernel_rfl) (by kernel_rfl) (by kernel_rfl) (fun _ _ _ h => h) (Or.inl ⟨by rfl, ?_⟩) (fun _ => by assumption) ?_
    · intro w' _
      go_simp
    simp only [List.getElem_toArray, List.getElem_cons_succ, List.getElem_cons_zero, Act.put, List.setIfInBounds_toArray, List.set_cons_zero, List.set_cons_succ]
    refine wpLate_ready (rs := [4]) (by kernel_rfl) (by simp) ?_
    refine wpLate_cons rfl (fun Kc hKc => ?_) wpLate_nil
    simp only [List.getElem_toArray, List.getElem_cons_succ, List.getElem_cons_zero]
    rw [if_pos (by rfl)]
    go_wp2_with fail
    have BA := below_alloc8 wd (.cells #[(.slice (some ⟨gx, 0, none⟩) D cx)] 24)
    have xa := cellRows_new wd (.slice (some ⟨gx, 0, none⟩) D cx)
    generalize hwA : wd.alloc (.cells #[(.slice (some ⟨gx, 0, none⟩) D cx)] 24) = wA at *
    clear hwA
    have GE := GD.below BA
    have OE := owns_below OD BA
    have HRE := HRD.turn (Tn.below BA)
    have HXE := HXD.turn (Tn.below BA)
    clear GD OD HRD HXD BA
    refine hKc.out _ _ (fun _ _ => GE.blk) ?_
    clear hKc Kc
    refine wpLate_ready (rs := [5]) (by kernel_rfl) (by simp) ?_
    refine wpLate_cons rfl (fun Kc hKc => ?_) wpLate_nil
    simp only [List.getElem_toArray, List.getElem_cons_succ, List.getElem_cons_zero]
    rw [if_pos (by rfl)]
    refine wp_append_hr _ _ rfl (wx3.heap.size + 1) (.slice ya n yc) n vs rfl OE ⟨wd.heap.size, 0, none⟩ 1 1 [(.slice (some ⟨gx, 0, none⟩) D cx)] rfl rfl (one_at xa) (by intro u hu; simp at hu; subst hu; rfl) (by omega) (by have := GE.blk.lt; omega) ?_
    intro ea5 ec5 w5' O5 G5 N5 Z5
    have T5 := Tn.app4 (q := q) (v1 := v1) (v2 := v2) (v3 := v3) (v5 := (.slice none 0 0)) (h := wx3.heap.size) G5 N5
    obtain ⟨r1, r2⟩ := GE.rows_off OE G5
    have GF := GE.side T5 r1 r2
    have HRF := (HRE.snoc HXE).turn T5
    have HXF := HXE.turn T5
    obtain ⟨gg, rfl⟩ := Z5 (by omega)
    obtain ⟨cp1, cp2⟩ := own_caps8 O5
    clear GE OE HRE HXE xa T5 r1 r2 G5 N5 Z5
    refine hKc.out _ _ (fun _ _ => GF.blk) ?_
    clear hKc Kc
    refine wpLate_ready (rs := [6]) (by kernel_rfl) (by simp) ?_
    refine wpLate_cons rfl (fun Kc hKc => ?_) wpLate_nil
    simp only [List.getElem_toArray, List.getElem_cons_succ, List.getElem_cons_zero]
    rw [if_pos (by rfl)]
    go_wp2_with fail
    have BA := below_alloc8 w5' (.cells #[(.slice (some ⟨gg, 0, none⟩) (n + 1) ec5)] 77)
    have xa := cellLists_new w5' (.slice (some ⟨gg, 0, none⟩) (n + 1) ec5)
    generalize hwA : w5'.alloc (.cells #[(.slice (some ⟨gg, 0, none⟩) (n + 1) ec5)] 77) = wB at *
    clear hwA
    have GG := (GF.below BA).drop
    have OG := owns_below O5 BA
    have HRG := (HRF.turn (Tn.below BA)).turn (Tn.drop _)
    have HXG := (HXF.turn (Tn.below BA)).turn (Tn.drop _)
    have pg := GG.rows_p OG (HQN.out _ (by have h7 := (OG.lt _ rfl).1; have h8 := HSZ.out; simp only at h7; omega))
    have gl := (OG.lt gg rfl).2
    have hY := HRG.grid OG pg (by omega)
    clear GF O5 HRF HXF BA HRG
    refine hKc.out _ _ (fun _ _ => GG.blk) ?_
    clear hKc Kc
    refine wpLate_ready (rs := [7]) (by kernel_rfl) (by simp) ?_
    refine wpLate_cons rfl (fun Kc hKc => ?_) wpLate_nil
    simp only [List.getElem_toArray, List.getElem_cons_succ, List.getElem_cons_zero]
    rw [if_pos (by rfl)]
    refine wp_append_cu _ _ rfl (wx3.heap.size + 1) (offO q v1 v2 v3 (.slice none 0 0) (.slice none 0 0) wx3.heap.size) v1 ((List.range l).map (goR M D H Hd m A1 A2 A3 x0)) l len1.out rfl GG.c1 w5'.heap.size gg (n + 1) ec5 _ rfl xa cp1 cp2 pg gl hY (by omega) (by have := GG.blk.lt; omega) ?_
    intro b1 bc w7 M7 G7 N7
    obtain ⟨GH, TH⟩ := GG.put1 M7 G7 N7
    have HXH := HXG.turn TH
    have hb7 : Blk w7 wx3.heap.size 80 #[v1, v2, v3] := GG.blk.of_block (G7.block _ GG.blk.lt (fun e => by have := (GG.c1.lt _ e.symm).1; omega))
    have c7 : w7.cell? ⟨wx3.heap.size, 0, none⟩ = some v1 := hb7.cell 0 rfl
    have f7 := hb7.frozen 0
    clear GG OG HXG hY xa M7 G7 N7 TH
    refine hKc.out _ _ (fun _ _ => hb7) ?_
    clear hKc Kc
    refine wpLate_pure (i := 8) (v := (.pointer (some ⟨wx3.heap.size, 0, none⟩))) rfl (by decide) (by kernel_rfl) (by kernel_rfl) (by kernel_rfl) (fun _ _ _ h => h) (Or.inl ⟨by rfl, ?_⟩) (fun _ => by assumption) ?_
    · intro w' _
      go_simp
    simp only [List.getElem_toArray, List.getElem_cons_succ, List.getElem_cons_zero, Act.put, List.setIfInBounds_toArray, List.set_cons_zero, List.set_cons_succ]
    refine wpLate_ready (rs := [9]) (by kernel_rfl) (by simp) ?_
    refine wpLate_cons rfl (fun Kc hKc => ?_) wpLate_nil
    simp only [List.getElem_toArray, List.getElem_cons_succ, List.getElem_cons_zero]
    rw [if_pos (by rfl)]
    go_wp2_with fail
    refine hKc.out _ _ (fun hne _ => absurd rfl hne) ?_
    clear hKc Kc
    try simp only [Act.put]
    refine wpLate_done (by kernel_rfl) ?_ _
    go_wp2_with fail
    go_meet
    case rel => exact ⟨b1, bc, by rw [map_range_succ]; exact GH, HXH⟩
  case rest =>
  obtain ⟨b1, bc, GB2, HXB2⟩ := hcut
  generalize wc = wq at *
  clear GB HXB OR HRs
  obtain ⟨X0, X1, X2, X3, DQ⟩ := HX0.out wq GB2.kp
  have a4 : wq.cell? ⟨w.heap.size, 4, none⟩ = some (.int .i64 (bn : Int)) := X0.cell 4 rfl
  by_cases hlb : l = bn
  case pos =>
    as_aux_lemma =>
    subst hlb
    have GK := GB2.blk
    have XF := X3.row #[.slice b1 (l + 1) bc, v2, v3]
    have o2 : v2.oneCell' = true := by rw [HV2.out]; rfl
    have o3 : v3.oneCell' = true := by rw [HV3.out]; rfl
    have hsz := HSZ.out
    have TF : Tn (offO q (.slice b1 (l + 1) bc) v2 v3 (.slice none 0 0) (.slice none 0 0) wx3.heap.size) (offO q (.slice b1 (l + 1) bc) v2 v3 (.slice none 0 0) (.slice none 0 0) wx3.heap.size) wq (wq.setRow wx2.heap.size #[.slice b1 (l + 1) bc, v2, v3]) := ⟨by simp, fun b _ hp => ⟨hp, setRow_other _ _ _ _ (by have := hp.2.2.2.2.2.2.1; omega)⟩⟩
    have F1 := GB2.c1.turn TF (fun b e => setRow_other _ _ _ _ (by have := (GB2.c1.lt b e).1; omega))
    have F2 := GB2.c2.turn TF (fun b e => setRow_other _ _ _ _ (by have := (GB2.c2.lt b e).1; omega))
    have F3 := GB2.c3.turn TF (fun b e => setRow_other _ _ _ _ (by have := (GB2.c3.lt b e).1; omega))
    have hPP : ∀ b, (offO q (.slice b1 (l + 1) bc) v2 v3 (.slice none 0 0) (.slice none 0 0) wx3.heap.size) b → p b ∨ w.heap.size ≤ b := fun b hb => by
      by_cases h : b < w.heap.size
      · exact Or.inl ((HQ.out b).1 hb.2.2.2.2.2.2.2 h)
      · exact Or.inr (by omega)
    have hBB : ∀ b, wx3.heap.size + 1 ≤ b → p b ∨ w.heap.size ≤ b := fun b hb => Or.inr (by omega)
    obtain ⟨t1, e1, _, E1⟩ := F1.pcube (by simp; omega) hPP hBB
    obtain ⟨t2, e2, _, E2⟩ := F2.pcube (by simp; omega) hPP hBB
    obtain ⟨t3, e3, _, E3⟩ := F3.pcube (by simp; omega) hPP hBB
    have BF : Below w.heap.size w (wq.setRow wx2.heap.size #[.slice b1 (l + 1) bc, v2, v3]) := ⟨DQ.os, DQ.tape, DQ.output, by simpa using DQ.size, fun k hk => (setRow_other _ _ _ _ (by omega)).trans (DQ.block k hk)⟩
    have HE : Hid (∃ tr tk tv : Sl, (Value.agg #[.slice b1 (l + 1) bc, v2, v3]) = .agg #[tr.v, tk.v, tv.v] ∧ PCube (fun b => p b ∨ w.heap.size ≤ b) (wq.setRow wx2.heap.size #[.slice b1 (l + 1) bc, v2, v3]) tr ((List.range (l + 1)).map (goR M D H Hd m A1 A2 A3 x0)) ∧ PCube (fun b => p b ∨ w.heap.size ≤ b) (wq.setRow wx2.heap.size #[.slice b1 (l + 1) bc, v2, v3]) tk ((List.range l).map (goK M D H Hd m A2 A3 x0)) ∧ PCube (fun b => p b ∨ w.heap.size ≤ b) (wq.setRow wx2.heap.size #[.slice b1 (l + 1) bc, v2, v3]) tv ((List.range l).map (goV M D H Hd m A2 A3 x0)) ∧ Below w.heap.size w (wq.setRow wx2.heap.size #[.slice b1 (l + 1) bc, v2, v3])) := ⟨t1, t2, t3, by rw [e1, e2, e3], E1, E2, E3, BF⟩
    clear hsz TF F1 F2 F3 hPP hBB E1 E2 E3 e1 e2 e3 BF GB2 HXB2
    rw [HX00.out] at HE
    go_wp2_with (first
      | (refine wpList_load_row rfl 80 _ rfl wx3.heap.size rfl 80 _ (0, 0) _ GK Tryz.underlying80 rfl Tryz.infoRP8 ?_)
      | (refine wpList_store_row rfl 80 _ _ rfl wx2.heap.size _ rfl rfl 80 _ X3 Tryz.infoRP8 rfl (all3c rfl o2 o3) ?_))
    refine bodyPost_ret (results_c1 rfl _ _ wx2.heap.size _ rfl (load_rp XF)) rfl ?_
    obtain ⟨tr, tk, tv, e, E⟩ := HE.out
    exact ⟨tr, tk, tv, by rw [e], E⟩
  have hll : l < bn := by omega
  have hlb' : ((l : Int) == (bn : Int)) = false := beq_eq_false_iff_ne.2 (by omega)
  obtain ⟨xb, hxb⟩ : ∃ x, bs[l]? = some x := ⟨_, List.getElem?_eq_getElem (by omega)⟩
  obtain ⟨Lx, hLx, BKx⟩ := (HW.out w (Below.refl _ _)).ls l xb hxb
  have HLx : Hid (layAt M l = Lx) := by show _ = _; unfold layAt; rw [List.getD_eq_getElem?_getD, hLx]; rfl
  obtain ⟨gb, ob0, e0, hcb⟩ := (HW.out w (Below.refl _ _)).b.cells (by show 0 < bn; omega)
  simp only at e0
  subst e0
  have r0 := rangeAt_block (hcb l xb hxb) (DQ.block gb (by have := hcb l xb hxb 0 xb.f.v rfl; simpa using World.block_lt_of_cell? w _ this))
  clear hcb hLx hxb hlb
  obtain ⟨⟨fa, fn, fz⟩, xq, xk, xv, xo, ⟨sa, sn, sz⟩, xu, xd⟩ := xb
  obtain ⟨⟨fe, AF⟩, ⟨qb, qo, qn, qz, rfl, MQ⟩, ⟨kb, ko, kn2, kz2, rfl, MK⟩, ⟨vb, vo, vn2, vz2, rfl, MV⟩, ⟨ob, oo, on2, oz2, rfl, MO⟩, ⟨se, AS⟩, ⟨ub, uo, un, uz, rfl, MU⟩, ⟨db, d2, dn, dz, rfl, MD⟩⟩ := BKx
  simp only at fe se AF AS MQ MK MV MO MU MD
  replace fe := fe.symm
  subst fe
  replace se := se.symm
  subst se
  have HAF : Hid (∀ wv, Below w.heap.size w wv → Arg wv fa D fz Lx.F) := fun wv hb => AF.below hb
  have HAS : Hid (∀ wv, Below w.heap.size w wv → Arg wv sa D sz Lx.S) := fun wv hb => AS.below hb
  have HMQ : Hid (∀ wv, Below w.heap.size w wv → MatAt wv D D qb qo qn qz Lx.Q) := fun wv hb => MQ.below hb
  have HMK : Hid (∀ wv, Below w.heap.size w wv → MatAt wv D D kb ko kn2 kz2 Lx.K) := fun wv hb => MK.below hb
  have HMV : Hid (∀ wv, Below w.heap.size w wv → MatAt wv D D vb vo vn2 vz2 Lx.V) := fun wv hb => MV.below hb
  have HMO : Hid (∀ wv, Below w.heap.size w wv → MatAt wv D D ob oo on2 oz2 Lx.O) := fun wv hb => MO.below hb
  have HMU : Hid (∀ wv, Below w.heap.size w wv → MatAt wv H D ub uo un uz Lx.U) := fun wv hb => MU.below hb
  have HMD : Hid (∀ wv, Below w.heap.size w wv → MatAt wv D H db d2 dn dz Lx.N) := fun wv hb => MD.below hb
  clear AF AS MQ MK MV MO MU MD
  have r0' : wq.rangeAt gb (ob0 + l * 20) (#[.slice fa D fz, .int .i64 (D : Int), .int .i64 (D : Int), .slice (some ⟨qb, qo, none⟩) qn qz, .int .i64 (D : Int), .int .i64 (D : Int), .slice (some ⟨kb, ko, none⟩) kn2 kz2, .int .i64 (D : Int), .int .i64 (D : Int), .slice (some ⟨vb, vo, none⟩) vn2 vz2, .int .i64 (D : Int), .int .i64 (D : Int), .slice (some ⟨ob, oo, none⟩) on2 oz2, .slice sa D sz, .int .i64 (H : Int), .int .i64 (D : Int), .slice (some ⟨ub, uo, none⟩) un uz, .int .i64 (D : Int), .int .i64 (H : Int), .slice (some ⟨db, d2, none⟩) dn dz] : Array Value).toList := r0
  clear r0
  have c3 : wq.cell? ⟨wx0.heap.size, 3, none⟩ = some (.slice (some ⟨gb, ob0, none⟩) bn bz) := X1.cell 3 rfl
  obtain ⟨XA, XB, VB, zB⟩ := var3 wq 61 #[.slice none 0 0, .int .i64 0, .int .i64 0, .slice none 0 0, .int .i64 0, .int .i64 0, .slice none 0 0, .int .i64 0, .int .i64 0, .slice none 0 0, .int .i64 0, .int .i64 0, .slice none 0 0, .slice none 0 0, .int .i64 0, .int .i64 0, .slice none 0 0, .int .i64 0, .int .i64 0, .slice none 0 0] #[.slice fa D fz, .int .i64 (D : Int), .int .i64 (D : Int), .slice (some ⟨qb, qo, none⟩) qn qz, .int .i64 (D : Int), .int .i64 (D : Int), .slice (some ⟨kb, ko, none⟩) kn2 kz2, .int .i64 (D : Int), .int .i64 (D : Int), .slice (some ⟨vb, vo, none⟩) vn2 vz2, .int .i64 (D : Int), .int .i64 (D : Int), .slice (some ⟨ob, oo, none⟩) on2 oz2, .slice sa D sz, .int .i64 (H : Int), .int .i64 (D : Int), .slice (some ⟨ub, uo, none⟩) un uz, .int .i64 (D : Int), .int .i64 (H : Int), .slice (some ⟨db, d2, none⟩) dn dz]
  generalize hwA : wq.alloc (.cells #[.slice none 0 0, .int .i64 0, .int .i64 0, .slice none 0 0, .int .i64 0, .int .i64 0, .slice none 0 0, .int .i64 0, .int .i64 0, .slice none 0 0, .int .i64 0, .int .i64 0, .slice none 0 0, .slice none 0 0, .int .i64 0, .int .i64 0, .slice none 0 0, .int .i64 0, .int .i64 0, .slice none 0 0] 61) = wA at *
  obtain ⟨bm, hbm⟩ : ∃ b, b = wq.heap.size := ⟨_, rfl⟩
  have GM0 := GB2.below VB
  have HXM := HXB2.turn (Tn.below VB)
  have pB := GB2.newer (fun g e => (no_own g e).elim) (fun g e => (no_own g e).elim) (Nat.le_refl wq.heap.size) (HQN.out _ DQ.size)
  have DM := below_then DQ VB
  generalize hwB : wA.setRow wq.heap.size #[.slice fa D fz, .int .i64 (D : Int), .int .i64 (D : Int), .slice (some ⟨qb, qo, none⟩) qn qz, .int .i64 (D : Int), .int .i64 (D : Int), .slice (some ⟨kb, ko, none⟩) kn2 kz2, .int .i64 (D : Int), .int .i64 (D : Int), .slice (some ⟨vb, vo, none⟩) vn2 vz2, .int .i64 (D : Int), .int .i64 (D : Int), .slice (some ⟨ob, oo, none⟩) on2 oz2, .slice sa D sz, .int .i64 (H : Int), .int .i64 (D : Int), .slice (some ⟨ub, uo, none⟩) un uz, .int .i64 (D : Int), .int .i64 (H : Int), .slice (some ⟨db, d2, none⟩) dn dz] = wm at *
  have zm : bm < wm.heap.size := by rw [hbm]; exact XB.lt
  -- two new rows of rows
  have BA1 := below_alloc8 wm (.cells #[] 24)
  have T4 : Tn (offO q (.slice b1 (l + 1) bc) v2 v3 (.slice none 0 0) (.slice none 0 0) wx3.heap.size) (offO q (.slice b1 (l + 1) bc) v2 v3 (.slice (some ⟨wm.heap.size, 0, none⟩) 0 0) (.slice none 0 0) wx3.heap.size) wm (wm.alloc (.cells #[] 24)) := (Tn.new4 wm (Nat.le_refl _)).trans (Tn.below BA1)
  have OK1 := rows_made wm (wx3.heap.size + 1) (by have := GM0.blk.lt; omega)
  have GM1 := GM0.side T4 (fun b hb _ => BA1.block b hb) (BA1.mono (by have := GM0.kp.size; omega))
  generalize hwn : wm.alloc (.cells #[] 24) = wn at *
  have BA2 := below_alloc8 wn (.cells #[] 24)
  have OV2 := rows_made wn (wx3.heap.size + 1) (by have := GM1.blk.lt; omega)
  have OK2 := owns_below OK1 BA2
  have T5 : Tn (offO q (.slice b1 (l + 1) bc) v2 v3 (.slice (some ⟨wm.heap.size, 0, none⟩) 0 0) (.slice none 0 0) wx3.heap.size) (offO q (.slice b1 (l + 1) bc) v2 v3 (.slice (some ⟨wm.heap.size, 0, none⟩) 0 0) (.slice (some ⟨wn.heap.size, 0, none⟩) 0 0) wx3.heap.size) wn (wn.alloc (.cells #[] 24)) := (Tn.new5 wn (Nat.le_refl _)).trans (Tn.below BA2)
  have GM2 := GM1.side T5 (fun b hb _ => BA2.block b hb) (BA2.mono (by have := GM1.kp.size; omega))
  generalize hwo : wn.alloc (.cells #[] 24) = wo at *
  have HB0 : Hangs (offO q (.slice b1 (l + 1) bc) v2 v3 (.slice none 0 0) (.slice none 0 0) wx3.heap.size) wm (fun w => Blk w bm 61 #[.slice fa D fz, .int .i64 (D : Int), .int .i64 (D : Int), .slice (some ⟨qb, qo, none⟩) qn qz, .int .i64 (D : Int), .int .i64 (D : Int), .slice (some ⟨kb, ko, none⟩) kn2 kz2, .int .i64 (D : Int), .int .i64 (D : Int), .slice (some ⟨vb, vo, none⟩) vn2 vz2, .int .i64 (D : Int), .int .i64 (D : Int), .slice (some ⟨ob, oo, none⟩) on2 oz2, .slice sa D sz, .int .i64 (H : Int), .int .i64 (D : Int), .slice (some ⟨ub, uo, none⟩) un uz, .int .i64 (D : Int), .int .i64 (H : Int), .slice (some ⟨db, d2, none⟩) dn dz]) := fun w2 h2 => by rw [hbm]; exact XB.of_block (h2 _ pB XB.lt)
  have HXO := (HXM.turn T4).turn T5
  have HBO := (HB0.turn T4).turn T5
  have DO := below_then (below_then DM BA1) BA2
  obtain ⟨gk0, hgk0⟩ : ∃ b, b = wm.heap.size := ⟨_, rfl⟩
  obtain ⟨gv0, hgv0⟩ : ∃ b, b = wn.heap.size := ⟨_, rfl⟩
  have q1 : wo.cell? ⟨wx1.heap.size, 1, none⟩ = some (.slice ka vn kz) := ((HX0.out wo GM2.kp).2.2.1).cell 1 rfl
  have HNE : Hid (gv0 ≠ gk0) := by show _ ≠ _; have h9 : wm.heap.size < wn.heap.size := (OK1.lt _ rfl).2; omega
  clear GB2 HXB2 GM0 HXM HB0 X2 X3 OK1 GM1 T4 T5 BA1 BA2 pB VB zB DM
  go_upto_if 79 with (first
    | (refine wpList_load_mid rfl 61 _ rfl gb (ob0 + l * 20) rfl (#[.slice fa D fz, .int .i64 (D : Int), .int .i64 (D : Int), .slice (some ⟨qb, qo, none⟩) qn qz, .int .i64 (D : Int), .int .i64 (D : Int), .slice (some ⟨kb, ko, none⟩) kn2 kz2, .int .i64 (D : Int), .int .i64 (D : Int), .slice (some ⟨vb, vo, none⟩) vn2 vz2, .int .i64 (D : Int), .int .i64 (D : Int), .slice (some ⟨ob, oo, none⟩) on2 oz2, .slice sa D sz, .int .i64 (H : Int), .int .i64 (D : Int), .slice (some ⟨ub, uo, none⟩) un uz, .int .i64 (D : Int), .int .i64 (H : Int), .slice (some ⟨db, d2, none⟩) dn dz] : Array Value).toList _ r0' Tryz.underlying61 rfl Tryz.infoRB8 ?_)
    | (refine wpList_store_row rfl 61 _ _ rfl wq.heap.size #[.slice fa D fz, .int .i64 (D : Int), .int .i64 (D : Int), .slice (some ⟨qb, qo, none⟩) qn qz, .int .i64 (D : Int), .int .i64 (D : Int), .slice (some ⟨kb, ko, none⟩) kn2 kz2, .int .i64 (D : Int), .int .i64 (D : Int), .slice (some ⟨vb, vo, none⟩) vn2 vz2, .int .i64 (D : Int), .int .i64 (D : Int), .slice (some ⟨ob, oo, none⟩) on2 oz2, .slice sa D sz, .int .i64 (H : Int), .int .i64 (D : Int), .slice (some ⟨ub, uo, none⟩) un uz, .int .i64 (D : Int), .int .i64 (H : Int), .slice (some ⟨db, d2, none⟩) dn dz] rfl rfl 61 _ XA Tryz.infoRB8 rfl (by simp [Value.oneCell']) ?_; rw [hwB]))
  clear XA XB hwA hwB r0' c3 a4 X0 X1
  rw [← hgk0] at GM2 OK2 HXO HBO
  rw [← hgv0] at GM2 OV2 HXO HBO
  rw [← hgk0, ← hgv0, ← hbm]
  have hgg : gk0 < wo.heap.size ∧ gv0 < wo.heap.size := ⟨(OK2.lt _ rfl).2, (OV2.lt _ rfl).2⟩
  clear hgk0 hgv0 hwn hwo hbm
  go_cut [15, 16] from 79 to 162 (fun s15 s16 wc => ∃ (ya za : Option Addr) (yc zc : Nat) (vs us : List Value), s15 = .slice ya m yc ∧ s16 = .slice za m zc ∧ wc.ownsRow (wx3.heap.size + 1) 24 1 (.slice ya m yc) m vs ∧ wc.ownsRow (wx3.heap.size + 1) 24 1 (.slice za m zc) m us ∧ (∀ g, (Value.slice ya m yc).ownBlock = some g → (Value.slice za m zc).ownBlock ≠ some g) ∧ HRows (offO q (.slice b1 (l + 1) bc) v2 v3 (.slice ya m yc) (.slice za m zc) wx3.heap.size) wc vs (A2.getD l []) ∧ HRows (offO q (.slice b1 (l + 1) bc) v2 v3 (.slice ya m yc) (.slice za m zc) wx3.heap.size) wc us (A3.getD l []) ∧ GoS q wx3 wc (.slice b1 (l + 1) bc) v2 v3 (.slice ya m yc) (.slice za m zc) ((List.range (l + 1)).map (goR M D H Hd m A1 A2 A3 x0)) ((List.range l).map (goK M D H Hd m A2 A3 x0)) ((List.range l).map (goV M D H Hd m A2 A3 x0)) ∧ Hangs (offO q (.slice b1 (l + 1) bc) v2 v3 (.slice ya m yc) (.slice za m zc) wx3.heap.size) wc (fun w => Arg w (some ⟨gx, 0, none⟩) D cx (xRow M D H Hd m A2 A3 x0 l)) ∧ Hangs (offO q (.slice b1 (l + 1) bc) v2 v3 (.slice ya m yc) (.slice za m zc) wx3.heap.size) wc (fun w => Blk w bm 61 #[.slice fa D fz, .int .i64 (D : Int), .int .i64 (D : Int), .slice (some ⟨qb, qo, none⟩) qn qz, .int .i64 (D : Int), .int .i64 (D : Int), .slice (some ⟨kb, ko, none⟩) kn2 kz2, .int .i64 (D : Int), .int .i64 (D : Int), .slice (some ⟨vb, vo, none⟩) vn2 vz2, .int .i64 (D : Int), .int .i64 (D : Int), .slice (some ⟨ob, oo, none⟩) on2 oz2, .slice sa D sz, .int .i64 (H : Int), .int .i64 (D : Int), .slice (some ⟨ub, uo, none⟩) un uz, .int .i64 (D : Int), .int .i64 (H : Int), .slice (some ⟨db, d2, none⟩) dn dz]) ∧ Below wo.heap.size wo wo)
  case first =>
    by_cases hq : l < vn
    · have hqi : (l : Int) < (vn : Int) := by omega
      have hA2 : A2[l]? = some (A2.getD l []) := by rw [List.getD_eq_getElem?_getD, List.getElem?_eq_getElem (by rw [HLK.out]; exact hq)]; rfl
      have hA3 : A3[l]? = some (A3.getD l []) := by rw [List.getD_eq_getElem?_getD, List.getElem?_eq_getElem (by rw [HLV.out]; exact hq)]; rfl
      obtain ⟨b, o, e, _, hc⟩ := (HK.out w (Below.refl _ _)).cells (by show 0 < vn; omega)
      simp only at e
      subst e
      obtain ⟨c, o2, e, _, hc2⟩ := (HV.out w (Below.refl _ _)).cells (by show 0 < vn; omega)
      simp only at e
      subst e
      obtain ⟨b1', o1, n1, c1, k1', k2, k3, hp1, HG⟩ := hc l _ hA2
      have GR := HG.now
      obtain ⟨c1', o3, n2, c2, j1', j2, j3, hp2, HG2⟩ := hc2 l _ hA3
      have GR2 := HG2.now
      obtain rfl : n1 = m := by have := GR.len; have := (HKK.out l hll).1; omega
      obtain rfl : n2 = n1 := by have := GR2.len; have := (HVV.out l hll).1; omega
      obtain ⟨vs, RS, hcs'⟩ := GR.vals
      obtain ⟨us, RS2, hds'⟩ := GR2.vals
      have HRO : Hid (∀ (P : Nat → Prop) (W : World), Below w.heap.size w W → (∀ b, b < w.heap.size → p b → P b) → HRows P W vs (A2.getD l []) ∧ HRows P W us (A3.getD l [])) := fun P W hW hP => ⟨HRows.oldp RS hcs' HG hp1 hW hP, HRows.oldp RS2 hds' HG2 hp2 hW hP⟩
      have k1 : wo.cell? ⟨b, o + l, none⟩ = some (.slice (some ⟨b1', o1, none⟩) n2 c1) := cell_keep k1' DO
      have HJ1 : Hid (∀ W, Below w.heap.size w W → W.cell? ⟨c, o2 + l, none⟩ = some (.slice (some ⟨c1', o3, none⟩) n2 c2) ∧ ∀ j u, us[j]? = some u → W.cell? ((Addr.mk c1' o3 none).add j) = some u) := fun W hW => ⟨cell_keep j1' hW, fun j u hj => cell_keep (hds' j u hj) hW⟩
      have hcs : ∀ j u, vs[j]? = some u → wo.cell? ((Addr.mk b1' o1 none).add j) = some u := fun j u hj => cell_keep (hcs' j u hj) DO
      have hvl : vs.length = n2 := by rw [RS.len, GR.len]
      have hul : us.length = n2 := by rw [RS2.len, GR2.len]
      have one := RS.one
      have one2 := RS2.one
      have hne : gv0 ≠ gk0 := fun e => by have := hgg; exact absurd e HNE.out
      clear hc hc2 GR GR2 HG HG2 hp1 hp2 k1' hcs' j1' hds' hA2 hA3
      go_upto_region 18 with (at_builtin; refine wpList_append_hr rfl _ _ rfl (wx3.heap.size + 1) (.slice (some ⟨gk0, 0, none⟩) 0 0) 0 [] rfl OK2 ⟨b1', o1, none⟩ n2 c1 vs rfl hvl hcs one (by omega) (by have := GM2.blk.lt; omega) ?_; intro ya yc w' O1 G1 N1 _)
      rw [Nat.zero_add] at O1 N1
      have T1 := Tn.app4 (q := q) (v1 := (.slice b1 (l + 1) bc)) (v2 := v2) (v3 := v3) (v5 := (.slice (some ⟨gv0, 0, none⟩) 0 0)) (h := wx3.heap.size) G1 N1
      obtain ⟨r1, r2⟩ := GM2.rows_off OK2 G1
      have GB := GM2.side T1 r1 r2
      have HXP := HXO.turn T1
      have HBP := HBO.turn T1
      have DP : Below w.heap.size w w' := DO.trans (r2.mono (by have := HSZ.out; omega))
      have OV3 : w'.ownsRow (wx3.heap.size + 1) 24 1 (.slice (some ⟨gv0, 0, none⟩) 0 0) 0 [] := owns_mono OV2 (Nat.le_refl _) (fun g e => G1.block g (OV2.lt g e).2 (fun e2 => by simp only [Value.ownBlock, Option.some.injEq] at e e2; exact hne (e.trans e2)))
      have hn4 : ∀ g, (Value.slice ya n2 yc).ownBlock = some g → gv0 ≠ g := fun g e => by
        rcases N1 g e with a | a
        · simp [Value.ownBlock] at a; omega
        · omega
      obtain ⟨j1, hds⟩ := HJ1.out w' DP
      have q2 : w'.cell? ⟨wx1.heap.size, 2, none⟩ = some (.slice (some ⟨c, o2, none⟩) vn vz) := ((HX0.out w' GB.kp).2.2.1).cell 2 rfl
      clear OK2 OV2 GM2 HXO HBO T1 r1 r2 G1 k1 hcs one
      go_upto_region 19 with (at_builtin; refine wpList_append_hr rfl _ _ rfl (wx3.heap.size + 1) (.slice (some ⟨gv0, 0, none⟩) 0 0) 0 [] rfl OV3 ⟨c1', o3, none⟩ n2 c2 us rfl hul hds one2 (by omega) (by have := GB.blk.lt; omega) ?_; intro za zc w2 O2 G2 N2 _)
      go_meet
      case rel =>
        rw [Nat.zero_add] at O2 N2
        have T2 := Tn.app5 (q := q) (v1 := (.slice b1 (l + 1) bc)) (v2 := v2) (v3 := v3) (v4 := (.slice ya n2 yc)) (h := wx3.heap.size) G2 N2
        obtain ⟨r1, r2⟩ := GB.rows_off OV3 G2
        have GC := GB.side T2 r1 r2
        have O1' : w2.ownsRow (wx3.heap.size + 1) 24 1 (.slice ya n2 yc) n2 vs := owns_mono O1 (Nat.le_refl _) (fun g e => G2.block g (O1.lt g e).2 (fun e2 => by simp only [Value.ownBlock, Option.some.injEq] at e2; exact hn4 g e e2.symm))
        have hsz := HSZ.out
        have DF : Below w.heap.size w w2 := DP.trans (r2.mono (by omega))
        have old : ∀ b, b < w.heap.size → p b → (offO q (.slice b1 (l + 1) bc) v2 v3 (.slice ya n2 yc) (.slice za n2 zc) wx3.heap.size) b := fun b hb hpb => GC.older (fun g e => Nat.le_of_succ_le (O1'.lt g e).1) (fun g e => Nat.le_of_succ_le (O2.lt g e).1) (by omega) ((HQ.out b).2 fun _ => hpb)
        refine ⟨ya, za, yc, zc, vs, us, rfl, rfl, O1', O2, fun g e e2 => ?_, (HRO.out _ _ DF old).1, (HRO.out _ _ DF old).2, GC, HXP.turn T2, HBP.turn T2, Below.refl _ _⟩
        rcases N2 g e2 with a | a
        · simp only [Value.ownBlock, Option.some.injEq] at a; exact hn4 g e a
        · have := (O1.lt g e).2; omega
    · have hqi : ¬ (l : Int) < (vn : Int) := by omega
      have e2 : A2.getD l [] = [] := by rw [List.getD_eq_getElem?_getD, List.getElem?_eq_none (by rw [HLK.out]; omega)]; rfl
      have e3 : A3.getD l [] = [] := by rw [List.getD_eq_getElem?_getD, List.getElem?_eq_none (by rw [HLV.out]; omega)]; rfl
      obtain rfl : m = 0 := by have := (HKK.out l hll).1; rw [e2] at this; exact this.symm
      go_upto_region 19 with fail
      go_meet
      case rel => exact ⟨_, _, 0, 0, [], [], rfl, rfl, OK2, OV2, fun g e e' => (by simp only [Value.ownBlock, Option.some.injEq] at e e'; exact HNE.out (e'.trans e.symm)), by rw [e2]; exact HRows.nil _ _, by rw [e3]; exact HRows.nil _ _, GM2, HXO, HBO, Below.refl _ _⟩
  case rest =>
  obtain ⟨ya, za, yc, zc, vs, us, rfl, rfl, OK, OV, hnkv, HRK, HRV, GC, HXC, HBC, _⟩ := hcut
  clear GM2 HXO HBO OK2 OV2 q1 hgg DO HNE
  generalize wc = wr2 at *
  have D2 := (HX0.out wr2 GC.kp).2.2.2.2
  obtain ⟨XX, hXX⟩ : ∃ XX, XX = xRow M D H Hd m A2 A3 x0 l := ⟨_, rfl⟩
  have HXX : Hid (XX = xRow M D H Hd m A2 A3 x0 l) := hXX
  rw [← hXX] at HXC
  clear hXX
  have lXX : Hid (XX.length = D) := by show _ = _; rw [HXX.out]; exact HXL.out l
  have b0 : wr2.cell? ⟨bm, 0, none⟩ = some (.slice fa D fz) := HBC.now.cell 0 rfl
  have NM := refNorm_any (some ⟨gx, 0, none⟩) fa D cx fz XX Lx.F wr2 HXC.now.row (HAF.out wr2 D2).row h1 (by omega)
  have hp4 : ∀ g, (Value.slice ya m yc).ownBlock = some g → g < wr2.heap.size := fun g e => (OK.lt g e).2
  have hp5 : ∀ g, (Value.slice za m zc).ownBlock = some g → g < wr2.heap.size := fun g e => (OV.lt g e).2
  go_upto_region 20 with (go_at_call 48; refine NM.mono ?_; rintro e wA ⟨gn, cn, rfl, FN, BN⟩)
  have pN := GC.newer hp4 hp5 FN.base (HQN.out _ (by have := FN.base; have := D2.size; omega))
  have HN := FN.offO pN
  replace GC := GC.below BN
  replace OK := owns_below OK BN
  replace OV := owns_below OV BN
  replace HRK := HRK.turn (Tn.below BN)
  replace HRV := HRV.turn (Tn.below BN)
  replace HXC := HXC.turn (Tn.below BN)
  replace HBC := HBC.turn (Tn.below BN)
  have D3 := below_then D2 BN
  clear b0 NM hp4 hp5 pN FN BN D2
  have HNR : Hid (tab D (normN XX Lx.F D) = nrm XX Lx.F D) := rfl
  rw [HNR.out] at HN
  have HKR : Hid (tab D (fun i => dotN (rowN Lx.K D i) (nrm XX Lx.F D) D) = keyR Lx D XX) := rfl
  have HVR : Hid (tab D (fun i => dotN (rowN Lx.V D i) (nrm XX Lx.F D) D) = valR Lx D XX) := rfl
  generalize wA = wu at *
  -- the keys
  have AK := refApply_any D D kb ko kn2 kz2 Lx.K (some ⟨gn, 0, none⟩) cn (nrm XX Lx.F D) wu (HMK.out wu D3) HN.now.row
  unfold matV at AK
  rw [HKR.out] at AK
  have b4 : wu.cell? ⟨bm, 4, none⟩ = some (.int .i64 (D : Int)) := HBC.now.cell 4 rfl
  have b5 : wu.cell? ⟨bm, 5, none⟩ = some (.int .i64 (D : Int)) := HBC.now.cell 5 rfl
  have b6 : wu.cell? ⟨bm, 6, none⟩ = some (.slice (some ⟨kb, ko, none⟩) kn2 kz2) := HBC.now.cell 6 rfl
  have hp4 : ∀ g, (Value.slice ya m yc).ownBlock = some g → g < wu.heap.size := fun g e => (OK.lt g e).2
  have hp5 : ∀ g, (Value.slice za m zc).ownBlock = some g → g < wu.heap.size := fun g e => (OV.lt g e).2
  go_upto_region 21 with (first
    | (go_at_call 49; refine AK.mono ?_; rintro e wk1 ⟨gk1, ck1, rfl, FK, BK1⟩; have HKN := FK.offO (GC.newer hp4 hp5 FK.base (HQN.out _ (by have h7 := FK.base; have h8 := D3.size; omega))); have BA := below_alloc8 wk1 (.cells #[.slice (some ⟨gk1, 0, none⟩) D ck1] 24); have BKA := below_then BK1 BA; have xa := cellRows_new wk1 (.slice (some ⟨gk1, 0, none⟩) D ck1); have wka : wk1.heap.size < (wk1.alloc (.cells #[.slice (some ⟨gk1, 0, none⟩) D ck1] 24)).heap.size := by simp)
    | (at_builtin; refine wpList_append_hr rfl _ _ rfl (wx3.heap.size + 1) (.slice ya m yc) m vs rfl (by exact owns_below OK BKA) ⟨wk1.heap.size, 0, none⟩ 1 1 [.slice (some ⟨gk1, 0, none⟩) D ck1] rfl rfl (by exact one_at xa) (by intro u hu; simp at hu; subst hu; rfl) (by omega) (by have h9 := (GC.below BKA).blk.lt; exact h9) ?_; intro ya2 yc2 wk3 OK2 G2 N2 Z2))
  generalize wk1.alloc (.cells #[.slice (some ⟨gk1, 0, none⟩) D ck1] 24) = wk2 at *
  have T2 := Tn.app4 (q := q) (v1 := (.slice b1 (l + 1) bc)) (v2 := v2) (v3 := v3) (v5 := (.slice za m zc)) (h := wx3.heap.size) G2 N2
  have GC2 := GC.below BKA
  have OKb := owns_below OK BKA
  have OVb := owns_below OV BKA
  obtain ⟨r1, r2⟩ := GC2.rows_off OKb G2
  have TT := (Tn.below (p := (offO q (.slice b1 (l + 1) bc) v2 v3 (.slice ya m yc) (.slice za m zc) wx3.heap.size)) BKA).trans T2
  have HRK2 := ((HRK.turn (Tn.below BKA)).snoc (HKN.turn (Tn.below BA))).turn T2
  have OV3 : wk3.ownsRow (wx3.heap.size + 1) 24 1 (.slice za m zc) m us := owns_mono OVb (Nat.le_refl _) (fun g e => G2.block g (OVb.lt g e).2 (fun e2 => hnkv g e2.symm e))
  have hnkv2 : ∀ g, (Value.slice ya2 (m + 1) yc2).ownBlock = some g → (Value.slice za m zc).ownBlock ≠ some g := fun g e e2 => by
    rcases N2 g e with a | a
    · exact hnkv g a e2
    · have := (OVb.lt g e2).2; omega
  replace GC := GC2.side T2 r1 r2
  replace HRV := HRV.turn TT
  replace HXC := HXC.turn TT
  replace HBC := HBC.turn TT
  replace HN := HN.turn TT
  have D4 := (HX0.out wk3 GC.kp).2.2.2.2
  clear GC2 OKb OVb r1 r2 TT T2 G2 N2 HRK HKN BA BKA FK BK1 xa wka b4 b5 b6 AK hp4 hp5 OK OV hnkv D3
  -- the values
  have AV := refApply_any D D vb vo vn2 vz2 Lx.V (some ⟨gn, 0, none⟩) cn (nrm XX Lx.F D) wk3 (HMV.out wk3 D4) HN.now.row
  unfold matV at AV
  rw [HVR.out] at AV
  have b7 : wk3.cell? ⟨bm, 7, none⟩ = some (.int .i64 (D : Int)) := HBC.now.cell 7 rfl
  have b8 : wk3.cell? ⟨bm, 8, none⟩ = some (.int .i64 (D : Int)) := HBC.now.cell 8 rfl
  have b9 : wk3.cell? ⟨bm, 9, none⟩ = some (.slice (some ⟨vb, vo, none⟩) vn2 vz2) := HBC.now.cell 9 rfl
  have hp4 : ∀ g, (Value.slice ya2 (m + 1) yc2).ownBlock = some g → g < wk3.heap.size := fun g e => (OK2.lt g e).2
  have hp5 : ∀ g, (Value.slice za m zc).ownBlock = some g → g < wk3.heap.size := fun g e => (OV3.lt g e).2
  go_upto_region 22 with (first
    | (go_at_call 49; refine AV.mono ?_; rintro e wv1 ⟨gv1, cv1, rfl, FV, BV1⟩; have HVN := FV.offO (GC.newer hp4 hp5 FV.base (HQN.out _ (by have h7 := FV.base; have h8 := D4.size; omega))); have BA := below_alloc8 wv1 (.cells #[.slice (some ⟨gv1, 0, none⟩) D cv1] 24); have BVA := below_then BV1 BA; have xa := cellRows_new wv1 (.slice (some ⟨gv1, 0, none⟩) D cv1); have wva : wv1.heap.size < (wv1.alloc (.cells #[.slice (some ⟨gv1, 0, none⟩) D cv1] 24)).heap.size := by simp)
    | (at_builtin; refine wpList_append_hr rfl _ _ rfl (wx3.heap.size + 1) (.slice za m zc) m us rfl (by exact owns_below OV3 BVA) ⟨wv1.heap.size, 0, none⟩ 1 1 [.slice (some ⟨gv1, 0, none⟩) D cv1] rfl rfl (by exact one_at xa) (by intro u hu; simp at hu; subst hu; rfl) (by omega) (by have h9 := (GC.below BVA).blk.lt; exact h9) ?_; intro za2 zc2 wv3 OV4 G2 N2 Z3))
  generalize wv1.alloc (.cells #[.slice (some ⟨gv1, 0, none⟩) D cv1] 24) = wv2 at *
  have T2 := Tn.app5 (q := q) (v1 := (.slice b1 (l + 1) bc)) (v2 := v2) (v3 := v3) (v4 := (.slice ya2 (m + 1) yc2)) (h := wx3.heap.size) G2 N2
  have GC2 := GC.below BVA
  have OKb := owns_below OK2 BVA
  have OVb := owns_below OV3 BVA
  obtain ⟨r1, r2⟩ := GC2.rows_off OVb G2
  have TT := (Tn.below (p := (offO q (.slice b1 (l + 1) bc) v2 v3 (.slice ya2 (m + 1) yc2) (.slice za m zc) wx3.heap.size)) BVA).trans T2
  have HRV2 := ((HRV.turn (Tn.below BVA)).snoc (HVN.turn (Tn.below BA))).turn T2
  replace HRK2 := HRK2.turn TT
  have OK3 : wv3.ownsRow (wx3.heap.size + 1) 24 1 (.slice ya2 (m + 1) yc2) (m + 1) (vs ++ [.slice (some ⟨gk1, 0, none⟩) D ck1]) := owns_mono OKb (Nat.le_refl _) (fun g e => G2.block g (OKb.lt g e).2 (fun e2 => hnkv2 g e e2.symm))
  replace GC := GC2.side T2 r1 r2
  obtain ⟨gkk, rfl⟩ := Z2 (by omega)
  obtain ⟨gvv, rfl⟩ := Z3 (by omega)
  have pk := GC.rows_p OK3 (HQN.out _ (by have h7 : wx3.heap.size + 1 ≤ gkk := (OK3.lt gkk rfl).1; have h8 := HSZ.out; omega))
  have pv := GC.rows_p OV4 (HQN.out _ (by have h7 : wx3.heap.size + 1 ≤ gvv := (OV4.lt gvv rfl).1; have h8 := HSZ.out; omega))
  have lk3 : gkk < wv3.heap.size := (OK3.lt gkk rfl).2
  have lv3 : gvv < wv3.heap.size := (OV4.lt gvv rfl).2
  have GZ := GC.drop
  have HKG := (HRK2.turn (Tn.drop wv3)).grid OK3 pk (by omega)
  have HVG := (HRV2.turn (Tn.drop wv3)).grid OV4 pv (by omega)
  replace HXC := (HXC.turn TT).turn (Tn.drop wv3)
  replace HBC := (HBC.turn TT).turn (Tn.drop wv3)
  replace HN := (HN.turn TT).turn (Tn.drop wv3)
  obtain ⟨k5, k6⟩ := own_caps8 OK3
  obtain ⟨v5, v6⟩ := own_caps8 OV4
  clear GC GC2 OKb OVb r1 r2 TT T2 G2 N2 HRK2 HRV2 HRV HVN BA BVA FV BV1 xa wva b7 b8 b9 AV hp4 hp5 OK2 OV3 OV4 OK3 hnkv2 D4 Z2 Z3
  -- both are told
  have hl2 : Hid (((List.range l).map (goK M D H Hd m A2 A3 x0)).length = l) := by show _ = _; simp
  have hl3 : Hid (((List.range l).map (goV M D H Hd m A2 A3 x0)).length = l) := by show _ = _; simp
  have d1 : wv3.cell? ⟨wx3.heap.size, 1, none⟩ = some v2 := GZ.blk.cell 1 rfl
  have BA := below_alloc8 wv3 (.cells #[.slice (some ⟨gkk, 0, none⟩) (m + 1) yc2] 77)
  have xa := cellLists_new wv3 (.slice (some ⟨gkk, 0, none⟩) (m + 1) yc2)
  generalize hwa4 : wv3.alloc (.cells #[.slice (some ⟨gkk, 0, none⟩) (m + 1) yc2] 77) = wa4 at *
  have GZa := GZ.below BA
  have HKGa := HKG.turn (Tn.below BA)
  go_upto_region 23 with (at_builtin; refine wpList_append_cu rfl _ _ rfl (wx3.heap.size + 1) (offO q (.slice b1 (l + 1) bc) v2 v3 (.slice none 0 0) (.slice none 0 0) wx3.heap.size) v2 ((List.range l).map (goK M D H Hd m A2 A3 x0)) l hl2.out rfl GZa.c2 wv3.heap.size gkk (m + 1) yc2 _ rfl xa k5 k6 pk (by have := BA.size; omega) (by exact HKGa) (by omega) (by have := GZa.blk.lt; omega) ?_; intro e2a e2c w7 M7 G7 N7; have hb7 : Blk w7 wx3.heap.size 80 #[(.slice b1 (l + 1) bc), v2, v3] := GZa.blk.of_block (G7.block _ GZa.blk.lt (fun e => by have := (GZa.c2.lt _ e.symm).1; omega)); have c7 : w7.cell? ⟨wx3.heap.size, 1, none⟩ = some v2 := hb7.cell 1 rfl; have f7 := hb7.frozen 1)
  obtain ⟨GH, TH⟩ := GZa.put2 M7 G7 N7
  replace TH := (Tn.below BA).trans TH
  replace pv := (TH.keep gvv lv3 pv).1
  replace lv3 : gvv < (w7.setCell ⟨wx3.heap.size, 1, none⟩ (.slice e2a (l + 1) e2c)).heap.size := Nat.lt_of_lt_of_le lv3 TH.size
  replace HKG := HKG.turn TH
  replace HVG := HVG.turn TH
  replace HXC := HXC.turn TH
  replace HBC := HBC.turn TH
  replace HN := HN.turn TH
  generalize w7.setCell ⟨wx3.heap.size, 1, none⟩ (.slice e2a (l + 1) e2c) = wh at *
  clear GZ GZa HKGa BA xa hwa4 M7 G7 N7 hb7 c7 f7 d1 TH
  have d2' : wh.cell? ⟨wx3.heap.size, 2, none⟩ = some v3 := GH.blk.cell 2 rfl
  have BA := below_alloc8 wh (.cells #[.slice (some ⟨gvv, 0, none⟩) (m + 1) zc2] 77)
  have xa := cellLists_new wh (.slice (some ⟨gvv, 0, none⟩) (m + 1) zc2)
  generalize hwa4 : wh.alloc (.cells #[.slice (some ⟨gvv, 0, none⟩) (m + 1) zc2] 77) = wa5 at *
  have GZa := GH.below BA
  have HVGa := HVG.turn (Tn.below BA)
  go_upto_region 24 with (at_builtin; refine wpList_append_cu rfl _ _ rfl (wx3.heap.size + 1) (offO q (.slice b1 (l + 1) bc) (.slice e2a (l + 1) e2c) v3 (.slice none 0 0) (.slice none 0 0) wx3.heap.size) v3 ((List.range l).map (goV M D H Hd m A2 A3 x0)) l hl3.out rfl GZa.c3 wh.heap.size gvv (m + 1) zc2 _ rfl xa v5 v6 pv (by have := BA.size; omega) (by exact HVGa) (by omega) (by have := GZa.blk.lt; omega) ?_; intro e3a e3c w7 M7 G7 N7; have hb7 : Blk w7 wx3.heap.size 80 #[(.slice b1 (l + 1) bc), .slice e2a (l + 1) e2c, v3] := GZa.blk.of_block (G7.block _ GZa.blk.lt (fun e => by have := (GZa.c3.lt _ e.symm).1; omega)); have c7 : w7.cell? ⟨wx3.heap.size, 2, none⟩ = some v3 := hb7.cell 2 rfl; have f7 := hb7.frozen 2)
  obtain ⟨GIx, TH⟩ := GZa.put3 M7 G7 N7
  replace TH := (Tn.below BA).trans TH
  replace HKG := HKG.turn TH
  replace HVG := HVG.turn TH
  replace HXC := HXC.turn TH
  replace HBC := HBC.turn TH
  replace HN := HN.turn TH
  generalize w7.setCell ⟨wx3.heap.size, 2, none⟩ (.slice e3a (l + 1) e3c) = wi at *
  clear GH GZa HVGa BA xa hwa4 M7 G7 N7 hb7 c7 f7 d2' TH
  have GIx' : GoS q wx3 wi (.slice b1 (l + 1) bc) (.slice e2a (l + 1) e2c) (.slice e3a (l + 1) e3c) (.slice none 0 0) (.slice none 0 0) ((List.range (l + 1)).map (goR M D H Hd m A1 A2 A3 x0)) ((List.range (l + 1)).map (goK M D H Hd m A2 A3 x0)) ((List.range (l + 1)).map (goV M D H Hd m A2 A3 x0)) := by
    have e2 : goK M D H Hd m A2 A3 x0 l = A2.getD l [] ++ [keyR Lx D XX] := by unfold goK; rw [HLx.out, HXX.out]
    have e3 : goV M D H Hd m A2 A3 x0 l = A3.getD l [] ++ [valR Lx D XX] := by unfold goV; rw [HLx.out, HXX.out]
    have q2 := map_range_succ l (goK M D H Hd m A2 A3 x0)
    have q3 := map_range_succ l (goV M D H Hd m A2 A3 x0)
    rw [e2] at q2
    rw [e3] at q3
    rw [q2, q3]
    exact GIx
  clear GIx
  have HXw : Hid (∀ W, Below wi.heap.size wi W → Arg W (some ⟨gx, 0, none⟩) D cx XX) := fun W hW => HXC.now.below hW
  have HNw : Hid (∀ W, Below wi.heap.size wi W → Arg W (some ⟨gn, 0, none⟩) D cn (nrm XX Lx.F D)) := fun W hW => HN.now.below hW
  have HBw : Hid (∀ W, Below wi.heap.size wi W → Blk W bm 61 #[.slice fa D fz, .int .i64 (D : Int), .int .i64 (D : Int), .slice (some ⟨qb, qo, none⟩) qn qz, .int .i64 (D : Int), .int .i64 (D : Int), .slice (some ⟨kb, ko, none⟩) kn2 kz2, .int .i64 (D : Int), .int .i64 (D : Int), .slice (some ⟨vb, vo, none⟩) vn2 vz2, .int .i64 (D : Int), .int .i64 (D : Int), .slice (some ⟨ob, oo, none⟩) on2 oz2, .slice sa D sz, .int .i64 (H : Int), .int .i64 (D : Int), .slice (some ⟨ub, uo, none⟩) un uz, .int .i64 (D : Int), .int .i64 (H : Int), .slice (some ⟨db, d2, none⟩) dn dz]) := fun W hW => HBC.now.below hW
  have HKw : Hid (∀ W, Below wi.heap.size wi W → GridAt W (some ⟨gkk, 0, none⟩) (m + 1) (A2.getD l [] ++ [keyR Lx D XX])) := fun W hW => HKG.now.below hW
  have HVw : Hid (∀ W, Below wi.heap.size wi W → GridAt W (some ⟨gvv, 0, none⟩) (m + 1) (A3.getD l [] ++ [valR Lx D XX])) := fun W hW => HVG.now.below hW
  have HCw : Hid (∀ W, Below wi.heap.size wi W → Blk W w.heap.size 23 #[.int .i64 (V : Int), .int .i64 (D : Int), .int .i64 (Hd : Int), .int .i64 (H : Int), .int .i64 (bn : Int)]) := fun W hW => (HX0.out wi GIx'.kp).1.below hW
  have HDw : Hid (∀ W, Below wi.heap.size wi W → Below w.heap.size w W) := fun W hW => below_then (HX0.out wi GIx'.kp).2.2.2.2 hW
  have HGw : Hid (∀ W, Below wi.heap.size wi W → GoS q wx3 W (.slice b1 (l + 1) bc) (.slice e2a (l + 1) e2c) (.slice e3a (l + 1) e3c) (.slice none 0 0) (.slice none 0 0) ((List.range (l + 1)).map (goR M D H Hd m A1 A2 A3 x0)) ((List.range (l + 1)).map (goK M D H Hd m A2 A3 x0)) ((List.range (l + 1)).map (goV M D H Hd m A2 A3 x0))) := fun W hW => GIx'.below hW
  have ltk : (A2.getD l []).length = m ∧ ∀ t, t < m → (rowOf (A2.getD l []) t).length = D := HKK.out l hll
  have ltv : (A3.getD l []).length = m ∧ ∀ t, t < m → (rowOf (A3.getD l []) t).length = D := HVV.out l hll
  have HCH : Hid (hchkN D (m + 1) (m + 1) (A2.getD l [] ++ [keyR Lx D XX]) (A3.getD l [] ++ [valR Lx D XX]) (Hd : Int) = 0) := hchkN_at g1 g2 h1 h2 (by omega) (by omega) hd (rowOf_snoc_len ltk.1 ltk.2 (apl_len _ _ _ _)) (rowOf_snoc_len ltv.1 ltv.2 (apl_len _ _ _ _))
  clear GIx' HXC HN HBC HKG HVG ltk ltv
  have E0 : Below wi.heap.size wi wi.drew := (Below.refl _ wi).drew
  have SJ := And.intro (HBw.out _ E0) (HCw.out _ E0)
  refine wp_region_held_drew (S := fun w' => Blk w' bm 61 #[.slice fa D fz, .int .i64 (D : Int), .int .i64 (D : Int), .slice (some ⟨qb, qo, none⟩) qn qz, .int .i64 (D : Int), .int .i64 (D : Int), .slice (some ⟨kb, ko, none⟩) kn2 kz2, .int .i64 (D : Int), .int .i64 (D : Int), .slice (some ⟨vb, vo, none⟩) vn2 vz2, .int .i64 (D : Int), .int .i64 (D : Int), .slice (some ⟨ob, oo, none⟩) on2 oz2, .slice sa D sz, .int .i64 (H : Int), .int .i64 (D : Int), .slice (some ⟨ub, uo, none⟩) un uz, .int .i64 (D : Int), .int .i64 (H : Int), .slice (some ⟨db, d2, none⟩) dn dz] ∧ Blk w' w.heap.size 23 #[.int .i64 (V : Int), .int .i64 (D : Int), .int .i64 (Hd : Int), .int .i64 (H : Int), .int .i64 (bn : Int)]) (by kernel_rfl) (SJ) (fun hHeld => ?_)
  generalize wi.drew = wj at *
  refine wpAnyH_take (i := 0) (v := (.slice (some ⟨gx, 0, none⟩) D cx)) rfl (by kernel_rfl) (by kernel_rfl) (by kernel_rfl) (fun _ _ _ h => h) (Or.inl ⟨by rfl, ?_⟩) (by assumption) ?_
  · intro w' hSw
    go_simp
  simp only [List.getElem_toArray, List.getElem_cons_zero, Act.put, List.setIfInBounds_toArray, List.set_cons_zero, List.set_cons_succ]
  refine wpAnyH_take (i := 1) (v := (.pointer (some ⟨bm, 10, none⟩))) rfl (by kernel_rfl) (by kernel_rfl) (by kernel_rfl) (fun _ _ _ h => h) (Or.inl ⟨by rfl, ?_⟩) (by assumption) ?_
  · intro w' hSw
    go_simp
  simp only [List.getElem_toArray, List.getElem_cons_succ, List.getElem_cons_zero, Act.put, List.setIfInBounds_toArray, List.set_cons_zero, List.set_cons_succ]
  refine wpAnyH_take (i := 2) (v := (.agg #[.int .i64 (D : Int), .int .i64 (D : Int), .slice (some ⟨ob, oo, none⟩) on2 oz2])) rfl (by kernel_rfl) (by kernel_rfl) (by kernel_rfl) (fun _ _ _ h => h) (Or.inl ⟨by rfl, ?_⟩) (by assumption) ?_
  · intro w' hSw
    have y10 : w'.cell? ⟨bm, 10, none⟩ = some (.int .i64 (D : Int)) := hSw.1.cell 10 rfl
    have y11 : w'.cell? ⟨bm, 11, none⟩ = some (.int .i64 (D : Int)) := hSw.1.cell 11 rfl
    have y12 : w'.cell? ⟨bm, 12, none⟩ = some (.slice (some ⟨ob, oo, none⟩) on2 oz2) := hSw.1.cell 12 rfl
    go_simp
  simp only [List.getElem_toArray, List.getElem_cons_succ, List.getElem_cons_zero, Act.put, List.setIfInBounds_toArray, List.set_cons_zero, List.set_cons_succ]
  refine wpAnyH_take (i := 3) (v := (.pointer (some ⟨bm, 1, none⟩))) rfl (by kernel_rfl) (by kernel_rfl) (by kernel_rfl) (fun _ _ _ h => h) (Or.inl ⟨by rfl, ?_⟩) (by assumption) ?_
  · intro w' hSw
    go_simp
  simp only [List.getElem_toArray, List.getElem_cons_succ, List.getElem_cons_zero, Act.put, List.setIfInBounds_toArray, List.set_cons_zero, List.set_cons_succ]
  refine wpAnyH_take (i := 4) (v := (.agg #[.int .i64 (D : Int), .int .i64 (D : Int), .slice (some ⟨qb, qo, none⟩) qn qz])) rfl (by kernel_rfl) (by kernel_rfl) (by kernel_rfl) (fun _ _ _ h => h) (Or.inl ⟨by rfl, ?_⟩) (by assumption) ?_
  · intro w' hSw
    have y1 : w'.cell? ⟨bm, 1, none⟩ = some (.int .i64 (D : Int)) := hSw.1.cell 1 rfl
    have y2 : w'.cell? ⟨bm, 2, none⟩ = some (.int .i64 (D : Int)) := hSw.1.cell 2 rfl
    have y3 : w'.cell? ⟨bm, 3, none⟩ = some (.slice (some ⟨qb, qo, none⟩) qn qz) := hSw.1.cell 3 rfl
    go_simp
  simp only [List.getElem_toArray, List.getElem_cons_succ, List.getElem_cons_zero, Act.put, List.setIfInBounds_toArray, List.set_cons_zero, List.set_cons_succ]
  refine wpAnyH_take (i := 5) (v := (.slice (some ⟨gn, 0, none⟩) D cn)) rfl (by kernel_rfl) (by kernel_rfl) (by kernel_rfl) (fun _ _ _ h => h) (Or.inl ⟨by rfl, ?_⟩) (by assumption) ?_
  · intro w' hSw
    go_simp
  simp only [List.getElem_toArray, List.getElem_cons_succ, List.getElem_cons_zero, Act.put, List.setIfInBounds_toArray, List.set_cons_zero, List.set_cons_succ]
  refine wpAnyH_take (i := 7) (v := (.slice (some ⟨gkk, 0, none⟩) (m + 1) yc2)) rfl (by kernel_rfl) (by kernel_rfl) (by kernel_rfl) (fun _ _ _ h => h) (Or.inl ⟨by rfl, ?_⟩) (by assumption) ?_
  · intro w' hSw
    go_simp
  simp only [List.getElem_toArray, List.getElem_cons_succ, List.getElem_cons_zero, Act.put, List.setIfInBounds_toArray, List.set_cons_zero, List.set_cons_succ]
  refine wpAnyH_take (i := 8) (v := (.slice (some ⟨gvv, 0, none⟩) (m + 1) zc2)) rfl (by kernel_rfl) (by kernel_rfl) (by kernel_rfl) (fun _ _ _ h => h) (Or.inl ⟨by rfl, ?_⟩) (by assumption) ?_
  · intro w' hSw
    go_simp
  simp only [List.getElem_toArray, List.getElem_cons_succ, List.getElem_cons_zero, Act.put, List.setIfInBounds_toArray, List.set_cons_zero, List.set_cons_succ]
  refine wpAnyH_take (i := 9) (v := (.pointer (some ⟨w.heap.size, 2, none⟩))) rfl (by kernel_rfl) (by kernel_rfl) (by kernel_rfl) (fun _ _ _ h => h) (Or.inl ⟨by rfl, ?_⟩) (by assumption) ?_
  · intro w' hSw
    go_simp
  simp only [List.getElem_toArray, List.getElem_cons_succ, List.getElem_cons_zero, Act.put, List.setIfInBounds_toArray, List.set_cons_zero, List.set_cons_succ]
  refine wpAnyH_take (i := 10) (v := (.int .i64 (Hd : Int))) rfl (by kernel_rfl) (by kernel_rfl) (by kernel_rfl) (fun _ _ _ h => h) (Or.inl ⟨by rfl, ?_⟩) (by assumption) ?_
  · intro w' hSw
    have y2 : w'.cell? ⟨w.heap.size, 2, none⟩ = some (.int .i64 (Hd : Int)) := hSw.2.cell 2 rfl
    go_simp
  simp only [List.getElem_toArray, List.getElem_cons_succ, List.getElem_cons_zero, Act.put, List.setIfInBounds_toArray, List.set_cons_zero, List.set_cons_succ]
  refine wpAnyH_ready (rs := [6]) (by kernel_rfl) (by simp) ?_
  refine AllReadyH.cons rfl (fun Kc hKc => ?_) AllReadyH.nil
  simp only [List.getElem_toArray, List.getElem_cons_succ, List.getElem_cons_zero]
  rw [if_pos (by rfl)]
  go_wp2_with fail
  refine (refApply_any D D qb qo qn qz Lx.Q _ _ (nrm XX Lx.F D) _ (HMQ.out _ (HDw.out _ E0)) (HNw.out _ E0).row).mono ?_
  rintro e wq1 ⟨gq, cq, rfl, FQ, Q1⟩
  have E1 := below_then E0 Q1
  go_wp2_with fail
  refine hKc.out _ _ (⟨HBw.out _ E1, HCw.out _ E1⟩) (fun hHeld => ?_)
  clear hKc Kc
  refine wpAnyH_ready (rs := [11]) (by kernel_rfl) (by simp) ?_
  refine AllReadyH.cons rfl (fun Kc hKc => ?_) AllReadyH.nil
  simp only [List.getElem_toArray, List.getElem_cons_succ, List.getElem_cons_zero]
  rw [if_pos (by rfl)]
  go_wp2_with fail
  refine (refAttend_any _ _ gq 0 D (m + 1) cq yc2 zc2 (apl Lx.Q (nrm XX Lx.F D) D D) _ _ (Hd : Int) _ FQ.arg (HKw.out _ E1) (HVw.out _ E1) HCH.out).mono ?_
  rintro e wq2 ⟨ga, ca, rfl, FA, Q2⟩
  have E2 := below_then E1 Q2
  rw [Int.toNat_natCast] at FA
  go_wp2_with fail
  refine hKc.out _ _ (⟨HBw.out _ E2, HCw.out _ E2⟩) (fun hHeld => ?_)
  clear hKc Kc
  refine wpAnyH_ready (rs := [12]) (by kernel_rfl) (by simp) ?_
  refine AllReadyH.cons rfl (fun Kc hKc => ?_) AllReadyH.nil
  simp only [List.getElem_toArray, List.getElem_cons_succ, List.getElem_cons_zero]
  rw [if_pos (by rfl)]
  go_wp2_with fail
  refine (refApply_any D D ob oo on2 oz2 Lx.O _ _ _ _ (HMO.out _ (HDw.out _ E2)) FA.rowAt).mono ?_
  rintro e wq3 ⟨go, co, rfl, FO, Q3⟩
  have E3 := below_then E2 Q3
  go_wp2_with fail
  refine hKc.out _ _ (⟨HBw.out _ E3, HCw.out _ E3⟩) (fun hHeld => ?_)
  clear hKc Kc
  refine wpAnyH_ready (rs := [13]) (by kernel_rfl) (by simp) ?_
  refine AllReadyH.cons rfl (fun Kc hKc => ?_) AllReadyH.nil
  simp only [List.getElem_toArray, List.getElem_cons_succ, List.getElem_cons_zero]
  rw [if_pos (by rfl)]
  go_wp2_with fail
  refine (rplus_any _ _ D cx co XX _ _ (HXw.out _ E3).row FO.rowAt (by omega)).mono ?_
  rintro e wq4 ⟨gy, cy, rfl, FY, Q4⟩
  have E4 := below_then E3 Q4
  go_wp2_with fail
  refine hKc.out _ _ (⟨HBw.out _ E4, HCw.out _ E4⟩) (fun hHeld => ?_)
  clear hKc Kc
  refine wpAnyH_take (i := 14) (v := (.slice (some ⟨gy, 0, none⟩) D cy)) rfl (by kernel_rfl) (by kernel_rfl) (by kernel_rfl) (fun _ _ _ h => h) (Or.inl ⟨by rfl, ?_⟩) (by assumption) ?_
  · intro w' hSw
    go_simp
  simp only [List.getElem_toArray, List.getElem_cons_succ, List.getElem_cons_zero, Act.put, List.setIfInBounds_toArray, List.set_cons_zero, List.set_cons_succ]
  refine wpAnyH_done (by kernel_rfl) ?_ _
  have HMR : Hid (plusR XX (apl Lx.O (attR Lx D Hd XX (A2.getD l []) (A3.getD l []) m) D D) D = midR Lx D Hd XX (A2.getD l []) (A3.getD l []) m) := rfl
  have FY' : Fresh wq4 wq3.heap.size gy D cy (midR Lx D Hd XX (A2.getD l []) (A3.getD l []) m) := FY
  have gyb : wi.heap.size ≤ gy := by have := FY.base; have := E3.size; omega
  obtain ⟨YY, hYY⟩ : ∃ YY, YY = midR Lx D Hd XX (A2.getD l []) (A3.getD l []) m := ⟨_, rfl⟩
  rw [← hYY] at FY'
  have HYY : Hid (YY = midR Lx D Hd XX (A2.getD l []) (A3.getD l []) m) := hYY
  have F0 := fresh_empty wq4
  have BU := below_alloc8 wq4 (.cells #[] 83)
  clear hYY FY FO FA FQ E0 E1 E2 E3 Q1 Q2 Q3 Q4 HMR SJ hHeld
  go_upto_region 26 with fail
  generalize wq4.alloc (.cells #[] 83) = wu0 at *
  have E5 := below_then E4 BU
  have FY5 := FY'.below BU
  have E6 : Below wi.heap.size wi wu0.drew := E5.drew
  have FY6 := FY5.drew
  have F6 := F0.drew
  have BU6 : Below wq4.heap.size wq4 wu0.drew := BU.drew
  have SJ := And.intro (HBw.out _ E6) (HCw.out _ E6)
  refine wp_region_held_drew (S := fun w' => Blk w' bm 61 #[.slice fa D fz, .int .i64 (D : Int), .int .i64 (D : Int), .slice (some ⟨qb, qo, none⟩) qn qz, .int .i64 (D : Int), .int .i64 (D : Int), .slice (some ⟨kb, ko, none⟩) kn2 kz2, .int .i64 (D : Int), .int .i64 (D : Int), .slice (some ⟨vb, vo, none⟩) vn2 vz2, .int .i64 (D : Int), .int .i64 (D : Int), .slice (some ⟨ob, oo, none⟩) on2 oz2, .slice sa D sz, .int .i64 (H : Int), .int .i64 (D : Int), .slice (some ⟨ub, uo, none⟩) un uz, .int .i64 (D : Int), .int .i64 (H : Int), .slice (some ⟨db, d2, none⟩) dn dz] ∧ Blk w' w.heap.size 23 #[.int .i64 (V : Int), .int .i64 (D : Int), .int .i64 (Hd : Int), .int .i64 (H : Int), .int .i64 (bn : Int)]) (by kernel_rfl) (SJ) (fun hHeld => ?_)
  generalize wu0.drew = wu1 at *
  refine wpAnyH_take (i := 0) (v := (.pointer (some ⟨bm, 14, none⟩))) rfl (by kernel_rfl) (by kernel_rfl) (by kernel_rfl) (fun _ _ _ h => h) (Or.inl ⟨by rfl, ?_⟩) (by assumption) ?_
  · intro w' hSw
    go_simp
  simp only [List.getElem_toArray, List.getElem_cons_zero, Act.put, List.setIfInBounds_toArray, List.set_cons_zero, List.set_cons_succ]
  refine wpAnyH_take (i := 1) (v := (.agg #[.int .i64 (H : Int), .int .i64 (D : Int), .slice (some ⟨ub, uo, none⟩) un uz])) rfl (by kernel_rfl) (by kernel_rfl) (by kernel_rfl) (fun _ _ _ h => h) (Or.inl ⟨by rfl, ?_⟩) (by assumption) ?_
  · intro w' hSw
    have y14 : w'.cell? ⟨bm, 14, none⟩ = some (.int .i64 (H : Int)) := hSw.1.cell 14 rfl
    have y15 : w'.cell? ⟨bm, 15, none⟩ = some (.int .i64 (D : Int)) := hSw.1.cell 15 rfl
    have y16 : w'.cell? ⟨bm, 16, none⟩ = some (.slice (some ⟨ub, uo, none⟩) un uz) := hSw.1.cell 16 rfl
    go_simp
  simp only [List.getElem_toArray, List.getElem_cons_succ, List.getElem_cons_zero, Act.put, List.setIfInBounds_toArray, List.set_cons_zero, List.set_cons_succ]
  refine wpAnyH_take (i := 2) (v := (.slice (some ⟨gy, 0, none⟩) D cy)) rfl (by kernel_rfl) (by kernel_rfl) (by kernel_rfl) (fun _ _ _ h => h) (Or.inl ⟨by rfl, ?_⟩) (by assumption) ?_
  · intro w' hSw
    go_simp
  simp only [List.getElem_toArray, List.getElem_cons_succ, List.getElem_cons_zero, Act.put, List.setIfInBounds_toArray, List.set_cons_zero, List.set_cons_succ]
  refine wpAnyH_take (i := 3) (v := (.pointer (some ⟨bm, 13, none⟩))) rfl (by kernel_rfl) (by kernel_rfl) (by kernel_rfl) (fun _ _ _ h => h) (Or.inl ⟨by rfl, ?_⟩) (by assumption) ?_
  · intro w' hSw
    go_simp
  simp only [List.getElem_toArray, List.getElem_cons_succ, List.getElem_cons_zero, Act.put, List.setIfInBounds_toArray, List.set_cons_zero, List.set_cons_succ]
  refine wpAnyH_take (i := 4) (v := (.slice sa D sz)) rfl (by kernel_rfl) (by kernel_rfl) (by kernel_rfl) (fun _ _ _ h => h) (Or.inl ⟨by rfl, ?_⟩) (by assumption) ?_
  · intro w' hSw
    have y13 : w'.cell? ⟨bm, 13, none⟩ = some (.slice sa D sz) := hSw.1.cell 13 rfl
    go_simp
  simp only [List.getElem_toArray, List.getElem_cons_succ, List.getElem_cons_zero, Act.put, List.setIfInBounds_toArray, List.set_cons_zero, List.set_cons_succ]
  refine wpAnyH_take (i := 8) (v := (.int .i64 0)) rfl (by kernel_rfl) (by kernel_rfl) (by kernel_rfl) (fun _ _ _ h => h) (Or.inl ⟨by rfl, ?_⟩) (by assumption) ?_
  · intro w' hSw
    go_simp
  simp only [List.getElem_toArray, List.getElem_cons_succ, List.getElem_cons_zero, Act.put, List.setIfInBounds_toArray, List.set_cons_zero, List.set_cons_succ]
  refine wpAnyH_ready (rs := [5]) (by kernel_rfl) (by simp) ?_
  refine AllReadyH.cons rfl (fun Kc hKc => ?_) AllReadyH.nil
  simp only [List.getElem_toArray, List.getElem_cons_succ, List.getElem_cons_zero]
  rw [if_pos (by rfl)]
  go_wp2_with fail
  refine (refNorm_any _ _ D _ _ YY Lx.S _ FY6.rowAt (HAS.out _ (HDw.out _ E6)).row h1 (by omega)).mono ?_
  rintro e wu2 ⟨gm, cm, rfl, FM, U1⟩
  have E7 := below_then E6 U1
  have BU7 := below_then BU6 U1
  have FU7 := F6.below U1
  go_wp2_with fail
  refine hKc.out _ _ (⟨HBw.out _ E7, HCw.out _ E7⟩) (fun hHeld => ?_)
  clear hKc Kc
  refine wpAnyH_ready (rs := [6]) (by kernel_rfl) (by simp) ?_
  refine AllReadyH.cons rfl (fun Kc hKc => ?_) AllReadyH.nil
  simp only [List.getElem_toArray, List.getElem_cons_succ, List.getElem_cons_zero]
  rw [if_pos (by rfl)]
  go_wp2_with fail
  refine (refApply_any H D ub uo un uz Lx.U _ _ _ _ (HMU.out _ (HDw.out _ E7)) FM.rowAt).mono ?_
  rintro e wu3 ⟨gu, cu, rfl, FG, U2⟩
  have E8 := below_then E7 U2
  have BU8 := below_then BU7 U2
  have FU8 := FU7.below U2
  go_wp2_with fail
  refine hKc.out _ _ (⟨HBw.out _ E8, HCw.out _ E8⟩) (fun hHeld => ?_)
  clear hKc Kc
  refine wpAnyH_take (i := 7) (v := (.int .i64 (H : Int))) rfl (by kernel_rfl) (by kernel_rfl) (by kernel_rfl) (fun _ _ _ h => h) (Or.inl ⟨by rfl, ?_⟩) (by assumption) ?_
  · intro w' hSw
    go_simp
  simp only [List.getElem_toArray, List.getElem_cons_succ, List.getElem_cons_zero, Act.put, List.setIfInBounds_toArray, List.set_cons_zero, List.set_cons_succ]
  refine wpAnyH_done (by kernel_rfl) ?_ _
  go_wp2_with fail
  have hug : wq4.heap.size ≠ gu := by have h7 := FG.base; have h8 := U1.size; have h9 := BU6.size; have := F6.lt; omega
  have FG' : Fresh wu3 wq4.heap.size gu H cu (apl Lx.U (nrm YY Lx.S D) H D) := FG.mono (by have h8 := U1.size; have h9 := BU6.size; omega)
  obtain ⟨UU, hUU⟩ : ∃ UU, UU = apl Lx.U (nrm YY Lx.S D) H D := ⟨_, rfl⟩
  rw [← hUU] at FG'
  have HUU : Hid (UU = apl Lx.U (nrm YY Lx.S D) H D) := hUU
  have KG := fun k => FG'.small.el k
  clear hUU FG FM FU7 F6 F0 U1 U2 BU BU6 BU7 E5 E6 E7 FY5 FY6 SJ hHeld
  go_loopg [19, 147] H (fun r s19 s147 wr => ∃ (k g cap : Nat), k ≤ H ∧ r = H - k ∧ s147 = .int .i64 (k : Int) ∧ s19 = .slice (some ⟨g, 0, none⟩) k cap ∧ g ≠ gu ∧ Fresh wr wq4.heap.size g k cap (tab k fun j => max (el UU j) 0) ∧ Fresh wr wq4.heap.size gu H cu UU ∧ Below wq4.heap.size wq4 wr)
  case atStart => exact ⟨0, _, _, by omega, by omega, rfl, rfl, hug, FU8, FG', BU8⟩
  case round =>
  generalize wr = wl at *
  clear FU8 FG' BU8 E8
  obtain ⟨k, g, cap, hk, rfl, rfl, rfl, hg, F3, FR, B3⟩ := hrel
  by_cases hlt : k < H
  · have c1 := FR.cell hlt
    have bx := KG k
    have HS : Hid (tab (k + 1) (fun j => max (el UU j) 0) = tab k (fun j => max (el UU j) 0) ++ [max (el UU k) 0]) := tab_snoc1 k _
    generalize hz : el UU k = z at *
    have s3 := B3.size
    obtain ⟨x, hx⟩ : ∃ x, x = max z 0 := ⟨_, rfl⟩
    rw [← hx] at HS
    have R := rowAt_one wl x (by omega)
    have BA := below_alloc8 wl (.cells #[.int .i32 x] 83)
    have hxz : (z < 0 ∧ x = 0) ∨ (¬ z < 0 ∧ x = z) := by omega
    clear hx
    have key : ∀ (P : Prop), (z < 0 → x = 0 → P) → (¬ z < 0 → x = z → P) → P := fun P a b => by rcases hxz with h | h; exact a h.1 h.2; exact b h.1 h.2
    refine key _ (fun f1 f2 => ?_) (fun f1 f2 => ?_)
    all_goals
      clear key hxz
      subst f2
      generalize hw3 : wl.alloc (.cells #[.int .i32 _] 83) = wl3 at R BA
      have F4 := F3.below BA
      have FR4 := FR.below BA
      have hrl2 := FR4.lt
      have s4 := BA.size
      have BA2 := below_then B3 BA
      clear F3 FR
      go_wp2_with (at_builtin; refine wpList_append_one2 rfl _ _ rfl wq4.heap.size g k cap _ rfl (by exact F4) wl.heap.size _ rfl (by exact R) (by omega) (by omega) ?_; intro g' cap' w' F6 B6 K6 N6)
      go_roundg (H - (k + 1))
      case measure => omega
      case rel => exact ⟨k + 1, _, _, by omega, rfl, by go_num, rfl, by omega, by rw [HS.out]; exact F6, FR4.of_block (K6 gu hrl2 (Ne.symm hg)), BA2.trans B6⟩
  obtain rfl : k = H := by omega
  have E9 := E4.trans (B3.mono E4.size)
  have FY9 := FY'.of_block (B3.block gy FY'.lt)
  have AD := refApply_any D k db d2 dn dz Lx.N (some ⟨g, 0, none⟩) cap _ wl (HMD.out _ (HDw.out _ E9)) F3.rowAt
  unfold matV at AD
  have HB9 := HBw.out _ E9
  have y17 : wl.cell? ⟨bm, 17, none⟩ = some (.int .i64 (D : Int)) := HB9.cell 17 rfl
  have y18 : wl.cell? ⟨bm, 18, none⟩ = some (.int .i64 (k : Int)) := HB9.cell 18 rfl
  have y19 : wl.cell? ⟨bm, 19, none⟩ = some (.slice (some ⟨db, d2, none⟩) dn dz) := HB9.cell 19 rfl
  have PL := fun (wv : World) (gd cd : Nat) (Z : List Int) (hb : Below wl.heap.size wl wv) (hz : RowAt wv (some ⟨gd, 0, none⟩) D Z) => rplus_any (some ⟨gy, 0, none⟩) (some ⟨gd, 0, none⟩) D cy cd YY Z wv (FY9.rowAt.below hb) hz (by omega)
  clear FR KG FY'
  go_wp2_with (first
    | (go_at_call 49; refine AD.mono ?_; rintro e wl2 ⟨gd, cd, rfl, FD, L1⟩; have PL2 := PL wl2 gd cd _ L1 FD.rowAt)
    | (go_at_call 50; refine PL2.mono ?_; rintro e wl3 ⟨gx2, cx2, rfl, FX2, L2⟩))
  have EA := below_then (below_then E9 L1) L2
  have EB := below_then E9 L1
  have GF := HGw.out _ EA
  have pF := (HGw.out _ EB).newer (fun g e => (no_own g e).elim) (fun g e => (no_own g e).elim) FX2.base (HQN.out _ (by have := FX2.base; have := (HDw.out _ EB).size; omega))
  have HF := FX2.offO pF
  have hX : plusR YY (tab D fun i => dotN (rowN Lx.N k i) (tab k fun j => max (el UU j) 0) k) D = xRow M D k Hd m A2 A3 x0 (l + 1) := by
    show _ = oneR (layAt M l) D k Hd (xRow M D k Hd m A2 A3 x0 l) (A2.getD l []) (A3.getD l []) m
    rw [HLx.out, ← HXX.out]
    show _ = endR Lx D k (midR Lx D Hd XX (A2.getD l []) (A3.getD l []) m)
    rw [← HYY.out]
    show _ = plusR YY (apl Lx.N (riseR (apl Lx.U (nrm YY Lx.S D) k D) k) D k) D
    rw [← HUU.out]
    rfl
  rw [hX] at HF
  clear hX FX2 pF PL PL2 AD y17 y18 y19 HB9
  go_roundg (bn + 2 - (l + 1))
  case measure => omega
  case rel => exact ⟨l + 1, b1, e2a, e3a, bc, e2c, e3c, gx2, cx2, by omega, rfl, by go_num, rfl, GF, HF⟩
end Go.Proofs.YtmdjlaileakbeaaGreatDoor
