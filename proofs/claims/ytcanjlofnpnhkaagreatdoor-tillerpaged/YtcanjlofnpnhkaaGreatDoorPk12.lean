/- Contracts of the program's functions, part 12 of 13: what each call returns and leaves of memory. -/
import Derived.Test.YtcanjlofnpnhkaaGreatDoorPk11
import Derived.Test.YtcanjlofnpnhkaaGreatDoorPk9
import Derived.Test.YtcanjlofnpnhkaaGreatDoorPk3
import Derived.Test.YtcanjlofnpnhkaaGreatDoorPk8
import Derived.Test.YtcanjlofnpnhkaaGreatDoorPk6
import Derived.Test.YtcanjlofnpnhkaaGreatDoorRows
import Derived.Test.YtcanjlofnpnhkaaGreatDoorPk1
import Derived.Deep.OwnRows
import Derived.Deep.LoopGhost
import Derived.Deep.RegionWith
import Derived.Deep.QuietTactic
import Derived.Laws.Tables
import Derived.Laws.AppendOwnNone
import Derived.Lib.SliceRun
import Derived.Lib.Hide
import Derived.Maps.OwnSet
import Derived.Maps.Views
import Derived.Maps.Ext
import Derived.Maps.RangeWalk
import Derived.Lib.SlMapFilter
import Derived.Laws.IdiomRangeMap
import Derived.Shelf.Abstract
import Derived.Laws.ResultCell
/- Package pass: Full: how much a model likes each token behind a row of them, from the beginning. -/
namespace Go.Proofs.YtcanjlofnpnhkaaGreatDoor
open Go.ChangeShapes Go.WideShapes Go.ChangeAt Go.RowKit
/-- The first rows of tokens; what l layers make of them. -/
def begL (E : List Int) (D : Nat) (A : List Int) : List (List Int) := (List.range A.length).map fun t => begR E D (el A t).toNat t
def rowsL (M : Mdl) (D H Hd : Nat) (A : List Int) : Nat → List (List Int)
  | 0 => begL M.E D A
  | l + 1 => madeR (layAt M l) D H Hd (rowsL M D H Hd A l)
def fullK (M : Mdl) (D H Hd L : Nat) (A : List Int) : List (List (List Int)) := (List.range L).map fun l => keysR (layAt M l) D (rowsL M D H Hd A l)
def fullV (M : Mdl) (D H Hd L : Nat) (A : List Int) : List (List (List Int)) := (List.range L).map fun l => valsR (layAt M l) D (rowsL M D H Hd A l)
def fullX (M : Mdl) (V D H Hd L : Nat) (A : List Int) : List Int := likR M V D (rowOf (rowsL M D H Hd A L) (A.length - 1))
theorem rowsL_len (M : Mdl) (D H Hd : Nat) (A : List Int) : ∀ l, (rowsL M D H Hd A l).length = A.length
  | 0 => by show (begL M.E D A).length = _; unfold begL; simp
  | l + 1 => by show (madeR _ _ _ _ (rowsL M D H Hd A l)).length = _; unfold madeR; simp [rowsL_len M D H Hd A l]
theorem rowsL_row (M : Mdl) (D H Hd : Nat) (A : List Int) : ∀ l t, t < A.length → (rowOf (rowsL M D H Hd A l) t).length = D
  | 0, t, h => by
    show (rowOf (begL M.E D A) t).length = D
    unfold rowOf begL
    rw [List.getD_eq_getElem?_getD, List.getElem?_map, List.getElem?_range h]
    exact tab_len _ _
  | l + 1, t, h => by
    show (rowOf (madeR _ _ _ _ (rowsL M D H Hd A l)) t).length = D
    rw [madeR_at _ _ _ _ (by rw [rowsL_len]; exact h)]
    exact tab_len _ _
theorem begL_at (E : List Int) (D : Nat) {A : List Int} {t : Nat} (h : t < A.length) : rowOf (begL E D A) t = begR E D (el A t).toNat t := by
  unfold rowOf begL
  rw [List.getD_eq_getElem?_getD, List.getElem?_map, List.getElem?_range h]
  rfl
theorem fullK_at (M : Mdl) (D H Hd L : Nat) (A : List Int) {l : Nat} (h : l < L) : (fullK M D H Hd L A).getD l [] = keysR (layAt M l) D (rowsL M D H Hd A l) := by
  unfold fullK
  rw [List.getD_eq_getElem?_getD, List.getElem?_map, List.getElem?_range h]
  rfl
theorem fullV_at (M : Mdl) (D H Hd L : Nat) (A : List Int) {l : Nat} (h : l < L) : (fullV M D H Hd L A).getD l [] = valsR (layAt M l) D (rowsL M D H Hd A l) := by
  unfold fullV
  rw [List.getD_eq_getElem?_getD, List.getElem?_map, List.getElem?_range h]
  rfl
theorem Tryz.infoCa : (Tryz.prog.info? 28).map (·.size) = some 2 := by kernel_rfl
theorem load_ca {w : World} {g : Nat} {cs : Array Value} (h : Blk w g 28 cs) (hs : cs.size = 2) : (loadVar 28 ⟨g, 0, none⟩).run Tryz.prog w = .ok (.agg cs) w :=
  run_loadVar_row w g _ _ cs _ _ h Tryz.underlying28 rfl (by rw [hs]; exact Tryz.infoCa)
theorem results_mid {fn : Func} {p u v : Tmp} {ty : TypeId} (h : fn.results = #[.tmp u, .cell p ty, .tmp v]) (tmps : Array Value) (w : World) (g : Nat) (cs : Array Value)
    (hp : tmps.getD p undef = .pointer (some ⟨g, 0, none⟩)) (hl : (loadVar ty ⟨g, 0, none⟩).run Tryz.prog w = .ok (.agg cs) w) :
    (results fn tmps).run Tryz.prog w = .ok (.tuple #[tmps.getD u undef, .agg cs, tmps.getD v undef]) w := by
  have hp' : tmps[p]?.getD undef = .pointer (some ⟨g, 0, none⟩) := by simpa using hp
  simp [results, h, hp', asAddr, hl]
def offF (w : World) (gK gV gC b : Nat) : Prop := w.heap.size + 2 < b ∧ b ≠ gK ∧ b ≠ gV ∧ b ≠ gC
/-- Within Full: boxes, the cache, and its lists up to layer t. -/
structure FI (w wr : World) (cfg ws : Array Value) (gC gK gV L t : Nat) (A1 A2 : List (List (List Int))) : Prop where
  x0 : Blk wr w.heap.size 23 cfg
  x1 : Blk wr (w.heap.size + 1) 40 ws
  x2 : Blk wr (w.heap.size + 2) 28 #[.slice none 0 0, .slice none 0 0]
  xc : Blk wr gC 28 #[.slice (some ⟨gK, 0, none⟩) L L, .slice (some ⟨gV, 0, none⟩) L L]
  k : KV wr gK L t (offF w gK gV gC) A1 []
  v : KV wr gV L t (offF w gK gV gC) A2 []
  ne : w.heap.size + 2 < gK ∧ w.heap.size + 2 < gV ∧ w.heap.size + 2 < gC ∧ gK ≠ gV ∧ gK ≠ gC ∧ gV ≠ gC
  kp : Below w.heap.size w wr
theorem FI.below {w wr w' : World} {cfg ws : Array Value} {gC gK gV L t : Nat} {A1 A2 : List (List (List Int))} (h : FI w wr cfg ws gC gK gV L t A1 A2) (hb : Below wr.heap.size wr w') : FI w w' cfg ws gC gK gV L t A1 A2 :=
  ⟨h.x0.below hb, h.x1.below hb, h.x2.below hb, h.xc.below hb, h.k.below hb, h.v.below hb, h.ne, below_then h.kp hb⟩
theorem FI.next {w wr : World} {cfg ws : Array Value} {gC gK gV L t : Nat} {A1 A2 : List (List (List Int))} (h : FI w wr cfg ws gC gK gV L t A1 A2) (ht : t < L) {r1 r2 n : Nat} {vs1 vs2 : List Value} (hn : n ≤ 9223372036854775807) (N1 : Hangs (offF w gK gV gC) wr fun w => GridV w (some ⟨r1, 0, none⟩) n vs1 (A1.getD t [])) (N2 : Hangs (offF w gK gV gC) wr fun w => GridV w (some ⟨r2, 0, none⟩) n vs2 (A2.getD t [])) :
    FI w ((wr.setCell ⟨gK, t, none⟩ (.slice (some ⟨r1, 0, none⟩) n n)).setCell ⟨gV, t, none⟩ (.slice (some ⟨r2, 0, none⟩) n n)) cfg ws gC gK gV L (t + 1) A1 A2 := by
  obtain ⟨e1, e2, e3, e4, e5, e6⟩ := h.ne
  have pk : ¬ offF w gK gV gC gK := fun h => h.2.1 rfl
  have pv : ¬ offF w gK gV gC gV := fun h => h.2.2.1 rfl
  refine ⟨(h.x0.other (by show _ ≠ gK; omega) _).other (by show _ ≠ gV; omega) _, (h.x1.other (by show _ ≠ gK; omega) _).other (by show _ ≠ gV; omega) _, (h.x2.other (by show _ ≠ gK; omega) _).other (by show _ ≠ gV; omega) _, (h.xc.other (by show _ ≠ gK; omega) _).other (by show _ ≠ gV; omega) _, ?_, ?_, h.ne, ?_⟩
  · exact (h.k.step ht pk (fun h => by cases h) (Nat.le_refl _) hn N1).far (by show gV ≠ gK; omega) pv _
  · exact (h.v.far (by show gK ≠ gV; omega) pk _).step ht pv (fun h => by cases h) (Nat.le_refl _) hn (N2.set pk _)
  · exact (h.kp.setCell (p := ⟨gK, t, none⟩) (by show w.heap.size ≤ gK; omega) _).setCell (p := ⟨gV, t, none⟩) (by show w.heap.size ≤ gV; omega) _
theorem Hangs.setRowFar {p : Nat → Prop} {w : World} {Φ : World → Prop} (h : Hangs p w Φ) {g : Nat} (hg : ¬ p g) (cs : Array Value) : Hangs p (w.setRow g cs) Φ := h.row hg cs
end Go.Proofs.YtcanjlofnpnhkaaGreatDoor

/- Package greedy: requests, ends, and the token that is liked best. -/
namespace Go.Proofs.YtcanjlofnpnhkaaGreatDoor
open Go.ChangeShapes Go.WideShapes Go.ChangeAt Go.RowKit
/-- Is the last token the end? -/
def endB (A : List Int) : Bool := decide (0 < A.length) && decide (el A (A.length - 1) = 0)
def overB (A : List Int) (most : Int) : Bool := decide (most ≤ (A.length : Int)) || endB A
/-- The error's number of a request. -/
def askedN (V : Int) (A : List Int) (most : Int) : Int := if promptN V A ≠ 0 then promptN V A else if most < 1 then 1 else if 128 - (A.length : Int) < most then 2 else 0
theorem amax_pos (A : List Int) : ∀ k, 0 ≤ amax A (k + 1)
  | 0 => by simp [amax]
  | k + 1 => by
    have := amax_pos A k
    rw [amax]
    split <;> omega
end Go.Proofs.YtcanjlofnpnhkaaGreatDoor

/- Package greedy: Run: what a model says behind a prompt. -/
namespace Go.Proofs.YtcanjlofnpnhkaaGreatDoor
open Go.ChangeShapes Go.WideShapes Go.ChangeAt Go.RowKit
def noX : Vw := ⟨[], [], []⟩
/-- Behind j tokens of an answer: the view, the answer, and the tokens that the view lacks. -/
structure RunS where
  X : Vw
  Y : List Int
  T : List Int
def runS (M : Mdl) (V D H Hd L : Nat) (P : List Int) : Nat → RunS
  | 0 => ⟨noX, [], P⟩
  | j + 1 => ⟨feedAll M D H Hd L (runS M V D H Hd L P j).X (runS M V D H Hd L P j).T,
      (runS M V D H Hd L P j).Y ++ [amax (likAt M V D H Hd L (runS M V D H Hd L P j).X (runS M V D H Hd L P j).T (runS M V D H Hd L P j).T.length) V],
      [amax (likAt M V D H Hd L (runS M V D H Hd L P j).X (runS M V D H Hd L P j).T (runS M V D H Hd L P j).T.length) V]⟩
theorem runS_len (M : Mdl) (V D H Hd L : Nat) (P : List Int) : ∀ j, (runS M V D H Hd L P j).Y.length = j
  | 0 => rfl
  | j + 1 => by show (_ ++ [_]).length = _; rw [List.length_append, runS_len M V D H Hd L P j]; rfl
theorem runS_sum (M : Mdl) (V D H Hd L : Nat) (P : List Int) : ∀ j, (runS M V D H Hd L P j).X.T.length + (runS M V D H Hd L P j).T.length = P.length + j
  | 0 => by show 0 + P.length = _; omega
  | j + 1 => by
    show (feedAll M D H Hd L _ _).T.length + 1 = _
    rw [feedAll_len, runS_sum M V D H Hd L P j]
    omega
theorem amax_tok (A : List Int) {V : Nat} (hV : 1 ≤ V) : 0 ≤ amax A V ∧ amax A V < V := by
  obtain ⟨k, rfl⟩ : ∃ k, V = k + 1 := ⟨V - 1, by omega⟩
  exact ⟨amax_pos A k, (amax_bd A (k + 1)).2⟩
theorem noX_fit (V : Int) (D L : Nat) : VwFit V D L noX := ⟨by show 0 ≤ 128; omega, rfl, rfl, rfl, (fun _ h => by cases h), (fun _ h => by cases h)⟩
theorem runS_toks {M : Mdl} {V D H Hd L : Nat} {P : List Int} (hV : 1 ≤ V) (hP : promptN V P = 0) : ∀ j, promptN V (runS M V D H Hd L P j).T = 0
  | 0 => hP
  | j + 1 => by
    have h := amax_tok (likAt M V D H Hd L (runS M V D H Hd L P j).X (runS M V D H Hd L P j).T (runS M V D H Hd L P j).T.length) hV
    show promptN V [amax _ V] = 0
    unfold promptN
    rw [if_neg (by simp), if_neg (by simp)]
    have : List.all [amax (likAt M V D H Hd L (runS M V D H Hd L P j).X (runS M V D H Hd L P j).T (runS M V D H Hd L P j).T.length) (V : Nat)] (tokB V) = true := by
      simp only [List.all_cons, List.all_nil, Bool.and_true]
      unfold tokB
      exact decide_eq_true h
    rw [if_pos this]
theorem runS_fit {M : Mdl} {V D H Hd L : Nat} {P : List Int} (hV : 1 ≤ V) (hP : promptN V P = 0) : ∀ j, P.length + j ≤ 129 → VwFit V D L (runS M V D H Hd L P j).X
  | 0, _ => noX_fit _ _ _
  | j + 1, h => by
    have hs := runS_sum M V D H Hd L P j
    exact feedAll_fit (runS_fit hV hP j (by omega)) (prompt_ok (runS_toks hV hP j)).2.2 (by omega)
theorem asked_ok {V : Int} {A : List Int} {most : Int} (h : askedN V A most = 0) : promptN V A = 0 ∧ 1 ≤ most ∧ most ≤ 128 - (A.length : Int) := by
  unfold askedN at h
  split at h
  · rename_i h1; exact absurd h h1
  · rename_i h1
    split at h
    · omega
    · split at h
      · omega
      · exact ⟨by simpa using h1, by omega, by omega⟩
theorem over_not {A : List Int} {most : Int} (h : overB A most = false) : (A.length : Int) < most := by
  unfold overB at h
  rw [Bool.or_eq_false_iff] at h
  simpa using h.1
theorem one_int {w : World} {bo : Nat} {x : Int} (h : w.cell? ⟨bo, 0, none⟩ = some (.int .i64 x)) : ∀ j u, ([x].map (Value.int .i64))[j]? = some u → w.cell? ((Addr.mk bo 0 none).add j) = some u := by
  intro j u hj
  match j, hj with
  | 0, hj =>
    simp at hj
    subst hj
    have e2 : (Addr.mk bo 0 none).add 0 = ⟨bo, 0, none⟩ := by simp [Addr.add]
    rw [e2, h]
theorem iarg_one {w : World} {bo : Nat} {x : Int} (h : Blk w bo 3 #[.int .i64 x]) (h1 : -9223372036854775808 ≤ x) (h2 : x ≤ 9223372036854775807) : IArg w (some ⟨bo, 0, none⟩) 1 1 [x] := by
  refine ⟨⟨rfl, by omega, fun k => ?_, fun _ => ⟨bo, 0, rfl, fun t ht => ?_⟩⟩, by omega, by omega, fun h => by cases h⟩
  · cases k with
    | zero => exact ⟨h1, h2⟩
    | succ k => simp [el]
  · obtain rfl : t = 0 := by omega
    exact h.cell 0 rfl
theorem el_snoc_bd {A : List Int} {x : Int} (h : ∀ k, -9223372036854775808 ≤ el A k ∧ el A k ≤ 9223372036854775807) (h1 : -9223372036854775808 ≤ x) (h2 : x ≤ 9223372036854775807) (k : Nat) : -9223372036854775808 ≤ el (A ++ [x]) k ∧ el (A ++ [x]) k ≤ 9223372036854775807 := by
  rcases Nat.lt_or_ge k A.length with hk | hk
  · rw [el_append_left hk]; exact h k
  · unfold el
    rw [List.getD_eq_getElem?_getD, List.getElem?_append_right hk]
    rcases Nat.eq_zero_or_pos (k - A.length) with h0 | h0
    · rw [h0]; exact ⟨h1, h2⟩
    · rw [List.getElem?_eq_none (by simp; omega)]; simp
theorem runS_yb (M : Mdl) (V D H Hd L : Nat) (P : List Int) (hV : 1 ≤ V) (hV2 : V ≤ 4096) : ∀ (j k : Nat), -9223372036854775808 ≤ el (runS M V D H Hd L P j).Y k ∧ el (runS M V D H Hd L P j).Y k ≤ 9223372036854775807
  | 0, k => by
    have e : el (runS M V D H Hd L P 0).Y k = 0 := by show el [] k = 0; simp [el]
    rw [e]; omega
  | j + 1, k => by
    have ih := runS_yb M V D H Hd L P hV hV2 j
    have ht := amax_tok (likAt M V D H Hd L (runS M V D H Hd L P j).X (runS M V D H Hd L P j).T (runS M V D H Hd L P j).T.length) hV
    have e : (runS M V D H Hd L P (j + 1)).Y = (runS M V D H Hd L P j).Y ++ [amax (likAt M V D H Hd L (runS M V D H Hd L P j).X (runS M V D H Hd L P j).T (runS M V D H Hd L P j).T.length) V] := rfl
    rw [e]
    exact el_snoc_bd ih (by omega) (by omega) k
/-- Within Run: boxes, the view, the answer and the tokens behind j rounds. -/
structure RI (w wr : World) (V D H Hd L : Nat) (cfg ws : Array Value) (M : Mdl) (P : List Int) (gV j : Nat) (vv : VwV) (ya ta : Option Addr) (yc tn tc : Nat) : Prop where
  x0 : Blk wr w.heap.size 23 cfg
  x1 : Blk wr (w.heap.size + 1) 40 ws
  xv : Blk wr gV 48 vv.cells
  at_ : VwAt wr vv (runS M V D H Hd L P j).X
  y : IOwn wr (gV + 1) (.slice ya j yc) j (runS M V D H Hd L P j).Y
  t : IArg wr ta tn tc (runS M V D H Hd L P j).T
  kp : Below w.heap.size w wr
  gv : w.heap.size + 1 < gV
end Go.Proofs.YtcanjlofnpnhkaaGreatDoor

/- THE CACHE: token by token the same comes out as from the beginning. -/
namespace Go.Proofs.YtcanjlofnpnhkaaGreatDoor
open Go.ChangeShapes Go.WideShapes Go.ChangeAt Go.RowKit
theorem rowOf_left {R S : List (List Int)} {t : Nat} (h : t < R.length) : rowOf (R ++ S) t = rowOf R t := by
  unfold rowOf
  simp only [List.getD_eq_getElem?_getD, List.getElem?_append_left h]
theorem rowOf_last (R : List (List Int)) (x : List Int) : rowOf (R ++ [x]) R.length = x := by
  unfold rowOf
  simp
theorem madeR_snoc (L : Lay) (D H Hd : Nat) (R : List (List Int)) (x : List Int) : madeR L D H Hd (R ++ [x]) = madeR L D H Hd R ++ [oneR L D H Hd x (keysR L D R) (valsR L D R) R.length] := by
  have tk : ∀ i, i ≤ R.length → (keysR L D (R ++ [x])).take i = (keysR L D R).take i := fun i hi => by
    unfold keysR
    rw [List.map_append, List.take_append_of_le_length (by simpa using hi)]
  have tv : ∀ i, i ≤ R.length → (valsR L D (R ++ [x])).take i = (valsR L D R).take i := fun i hi => by
    unfold valsR
    rw [List.map_append, List.take_append_of_le_length (by simpa using hi)]
  unfold madeR
  rw [List.length_append, List.length_singleton, List.range_succ, List.map_append]
  congr 1
  · refine List.map_congr_left fun i hi => ?_
    have hi' : i < R.length := List.mem_range.1 hi
    rw [rowOf_left hi', tk i (by omega), tv i (by omega)]
  · have ek : (keysR L D R).take R.length = keysR L D R := List.take_of_length_le (by unfold keysR; simp)
    have ev : (valsR L D R).take R.length = valsR L D R := List.take_of_length_le (by unfold valsR; simp)
    simp only [List.map_cons, List.map_nil]
    rw [rowOf_last, tk _ (Nat.le_refl _), tv _ (Nat.le_refl _), ek, ev]
theorem begL_snoc (E : List Int) (D : Nat) (A : List Int) (t : Int) : begL E D (A ++ [t]) = begL E D A ++ [begR E D t.toNat A.length] := by
  unfold begL
  rw [List.length_append, List.length_singleton, List.range_succ, List.map_append]
  congr 1
  · refine List.map_congr_left fun i hi => ?_
    rw [el_append_left (List.mem_range.1 hi)]
  · simp only [List.map_cons, List.map_nil]
    have := el_append_right (A := A) (B := [t]) (k := 0)
    rw [Nat.add_zero] at this
    rw [this]
    rfl
/-- The lists of a view are what the layers make of its rows. -/
def Cached (M : Mdl) (D H Hd L : Nat) (X : Vw) (A : List Int) : Prop := X.T = A ∧ (∀ l, l < L → X.K.getD l [] = keysR (layAt M l) D (rowsL M D H Hd A l)) ∧ ∀ l, l < L → X.V.getD l [] = valsR (layAt M l) D (rowsL M D H Hd A l)
theorem rowsL_snoc {M : Mdl} {D H Hd L : Nat} {X : Vw} {A : List Int} (h : Cached M D H Hd L X A) (t : Int) : ∀ l, l ≤ L → rowsL M D H Hd (A ++ [t]) l = rowsL M D H Hd A l ++ [xRow M D H Hd A.length X.K X.V (begR M.E D t.toNat A.length) l]
  | 0, _ => begL_snoc M.E D A t
  | l + 1, hl => by
    have ih := rowsL_snoc h t l (by omega)
    show madeR (layAt M l) D H Hd (rowsL M D H Hd (A ++ [t]) l) = madeR (layAt M l) D H Hd (rowsL M D H Hd A l) ++ [oneR (layAt M l) D H Hd (xRow M D H Hd A.length X.K X.V (begR M.E D t.toNat A.length) l) (X.K.getD l []) (X.V.getD l []) A.length]
    rw [ih, madeR_snoc, rowsL_len, h.2.1 l (by omega), h.2.2 l (by omega)]
theorem cached_none (M : Mdl) (D H Hd L : Nat) : Cached M D H Hd L noX [] := by
  have e : ∀ l, rowsL M D H Hd [] l = [] := fun l => List.length_eq_zero_iff.1 (rowsL_len M D H Hd [] l)
  exact ⟨rfl, fun l _ => by rw [e]; rfl, fun l _ => by rw [e]; rfl⟩
theorem cached_feed {M : Mdl} {D H Hd L : Nat} {X : Vw} {A : List Int} (h : Cached M D H Hd L X A) {t : Int} (ht : 0 ≤ t) : Cached M D H Hd L (feedV M D H Hd L X t.toNat) (A ++ [t]) := by
  obtain ⟨rfl, h2, h3⟩ := h
  refine ⟨?_, fun l hl => ?_, fun l hl => ?_⟩
  · show X.T ++ [((t.toNat : Nat) : Int)] = X.T ++ [t]
    rw [Int.toNat_of_nonneg ht]
  · show (newK M D H Hd X.T.length L X.K X.V (begR M.E D t.toNat X.T.length)).getD l [] = _
    rw [newK_at _ _ _ _ _ _ _ _ _ hl, rowsL_snoc ⟨rfl, h2, h3⟩ t l (by omega), h2 l hl]
    unfold keysR
    rw [List.map_append]
    rfl
  · show (newV M D H Hd X.T.length L X.K X.V (begR M.E D t.toNat X.T.length)).getD l [] = _
    rw [newV_at _ _ _ _ _ _ _ _ _ hl, rowsL_snoc ⟨rfl, h2, h3⟩ t l (by omega), h3 l hl]
    unfold valsR
    rw [List.map_append]
    rfl
theorem cached_all {M : Mdl} {D H Hd L : Nat} (B : List Int) : ∀ {X : Vw} {A : List Int}, Cached M D H Hd L X A → (∀ x ∈ B, 0 ≤ x) → Cached M D H Hd L (feedAll M D H Hd L X B) (A ++ B) := by
  induction B with
  | nil => intro X A h _; rw [List.append_nil]; exact h
  | cons b B ih =>
    intro X A h hb
    have h1 := cached_feed h (hb b (List.mem_cons_self ..))
    have h2 := ih h1 fun x hx => hb x (List.mem_cons_of_mem _ hx)
    rw [List.append_assoc] at h2
    exact h2
theorem feedX_last {M : Mdl} {D H Hd L : Nat} {X : Vw} {A : List Int} (h : Cached M D H Hd L X A) (t : Int) : feedX M D H Hd L X t.toNat = rowOf (rowsL M D H Hd (A ++ [t]) L) A.length := by
  rw [rowsL_snoc h t L (Nat.le_refl _)]
  have := rowOf_last (rowsL M D H Hd A L) (xRow M D H Hd A.length X.K X.V (begR M.E D t.toNat A.length) L)
  rw [rowsL_len] at this
  rw [this]
  show xRow M D H Hd X.T.length X.K X.V (begR M.E D t.toNat X.T.length) L = _
  rw [h.1]
theorem fullX_last {M : Mdl} {V D H Hd L : Nat} {X : Vw} {A : List Int} (h : Cached M D H Hd L X A) (t : Int) : likR M V D (feedX M D H Hd L X t.toNat) = fullX M V D H Hd L (A ++ [t]) := by
  unfold fullX
  rw [feedX_last h t, List.length_append, List.length_singleton, Nat.add_sub_cancel]
end Go.Proofs.YtcanjlofnpnhkaaGreatDoor

/- A model that was made fits, and reads as its seed's numbers. -/
namespace Go.Proofs.YtcanjlofnpnhkaaGreatDoor
open Go.ChangeShapes Go.WideShapes Go.ChangeAt Go.RowKit
def layS (seed i D H : Nat) : Lay := ⟨gainR seed i D, numR seed (i + D) (D * D) 65536, numR seed (i + D + D * D) (D * D) 65536, numR seed (i + D + D * D + D * D) (D * D) 65536, numR seed (i + D + D * D + D * D + D * D) (D * D) 65536, gainR seed (i + D + D * D + D * D + D * D + D * D) D, numR seed (i + D + D * D + D * D + D * D + D * D + D) (H * D) 65536, numR seed (i + D + D * D + D * D + D * D + D * D + D + H * D) (D * H) 65536⟩
/-- The numbers of a seed. -/
def mdlS (seed V D H L : Nat) : Mdl := ⟨numR seed 0 (V * D) 131072, (List.range L).map fun t => layS seed (V * D + t * lenB D H) D H, gainR seed (V * D + L * lenB D H) D, numR seed (V * D + L * lenB D H + D) (V * D) 65536⟩
theorem Fresh.slAt {w : World} {B g n : Nat} {A : List Int} (h : Fresh w B g n n A) : SlAt w (rs g n) n A := ⟨rfl, h.arg⟩
theorem Fresh.mtAt {w : World} {B g r c : Nat} {A : List Int} (h : Fresh w B g (r * c) (r * c) A) (h1 : 1 ≤ r) (h2 : r ≤ 128) (h3 : 1 ≤ c) (h4 : c ≤ 128) : MtAt w ⟨r, c, rs g (r * c)⟩ r c A :=
  ⟨g, 0, r * c, r * c, rfl, h1, h2, h3, h4, rfl, Nat.le_refl _, h.max, h.rowAt⟩
theorem MadeB.bkAt {w : World} {B seed i D H f q k v o s u d : Nat} (h : MadeB w B seed i D H f q k v o s u d) (h1 : 1 ≤ D) (h2 : D ≤ 128) (h3 : 1 ≤ H) (h4 : H ≤ 128) : BkAt w D H (mkB D H f q k v o s u d) (layS seed i D H) :=
  ⟨h.f.slAt, h.q.mtAt h1 h2 h1 h2, h.k.mtAt h1 h2 h1 h2, h.v.mtAt h1 h2 h1 h2, h.o.mtAt h1 h2 h1 h2, h.s.slAt, h.u.mtAt h3 h4 h1 h2, h.d.mtAt h1 h2 h3 h4⟩
theorem made_good {w : World} {B seed V D Hd H L ge gB gl go : Nat} (h : MadeW w B seed V D H L ge gB gl go) (hs : shapeN V D Hd H L = 0) : ∃ bs, Good w V D Hd H L (mkW V D L ge gB gl go) bs (mdlS seed V D H L) := by
  have hk := shape_ok hs
  obtain ⟨bs, ML⟩ := madeL_of L h.bs
  have BL := ML.blocks (by omega) (by omega) (by omega)
  have hl : bs.length = L := ML.len
  refine ⟨bs, ⟨⟨?_, BL, by unfold mdlS; simp [hl], fun t x hx => ?_, ?_, ?_⟩, mkW_ok (by omega) (by omega), hl, hs, ?_⟩⟩
  · exact h.e.mtAt (by omega) (by omega) (by omega) (by omega)
  · obtain ⟨_, f, q, k, v, o, s, u, d, rfl, m⟩ := ML.at_ t x hx
    have ht : t < L := by rw [← hl]; exact (List.getElem?_eq_some_iff.1 hx).1
    refine ⟨layS seed (V * D + t * lenB D H) D H, ?_, m.bkAt (by omega) (by omega) (by omega) (by omega)⟩
    unfold mdlS
    simp only [List.getElem?_map, List.getElem?_range ht]
    rfl
  · exact h.l.slAt
  · exact h.o.mtAt (by omega) (by omega) (by omega) (by omega)
  · exact made_fits (C := ⟨V, D, Hd, H, L⟩) ML rfl rfl rfl rfl hs
end Go.Proofs.YtcanjlofnpnhkaaGreatDoor

/- The awake check of the laws of layer 10 is true. -/
namespace Go.Proofs.YtcanjlofnpnhkaaGreatDoor
open Go.ChangeShapes Go.WideShapes Go.ChangeAt Go.RowKit
theorem wt_one (W : Wt) : W.cells.all (·.oneCell') = true := by simp [Wt.cells, Sl.v, Value.oneCell']
theorem make_small (w : World) : Calls Tryz.prog 6 #[.agg #[.int .i64 2, .int .i64 1, .int .i64 1, .int .i64 1, .int .i64 1], .int .u64 1] w fun e w' => ∃ W bs M, e = .returned (.tuple #[.agg (Wt.cells W), .int .i64 0]) ∧ Good w' 2 1 1 1 1 W bs M ∧ Below w.heap.size w w' := by
  refine (make_any 2 1 1 1 1 1 w (by omega) (by decide)).mono ?_
  rintro e w' ⟨ge, gB, gl, go, rfl, M, B⟩
  obtain ⟨bs, G⟩ := made_good (Hd := 1) M (by decide)
  exact ⟨_, bs, _, rfl, G, B⟩
/-- An answer of one token. -/
theorem run_one {M : Mdl} {V D H Hd L : Nat} {P : List Int} {j : Nat} (h1 : overB (runS M V D H Hd L P j).Y 1 = true) (h2 : ∀ i, i < j → overB (runS M V D H Hd L P i).Y 1 = false) : j = 1 := by
  rcases Nat.lt_trichotomy j 1 with h | h | h
  · obtain rfl : j = 0 := by omega
    have e : (runS M V D H Hd L P 0).Y = [] := rfl
    rw [e] at h1
    exact absurd h1 (by decide)
  · exact h
  · have := over_not (h2 1 h)
    rw [runS_len] at this
    omega
end Go.Proofs.YtcanjlofnpnhkaaGreatDoor

/- The awake check of the laws of layer 9 is true. -/
namespace Go.Proofs.YtcanjlofnpnhkaaGreatDoor
open Go.ChangeShapes Go.WideShapes Go.ChangeAt Go.RowKit
theorem noV_at (w : World) : VwAt w ⟨⟨none, 0, 0⟩, ⟨none, 0, 0⟩, ⟨none, 0, 0⟩⟩ noX := ⟨iarg_nil _, ⟨rfl, by show 0 ≤ _; omega, fun h => absurd (show 0 < 0 from h) (by omega)⟩, ⟨rfl, by show 0 ≤ _; omega, fun h => absurd (show 0 < 0 from h) (by omega)⟩⟩
end Go.Proofs.YtcanjlofnpnhkaaGreatDoor

/- Told: a view as the document's, of the call's own. -/
namespace Go.Proofs.YtcanjlofnpnhkaaGreatDoor
open Go.ChangeShapes Go.WideShapes Go.ChangeAt Go.RowKit
theorem take_one {C : List (List (List Int))} {k : Nat} {R : List (List Int)} (h : C[k]? = some R) : C.take (k + 1) = C.take k ++ [R] := by
  rw [List.take_add_one, h]; rfl
set_option maxHeartbeats 800000 in
theorem lists_any (ao : Option Addr) (n ca : Nat) (C : List (List (List Int))) (w : World) (hC : CubeAt w ao n C) (hn : n ≤ 5) (hr : ∀ R ∈ C, rowsN R 130 = R) :
   Calls Tryz.prog 41 #[.slice ao n ca] w fun e w' => ∃ g cap, e = .returned (.slice (some ⟨g, 0, none⟩) n cap) ∧ New w.heap.size w' (fun w => CubeAt w (some ⟨g, 0, none⟩) n C) ∧ Below w.heap.size w w' := by
  have hl := hC.len
  have F0 := ownCube_empty w
  have B0 : Below w.heap.size w (w.alloc (.cells #[] 105)) := (Below.refl _ _).alloc (Nat.le_refl _) _
  have HC : Hid (∀ wv, Below w.heap.size w wv → CubeAt wv ao n C) := fun wv hb => hC.below hb
  go_enter Tryz.func41, Tryz.ntmps41
  go_wp2
  generalize w.alloc (.cells #[] 105) = w0 at *
  clear hC
  go_loopg [3, 4] n (fun r s i wr => ∃ (k g cap : Nat), k ≤ n ∧ r = n - k ∧ i = .int .i64 k ∧ s = .slice (some ⟨g, 0, none⟩) k cap ∧ OwnCube wr w.heap.size g k cap (C.take k) ∧ Below w.heap.size w wr)
  case atStart => exact ⟨0, _, _, by omega, by omega, rfl, rfl, by rw [List.take_zero]; exact F0, B0⟩
  case round =>
    obtain ⟨k, g, cap, hk, rfl, rfl, rfl, F2, B2⟩ := hrel
    clear F0 B0
    by_cases hlt : k < n
    · obtain ⟨b, o, rfl, hc⟩ := (HC.out _ B2).cells (by omega)
      obtain ⟨R, hR⟩ : ∃ R, C[k]? = some R := ⟨_, List.getElem?_eq_getElem (show k < C.length by omega)⟩
      obtain ⟨ro, m1, c1, q1, -, -, -, G1⟩ := hc k R hR
      have HS : Hid (C.take (k + 1) = C.take k ++ [R]) := take_one hR
      have HRR : Hid (rowsN R 130 = R) := hr R (List.mem_of_getElem? hR)
      have s2 := B2.size
      have lg := F2.lt
      have h5 : (k : Int) < 5 := by omega
      clear hc
      go_wp2_with fail
      refine (hrows_any ro m1 c1 R 130 130 _ rfl G1 (by omega)).mono ?_
      rintro e w3 ⟨g3, n3, c3, rfl, hm3, OG, B3⟩
      rw [HRR.out] at OG
      obtain ⟨p1, p2⟩ := own_caps OG.own.choose_spec.1
      have NG := OG.hangs (by omega)
      have BL : Below w3.heap.size w3 (w3.alloc (.cells #[.slice (some ⟨g3, 0, none⟩) n3 c3] 105)) := (Below.refl _ _).alloc (Nat.le_refl _) _
      have cX := cellList_new w3 (.slice (some ⟨g3, 0, none⟩) n3 c3)
      have F4 := (F2.below B3).below BL
      have s3 := B3.size
      have s4 := BL.size
      have NG4 : Hangs (fun b => w.heap.size ≤ b ∧ b ≠ g) (w3.alloc (.cells #[.slice (some ⟨g3, 0, none⟩) n3 c3] 105)) (fun w => GridAt w (some ⟨g3, 0, none⟩) n3 R) := Hangs.mono (Hangs.below NG BL) (fun b _ hb => ⟨by omega, by omega⟩)
      have B4 := below_then (below_then B2 B3) BL
      clear NG OG F2 G1 q1
      generalize hw4 : w3.alloc (.cells #[.slice (some ⟨g3, 0, none⟩) n3 c3] 105) = w4 at *
      go_wp2_with (at_builtin; refine wpList_append_cube rfl _ _ rfl w.heap.size g k cap _ rfl (by exact F4) w3.heap.size g3 n3 c3 R rfl (by exact cX) p1 p2 (by exact NG4) (by omega) (by omega) ?_; intro g' cap' w' F7 B7)
      go_roundg (n - (k + 1))
      case measure => omega
      case rel => exact ⟨k + 1, _, _, by omega, rfl, by go_num, rfl, by rw [HS.out]; exact F7, B4.trans B7⟩
    · obtain rfl : k = n := by omega
      go_wp2
      go_ret
      rw [List.take_of_length_le (by omega)] at F2
      exact ⟨_, _, rfl, F2.hangs (by omega), B2⟩
/-- Told. -/
theorem Tryz.infoRV : (Tryz.prog.info? 67).map (·.size) = some 3 := by kernel_rfl
set_option maxRecDepth 100000 in
set_option maxHeartbeats 800000 in
theorem told9_any (vv : VwV) (X : Vw) (w : World) (hv : VwAt w vv X) (hT : X.T.length ≤ 130) (hK : X.K.length ≤ 5) (hV : X.V.length ≤ 5) (hrk : ∀ R ∈ X.K, rowsN R 130 = R) (hrv : ∀ R ∈ X.V, rowsN R 130 = R) :
   Calls Tryz.prog 18 #[.agg vv.cells] w fun e w' => ∃ t k v : Sl, e = .returned (.agg #[t.v, k.v, v.v]) ∧ ToldAt w' t k v X ∧ Below w.heap.size w w' := by
  have lt := hv.t.row.len
  have lk := hv.k.len
  have lv := hv.v.len
  have hsm := hv.t.row.small
  have HT : Hid (∀ wv, Below w.heap.size w wv → IArg wv vv.t.ao vv.t.n vv.t.c X.T) := fun wv hb => hv.t.below hb
  have HK : Hid (∀ wv, Below w.heap.size w wv → CubeAt wv vv.k.ao vv.k.n X.K) := fun wv hb => hv.k.below hb
  have HV : Hid (∀ wv, Below w.heap.size w wv → CubeAt wv vv.v.ao vv.v.n X.V) := fun wv hb => hv.v.below hb
  clear hv
  obtain ⟨⟨ta, tn, tc⟩, ⟨ka, kn, kc⟩, ⟨va, vn, vc⟩⟩ := vv
  unfold VwV.cells Sl.v
  simp only at *
  have lt' : tn ≤ 130 := by omega
  have lk' : kn ≤ 5 := by omega
  have lv' : vn ≤ 5 := by omega
  clear lt lk lv hK hV
  have X0 := blk_new w 48 #[.slice ta tn tc, .slice ka kn kc, .slice va vn vc]
  have B0 : Below w.heap.size w (w.alloc (.cells #[.slice ta tn tc, .slice ka kn kc, .slice va vn vc] 48)) := (Below.refl _ _).alloc (Nat.le_refl _) _
  generalize hw0 : w.alloc (.cells #[.slice ta tn tc, .slice ka kn kc, .slice va vn vc] 48) = w0 at *
  have lt0 := X0.lt
  have X1 := blk_new w0 67 #[.slice none 0 0, .slice none 0 0, .slice none 0 0]
  have B1 : Below w0.heap.size w0 (w0.alloc (.cells #[.slice none 0 0, .slice none 0 0, .slice none 0 0] 67)) := (Below.refl _ _).alloc (Nat.le_refl _) _
  generalize hw1 : w0.alloc (.cells #[.slice none 0 0, .slice none 0 0, .slice none 0 0] 67) = w1 at *
  replace X0 := X0.below B1
  have D := below_then B0 B1
  clear B0 B1
  have lt1 := X1.lt
  go_enter Tryz.func18, Tryz.ntmps18
  go_wp2_with fail
  clear hw0 hw1
  replace X0 := X0.below ((Below.refl _ _).drew)
  replace X1 := X1.below ((Below.refl _ _).drew)
  replace D := D.drew
  replace lt1 : w0.heap.size < w1.drew.heap.size := lt1
  refine wp_region_held_drew (S := fun w' => Blk w' w.heap.size 48 #[.slice ta tn tc, .slice ka kn kc, .slice va vn vc]) (by kernel_rfl) (X0) (fun hHeld => ?_)
  generalize hA : w1.drew = wA at *
  clear hA
  refine wpAnyH_take (i := 0) (v := (.pointer (some ⟨w.heap.size, 0, none⟩))) rfl (by kernel_rfl) (by kernel_rfl) (by kernel_rfl) (fun _ _ _ h => h) (Or.inl ⟨by rfl, ?_⟩) (by assumption) ?_
  · intro w' hSw
    go_simp
  simp only [List.getElem_toArray, List.getElem_cons_zero, Act.put, List.setIfInBounds_toArray, List.set_cons_zero, List.set_cons_succ]
  refine wpAnyH_take (i := 1) (v := (.slice ta tn tc)) rfl (by kernel_rfl) (by kernel_rfl) (by kernel_rfl) (fun _ _ _ h => h) (Or.inl ⟨by rfl, ?_⟩) (by assumption) ?_
  · intro w' hSw
    have cc0 : w'.cell? ⟨w.heap.size, 0, none⟩ = some (.slice ta tn tc) := hSw.cell 0 rfl
    go_simp
  simp only [List.getElem_toArray, List.getElem_cons_succ, List.getElem_cons_zero, Act.put, List.setIfInBounds_toArray, List.set_cons_zero, List.set_cons_succ]
  refine wpAnyH_take (i := 3) (v := (.pointer (some ⟨w.heap.size, 1, none⟩))) rfl (by kernel_rfl) (by kernel_rfl) (by kernel_rfl) (fun _ _ _ h => h) (Or.inl ⟨by rfl, ?_⟩) (by assumption) ?_
  · intro w' hSw
    go_simp
  simp only [List.getElem_toArray, List.getElem_cons_succ, List.getElem_cons_zero, Act.put, List.setIfInBounds_toArray, List.set_cons_zero, List.set_cons_succ]
  refine wpAnyH_take (i := 4) (v := (.pointer (some ⟨w.heap.size, 1, none⟩))) rfl (by kernel_rfl) (by kernel_rfl) (by kernel_rfl) (fun _ _ _ h => h) (Or.inl ⟨by rfl, ?_⟩) (by assumption) ?_
  · intro w' hSw
    go_simp
  simp only [List.getElem_toArray, List.getElem_cons_succ, List.getElem_cons_zero, Act.put, List.setIfInBounds_toArray, List.set_cons_zero, List.set_cons_succ]
  refine wpAnyH_take (i := 5) (v := (.slice ka kn kc)) rfl (by kernel_rfl) (by kernel_rfl) (by kernel_rfl) (fun _ _ _ h => h) (Or.inl ⟨by rfl, ?_⟩) (by assumption) ?_
  · intro w' hSw
    have cc1 : w'.cell? ⟨w.heap.size, 1, none⟩ = some (.slice ka kn kc) := hSw.cell 1 rfl
    go_simp
  simp only [List.getElem_toArray, List.getElem_cons_succ, List.getElem_cons_zero, Act.put, List.setIfInBounds_toArray, List.set_cons_zero, List.set_cons_succ]
  refine wpAnyH_take (i := 7) (v := (.pointer (some ⟨w.heap.size, 1, none⟩))) rfl (by kernel_rfl) (by kernel_rfl) (by kernel_rfl) (fun _ _ _ h => h) (Or.inl ⟨by rfl, ?_⟩) (by assumption) ?_
  · intro w' hSw
    go_simp
  simp only [List.getElem_toArray, List.getElem_cons_succ, List.getElem_cons_zero, Act.put, List.setIfInBounds_toArray, List.set_cons_zero, List.set_cons_succ]
  refine wpAnyH_take (i := 8) (v := (.pointer (some ⟨w.heap.size, 2, none⟩))) rfl (by kernel_rfl) (by kernel_rfl) (by kernel_rfl) (fun _ _ _ h => h) (Or.inl ⟨by rfl, ?_⟩) (by assumption) ?_
  · intro w' hSw
    go_simp
  simp only [List.getElem_toArray, List.getElem_cons_succ, List.getElem_cons_zero, Act.put, List.setIfInBounds_toArray, List.set_cons_zero, List.set_cons_succ]
  refine wpAnyH_take (i := 9) (v := (.slice va vn vc)) rfl (by kernel_rfl) (by kernel_rfl) (by kernel_rfl) (fun _ _ _ h => h) (Or.inl ⟨by rfl, ?_⟩) (by assumption) ?_
  · intro w' hSw
    have cc2 : w'.cell? ⟨w.heap.size, 2, none⟩ = some (.slice va vn vc) := hSw.cell 2 rfl
    go_simp
  simp only [List.getElem_toArray, List.getElem_cons_succ, List.getElem_cons_zero, Act.put, List.setIfInBounds_toArray, List.set_cons_zero, List.set_cons_succ]
  refine wpAnyH_ready (rs := [2]) (by kernel_rfl) (by simp) ?_
  refine AllReadyH.cons rfl (fun Kc hKc => ?_) AllReadyH.nil
  simp only [List.getElem_toArray, List.getElem_cons_succ, List.getElem_cons_zero]
  rw [if_pos (by rfl)]
  go_wp2_with fail
  refine (few8_gen ta tn tc X.T X.T 130 _ (HT.out _ D) (by omega) (List.take_of_length_le (by omega)).symm).mono ?_
  rintro e w2 ⟨tb, tc2, rfl, OT, B2⟩
  have zA2 := B2.size
  replace X0 := X0.below B2
  replace X1 := X1.below B2
  replace D := below_then D B2
  go_wp2_with fail
  refine hKc.out _ _ (X0) (fun hHeld => ?_)
  clear hKc Kc
  refine wpAnyH_ready (rs := [6]) (by kernel_rfl) (by simp) ?_
  refine AllReadyH.cons rfl (fun Kc hKc => ?_) AllReadyH.nil
  simp only [List.getElem_toArray, List.getElem_cons_succ, List.getElem_cons_zero]
  rw [if_pos (by rfl)]
  go_wp2_with fail
  refine (lists_any ka kn kc X.K _ (HK.out _ D) (by omega) hrk).mono ?_
  rintro e w3 ⟨kg, kc2, rfl, NK, B3⟩
  replace OT := owns_below OT B3
  have z3 := B3.size
  replace X0 := X0.below B3
  replace X1 := X1.below B3
  replace D := below_then D B3
  go_wp2_with fail
  refine hKc.out _ _ (X0) (fun hHeld => ?_)
  clear hKc Kc
  refine wpAnyH_ready (rs := [10]) (by kernel_rfl) (by simp) ?_
  refine AllReadyH.cons rfl (fun Kc hKc => ?_) AllReadyH.nil
  simp only [List.getElem_toArray, List.getElem_cons_succ, List.getElem_cons_zero]
  rw [if_pos (by rfl)]
  go_wp2_with fail
  refine (lists_any va vn vc X.V _ (HV.out _ D) (by omega) hrv).mono ?_
  rintro e w4 ⟨vg, vc2, rfl, NV, B4⟩
  replace OT := owns_below OT B4
  replace NK := NK.below B4
  replace X0 := X0.below B4
  replace X1 := X1.below B4
  replace D := below_then D B4
  go_wp2_with fail
  refine hKc.out _ _ (X0) (fun hHeld => ?_)
  clear hKc Kc
  refine wpAnyH_take (i := 11) (v := (.agg #[.slice (some ⟨tb, 0, none⟩) X.T.length tc2, .slice (some ⟨kg, 0, none⟩) kn kc2, .slice (some ⟨vg, 0, none⟩) vn vc2])) rfl (by kernel_rfl) (by kernel_rfl) (by kernel_rfl) (fun _ _ _ h => h) (Or.inl ⟨by rfl, ?_⟩) (by assumption) ?_
  · intro w' hSw
    go_simp
  simp only [List.getElem_toArray, List.getElem_cons_succ, List.getElem_cons_zero, Act.put, List.setIfInBounds_toArray, List.set_cons_zero, List.set_cons_succ]
  refine wpAnyH_ready (rs := [12]) (by kernel_rfl) (by simp) ?_
  refine AllReadyH.cons rfl (fun Kc hKc => ?_) AllReadyH.nil
  simp only [List.getElem_toArray, List.getElem_cons_succ, List.getElem_cons_zero]
  rw [if_pos (by rfl)]
  have hall : Array.all (#[.slice (some ⟨tb, 0, none⟩) X.T.length tc2, .slice (some ⟨kg, 0, none⟩) kn kc2, .slice (some ⟨vg, 0, none⟩) vn vc2] : Array Value) (fun v => v.oneCell') = true := by simp [Value.oneCell']
  refine wp_store_row 67 _ _ rfl w0.heap.size #[.slice (some ⟨tb, 0, none⟩) X.T.length tc2, .slice (some ⟨kg, 0, none⟩) kn kc2, .slice (some ⟨vg, 0, none⟩) vn vc2] rfl rfl 67 _ X1 Tryz.infoRV rfl hall ?_
  refine hKc.out _ _ (Blk.of_block X0 (setRow_other _ _ _ _ (by omega))) (fun hHeld => ?_)
  clear hKc Kc
  refine wpAnyH_done (by kernel_rfl) ?_ _
  clear hHeld
  go_wp2
  refine bodyPost_ret (results_cell_row rfl _ _ w0.heap.size 67 _ _ _ rfl (X1.row _) Tryz.underlying67 rfl Tryz.infoRV) rfl ?_
  have so : ∀ (b : Nat) (x : Array Value), b ≠ w0.heap.size → (w4.setRow w0.heap.size x).heap[b]? = w4.heap[b]? := fun b x hb => setRow_other _ _ _ _ hb
  obtain ⟨x1, y1, e1, IT⟩ := IOwn.arg (A := X.T) (owns_mono OT (Nat.le_refl _) (fun b hb => so b #[.slice (some ⟨tb, 0, none⟩) X.T.length tc2, .slice (some ⟨kg, 0, none⟩) kn kc2, .slice (some ⟨vg, 0, none⟩) vn vc2] (by have := (OT.lt b hb).1; omega))) hsm
  simp only [Value.slice.injEq, true_and] at e1
  obtain ⟨rfl, rfl⟩ := e1
  refine ⟨⟨some ⟨tb, 0, none⟩, _, tc2⟩, ⟨some ⟨kg, 0, none⟩, kn, kc2⟩, ⟨some ⟨vg, 0, none⟩, vn, vc2⟩, rfl, ⟨IT, ?_, ?_⟩, below_setRow D (by omega) _⟩
  · exact (Hangs.row NK (g := w0.heap.size) (by show ¬ (_ ≤ _); omega) _).now
  · exact (Hangs.row NV (g := w0.heap.size) (by show ¬ (_ ≤ _); omega) _).now
end Go.Proofs.YtcanjlofnpnhkaaGreatDoor

/- Package step: the first rows of lists. -/
namespace Go.Proofs.YtcanjlofnpnhkaaGreatDoor
open Go.ChangeShapes Go.WideShapes Go.ChangeAt Go.RowKit
theorem rowOf_take9 {R : List (List Int)} {m t : Nat} (h : t < m) : rowOf (R.take m) t = rowOf R t := by
  unfold rowOf
  rw [List.getD_eq_getElem?_getD, List.getD_eq_getElem?_getD, List.getElem?_take_of_lt h]
theorem GridAt.take {w : World} {ao : Option Addr} {n : Nat} {R : List (List Int)} (h : GridAt w ao n R) {m : Nat} (hm : m ≤ n) : GridAt w ao m (R.take m) := by
  have hl := h.len
  have hx := h.max
  refine ⟨by rw [List.length_take]; omega, by omega, fun h0 => ?_⟩
  obtain ⟨b, o, e, hc⟩ := h.cells (by omega)
  refine ⟨b, o, e, fun t ht => ?_⟩
  rw [rowOf_take9 ht]
  exact hc t (by omega)
theorem Lists.cube {w : World} {g m : Nat} {C : List (List (List Int))} (h : Lists w g m m C) (hl : C.length = m) (hm : m ≤ 4096) {B : Nat} (hB : B ≤ g) : New B w (fun w => CubeAt w (some ⟨g, 0, none⟩) m C) := by
  have hlt := h.lt
  obtain ⟨cs, h1, hsz, h3⟩ := h.row
  intro w2 h2
  have hg := (h2 g hB hlt).trans h1
  refine ⟨hl, by omega, fun _ => ⟨g, 0, rfl, fun t R hR => ?_⟩⟩
  have htm : t < m := by rw [← hl]; exact (List.getElem?_eq_some_iff.1 hR).1
  obtain ⟨ro, n, vs, e, h4, N⟩ := h3 t R htm hR
  have GV := N w2 fun b hb hb2 => h2 b (Nat.le_trans (by omega) hb) hb2
  refine ⟨ro, n, n, ?_, h4, Nat.le_refl _, GV.max, GV.grid⟩
  rw [Nat.zero_add]
  unfold World.cell?
  simp only [hg]
  exact e
/-- The view of the first n tokens. -/
def cutV (X : Vw) (n : Nat) : Vw := ⟨X.T.take n, X.K.map (List.take n), X.V.map (List.take n)⟩
end Go.Proofs.YtcanjlofnpnhkaaGreatDoor

/- An answer, token by token: what is fed in parts is what is fed at once. -/
namespace Go.Proofs.YtcanjlofnpnhkaaGreatDoor
open Go.ChangeShapes Go.WideShapes Go.ChangeAt Go.RowKit
theorem feedAll_append (M : Mdl) (D H Hd L : Nat) (X : Vw) (A B : List Int) : feedAll M D H Hd L X (A ++ B) = feedAll M D H Hd L (feedAll M D H Hd L X A) B := by
  unfold feedAll
  rw [List.foldl_append]
theorem lik_split (M : Mdl) (V D H Hd L : Nat) (Q T : List Int) (hT : T ≠ []) : likAt M V D H Hd L (feedAll M D H Hd L noX Q) T T.length = likAt M V D H Hd L noX (Q ++ T) (Q ++ T).length := by
  obtain ⟨m, hm⟩ : ∃ m, T.length = m + 1 := ⟨T.length - 1, by have := List.length_pos_iff.2 hT; omega⟩
  have h2 : (Q ++ T).length = (Q.length + m) + 1 := by rw [List.length_append, hm]; omega
  rw [hm, h2]
  show likR M V D (feedX M D H Hd L (feedAll M D H Hd L (feedAll M D H Hd L noX Q) (T.take m)) (el T m).toNat) = likR M V D (feedX M D H Hd L (feedAll M D H Hd L noX ((Q ++ T).take (Q.length + m))) (el (Q ++ T) (Q.length + m)).toNat)
  have et : (Q ++ T).take (Q.length + m) = Q ++ T.take m := by rw [List.take_append, List.take_of_length_le (by omega : Q.length ≤ Q.length + m), Nat.add_sub_cancel_left]
  rw [el_append_right, et, ← feedAll_append]
/-- The token that is liked best behind a row of them. -/
def nextT (M : Mdl) (V D H Hd L : Nat) (A : List Int) : Int := amax (likAt M V D H Hd L noX A A.length) V
def runY (M : Mdl) (V D H Hd L : Nat) (P : List Int) : Nat → List Int
  | 0 => []
  | j + 1 => runY M V D H Hd L P j ++ [nextT M V D H Hd L (P ++ runY M V D H Hd L P j)]
theorem runS_inv (M : Mdl) (V D H Hd L : Nat) (P : List Int) (hP : P ≠ []) : ∀ j, (runS M V D H Hd L P j).Y = runY M V D H Hd L P j ∧ (runS M V D H Hd L P j).T ≠ [] ∧ ∃ Q, (runS M V D H Hd L P j).X = feedAll M D H Hd L noX Q ∧ Q ++ (runS M V D H Hd L P j).T = P ++ (runS M V D H Hd L P j).Y
  | 0 => ⟨rfl, hP, [], rfl, by show [] ++ P = P ++ []; simp⟩
  | j + 1 => by
    obtain ⟨h1, h2, Q, h3, h4⟩ := runS_inv M V D H Hd L P hP j
    have e : likAt M V D H Hd L (runS M V D H Hd L P j).X (runS M V D H Hd L P j).T (runS M V D H Hd L P j).T.length = likAt M V D H Hd L noX (P ++ runY M V D H Hd L P j) (P ++ runY M V D H Hd L P j).length := by
      rw [h3, lik_split M V D H Hd L Q _ h2, h4, h1]
    have eY : (runS M V D H Hd L P (j + 1)).Y = runY M V D H Hd L P j ++ [nextT M V D H Hd L (P ++ runY M V D H Hd L P j)] := by
      show (runS M V D H Hd L P j).Y ++ [amax _ V] = _
      rw [e, h1]
      rfl
    have eT : (runS M V D H Hd L P (j + 1)).T = [nextT M V D H Hd L (P ++ runY M V D H Hd L P j)] := by
      show [amax _ V] = _
      rw [e]
      rfl
    refine ⟨eY, by rw [eT]; simp, P ++ runY M V D H Hd L P j, ?_, ?_⟩
    · show feedAll M D H Hd L (runS M V D H Hd L P j).X (runS M V D H Hd L P j).T = _
      rw [h3, ← feedAll_append, h4, h1]
    · rw [eT, eY, List.append_assoc]
theorem runY_len (M : Mdl) (V D H Hd L : Nat) (P : List Int) : ∀ j, (runY M V D H Hd L P j).length = j
  | 0 => rfl
  | j + 1 => by
    show (runY M V D H Hd L P j ++ [nextT M V D H Hd L (P ++ runY M V D H Hd L P j)]).length = _
    rw [List.length_append, runY_len M V D H Hd L P j]
    rfl
theorem runY_take (M : Mdl) (V D H Hd L : Nat) (P : List Int) (n : Nat) : ∀ i, (runY M V D H Hd L P (n + i)).take n = runY M V D H Hd L P n
  | 0 => by rw [Nat.add_zero]; exact List.take_of_length_le (by rw [runY_len]; omega)
  | i + 1 => by
    show (runY M V D H Hd L P (n + i) ++ [_]).take n = _
    rw [List.take_append_of_le_length (by rw [runY_len]; omega)]
    exact runY_take M V D H Hd L P n i
theorem runY_shift (M : Mdl) (V D H Hd L : Nat) (P : List Int) (n : Nat) : ∀ i, runY M V D H Hd L (P ++ runY M V D H Hd L P n) i = (runY M V D H Hd L P (n + i)).drop n
  | 0 => by rw [Nat.add_zero, List.drop_of_length_le (by rw [runY_len]; omega)]; rfl
  | i + 1 => by
    have ih := runY_shift M V D H Hd L P n i
    show runY M V D H Hd L (P ++ runY M V D H Hd L P n) i ++ [_] = (runY M V D H Hd L P (n + i) ++ [_]).drop n
    rw [List.drop_append_of_le_length (by rw [runY_len]; omega), ih]
    have e : P ++ runY M V D H Hd L P n ++ (runY M V D H Hd L P (n + i)).drop n = P ++ runY M V D H Hd L P (n + i) := by
      rw [List.append_assoc, ← runY_take M V D H Hd L P n i, List.take_append_drop]
    rw [e]
    rfl
theorem runY_toks (M : Mdl) {V D H Hd L : Nat} (hV : 1 ≤ V) (P : List Int) : ∀ j, (runY M V D H Hd L P j).all (tokB V) = true
  | 0 => rfl
  | j + 1 => by
    show (runY M V D H Hd L P j ++ [_]).all (tokB V) = true
    rw [List.all_append, runY_toks M hV P j, Bool.true_and]
    simp only [List.all_cons, List.all_nil, Bool.and_true]
    unfold tokB nextT
    exact decide_eq_true (amax_tok _ hV)
/-- The answer's length: the first at which it is over. -/
theorem run_first {M : Mdl} {V D H Hd L : Nat} {P : List Int} {most n : Int} {j : Nat} (h2 : ∀ i, i < j → overB (runY M V D H Hd L P i) most = false) {m : Nat} (hn : n = m) (hm : m ≤ j) {i : Nat} (k1 : overB (runY M V D H Hd L P i) n = true) (k2 : ∀ t, t < i → overB (runY M V D H Hd L P t) n = false) : i = m := by
  have e : ∀ t, t < m → overB (runY M V D H Hd L P t) n = false := fun t ht => by
    have := h2 t (by omega)
    unfold overB at this ⊢
    rw [Bool.or_eq_false_iff] at this ⊢
    exact ⟨decide_eq_false (by rw [runY_len]; omega), this.2⟩
  have e2 : overB (runY M V D H Hd L P m) n = true := by unfold overB; rw [decide_eq_true (by rw [runY_len]; omega)]; rfl
  rcases Nat.lt_trichotomy i m with h | h | h
  · rw [e i h] at k1; cases k1
  · exact h
  · rw [k2 m h] at e2; cases e2
/-- The end of an answer that was gone on from. -/
theorem over_drop {M : Mdl} {V D H Hd L : Nat} {P : List Int} {most : Int} {n i : Nat} (hi : 1 ≤ i) : overB ((runY M V D H Hd L P (n + i)).drop n) (most - n) = overB (runY M V D H Hd L P (n + i)) most := by
  have hl : ((runY M V D H Hd L P (n + i)).drop n).length = i := by rw [List.length_drop, runY_len]; omega
  have hl2 := runY_len M V D H Hd L P (n + i)
  unfold overB endB
  rw [hl, hl2, el_drop]
  have e1 : decide (most - (n : Int) ≤ (i : Int)) = decide (most ≤ ((n + i : Nat) : Int)) := by
    by_cases h : most - (n : Int) ≤ (i : Int)
    · rw [decide_eq_true h, decide_eq_true (by omega)]
    · rw [decide_eq_false h, decide_eq_false (by omega)]
  rw [e1, decide_eq_true (by omega : 0 < i), decide_eq_true (by omega : 0 < n + i), show n + (i - 1) = n + i - 1 by omega]
end Go.Proofs.YtcanjlofnpnhkaaGreatDoor

/- The cut of a view of tokens is the view of the first ones. -/
namespace Go.Proofs.YtcanjlofnpnhkaaGreatDoor
theorem map_take_getD {C E : List (List (List Int))} {L n : Nat} (h1 : C.length = L) (h2 : E.length = L) (h : ∀ l, l < L → (E.getD l []).take n = (C.getD l []).take n) : E.map (List.take n) = C.map (List.take n) := by
  apply List.ext_getElem?
  intro i
  rw [List.getElem?_map, List.getElem?_map]
  by_cases hi : i < L
  · have := h i hi
    rw [List.getD_eq_getElem?_getD, List.getD_eq_getElem?_getD, List.getElem?_eq_getElem (by omega), List.getElem?_eq_getElem (by omega)] at this
    rw [List.getElem?_eq_getElem (by omega), List.getElem?_eq_getElem (by omega)]
    simpa using this
  · rw [List.getElem?_eq_none (by omega), List.getElem?_eq_none (by omega)]
theorem cut_feed {M : Mdl} {V D H Hd L : Nat} {X : Vw} {tok n : Nat} (hf : VwFit V D L X) (h1 : 1 ≤ n) (hn : n ≤ X.T.length) : cutV (feedV M D H Hd L X tok) n = cutV X n := by
  have kl : ∀ l, l < L → (X.K.getD l []).length = X.T.length ∧ ∀ t, t < X.T.length → (rowOf (X.K.getD l []) t).length = D := fun l h => fit_list hf.k hf.ks h
  have vl : ∀ l, l < L → (X.V.getD l []).length = X.T.length ∧ ∀ t, t < X.T.length → (rowOf (X.V.getD l []) t).length = D := fun l h => fit_list hf.v hf.vs h
  have hk : X.K.length = L := by rw [hf.k, if_neg (by omega)]
  have hv : X.V.length = L := by rw [hf.v, if_neg (by omega)]
  unfold cutV feedV
  simp only [Vw.mk.injEq]
  refine ⟨List.take_append_of_le_length hn, map_take_getD hk (by unfold newK; simp) fun l hl => ?_, map_take_getD hv (by unfold newV; simp) fun l hl => ?_⟩
  · unfold newK
    rw [List.getD_eq_getElem?_getD, List.getElem?_map, List.getElem?_range hl]
    exact List.take_append_of_le_length (by rw [(kl l hl).1]; exact hn)
  · unfold newV
    rw [List.getD_eq_getElem?_getD, List.getElem?_map, List.getElem?_range hl]
    exact List.take_append_of_le_length (by rw [(vl l hl).1]; exact hn)
theorem cut_all {M : Mdl} {V D H Hd L n : Nat} (h1 : 1 ≤ n) {A : List Int} : ∀ {X : Vw}, VwFit V D L X → A.all (tokB V) = true → X.T.length + A.length ≤ 128 → n ≤ X.T.length → cutV (feedAll M D H Hd L X A) n = cutV X n := by
  induction A with
  | nil => intro X hf _ _ _; rfl
  | cons a A ih =>
    intro X hf ha hl hn
    simp only [List.all_cons, Bool.and_eq_true] at ha
    simp only [List.length_cons] at hl
    have ht : 0 ≤ a ∧ a < V := by have := ha.1; unfold tokB at this; simpa using this
    show cutV (feedAll M D H Hd L (feedV M D H Hd L X a.toNat) A) n = _
    rw [ih (fit_feed hf (by omega) (by omega)) ha.2 (by unfold feedV; simp; omega) (by unfold feedV; simp; omega)]
    exact cut_feed hf h1 hn
theorem cut_whole {V D L : Nat} {X : Vw} (hf : VwFit V D L X) : cutV X X.T.length = X := by
  have hm : ∀ {C : List (List (List Int))}, (∀ R ∈ C, R.length = X.T.length ∧ ∀ t, t < X.T.length → (rowOf R t).length = D) → C.map (List.take X.T.length) = C := fun {C} h => by
    have : C.map (List.take X.T.length) = C.map id := List.map_congr_left fun R hR => List.take_of_length_le (by rw [(h R hR).1]; exact Nat.le_refl _)
    rw [this, List.map_id]
  obtain ⟨T, K, W⟩ := X
  unfold cutV
  simp only [Vw.mk.injEq] at *
  exact ⟨List.take_of_length_le (Nat.le_refl _), hm hf.ks, hm hf.vs⟩
/-- The cut of the view of P at n is the view of the first n of P. -/
theorem cut_feedAll {M : Mdl} {V D H Hd L n : Nat} {P : List Int} (h1 : 1 ≤ n) (hn : n ≤ P.length) (hP : P.all (tokB V) = true) (hl : P.length ≤ 128) (hf : VwFit V D L noX) : cutV (feedAll M D H Hd L noX P) n = feedAll M D H Hd L noX (P.take n) := by
  have ha : (P.take n).all (tokB V) = true ∧ (P.drop n).all (tokB V) = true := by
    have := hP
    rw [← List.take_append_drop n P, List.all_append, Bool.and_eq_true] at this
    exact this
  have l1 : (P.take n).length = n := by rw [List.length_take]; omega
  have l2 : (P.drop n).length = P.length - n := List.length_drop
  have hfn : VwFit V D L (feedAll M D H Hd L noX (P.take n)) := feedAll_fit hf ha.1 (by show 0 + _ ≤ _; omega)
  have hlen : (feedAll M D H Hd L noX (P.take n)).T.length = n := by rw [feedAll_len]; show 0 + _ = _; omega
  have e : feedAll M D H Hd L noX P = feedAll M D H Hd L (feedAll M D H Hd L noX (P.take n)) (P.drop n) := by rw [← feedAll_append, List.take_append_drop]
  rw [e, cut_all h1 hfn ha.2 (by omega) (by omega)]
  have := cut_whole hfn
  rw [hlen] at this
  exact this
end Go.Proofs.YtcanjlofnpnhkaaGreatDoor

/- What is fed one by one is what is made from the beginning: the views, as lists; a small view is told whole. -/
namespace Go.Proofs.YtcanjlofnpnhkaaGreatDoor
theorem rows_whole {R : List (List Int)} {D : Nat} (h1 : R.length ≤ 130) (hD : D ≤ 40) (h2 : ∀ t, t < R.length → (rowOf R t).length = D) : rowsN R 130 = R := by
  unfold rowsN
  rw [List.take_of_length_le h1]
  apply List.ext_getElem?
  intro i
  rw [List.getElem?_map]
  by_cases hi : i < R.length
  · have := h2 i hi
    unfold rowOf at this
    rw [List.getD_eq_getElem?_getD, List.getElem?_eq_getElem hi] at this
    rw [List.getElem?_eq_getElem hi]
    simp only [Option.getD_some] at this
    simp only [Option.map_some, Option.some.injEq]
    exact List.take_of_length_le (by omega)
  · rw [List.getElem?_eq_none (by omega)]; rfl
theorem fit_whole {V : Int} {D L : Nat} {X : Vw} (hf : VwFit V D L X) (hD : D ≤ 40) : (∀ R ∈ X.K, rowsN R 130 = R) ∧ ∀ R ∈ X.V, rowsN R 130 = R := by
  have hm := hf.most
  exact ⟨fun R hR => rows_whole (by rw [(hf.ks R hR).1]; omega) hD (fun t ht => (hf.ks R hR).2 t (by rw [← (hf.ks R hR).1]; exact ht)), fun R hR => rows_whole (by rw [(hf.vs R hR).1]; omega) hD (fun t ht => (hf.vs R hR).2 t (by rw [← (hf.vs R hR).1]; exact ht))⟩
theorem list_eq {C E : List (List (List Int))} {L : Nat} (h1 : C.length = L) (h2 : E.length = L) (h : ∀ l, l < L → C.getD l [] = E.getD l []) : C = E := by
  apply List.ext_getElem?
  intro i
  by_cases hi : i < L
  · have := h i hi
    rw [List.getD_eq_getElem?_getD, List.getD_eq_getElem?_getD, List.getElem?_eq_getElem (by omega), List.getElem?_eq_getElem (by omega)] at this
    rw [List.getElem?_eq_getElem (by omega), List.getElem?_eq_getElem (by omega)]
    simpa using this
  · rw [List.getElem?_eq_none (by omega), List.getElem?_eq_none (by omega)]
/-- The view of P, fed one by one, holds the lists that are made from the beginning. -/
theorem feed_full {M : Mdl} {V D H Hd L : Nat} {P : List Int} (hP : P.all (tokB V) = true) (h0 : 1 ≤ P.length) (hl : P.length ≤ 128) (hf : VwFit V D L noX) :
    (feedAll M D H Hd L noX P).T = P ∧ (feedAll M D H Hd L noX P).K = fullK M D H Hd L P ∧ (feedAll M D H Hd L noX P).V = fullV M D H Hd L P := by
  have hc : Cached M D H Hd L (feedAll M D H Hd L noX P) ([] ++ P) := cached_all P (cached_none M D H Hd L) fun x hx => by
    have := List.all_eq_true.1 hP x hx
    unfold tokB at this
    have : 0 ≤ x ∧ x < V := by simpa using this
    exact this.1
  rw [List.nil_append] at hc
  have hfn : VwFit V D L (feedAll M D H Hd L noX P) := feedAll_fit hf hP (by show 0 + _ ≤ _; omega)
  have hlen : (feedAll M D H Hd L noX P).T.length = P.length := by rw [hc.1]
  refine ⟨hc.1, list_eq (by rw [hfn.k, if_neg (by omega)]) (by unfold fullK; simp) fun l h => ?_, list_eq (by rw [hfn.v, if_neg (by omega)]) (by unfold fullV; simp) fun l h => ?_⟩
  · rw [hc.2.1 l h]
    unfold fullK
    rw [List.getD_eq_getElem?_getD, List.getElem?_map, List.getElem?_range h]
    rfl
  · rw [hc.2.2 l h]
    unfold fullV
    rw [List.getD_eq_getElem?_getD, List.getElem?_map, List.getElem?_range h]
    rfl
end Go.Proofs.YtcanjlofnpnhkaaGreatDoor

/- Feed at any token, Copy as a view, and how a new view's lists may be written over. -/
namespace Go.Proofs.YtcanjlofnpnhkaaGreatDoor
open Go.ChangeShapes Go.WideShapes Go.ChangeAt Go.RowKit
theorem var3s (w : World) (T : TypeId) (z row : Array Value) : Blk (w.alloc (.cells z T)) w.heap.size T z ∧ Blk ((w.alloc (.cells z T)).setRow w.heap.size row) w.heap.size T row ∧ Below w.heap.size w ((w.alloc (.cells z T)).setRow w.heap.size row) ∧ ((w.alloc (.cells z T)).setRow w.heap.size row).heap.size = w.heap.size + 1 :=
  ⟨blk_new w T z, (blk_new w T z).row row, below_setRow ((Below.refl _ _).alloc (Nat.le_refl _) _) (Nat.le_refl _) _, by simp⟩
/-- How new lists of lists of numbers lie, from any place on. -/
def SkelA (B : Nat) (w : World) (ao : Option Addr) (L n D : Nat) : Prop := ∀ l, l < L → ∃ g o gl ol cl, ao = some ⟨g, o, none⟩ ∧ w.cell? ⟨g, o + l, none⟩ = some (.slice (some ⟨gl, ol, none⟩) n cl) ∧ ∀ i, i < n → ∃ rb ro rc, w.cell? ⟨gl, ol + i, none⟩ = some (.slice (some ⟨rb, ro, none⟩) D rc) ∧ ∀ j, j < D → ∃ x, w.cell? ⟨rb, ro + j, none⟩ = some (.int .i32 x) ∧ I32 x ∧ w.frozen? ⟨rb, ro + j, none⟩ = false ∧ B ≤ rb
theorem skelA_new {B : Nat} {w : World} {ao : Option Addr} {L n D : Nat} {C : List (List (List Int))} (h : New B w (fun w => CubeAt w ao L C)) (hC : ∀ R ∈ C, R.length = n ∧ ∀ i, i < n → (rowOf R i).length = D) (hn : 1 ≤ n) (h1 : 1 ≤ D) : SkelA B w ao L n D := by
  have h2 : CubeAt (wiped w B) ao L C := h _ fun b hb _ => wiped_far w B hb
  intro l hl
  obtain ⟨b, o, e, hc⟩ := h2.cells (by omega)
  have hlen := h2.len
  have hl' : l < C.length := by omega
  obtain ⟨ro, m, c, k1, k2, k3, k4, k5⟩ := hc l _ (List.getElem?_eq_getElem hl')
  obtain ⟨f1, f2⟩ := hC _ (List.getElem_mem hl')
  have hm : m = n := by rw [← f1]; exact k5.len.symm
  subst hm
  obtain ⟨b1, o1, rfl, hr⟩ := k5.cells (by omega)
  refine ⟨b, o, b1, o1, c, e, wiped_cell w B k1, fun i hi => ?_⟩
  obtain ⟨r2, m2, c2, q1, q2⟩ := hr i hi
  have hm2 : m2 = D := by rw [← f2 i hi]; exact q2.row.len.symm
  subst hm2
  obtain ⟨b2, o2, rfl, hx⟩ := q2.row.cells (by omega)
  refine ⟨b2, o2, c2, wiped_cell w B q1, fun j hj => ?_⟩
  have c1 := hx j hj
  have hb2 : B ≤ b2 := by simpa using wiped_near w B c1
  refine ⟨_, wiped_cell w B c1, q2.row.small.el j, ?_, hb2⟩
  rw [← frozen_of_block (wiped_far w B hb2)]
  exact q2.cold b2 o2 rfl j hj
theorem SkelA.below {B : Nat} {w w' : World} {ao : Option Addr} {L n D : Nat} (h : SkelA B w ao L n D) (hb : Below w.heap.size w w') : SkelA B w' ao L n D := fun l hl => by
  obtain ⟨g, o, gl, ol, cl, e0, e, h2⟩ := h l hl
  refine ⟨g, o, gl, ol, cl, e0, cell_keep e hb, fun i hi => ?_⟩
  obtain ⟨rb, ro, rc, e2, h3⟩ := h2 i hi
  refine ⟨rb, ro, rc, cell_keep e2 hb, fun j hj => ?_⟩
  obtain ⟨x, e3, hx, hf, hB⟩ := h3 j hj
  have hlt : rb < w.heap.size := by simpa using World.block_lt_of_cell? w _ e3
  exact ⟨x, cell_keep e3 hb, hx, by rw [frozen_of_block (hb.block rb hlt)]; exact hf, hB⟩
theorem KV.cubeC {w : World} {g m : Nat} {p : Nat → Prop} {A C : List (List (List Int))} (h : KV w g m 0 p A C) (hl : C.length = m) (hm : m ≤ 9223372036854775807) (hr : ∀ R ∈ C, R.length ≤ 4096) : CubeAt w (some ⟨g, 0, none⟩) m C := by
  obtain ⟨cs, h1, h2, _, h4⟩ := h.row
  refine ⟨hl, hm, fun _ => ⟨g, 0, rfl, fun t R hR => ?_⟩⟩
  have ht : t < m := by have := (List.getElem?_eq_some_iff.1 hR).1; omega
  obtain ⟨ro, n, vs, e, q1, N⟩ := h4 t (by omega) ht
  have e2 : C.getD t [] = R := by rw [List.getD_eq_getElem?_getD, hR]; rfl
  rw [e2] at N
  have G := N.now.grid
  have hl2 := hr R (List.mem_of_getElem? hR)
  have hn := G.len
  refine ⟨ro, n, n, ?_, q1, Nat.le_refl _, by omega, G⟩
  rw [Nat.zero_add]
  unfold World.cell?
  simp only [h1]
  exact e
theorem tok_small9 {V : Nat} {A : List Int} (hV : V ≤ 64) (h : A.all (tokB V) = true) : ∀ k, -9223372036854775808 ≤ el A k ∧ el A k ≤ 9223372036854775807 := fun k => by
  rcases Nat.lt_or_ge k A.length with h9 | h9
  · have := all_el h9 h
    unfold tokB at this
    have : 0 ≤ el A k ∧ el A k < V := by simpa using this
    omega
  · rw [el_over h9]; omega
/-- Copy, as a view. -/
theorem scopyV_any (V D L : Nat) (v : VwV) (X : Vw) (w : World) (hv : VwAt w v X) (hf : VwFit V D L X) (hV : V ≤ 64) (hD : D ≤ 32) (hL : L ≤ 4) :
   Calls Tryz.prog 58 #[.agg v.cells] w fun e w' => ∃ v2 : VwV, e = .returned (.agg v2.cells) ∧ VwAt w' v2 X ∧ Below w.heap.size w w' := by
  have hm := hf.most
  have hk := hf.k
  have hvl := hf.v
  have kl : X.K.length ≤ 4 := by rw [hk]; split <;> omega
  have vl : X.V.length ≤ 4 := by rw [hvl]; split <;> omega
  refine (scopy_any v X [] [] w hv (by omega) (by omega) (by omega) (fun R hR => ⟨by rw [(hf.ks R hR).1]; omega, fun t ht => by rw [(hf.ks R hR).2 t (by rw [← (hf.ks R hR).1]; exact ht)]; omega⟩) (fun R hR => ⟨by rw [(hf.vs R hR).1]; omega, fun t ht => by rw [(hf.vs R hR).2 t (by rw [← (hf.vs R hR).1]; exact ht)]; omega⟩)).mono ?_
  rintro e w' ⟨tv, gk, gv, rfl, O, K1, K2, _, _, _, B⟩
  obtain ⟨ao, c, rfl, A⟩ := IOwn.arg O (tok_small9 hV hf.toks)
  exact ⟨⟨⟨ao, X.T.length, c⟩, ⟨some ⟨gk, 0, none⟩, X.K.length, X.K.length⟩, ⟨some ⟨gv, 0, none⟩, X.V.length, X.V.length⟩⟩, rfl, ⟨A, K1.cubeC rfl (by omega) (fun R hR => by rw [(hf.ks R hR).1]; omega), K2.cubeC rfl (by omega) (fun R hR => by rw [(hf.vs R hR).1]; omega)⟩, B⟩
def fErr (V : Nat) (tok : Int) : Int := if tokB V tok = true then 0 else 7
def fView (M : Mdl) (V D H Hd L : Nat) (X : Vw) (tok : Int) : Vw := if tokB V tok = true then feedV M D H Hd L X tok.toNat else noX
/-- Feed at any token. -/
theorem feed_any (V D Hd H L : Nat) (W : Wt) (bs : List Bk) (M : Mdl) (v : VwV) (X : Vw) (tok : Int) (w : World) (hT : Tab w) (hl : X.T.length ≤ 127) (hG : Good w V D Hd H L W bs M) (hv : VwAt w v X) (hf : VwFit V D L X) :
   Calls Tryz.prog 27 #[.agg (cfgC V D Hd H L), .agg W.cells, .agg v.cells, .int .i64 tok] w fun e w' => ∃ vv lk, e = .returned (.tuple #[.agg (VwV.cells vv), lk, .int .i64 (fErr V tok)]) ∧ New w.heap.size w' (fun w => VwAt w vv (fView M V D H Hd L X tok)) ∧ Below w.heap.size w w' := by
  unfold fErr fView
  by_cases ht : tokB V tok = true
  · rw [if_pos ht, if_pos ht]
    have h2 : 0 ≤ tok ∧ tok < V := by unfold tokB at ht; simpa using ht
    obtain ⟨t, rfl⟩ : ∃ t : Nat, tok = t := ⟨tok.toNat, by omega⟩
    refine (feed_ok V D Hd H L W bs M v X t w hT hl (by omega) hG hv hf).mono ?_
    rintro e w' ⟨vv, g, rfl, N, _, B⟩
    exact ⟨vv, _, rfl, N, B⟩
  · rw [if_neg ht, if_neg ht]
    refine (feed_tok V D Hd H L W bs M v X tok w hl (by simpa using ht) hG hv hf).mono ?_
    rintro e w' ⟨rfl, B⟩
    exact ⟨⟨⟨none, 0, 0⟩, ⟨none, 0, 0⟩, ⟨none, 0, 0⟩⟩, _, rfl, fun w2 _ => noV_at w2, B⟩
theorem fView_fit {M : Mdl} {V D H Hd L : Nat} {X : Vw} {tok : Int} (hf : VwFit V D L X) (hl : X.T.length ≤ 127) : VwFit V D L (fView M V D H Hd L X tok) := by
  unfold fView
  split
  · rename_i ht
    have h2 : 0 ≤ tok ∧ tok < V := by unfold tokB at ht; simpa using ht
    exact fit_feed hf (by omega) hl
  · exact noX_fit _ _ _
/-- Told of layer 9 of a view that fits. -/
theorem told9_fit (V D L : Nat) (vv : VwV) (X : Vw) (w : World) (hv : VwAt w vv X) (hf : VwFit V D L X) (hD : D ≤ 32) (hL : L ≤ 4) :
   Calls Tryz.prog 18 #[.agg vv.cells] w fun e w' => ∃ t k v : Sl, e = .returned (.agg #[t.v, k.v, v.v]) ∧ ToldAt w' t k v X ∧ Below w.heap.size w w' := by
  have hm := hf.most
  have hk := hf.k
  have hvl := hf.v
  exact told9_any vv X w hv (by omega) (by rw [hk]; split <;> omega) (by rw [hvl]; split <;> omega) (fit_whole hf (by omega)).1 (fit_whole hf (by omega)).2
end Go.Proofs.YtcanjlofnpnhkaaGreatDoor

/- Clocks as they lie in memory; what ticks make of them. -/
namespace Go.Proofs.YtcanjlofnpnhkaaGreatDoor.Mp
open Go.ChangeShapes Go.WideShapes Go.ChangeAt Go.RowKit
/-- Block g has the cells cs. -/
def Blk (w : World) (g : Nat) (T : TypeId) (cs : Array Value) : Prop := w.heap[g]? = some (.cells cs T (0, 0))
theorem blk_new (w : World) (T : TypeId) (cs : Array Value) : Blk (w.alloc (.cells cs T)) w.heap.size T cs := heap_alloc_new _ _
theorem Blk.lt {w : World} {g : Nat} {T : TypeId} {cs : Array Value} (h : Blk w g T cs) : g < w.heap.size := (Array.getElem?_eq_some_iff.1 h).1
theorem Blk.of_block {w w' : World} {g : Nat} {T : TypeId} {cs : Array Value} (h : Blk w g T cs) (e : w'.heap[g]? = w.heap[g]?) : Blk w' g T cs := Eq.trans e h
theorem Blk.below {w w' : World} {g : Nat} {T : TypeId} {cs : Array Value} (h : Blk w g T cs) (hb : Below w.heap.size w w') : Blk w' g T cs := h.of_block (hb.block g h.lt)
theorem Blk.cell {w : World} {g : Nat} {T : TypeId} {cs : Array Value} (h : Blk w g T cs) (i : Nat) {v : Value} (hv : cs[i]? = some v) : w.cell? ⟨g, i, none⟩ = some v := by
  unfold Blk at h; unfold World.cell?; simp only [h]; exact hv
theorem Blk.frozen {w : World} {g : Nat} {T : TypeId} {cs : Array Value} (h : Blk w g T cs) (k : Nat) : w.frozen? ⟨g, k, none⟩ = false := by unfold Blk at h; unfold World.frozen?; simp only [h]; rfl
theorem Blk.set {w : World} {g : Nat} {T : TypeId} {cs : Array Value} (h : Blk w g T cs) (i : Nat) (v : Value) : Blk (w.setCell ⟨g, i, none⟩ v) g T (cs.setIfInBounds i v) := by
  unfold Blk at *
  simp [World.setCell, Array.getElem?_modify, h]
theorem Blk.other {w : World} {g : Nat} {T : TypeId} {cs : Array Value} (h : Blk w g T cs) {a : Addr} (ha : g ≠ a.block) (v : Value) : Blk (w.setCell a v) g T cs := h.of_block (Below.heap_setCell _ _ _ _ ha)
/-- Of what was there only block g has turned. -/
structure But (g : Nat) (w w' : World) : Prop where
  os : w'.os = w.os
  tape : w'.tape = w.tape
  output : w'.output = w.output
  size : w.heap.size ≤ w'.heap.size
  block : ∀ k, k < w.heap.size → k ≠ g → w'.heap[k]? = w.heap[k]?
theorem But.refl (g : Nat) (w : World) : But g w w := ⟨rfl, rfl, rfl, Nat.le_refl _, fun _ _ _ => rfl⟩
theorem But.of_below {g : Nat} {w w' : World} (h : Below w.heap.size w w') : But g w w' := ⟨h.os, h.tape, h.output, h.size, fun k hk _ => h.block k hk⟩
theorem But.trans {g : Nat} {w w1 w2 : World} (h : But g w w1) (k : But g w1 w2) : But g w w2 :=
  ⟨k.os.trans h.os, k.tape.trans h.tape, k.output.trans h.output, Nat.le_trans h.size k.size, fun i hi hg => (k.block i (Nat.lt_of_lt_of_le hi h.size) hg).trans (h.block i hi hg)⟩
theorem But.set {g : Nat} {w w' : World} (h : But g w w') (i : Nat) (v : Value) : But g w (w'.setCell ⟨g, i, none⟩ v) :=
  ⟨h.os, h.tape, h.output, by simpa using h.size, fun k hk hg => (Below.heap_setCell _ _ _ _ hg).trans (h.block k hk hg)⟩
theorem But.below {g : Nat} {w w' : World} (h : But g w w') {B : Nat} (hB : B ≤ w.heap.size) (hg : B ≤ g) : Below B w w' :=
  ⟨h.os, h.tape, h.output, h.size, fun k hk => h.block k (by omega) (by omega)⟩
theorem Blk.but {w w' : World} {g gb : Nat} {T : TypeId} {cs : Array Value} (h : Blk w gb T cs) (k : But g w w') (hg : gb ≠ g) : Blk w' gb T cs := h.of_block (k.block gb h.lt hg)
/-- How often clock i ticked, by the ticks so far (the newest first); how far it is ahead; the least and the greatest of that. -/
def cnt (H : List Nat) (i : Nat) : Int := (H.count i : Int)
def ahd (H : List Nat) (i : Nat) : Int := cnt H i - cnt H 0
def low : List Nat → Nat → Int
  | [], _ => 0
  | t :: H, i => min (low H i) (ahd (t :: H) i)
def hig : List Nat → Nat → Int
  | [], _ => 0
  | t :: H, i => max (hig H i) (ahd (t :: H) i)
theorem cnt_cons (t : Nat) (H : List Nat) (i : Nat) : cnt (t :: H) i = if i = t then cnt H i + 1 else cnt H i := by
  unfold cnt
  rw [List.count_cons]
  by_cases h : i = t
  · subst h; simp
  · have h2 : ¬ (t = i) := fun e => h e.symm
    simp [h, h2]
theorem cnt_bd (H : List Nat) (i : Nat) : 0 ≤ cnt H i ∧ cnt H i ≤ (H.length : Int) := by
  unfold cnt
  have := List.count_le_length (l := H) (a := i)
  omega
theorem ahd_bd (H : List Nat) (i : Nat) : -(H.length : Int) ≤ ahd H i ∧ ahd H i ≤ (H.length : Int) := by
  have h1 := cnt_bd H i
  have h2 := cnt_bd H 0
  unfold ahd
  omega
theorem low_bd : ∀ (H : List Nat) (i : Nat), -(H.length : Int) ≤ low H i ∧ low H i ≤ 0 ∧ low H i ≤ ahd H i
  | [], i => by simp [low, ahd, cnt]
  | t :: H, i => by
    have h1 := low_bd H i
    have h2 := ahd_bd (t :: H) i
    simp only [low, List.length_cons] at *
    omega
theorem hig_bd : ∀ (H : List Nat) (i : Nat), 0 ≤ hig H i ∧ hig H i ≤ (H.length : Int) ∧ ahd H i ≤ hig H i
  | [], i => by simp [hig, ahd, cnt]
  | t :: H, i => by
    have h1 := hig_bd H i
    have h2 := ahd_bd (t :: H) i
    simp only [hig, List.length_cons] at *
    omega
def upI (f : Nat → Int) (i : Nat) (x : Int) : Nat → Int := fun j => if j = i then x else f j
end Go.Proofs.YtcanjlofnpnhkaaGreatDoor.Mp

/- Maps from numbers to things of one kind: what they hold, as a row of entries in whatever order. -/
namespace Go.Proofs.YtcanjlofnpnhkaaGreatDoor.Mp
open Go.ChangeShapes Go.WideShapes Go.ChangeAt Go.RowKit Go.Maps
theorem lawI : Keyed Tryz.prog 3 := int_keyed Tryz.underlying3
theorem wfI (x : Int) (h : -9223372036854775808 ≤ x ∧ x ≤ 9223372036854775807) : (Lit.int .i64 x).wf = true := WalkArith.wf_i64 ⟨h.1, h.2⟩
theorem But.grown {g : Nat} {w a b : World} {row : Option Nat} (h : But g w a) (k : a.grownBy b row) (hr : ∀ j, row = some j → w.heap.size ≤ j ∨ j = g) : But g w b :=
  ⟨k.os.trans h.os, k.tape.trans h.tape, k.output.trans h.output, Nat.le_trans h.size k.size, fun i hi hg => (k.block i (Nat.lt_of_lt_of_le hi h.size) (fun e => by rcases hr i e.symm with h1 | h1 <;> omega)).trans (h.block i hi hg)⟩
theorem grown_row (w : World) (g : Nat) (cs : Array Value) : w.grownBy (w.setRow g cs) (some g) :=
  ⟨rfl, rfl, rfl, by simp, fun i _ hi => setRow_other _ _ _ _ (fun e => hi (by rw [e]))⟩
theorem Blk.row {w : World} {g : Nat} {T : TypeId} {cs : Array Value} (h : Blk w g T cs) (ds : Array Value) : Blk (w.setRow g ds) g T ds := setRow_heap _ _ _ _ _ _ h
section
variable {α : Type} (enc : α → Value)
open Classical in
/-- How an element reads. -/
noncomputable def rdE (v : Value) : Option (DataW Value × List MemPlace) := if ∃ c, v = enc c then some (.held v, []) else none
theorem rdE_mk (c : α) : rdE enc (enc c) = some (.held (enc c), []) := by unfold rdE; rw [if_pos ⟨c, rfl⟩]
theorem rdE_inv {v : Value} {y : DataW Value × List MemPlace} (h : rdE enc v = some y) : ∃ c, v = enc c ∧ y = (.held (enc c), []) := by
  unfold rdE at h
  by_cases e : ∃ c, v = enc c
  · rw [if_pos e] at h
    obtain ⟨c, rfl⟩ := e
    exact ⟨c, rfl, (Option.some.inj h).symm⟩
  · rw [if_neg e] at h; cases h
/-- An entry as it reads. -/
def entM (p : Int × α) : Lit × DataW Value := (.int .i64 p.1, .held (enc p.2))
/-- Block b is a map that holds just these entries. -/
def MapAt (w : World) (b : Nat) (L : List (Int × α)) : Prop := ∃ es, w.ownsMap Tryz.prog 3 (rdE enc) b L.length (.map es) ∧ es.Perm (L.map (entM enc))
/-- The element at a key. -/
def getM (L : List (Int × α)) (x : Int) : Option α := (L.find? (fun p => decide (p.1 = x))).map (·.2)
/-- Without a key; with an entry in its place. -/
def delM (L : List (Int × α)) (x : Int) : List (Int × α) := L.filter (fun p => decide (p.1 ≠ x))
def putM (L : List (Int × α)) (x : Int) (v : α) : List (Int × α) := delM L x ++ [(x, v)]
end
theorem own_tight {α : Type} {enc : α → Value} {w : World} {b n : Nat} {es : List (Lit × DataW Value)} (h : w.ownsMap Tryz.prog 3 (rdE enc) b n (.map es)) : w.ownsMap Tryz.prog 3 (rdE enc) b es.length (.map es) := by
  obtain ⟨a, clock, h1, F, hs, hD⟩ := h
  refine ⟨a, clock, h1, F, ?_, hD⟩
  injection hD with hD
  rw [hD, length_sorted]
  simp
theorem mapAt_of {α : Type} {enc : α → Value} {w : World} {b n : Nat} {es : List (Lit × DataW Value)} {L : List (Int × α)} (h : w.ownsMap Tryz.prog 3 (rdE enc) b n (.map es)) (hp : es.Perm (L.map (entM enc))) : MapAt enc w b L := by
  have e : es.length = L.length := by rw [hp.length_eq]; simp
  exact ⟨es, by rw [← e]; exact own_tight h, hp⟩
theorem MapAt.keep {α : Type} {enc : α → Value} {w w' : World} {b : Nat} {L : List (Int × α)} (h : MapAt enc w b L) (hb : w'.heap[b]? = w.heap[b]?) : MapAt enc w' b L := by
  obtain ⟨es, ⟨a, clock, h1, F, hs, hD⟩, hp⟩ := h
  exact ⟨es, ⟨a, clock, hb.trans h1, F, hs, hD⟩, hp⟩
theorem MapAt.lt {α : Type} {enc : α → Value} {w : World} {b : Nat} {L : List (Int × α)} (h : MapAt enc w b L) : b < w.heap.size := by
  obtain ⟨es, ho, _⟩ := h
  exact ho.lt
theorem MapAt.below {α : Type} {enc : α → Value} {w w' : World} {b : Nat} {L : List (Int × α)} (h : MapAt enc w b L) (hb : Below w.heap.size w w') : MapAt enc w' b L := h.keep (hb.block b h.lt)
theorem MapAt.perm {α : Type} {enc : α → Value} {w : World} {b : Nat} {L L' : List (Int × α)} (h : MapAt enc w b L) (hp : L.Perm L') : MapAt enc w b L' := by
  obtain ⟨es, ho, h2⟩ := h
  exact ⟨es, by rw [← hp.length_eq]; exact ho, h2.trans (hp.map _)⟩
theorem MapAt.made {α : Type} (enc : α → Value) (w : World) : MapAt enc (w.alloc (.map #[] 0)) w.heap.size [] := ⟨[], World.ownsMap_made w _ _ _, List.Perm.refl _⟩
theorem MapAt.apart {α : Type} {enc : α → Value} {w : World} {b : Nat} {L : List (Int × α)} (h : MapAt enc w b L) : L.Pairwise (fun p q => p.1 ≠ q.1) := by
  obtain ⟨es, ho, hp⟩ := h
  obtain ⟨es', e, h1, _⟩ := ho.entries lawI
  injection e with e
  subst e
  have h2 := (hp.pairwise_iff (fun {_ _} hne => Ne.symm hne)).1 h1
  rw [List.pairwise_map] at h2
  exact h2.imp (fun {a c} hac e => hac (by unfold entM; rw [e]))
theorem getM_mem {α : Type} {L : List (Int × α)} {x : Int} {v : α} (h : getM L x = some v) : (x, v) ∈ L := by
  unfold getM at h
  rw [Option.map_eq_some_iff] at h
  obtain ⟨⟨y, u⟩, h1, rfl⟩ := h
  have h2 := List.find?_some h1
  simp only [decide_eq_true_eq] at h2
  subst h2
  exact List.mem_of_find?_eq_some h1
theorem getM_none {α : Type} {L : List (Int × α)} {x : Int} (h : getM L x = none) : ∀ p ∈ L, p.1 ≠ x := by
  unfold getM at h
  rw [Option.map_eq_none_iff, List.find?_eq_none] at h
  intro p hp e
  exact h p hp (by simpa using e)
theorem getM_of_mem {α : Type} {L : List (Int × α)} (ha : L.Pairwise (fun p q => p.1 ≠ q.1)) {x : Int} {v : α} (h : (x, v) ∈ L) : getM L x = some v := by
  induction L with
  | nil => cases h
  | cons p r ih =>
    rw [List.pairwise_cons] at ha
    unfold getM
    rcases List.mem_cons.1 h with rfl | h
    · simp
    · have : p.1 ≠ x := fun e => ha.1 _ h (by exact e)
      rw [List.find?_cons_of_neg (by simpa using this)]
      exact ih ha.2 h
theorem getM_perm {α : Type} {L L' : List (Int × α)} (ha : L.Pairwise (fun p q => p.1 ≠ q.1)) (hp : L.Perm L') (x : Int) : getM L x = getM L' x := by
  have ha' := (hp.pairwise_iff (fun {_ _} hne => Ne.symm hne)).1 ha
  rcases h : getM L x with _ | v
  · rcases h' : getM L' x with _ | v
    · rfl
    · exact absurd rfl (getM_none h _ (hp.mem_iff.2 (getM_mem h')))
  · rw [getM_of_mem ha' (hp.mem_iff.1 (getM_mem h))]
theorem getM_put_same {α : Type} (L : List (Int × α)) (x : Int) (v : α) : getM (putM L x v) x = some v := by
  unfold getM putM delM
  rw [List.find?_append]
  have : (L.filter (fun p => decide (p.1 ≠ x))).find? (fun p => decide (p.1 = x)) = none := by
    rw [List.find?_eq_none]
    intro p hp
    have := (List.mem_filter.1 hp).2
    simpa using this
  rw [this]
  simp
theorem getM_del_same {α : Type} (L : List (Int × α)) (x : Int) : getM (delM L x) x = none := by
  unfold getM delM
  rw [Option.map_eq_none_iff, List.find?_eq_none]
  intro p hp
  have := (List.mem_filter.1 hp).2
  simpa using this
theorem find_filter {α : Type} (p q : Int × α → Bool) (h : ∀ a, p a = true → q a = true) : ∀ L : List (Int × α), (L.filter q).find? p = L.find? p
  | [] => rfl
  | a :: r => by
    by_cases hq : q a = true
    · rw [List.filter_cons_of_pos hq]
      by_cases hp : p a = true
      · rw [List.find?_cons_of_pos hp, List.find?_cons_of_pos hp]
      · rw [List.find?_cons_of_neg hp, List.find?_cons_of_neg hp, find_filter p q h r]
    · rw [List.filter_cons_of_neg hq, List.find?_cons_of_neg (fun hp => hq (h a hp)), find_filter p q h r]
theorem getM_del_other {α : Type} (L : List (Int × α)) {x y : Int} (h : y ≠ x) : getM (delM L x) y = getM L y := by
  unfold getM delM
  rw [find_filter _ _ (fun a ha => by simp only [decide_eq_true_eq] at *; rw [ha]; exact h)]
theorem getM_put_other {α : Type} (L : List (Int × α)) {x y : Int} (v : α) (h : y ≠ x) : getM (putM L x v) y = getM L y := by
  rw [← getM_del_other L h]
  unfold getM putM
  rw [List.find?_append]
  have : ([(x, v)] : List (Int × α)).find? (fun p => decide (p.1 = y)) = none := by simp; exact fun e => h e.symm
  rw [this]
  simp
theorem lit_ne {a b : Int} (h : a ≠ b) : Lit.int .i64 a ≠ Lit.int .i64 b := fun e => h (by injection e)
theorem del_perm {α : Type} {enc : α → Value} {es : List (Lit × DataW Value)} {L : List (Int × α)} (hp : es.Perm (L.map (entM enc))) (x : Int) : (es.filter fun p => !p.1.sameKey (.int .i64 x)).Perm ((delM L x).map (entM enc)) := by
  have h1 := hp.filter (fun p => !p.1.sameKey (.int .i64 x))
  refine h1.trans ?_
  unfold delM
  rw [List.filter_map]
  have e : ((fun p : Lit × DataW Value => !p.1.sameKey (.int .i64 x)) ∘ entM enc) = fun p : Int × α => decide (p.1 ≠ x) := by
    funext p
    show (!(Lit.int .i64 p.1).sameKey (.int .i64 x)) = _
    by_cases e : p.1 = x
    · rw [e, WideAt.sameKey_self (show WideAt.IsKeyLit (.int .i64 x) from trivial)]; simp
    · rw [Maps.sameKey_ne (lit_ne e)]; simp [e]
  rw [e]
set_option maxRecDepth 100000 in
theorem MapAt.look {α : Type} {enc : α → Value} {w : World} {b : Nat} {L : List (Int × α)} (h : MapAt enc w b L) {T E : TypeId} (hT : Tryz.prog.underlying T = some (.map 3 E)) {z : α} (hz : (zeroValue E).run Tryz.prog w = .ok (enc z) w) (x : Int) (hx : -9223372036854775808 ≤ x ∧ x ≤ 9223372036854775807) :
    (Instr.lookup T (.map (some b)) (.int .i64 x) true).run Tryz.prog w = .ok (.tuple #[enc ((getM L x).getD z), .bool (getM L x).isSome]) w := by
  have ha := h.apart
  obtain ⟨es, ho, hp⟩ := h
  obtain ⟨v, ps, hrun, hv⟩ := ho.look_ok lawI hT hz (zd := .held (enc z)) (zp := []) (rdE_mk enc z) (keyOf_int_mk Tryz.underlying3 (wfI x hx))
  obtain ⟨c, rfl, hc⟩ := rdE_inv enc hv
  rw [Prod.mk.injEq] at hc
  obtain ⟨es', e, h1, _⟩ := ho.entries lawI
  injection e with e
  subst e
  rcases hg : getM L x with _ | u
  · have h2 : ∀ zd : DataW Value, (DataW.map es).atKey (.int .i64 x) zd = zd := fun zd => WideAt.atKey_none zd (fun p hpm => by
      have := hp.mem_iff.1 hpm
      rw [List.mem_map] at this
      obtain ⟨q, hq, rfl⟩ := this
      exact lit_ne (getM_none hg q hq))
    rw [Maps.has_false_of_atKey h2] at hrun
    have h3 := hc.1
    rw [h2] at h3
    injection h3 with h3
    rw [← h3] at hrun
    exact hrun
  · have h2 : ∀ zd : DataW Value, (DataW.map es).atKey (.int .i64 x) zd = .held (enc u) := fun zd => WideAt.atKey_mem zd (show WideAt.IsKeyLit (.int .i64 x) from trivial) h1 (hp.mem_iff.2 (List.mem_map.2 ⟨(x, u), getM_mem hg, rfl⟩))
    rw [Maps.has_true_of_atKey h2] at hrun
    have h3 := hc.1
    rw [h2] at h3
    injection h3 with h3
    rw [← h3] at hrun
    exact hrun
theorem look_nilM {α : Type} (enc : α → Value) (w : World) {T E : TypeId} (hT : Tryz.prog.underlying T = some (.map 3 E)) {z : α} (hz : (zeroValue E).run Tryz.prog w = .ok (enc z) w) (x : Int) (hx : -9223372036854775808 ≤ x ∧ x ≤ 9223372036854775807) :
    (Instr.lookup T (.map none) (.int .i64 x) true).run Tryz.prog w = .ok (.tuple #[enc z, .bool false]) w :=
  Maps.look_nil (w := w) true lawI hT hz (keyOf_int_mk Tryz.underlying3 (wfI x hx))
set_option maxRecDepth 100000 in
theorem MapAt.look1 {α : Type} {enc : α → Value} {w : World} {b : Nat} {L : List (Int × α)} (h : MapAt enc w b L) {T E : TypeId} (hT : Tryz.prog.underlying T = some (.map 3 E)) {z : α} (hz : (zeroValue E).run Tryz.prog w = .ok (enc z) w) (x : Int) (hx : -9223372036854775808 ≤ x ∧ x ≤ 9223372036854775807) :
    (Instr.lookup T (.map (some b)) (.int .i64 x) false).run Tryz.prog w = .ok (enc ((getM L x).getD z)) w := by
  obtain ⟨es, ho, hp⟩ := h
  obtain ⟨v, ps, hrun, hv⟩ := ho.lookup lawI hT hz (zd := .held (enc z)) (zp := []) (rdE_mk enc z) (keyOf_int_mk Tryz.underlying3 (wfI x hx))
  obtain ⟨c, rfl, hc⟩ := rdE_inv enc hv
  rw [Prod.mk.injEq] at hc
  obtain ⟨es', e, h1, _⟩ := ho.entries lawI
  injection e with e
  subst e
  rcases hg : getM L x with _ | u
  · have h2 : ∀ zd : DataW Value, (DataW.map es).atKey (.int .i64 x) zd = zd := fun zd => WideAt.atKey_none zd (fun p hpm => by
      have := hp.mem_iff.1 hpm
      rw [List.mem_map] at this
      obtain ⟨q, hq, rfl⟩ := this
      exact lit_ne (getM_none hg q hq))
    have h3 := hc.1
    rw [h2] at h3
    injection h3 with h3
    rw [← h3] at hrun
    exact hrun
  · have h2 : ∀ zd : DataW Value, (DataW.map es).atKey (.int .i64 x) zd = .held (enc u) := fun zd => WideAt.atKey_mem zd (show WideAt.IsKeyLit (.int .i64 x) from trivial) h1 (hp.mem_iff.2 (List.mem_map.2 ⟨(x, u), getM_mem hg, rfl⟩))
    have h3 := hc.1
    rw [h2] at h3
    injection h3 with h3
    rw [← h3] at hrun
    exact hrun
theorem look1_nilM {α : Type} (enc : α → Value) (w : World) {T E : TypeId} (hT : Tryz.prog.underlying T = some (.map 3 E)) {z : α} (hz : (zeroValue E).run Tryz.prog w = .ok (enc z) w) (x : Int) (hx : -9223372036854775808 ≤ x ∧ x ≤ 9223372036854775807) :
    (Instr.lookup T (.map none) (.int .i64 x) false).run Tryz.prog w = .ok (enc z) w :=
  Maps.look_nil (w := w) false lawI hT hz (keyOf_int_mk Tryz.underlying3 (wfI x hx))
set_option maxRecDepth 100000 in
theorem MapAt.len {α : Type} {enc : α → Value} {w : World} {b : Nat} {L : List (Int × α)} (h : MapAt enc w b L) {T E : TypeId} (hT : Tryz.prog.underlying T = some (.map 3 E)) (ty : TypeId) :
    (Builtin.len_ #[T] ty #[.map (some b)]).run Tryz.prog w = .ok (.int .i64 (L.length : Int)) w := by
  obtain ⟨es, ho, hp⟩ := h
  rw [ho.len hT ty]
  have : Maps.size (DataW.map es) = L.length := by simp [Maps.size, hp.length_eq]
  rw [this]
set_option maxRecDepth 100000 in
theorem MapAt.store {α : Type} {enc : α → Value} {w : World} {b : Nat} {L : List (Int × α)} (h : MapAt enc w b L) {T E : TypeId} (hT : Tryz.prog.underlying T = some (.map 3 E)) (hn : L.length < 1000000) (x : Int) (hx : -9223372036854775808 ≤ x ∧ x ≤ 9223372036854775807) (v : α) :
    ∃ w', (Instr.mapUpdate T (.map (some b)) (.int .i64 x) (enc v)).run Tryz.prog w = .ok () w' ∧ MapAt enc w' b (putM L x v) ∧ But b w w' ∧ w'.heap.size = w.heap.size := by
  obtain ⟨es, ho, hp⟩ := h
  obtain ⟨w', hrun, ho', hg⟩ := ho.store lawI hT (show L.length < maxLen by unfold maxLen; omega) (keyOf_int_mk Tryz.underlying3 (wfI x hx)) (rdE_mk enc v)
  refine ⟨w', hrun, mapAt_of ho' ((insert_perm _ _).trans ?_), (But.refl b w).grown hg.grown (fun j hj => Or.inr (Option.some.inj hj).symm), ?_⟩
  · unfold putM
    rw [List.map_append]
    exact ((del_perm hp x).cons _).trans (List.perm_append_singleton _ _).symm
  · obtain ⟨_, _, _, _, _, rfl⟩ := hg
    simp [ChangeMaps.setBlock]
set_option maxRecDepth 100000 in
theorem MapAt.drop {α : Type} {enc : α → Value} {w : World} {b : Nat} {L : List (Int × α)} (h : MapAt enc w b L) {T E : TypeId} (hT : Tryz.prog.underlying T = some (.map 3 E)) (x : Int) (hx : -9223372036854775808 ≤ x ∧ x ≤ 9223372036854775807) (ty : TypeId) :
    ∃ w', (Builtin.delete_ #[T, 3] ty #[.map (some b), .int .i64 x]).run Tryz.prog w = .ok (.tuple #[]) w' ∧ MapAt enc w' b (delM L x) ∧ But b w w' ∧ w'.heap.size = w.heap.size := by
  obtain ⟨es, ho, hp⟩ := h
  obtain ⟨w', hrun, ho', hg⟩ := ho.drop lawI hT (keyOf_int_mk Tryz.underlying3 (wfI x hx)) ty
  refine ⟨w', hrun, mapAt_of ho' (del_perm hp x), (But.refl b w).grown hg.grown (fun j hj => Or.inr (Option.some.inj hj).symm), ?_⟩
  obtain ⟨_, _, _, _, _, rfl⟩ := hg
  simp [ChangeMaps.setBlock]
end Go.Proofs.YtcanjlofnpnhkaaGreatDoor.Mp

/- Pages of two tokens each, of a view of at most eight: what is so of each, and of those from some page on. -/
namespace Go.Proofs.YtcanjlofnpnhkaaGreatDoor
open Go.ChangeShapes Go.WideShapes Go.ChangeAt Go.RowKit
theorem pg_cells {w : World} {g o : Nat} {p q : PgV} (h : w.rangeAt g o p.cells.toList) (k : w.rangeAt g o q.cells.toList) : p = q := by
  obtain ⟨⟨p1, p2, p3⟩, pf, ⟨p4, p5, p6⟩, ⟨p7, p8, p9⟩⟩ := p
  obtain ⟨⟨q1, q2, q3⟩, qf, ⟨q4, q5, q6⟩, ⟨q7, q8, q9⟩⟩ := q
  have e0 := Option.some.inj ((h 0 (.slice p1 p2 p3) rfl).symm.trans (k 0 (.slice q1 q2 q3) rfl))
  have e1 := Option.some.inj ((h 1 (.int .i64 pf) rfl).symm.trans (k 1 (.int .i64 qf) rfl))
  have e2 := Option.some.inj ((h 2 (.slice p4 p5 p6) rfl).symm.trans (k 2 (.slice q4 q5 q6) rfl))
  have e3 := Option.some.inj ((h 3 (.slice p7 p8 p9) rfl).symm.trans (k 3 (.slice q7 q8 q9) rfl))
  simp only [Value.slice.injEq, Value.int.injEq, true_and] at e0 e1 e2 e3
  obtain ⟨rfl, rfl, rfl⟩ := e0
  subst e1
  obtain ⟨rfl, rfl, rfl⟩ := e2
  obtain ⟨rfl, rfl, rfl⟩ := e3
  rfl
theorem range_of {w w' : World} {g o : Nat} {l : List Value} (h : w.rangeAt g o l) (e : w'.heap[g]? = w.heap[g]?) : w'.rangeAt g o l := fun j v hv => by
  rw [World.cell?_of_block (w := w) (w' := w') (a := ⟨g, o + j, none⟩) e]
  exact h j v hv
/-- Pages that came since s lie in a block that came since s. -/
theorem pgs_far {s : Nat} {w : World} {sl : Sl} {l : List Pg} (h : New s w (fun w => PgsAt w sl l)) (hn : 0 < sl.n) {g o : Nat} (e : sl.ao = some ⟨g, o, none⟩) : s ≤ g := by
  rcases Nat.lt_or_ge g s with hg | hg
  rotate_left
  · exact hg
  exfalso
  have hw := h { w with heap := w.heap.setIfInBounds g (.cells #[] 0 (0, 0)) } (fun b hb _ => by
    have hb' : s ≤ b := hb
    show (w.heap.setIfInBounds g _)[b]? = _
    rw [Array.getElem?_setIfInBounds_ne (by omega)])
  obtain ⟨g', o', e', hc⟩ := hw.cells hn
  rw [e] at e'
  have e2 := Option.some.inj e'
  simp only [Addr.mk.injEq, and_true] at e2
  obtain ⟨rfl, rfl⟩ := e2
  obtain ⟨X, hX⟩ : ∃ X, l[0]? = some X := ⟨_, List.getElem?_eq_getElem (show 0 < l.length by rw [hw.len]; exact hn)⟩
  obtain ⟨p, r, _⟩ := hc 0 X hX
  have c := r 0 p.t.v rfl
  unfold World.cell? at c
  simp only at c
  by_cases hl : g < w.heap.size
  · rw [Array.getElem?_setIfInBounds_self_of_lt hl] at c
    simp at c
  · rw [Array.getElem?_eq_none (by rw [Array.size_setIfInBounds]; omega)] at c
    cases c
/-- Page k, of two. -/
def pgK (X : Vw) (k : Nat) : Pg := pgOf X (k * 2) (min ((k + 1) * 2) X.T.length)
theorem page_facts {V D L : Nat} {X : Vw} (hf : VwFit (V : Int) D L X) (hD : D ≤ 32) (hL : L ≤ 4) (hV : V ≤ 64) {k : Nat} (hk : k < pageN X.T.length 2) {wv : World} {p : PgV} (PA : PgAt wv p (pgK X k)) :
    ckN V D L (pgK X k) = 0 ∧ (-9223372036854775808 ≤ (pgK X k).F ∧ (pgK X k).F ≤ 9223372036854775807) ∧ (cubeB (pgK X k).K).length + (cubeB (pgK X k).V).length ≤ 900000 ∧ (pageB (pgK X k)).length ≤ 20000 ∧ rdS V D L (pageB (pgK X k)) = (0, pgK X k) := by
  have hfl := (pageN_lt (page := 2) (by omega) (n := X.T.length) (k := k)).2 hk
  have hm := hf.most
  obtain ⟨fr, hfr⟩ : ∃ fr, k * 2 = fr := ⟨_, rfl⟩
  have hks : (k + 1) * 2 = k * 2 + 2 := Nat.succ_mul k 2
  have e0 : pgK X k = pgOf X fr (min (fr + 2) X.T.length) := by unfold pgK; rw [hks, hfr]
  rw [hfr] at hfl
  obtain ⟨to', hto⟩ : ∃ t, min (fr + 2) X.T.length = t := ⟨_, rfl⟩
  rw [hto] at e0
  rw [e0] at PA ⊢
  clear e0
  have h1 : fr < to' := by omega
  have h2 : to' ≤ X.T.length := by omega
  have h3 : to' - fr ≤ 16 := by omega
  have ck := pg_ok hf h1 h2 h3
  have sK := cube_small PA.k
  have sV := cube_small PA.v
  have plen := page_len ck sK sV
  have PBK := page_back ck sK sV (by omega) hD hL
  have hTl : (pgOf X fr to').T.length = to' := by show (X.T.take to').length = _; rw [List.length_take]; omega
  rw [hTl, show (pgOf X fr to').F.toNat = fr from by show ((fr : Nat) : Int).toNat = fr; omega] at plen
  have q1' : 8 * (to' - fr) * L * D ≤ 16384 := Nat.le_trans (Nat.mul_le_mul (Nat.mul_le_mul (by omega : 8 * (to' - fr) ≤ 128) hL) hD) (by decide)
  have PL : (pageB (pgOf X fr to')).length ≤ 20000 := by rw [pageB_form, List.length_cons, List.length_cons, plen]; omega
  refine ⟨ck, ⟨by show -9223372036854775808 ≤ (fr : Int); omega, by show (fr : Int) ≤ 9223372036854775807; omega⟩, ?_, PL, PBK⟩
  have := PL
  rw [pageB_form, List.length_cons, List.length_cons, List.length_append, List.length_append] at this
  omega
/-- The texts by their pages. -/
def txL (X : Vw) : Nat → List (Int × ByteArray)
  | 0 => []
  | k + 1 => Mp.putM (txL X k) (k : Int) (txt (pageB (pgK X k)))
theorem txL_len (X : Vw) : ∀ k, (txL X k).length ≤ k
  | 0 => Nat.le_refl _
  | k + 1 => by
    have ih := txL_len X k
    have : (Mp.delM (txL X k) (k : Int)).length ≤ (txL X k).length := List.length_filter_le _ _
    show (Mp.delM (txL X k) (k : Int) ++ [_]).length ≤ k + 1
    rw [List.length_append]
    simp only [List.length_cons, List.length_nil]
    omega
theorem txL_get (X : Vw) : ∀ n k, k < n → Mp.getM (txL X n) (k : Int) = some (txt (pageB (pgK X k)))
  | 0, k, h => by omega
  | n + 1, k, h => by
    show Mp.getM (Mp.putM (txL X n) (n : Int) _) (k : Int) = _
    by_cases e : k = n
    · subst e; exact Mp.getM_put_same _ _ _
    · rw [Mp.getM_put_other _ _ (show (k : Int) ≠ (n : Int) by omega)]
      exact txL_get X n k (by omega)
/-- The pages from g on, before page k. -/
def gotP (X : Vw) (g k : Nat) : List Pg := (pagesOf X 2 k).drop g
theorem gotP_len (X : Vw) (g k : Nat) : (gotP X g k).length = k - g := by unfold gotP; rw [List.length_drop, pagesOf_len]
theorem gotP_nil (X : Vw) {g k : Nat} (h : k ≤ g) : gotP X g k = [] := List.drop_eq_nil_of_le (by rw [pagesOf_len]; exact h)
theorem gotP_next (X : Vw) {g k : Nat} (h : g ≤ k) : gotP X g (k + 1) = gotP X g k ++ [pgK X k] := by
  show (pagesOf X 2 k ++ [_]).drop g = _
  rw [List.drop_append_of_le_length (by rw [pagesOf_len]; exact h)]
  rfl
theorem gotP_zero (X : Vw) (k : Nat) : gotP X 0 k = pagesOf X 2 k := rfl
/-- Pages without the first one don't join. -/
theorem got_off {V D L : Nat} {X : Vw} (hf : VwFit (V : Int) D L X) {g n : Nat} (hg : 0 < g) (hgn : g < n) (hn : n = pageN X.T.length 2) : jnS V D L noVw (gotP X g n) = (8, noVw) := by
  have hlt := (pageN_lt (page := 2) (by omega) (n := X.T.length) (k := g)).2 (by rw [← hn]; exact hgn)
  have h0 : (gotP X g n)[0]? = some (pgK X g) := by
    unfold gotP
    rw [List.getElem?_drop, Nat.add_zero]
    exact pagesOf_at X 2 n g hgn
  cases hl : gotP X g n with
  | nil => rw [hl] at h0; cases h0
  | cons b l =>
    rw [hl] at h0
    have e : b = pgK X g := Option.some.inj h0
    subst e
    have a1 : g * 2 < min ((g + 1) * 2) X.T.length := by omega
    have a2 : min ((g + 1) * 2) X.T.length ≤ X.T.length := by omega
    have a3 : min ((g + 1) * 2) X.T.length - g * 2 ≤ 16 := by omega
    have ck : ckN V D L (pgK X g) = 0 := pg_ok hf a1 a2 a3
    show (if _ then _ else if _ then _ else _) = _
    rw [if_neg (by rw [ck]; exact fun h => h rfl), if_neg]
    intro h
    have h2 := congrArg List.length h
    have h3 : ((pgK X g).T.take (pgK X g).F.toNat).length = min (g * 2) (min (min ((g + 1) * 2) X.T.length) X.T.length) := by
      show ((X.T.take _).take ((g * 2 : Nat) : Int).toNat).length = _
      rw [List.length_take, List.length_take, Int.toNat_natCast]
    rw [h3] at h2
    have h4 : (noVw.T).length = 0 := rfl
    rw [h4] at h2
    omega
theorem got_join {V D L : Nat} {X : Vw} (hf : VwFit (V : Int) D L X) {n : Nat} (hn : n = pageN X.T.length 2) : jnS V D L noVw (gotP X 0 n) = (0, X) := by
  rw [gotP_zero, hn]
  exact jn_all hf (by omega) (by omega)
end Go.Proofs.YtcanjlofnpnhkaaGreatDoor

/- A pool's pages and its row of idle ones, as they lie in memory. -/
namespace Go.Proofs.YtcanjlofnpnhkaaGreatDoor.Pl
open Go.ChangeShapes Go.WideShapes Go.ChangeAt Go.RowKit
/-- Block g has the cells cs. -/
def Blk (w : World) (g : Nat) (T : TypeId) (cs : Array Value) : Prop := w.heap[g]? = some (.cells cs T (0, 0))
theorem blk_new (w : World) (T : TypeId) (cs : Array Value) : Blk (w.alloc (.cells cs T)) w.heap.size T cs := heap_alloc_new _ _
theorem Blk.lt {w : World} {g : Nat} {T : TypeId} {cs : Array Value} (h : Blk w g T cs) : g < w.heap.size := (Array.getElem?_eq_some_iff.1 h).1
theorem Blk.of_block {w w' : World} {g : Nat} {T : TypeId} {cs : Array Value} (h : Blk w g T cs) (e : w'.heap[g]? = w.heap[g]?) : Blk w' g T cs := Eq.trans e h
theorem Blk.below {w w' : World} {g : Nat} {T : TypeId} {cs : Array Value} (h : Blk w g T cs) {B : Nat} (hb : Below B w w') (hg : g < B) : Blk w' g T cs := h.of_block (hb.block g hg)
theorem Blk.cell {w : World} {g : Nat} {T : TypeId} {cs : Array Value} (h : Blk w g T cs) (i : Nat) {v : Value} (hv : cs[i]? = some v) : w.cell? ⟨g, i, none⟩ = some v := by
  unfold Blk at h; unfold World.cell?; simp only [h]; exact hv
theorem Blk.frozen {w : World} {g : Nat} {T : TypeId} {cs : Array Value} (h : Blk w g T cs) (k : Nat) : w.frozen? ⟨g, k, none⟩ = false := by unfold Blk at h; unfold World.frozen?; simp only [h]; rfl
theorem Blk.set {w : World} {g : Nat} {T : TypeId} {cs : Array Value} (h : Blk w g T cs) (i : Nat) (v : Value) : Blk (w.setCell ⟨g, i, none⟩ v) g T (cs.setIfInBounds i v) := by
  unfold Blk at *
  simp [World.setCell, Array.getElem?_modify, h]
theorem Blk.other {w : World} {g : Nat} {T : TypeId} {cs : Array Value} (h : Blk w g T cs) {a : Addr} (ha : g ≠ a.block) (v : Value) : Blk (w.setCell a v) g T cs := h.of_block (Below.heap_setCell _ _ _ _ ha)
/-- A page: how many need it, is it sealed, its key. -/
structure Pg where
  r : Nat
  s : Bool
  k : Int
instance : Inhabited Pg := ⟨⟨0, false, 0⟩⟩
@[ext] theorem Pg.ext' {p q : Pg} (h1 : p.r = q.r) (h2 : p.s = q.s) (h3 : p.k = q.k) : p = q := by cases p; cases q; simp_all
/-- Page i; beyond the last one: a free one. -/
def pg (L : List Pg) (i : Nat) : Pg := L.getD i default
theorem pg_set {L : List Pg} {i : Nat} (hi : i < L.length) (p : Pg) (j : Nat) : pg (L.set i p) j = if j = i then p else pg L j := by
  unfold pg
  simp only [List.getD_eq_getElem?_getD, List.getElem?_set]
  by_cases h : i = j
  · subst h; simp [hi]
  · rw [if_neg h, if_neg (fun e => h e.symm)]
theorem pg_get {L : List Pg} {i : Nat} (hi : i < L.length) : L[i] = pg L i := by
  unfold pg; simp [List.getD_eq_getElem?_getD, List.getElem?_eq_getElem hi]
/-- Block b holds the pages L. -/
structure Pgs (w : World) (b : Nat) (L : List Pg) : Prop where
  ex : ∃ cs, Blk w b 92 cs ∧ cs.size = L.length * 3 ∧ ∀ i, i < L.length → cs[i * 3]? = some (.int .i64 ((pg L i).r : Int)) ∧ cs[i * 3 + 1]? = some (.bool (pg L i).s) ∧ cs[i * 3 + 2]? = some (.int .i64 (pg L i).k)
theorem Pgs.of_block {w w' : World} {b : Nat} {L : List Pg} (h : Pgs w b L) (e : w'.heap[b]? = w.heap[b]?) : Pgs w' b L := by
  obtain ⟨cs, h1, h2⟩ := h.ex
  exact ⟨cs, h1.of_block e, h2⟩
theorem Pgs.lt {w : World} {b : Nat} {L : List Pg} (h : Pgs w b L) : b < w.heap.size := by
  obtain ⟨cs, h1, _⟩ := h.ex
  exact h1.lt
theorem Pgs.below {w w' : World} {b : Nat} {L : List Pg} (h : Pgs w b L) {B : Nat} (hb : Below B w w') (hg : b < B) : Pgs w' b L := h.of_block (hb.block b hg)
theorem Pgs.other {w : World} {b : Nat} {L : List Pg} (h : Pgs w b L) {a : Addr} (ha : b ≠ a.block) (v : Value) : Pgs (w.setCell a v) b L := h.of_block (Below.heap_setCell _ _ _ _ ha)
theorem Pgs.frozen {w : World} {b : Nat} {L : List Pg} (h : Pgs w b L) (k : Nat) : w.frozen? ⟨b, k, none⟩ = false := by
  obtain ⟨cs, h1, _⟩ := h.ex
  exact h1.frozen k
theorem Pgs.c0 {w : World} {b : Nat} {L : List Pg} (h : Pgs w b L) {i : Nat} (hi : i < L.length) : w.cell? ⟨b, i * 3, none⟩ = some (.int .i64 ((pg L i).r : Int)) := by
  obtain ⟨cs, h1, _, h3⟩ := h.ex
  exact h1.cell _ (h3 i hi).1
theorem Pgs.c1 {w : World} {b : Nat} {L : List Pg} (h : Pgs w b L) {i : Nat} (hi : i < L.length) : w.cell? ⟨b, i * 3 + 1, none⟩ = some (.bool (pg L i).s) := by
  obtain ⟨cs, h1, _, h3⟩ := h.ex
  exact h1.cell _ (h3 i hi).2.1
theorem Pgs.c2 {w : World} {b : Nat} {L : List Pg} (h : Pgs w b L) {i : Nat} (hi : i < L.length) : w.cell? ⟨b, i * 3 + 2, none⟩ = some (.int .i64 (pg L i).k) := by
  obtain ⟨cs, h1, _, h3⟩ := h.ex
  exact h1.cell _ (h3 i hi).2.2
theorem Pgs.set0 {w : World} {b : Nat} {L : List Pg} (h : Pgs w b L) {i : Nat} (hi : i < L.length) (r : Nat) : Pgs (w.setCell ⟨b, i * 3, none⟩ (.int .i64 (r : Int))) b (L.set i { pg L i with r := r }) := by
  obtain ⟨cs, h1, h2, h3⟩ := h.ex
  refine ⟨_, h1.set _ _, by simp [h2], fun j hj => ?_⟩
  rw [List.length_set] at hj
  obtain ⟨u0, u1, u2⟩ := h3 j hj
  rw [pg_set hi]
  by_cases e : j = i
  · subst e
    simp only [if_true, Array.getElem?_setIfInBounds]
    exact ⟨by rw [if_pos (by omega)], by rw [if_neg (by omega)]; exact u1, by rw [if_neg (by omega)]; exact u2⟩
  · simp only [if_neg e, Array.getElem?_setIfInBounds]
    exact ⟨by rw [if_neg (by omega)]; exact u0, by rw [if_neg (by omega)]; exact u1, by rw [if_neg (by omega)]; exact u2⟩
theorem Pgs.set1 {w : World} {b : Nat} {L : List Pg} (h : Pgs w b L) {i : Nat} (hi : i < L.length) (s : Bool) : Pgs (w.setCell ⟨b, i * 3 + 1, none⟩ (.bool s)) b (L.set i { pg L i with s := s }) := by
  obtain ⟨cs, h1, h2, h3⟩ := h.ex
  refine ⟨_, h1.set _ _, by simp [h2], fun j hj => ?_⟩
  rw [List.length_set] at hj
  obtain ⟨u0, u1, u2⟩ := h3 j hj
  rw [pg_set hi]
  by_cases e : j = i
  · subst e
    simp only [if_true, Array.getElem?_setIfInBounds]
    exact ⟨by rw [if_neg (by omega)]; exact u0, by rw [if_pos (by omega)], by rw [if_neg (by omega)]; exact u2⟩
  · simp only [if_neg e, Array.getElem?_setIfInBounds]
    exact ⟨by rw [if_neg (by omega)]; exact u0, by rw [if_neg (by omega)]; exact u1, by rw [if_neg (by omega)]; exact u2⟩
theorem Pgs.set2 {w : World} {b : Nat} {L : List Pg} (h : Pgs w b L) {i : Nat} (hi : i < L.length) (k : Int) : Pgs (w.setCell ⟨b, i * 3 + 2, none⟩ (.int .i64 k)) b (L.set i { pg L i with k := k }) := by
  obtain ⟨cs, h1, h2, h3⟩ := h.ex
  refine ⟨_, h1.set _ _, by simp [h2], fun j hj => ?_⟩
  rw [List.length_set] at hj
  obtain ⟨u0, u1, u2⟩ := h3 j hj
  rw [pg_set hi]
  by_cases e : j = i
  · subst e
    simp only [if_true, Array.getElem?_setIfInBounds]
    exact ⟨by rw [if_neg (by omega)]; exact u0, by rw [if_neg (by omega)]; exact u1, by rw [if_pos (by omega)]⟩
  · simp only [if_neg e, Array.getElem?_setIfInBounds]
    exact ⟨by rw [if_neg (by omega)]; exact u0, by rw [if_neg (by omega)]; exact u1, by rw [if_neg (by omega)]; exact u2⟩
theorem Pgs.put {w : World} {b : Nat} {L : List Pg} (h : Pgs w b L) {i : Nat} (hi : i < L.length) (p : Pg) :
    Pgs (((w.setCell ⟨b, i * 3, none⟩ (.int .i64 (p.r : Int))).setCell ⟨b, i * 3 + 1, none⟩ (.bool p.s)).setCell ⟨b, i * 3 + 2, none⟩ (.int .i64 p.k)) b (L.set i p) := by
  have h1 := h.set0 hi p.r
  have h2 := h1.set1 (i := i) (by simpa using hi) p.s
  have h3 := h2.set2 (i := i) (by simpa using hi) p.k
  have e : (((L.set i { pg L i with r := p.r }).set i { pg (L.set i { pg L i with r := p.r }) i with s := p.s }).set i { pg ((L.set i { pg L i with r := p.r }).set i { pg (L.set i { pg L i with r := p.r }) i with s := p.s }) i with k := p.k }) = L.set i p := by
    rw [List.set_set, List.set_set]
    congr 1
    rw [pg_set (by simpa using hi), if_pos rfl, pg_set hi, if_pos rfl]
  rw [e] at h3
  exact h3
/-- A row of pages' numbers of the program's own, in a block from B on. -/
def Idl (w : World) (B : Nat) (v : Value) (A : List Nat) : Prop := w.ownsRow B 3 1 v A.length (A.map fun i : Nat => Value.int .i64 (i : Int))
theorem Idl.nil (w : World) (B : Nat) : Idl w B (.slice none 0 0) [] := World.ownsRow_nil _ _ _ _
theorem Idl.below {w w' : World} {B : Nat} {v : Value} {A : List Nat} (h : Idl w B v A) (hb : Below w.heap.size w w') : Idl w' B v A := by
  refine ⟨h.1, ?_⟩
  rcases h.2 with h2 | ⟨g, cap, cur, h3, h4, h5, h6⟩
  · exact Or.inl h2
  · exact Or.inr ⟨g, cap, cur, h3, h4, (hb.block g (Array.getElem?_eq_some_iff.1 h5).1).trans h5, h6⟩
theorem Idl.other {w : World} {B : Nat} {v : Value} {A : List Nat} (h : Idl w B v A) {a : Addr} (ha : a.block < B) (u : Value) : Idl (w.setCell a u) B v A := by
  refine ⟨h.1, ?_⟩
  rcases h.2 with h2 | ⟨g, cap, cur, h3, h4, h5, h6⟩
  · exact Or.inl h2
  · exact Or.inr ⟨g, cap, cur, h3, h4, (Below.heap_setCell _ _ _ _ (by omega)).trans h5, h6⟩
theorem Idl.cases {w : World} {B : Nat} {v : Value} {A : List Nat} (h : Idl w B v A) : (v = .slice none 0 0 ∧ A = []) ∨ ∃ g cap cs, v = .slice (some ⟨g, 0, none⟩) A.length cap ∧ B ≤ g ∧ Blk w g 3 cs ∧ A.length ≤ cap ∧ cap ≤ maxLen ∧ cs.size = cap ∧ ∀ t, t < A.length → cs[t]? = some (.int .i64 ((A.getD t 0 : Nat) : Int)) := by
  rcases h.2 with ⟨h2, h3⟩ | ⟨g, cap, cur, h3, h4, h5, h6, h7, h8, h9⟩
  · exact Or.inl ⟨h2, List.length_eq_zero_iff.1 h3⟩
  · refine Or.inr ⟨g, cap, cur, h3, h4, h5, h6, h7, by omega, fun t ht => ?_⟩
    have e : cur[t]? = (cur.toList.take (A.length * 1))[t]? := by rw [List.getElem?_take, if_pos (by omega)]; simp
    rw [e, h9]
    simp [List.getD_eq_getElem?_getD, List.getElem?_eq_getElem ht]
theorem Idl.mk' {w : World} {B : Nat} {g cap : Nat} {A : List Nat} {cs : Array Value} (hB : B ≤ g) (h : Blk w g 3 cs) (hl : A.length ≤ cap) (hm : cap ≤ maxLen) (hs : cs.size = cap) (hc : ∀ t, t < A.length → cs[t]? = some (.int .i64 ((A.getD t 0 : Nat) : Int))) : Idl w B (.slice (some ⟨g, 0, none⟩) A.length cap) A := by
  refine ⟨by simp, Or.inr ⟨g, cap, cs, rfl, hB, h, hl, hm, by omega, ?_⟩⟩
  apply List.ext_getElem?
  intro t
  rw [List.getElem?_take]
  by_cases ht : t < A.length
  · rw [if_pos (by omega)]
    have := hc t ht
    simp [List.getD_eq_getElem?_getD, List.getElem?_eq_getElem ht] at *
    exact this
  · rw [if_neg (by omega), List.getElem?_eq_none (by simp; omega)]
/-- In w lies a pool from block b on: its pages L, the row I of idle ones. -/
structure PoolAt (w : World) (b : Nat) (L : List Pg) (I : List Nat) : Prop where
  pages : Pgs w b L
  box : ∃ vi, Blk w (b + 1) 85 #[.slice (some ⟨b, 0, none⟩) L.length L.length, vi] ∧ Idl w (b + 2) vi I
theorem PoolAt.size {w : World} {b : Nat} {L : List Pg} {I : List Nat} (h : PoolAt w b L I) : b + 2 ≤ w.heap.size := by
  obtain ⟨vi, h1, _⟩ := h.box
  have := h1.lt
  omega
theorem PoolAt.below {w w' : World} {b : Nat} {L : List Pg} {I : List Nat} (h : PoolAt w b L I) (hb : Below w.heap.size w w') : PoolAt w' b L I := by
  obtain ⟨vi, h1, h2⟩ := h.box
  exact ⟨h.pages.below hb h.pages.lt, vi, h1.below hb h1.lt, h2.below hb⟩
end Go.Proofs.YtcanjlofnpnhkaaGreatDoor.Pl

/- The pool's small functions: pages that are free or idle, found by their keys. -/
namespace Go.Proofs.YtcanjlofnpnhkaaGreatDoor.Pl
open Go.ChangeShapes Go.WideShapes Go.ChangeAt Go.RowKit
/-- A page as a value. -/
def Pg.val (p : Pg) : Value := .agg #[.int .i64 (p.r : Int), .bool p.s, .int .i64 p.k]
def Pg.free (p : Pg) : Bool := decide (p.r = 0) && !p.s
def Pg.idle (p : Pg) : Bool := decide (p.r = 0) && p.s
def Pg.hit (key : Int) (p : Pg) : Bool := p.s && decide (p.k = key)
theorem isFree_any (p : Pg) (w : World) : Calls Tryz.prog 31 #[p.val] w fun e w' => e = .returned (.bool p.free) ∧ Below w.heap.size w w' := by
  obtain ⟨r, s, k⟩ := p
  unfold Pg.val Pg.free
  by_cases h : r = 0 <;> cases s <;>
  · have h' := h
    go_enter Tryz.func31, Tryz.ntmps31
    go_wp2
    go_ret
    exact ⟨by simp [h'], (Below.refl _ _).alloc (Nat.le_refl _) _⟩
theorem isIdle_any (p : Pg) (w : World) : Calls Tryz.prog 35 #[p.val] w fun e w' => e = .returned (.bool p.idle) ∧ Below w.heap.size w w' := by
  obtain ⟨r, s, k⟩ := p
  unfold Pg.val Pg.idle
  by_cases h : r = 0 <;> cases s <;>
  · have h' := h
    go_enter Tryz.func35, Tryz.ntmps35
    go_wp2
    go_ret
    exact ⟨by simp [h'], (Below.refl _ _).alloc (Nat.le_refl _) _⟩
theorem findHit_any (p : Pg) (key : Int) (c : Nat) (w : World) (hc : w.cell? ⟨c, 0, none⟩ = some (.int .i64 key)) : Calls Tryz.prog 36 #[p.val, .pointer (some ⟨c, 0, none⟩)] w fun e w' => e = .returned (.bool (p.hit key)) ∧ Below w.heap.size w w' := by
  obtain ⟨r, s, k⟩ := p
  have hl := World.block_lt_of_cell? w _ hc
  have hc2 := World.cell?_alloc_past (w := w) (.cells #[.int .i64 (r : Int), .bool s, .int .i64 k] 92) c 0 hl
  rw [hc] at hc2
  unfold Pg.val Pg.hit
  by_cases h : k = key <;> cases s <;>
  · have h' := h
    go_enter Tryz.func36, Tryz.ntmps36
    go_wp2
    go_ret
    exact ⟨by simp [h'], (Below.refl _ _).alloc (Nat.le_refl _) _⟩
theorem leaveHit_any (x i : Nat) (c : Nat) (w : World) (hc : w.cell? ⟨c, 0, none⟩ = some (.int .i64 (i : Int))) : Calls Tryz.prog 53 #[.int .i64 (x : Int), .pointer (some ⟨c, 0, none⟩)] w fun e w' => e = .returned (.bool (decide (x = i))) ∧ w' = w := by
  by_cases h : x = i <;>
  · have h' := h
    go_enter Tryz.func53, Tryz.ntmps53
    go_wp2
    go_ret
    exact ⟨by first | (simp [h']; done) | (simp [h']; omega), rfl⟩
/-- The first place at which p holds; none: -1. -/
def idxN {α : Type} (p : α → Bool) (L : List α) : Int := if L.findIdx p < L.length then (L.findIdx p : Int) else -1
theorem idxN_hit (p : Pg → Bool) (L : List Pg) (k : Nat) (hk : k < L.length) (h : p (pg L k) = true) (hb : ∀ j, j < k → p (pg L j) = false) : idxN p L = k := by
  have e : L.findIdx p = k := by
    rw [List.findIdx_eq hk]
    exact ⟨by rw [pg_get hk]; exact h, fun j hj => by rw [pg_get (by omega)]; exact hb j hj⟩
  unfold idxN
  rw [e, if_pos hk]
theorem idxN_miss (p : Pg → Bool) (L : List Pg) (hb : ∀ j, j < L.length → p (pg L j) = false) : idxN p L = -1 := by
  unfold idxN
  rw [if_neg]
  rw [List.findIdx_lt_length]
  rintro ⟨x, hx, h⟩
  obtain ⟨j, hj, rfl⟩ := List.getElem_of_mem hx
  rw [pg_get hj, hb j hj] at h
  cases h
set_option maxHeartbeats 1000000 in
theorem pidx_any (fn : Nat) (lb : Array Value) (p : Pg → Bool) (b : Nat) (L : List Pg) (w : World) (hP : Pgs w b L) (hl : L.length ≤ 64)
   (eg : ∀ args w, (callFunc fn args).run Tryz.prog w = .ok (.enter fn args) w)
   (hf : ∀ (W : World) (x : Pg), Below w.heap.size w W → Calls Tryz.prog fn (#[x.val] ++ lb) W fun e w' => e = .returned (.bool (p x)) ∧ Below W.heap.size W w') :
   Calls Tryz.prog 30 #[.slice (some ⟨b, 0, none⟩) L.length L.length, .func (.func fn) #[] lb] w fun e w' => e = .returned (.int .i64 (idxN p L)) ∧ Below w.heap.size w w' := by
  have HF : Hid _ := hf
  clear hf
  generalize hn : L.length = n at *
  go_enter Tryz.func30, Tryz.ntmps30
  go_wp2
  go_loopg [5, 8] n (fun gg _ s8 wr => ∃ k : Nat, k ≤ n ∧ gg = n - k ∧ s8 = .int .i64 k ∧ Below w.heap.size w wr ∧ Hid (∀ j, j < k → p (pg L j) = false))
  case atStart => exact ⟨0, by omega, by omega, rfl, Below.refl _ _, fun j hj => by omega⟩
  case round =>
    obtain ⟨k, hk, rfl, rfl, BW, A⟩ := hrel
    have P1 := hP.below BW hP.lt
    by_cases hlt : k < n
    · have c0 := P1.c0 (i := k) (by omega)
      have c1 := P1.c1 (i := k) (by omega)
      have c2 := P1.c2 (i := k) (by omega)
      have hcall := HF.out wr (pg L k) BW
      clear P1 hP
      generalize hz : pg L k = z at *
      obtain ⟨zr, zs, zk⟩ := z
      unfold Pg.val at hcall
      simp only at c0 c1 c2 hcall
      cases hq : p ⟨zr, zs, zk⟩ with
      | true =>
        rw [hq] at hcall
        go_wp2_with (go_at_fn fn; refine hcall.mono ?_; rintro e w' ⟨rfl, hb'⟩)
        go_ret
        exact ⟨by rw [idxN_hit p L k (by omega) (by rw [hz]; exact hq) A.out]; rfl, below_then BW hb'⟩
      | false =>
        rw [hq] at hcall
        go_wp2_with (go_at_fn fn; refine hcall.mono ?_; rintro e w' ⟨rfl, hb'⟩)
        go_roundg (n - (k + 1))
        case measure => omega
        case rel =>
          refine ⟨k + 1, by omega, rfl, by go_num, below_then BW hb', fun j hj => ?_⟩
          by_cases e : j = k
          · rw [e, hz]; exact hq
          · exact A.out j (by omega)
    · obtain rfl : k = n := by omega
      go_wp2
      go_ret
      exact ⟨by rw [idxN_miss p L (by rw [hn]; exact A.out)]; rfl, BW⟩
end Go.Proofs.YtcanjlofnpnhkaaGreatDoor.Pl

/- A new pool; a page of it; a number's place in the row of idle ones. -/
namespace Go.Proofs.YtcanjlofnpnhkaaGreatDoor.Pl
open Go.ChangeShapes Go.WideShapes Go.ChangeAt Go.RowKit
/-- The page at any number: a free one where there is none. -/
def atN (L : List Pg) (i : Int) : Pg := if 0 ≤ i then pg L i.toNat else default
theorem atN_nat (L : List Pg) (i : Nat) : atN L (i : Int) = pg L i := by unfold atN; rw [if_pos (by omega)]; simp
theorem atN_out (L : List Pg) (i : Int) (h : i < 0 ∨ (L.length : Int) ≤ i) : atN L i = default := by
  unfold atN
  by_cases h0 : 0 ≤ i
  · rw [if_pos h0]
    unfold pg
    rw [List.getD_eq_getElem?_getD, List.getElem?_eq_none (by omega)]
    rfl
  · rw [if_neg h0]
/-- A number's first place in a row; none: -1. -/
def idxI (A : List Nat) (i : Nat) : Int := if A.idxOf i < A.length then (A.idxOf i : Int) else -1
theorem getD_get {A : List Nat} {j : Nat} (h : j < A.length) : A[j] = A.getD j 0 := by simp [List.getD_eq_getElem?_getD, List.getElem?_eq_getElem h]
theorem idxI_hit {A : List Nat} {i k : Nat} (hk : k < A.length) (h : A.getD k 0 = i) (hb : ∀ j, j < k → A.getD j 0 ≠ i) : idxI A i = k := by
  have e : A.idxOf i = k := by
    rw [List.idxOf, List.findIdx_eq hk]
    refine ⟨?_, fun j hj => ?_⟩
    · rw [getD_get hk, h]; simp
    · rw [getD_get (by omega)]; simpa using hb j hj
  unfold idxI
  rw [e, if_pos hk]
theorem idxI_miss {A : List Nat} {i : Nat} (hb : ∀ j, j < A.length → A.getD j 0 ≠ i) : idxI A i = -1 := by
  unfold idxI
  rw [if_neg]
  rw [List.idxOf_lt_length_iff]
  intro hm
  obtain ⟨j, hj, e⟩ := List.getElem_of_mem hm
  refine hb j hj ?_
  rw [← e, getD_get hj]
theorem iidx_any (c i b cap : Nat) (cs : Array Value) (A : List Nat) (w : World) (hB : Blk w b 3 cs) (hl : A.length ≤ 64) (hcs : ∀ t, t < A.length → cs[t]? = some (.int .i64 ((A.getD t 0 : Nat) : Int))) (hc : w.cell? ⟨c, 0, none⟩ = some (.int .i64 (i : Int))) :
   Calls Tryz.prog 63 #[.slice (some ⟨b, 0, none⟩) A.length cap, .func (.func 53) #[] #[.pointer (some ⟨c, 0, none⟩)]] w fun e w' => e = .returned (.int .i64 (idxI A i)) ∧ w' = w := by
  have HC : Hid _ := hcs
  clear hcs
  generalize hn : A.length = n at *
  go_enter Tryz.func63, Tryz.ntmps63
  go_wp2
  go_loopg [5, 8] n (fun gg _ s8 wr => ∃ k : Nat, k ≤ n ∧ gg = n - k ∧ s8 = .int .i64 k ∧ wr = w ∧ Hid (∀ j, j < k → A.getD j 0 ≠ i))
  case atStart => exact ⟨0, by omega, by omega, rfl, rfl, fun j hj => by omega⟩
  case round =>
    obtain ⟨k, hk, rfl, rfl, rfl, H⟩ := hrel
    by_cases hlt : k < n
    · have c0 := hB.cell _ (HC.out k hlt)
      have hcall := leaveHit_any (A.getD k 0) i c wr hc
      clear hB
      generalize hz : A.getD k 0 = z at c0 hcall
      by_cases hq : z = i
      · rw [decide_eq_true hq] at hcall
        have HQ : Hid (z = i) := hq
        clear hq
        go_wp2_with (go_at_call 53; refine hcall.mono ?_; rintro e w' ⟨rfl, rfl⟩)
        go_ret
        exact ⟨by rw [idxI_hit (by omega) (hz.trans HQ.out) H.out]; rfl, rfl⟩
      · rw [decide_eq_false hq] at hcall
        have HQ : Hid (¬ z = i) := hq
        clear hq
        go_wp2_with (go_at_call 53; refine hcall.mono ?_; rintro e w' ⟨rfl, rfl⟩)
        go_roundg (n - (k + 1))
        case measure => omega
        case rel =>
          refine ⟨k + 1, by omega, rfl, by go_num, rfl, fun j hj => ?_⟩
          by_cases e : j = k
          · rw [e, hz]; exact HQ.out
          · exact H.out j (by omega)
    · obtain rfl : k = n := by omega
      go_wp2
      go_ret
      exact ⟨by rw [idxI_miss (by rw [hn]; exact H.out)]; rfl, rfl⟩
end Go.Proofs.YtcanjlofnpnhkaaGreatDoor.Pl
