/- Contracts of the program's functions, part 5 of 10: what each call returns and leaves of memory. -/
import Derived.Test.YtmdjlaileakbeaaDoorPk4
import Derived.Test.YtmdjlaileakbeaaDoorPk2
import Derived.Test.YtmdjlaileakbeaaDoorPk1
import Derived.Deep.RegionHeld3
/- Package step: which tokens and lists fit; a view's copy. -/
namespace Go.Proofs.YtmdjlaileakbeaaDoor
open Go.ChangeShapes Go.WideShapes Go.ChangeAt Go.RowKit
/-- Is it a token? -/
def tokB (V x : Int) : Bool := decide (0 ≤ x ∧ x < V)
/-- The error's number of a row of tokens that are asked for. -/
def promptN (V : Int) (A : List Int) : Int := if A.length = 0 then 8 else if 128 < A.length then 2 else if A.all (tokB V) = true then 0 else 7
theorem all_take_el {A : List Int} {k : Nat} {p : Int → Bool} (hk : k < A.length) : (A.take (k + 1)).all p = ((A.take k).all p && p (el A k)) := by
  have e : A[k]? = some (el A k) := by unfold el; simp [List.getD_eq_getElem?_getD, List.getElem?_eq_getElem hk]
  rw [List.take_add_one, e, List.all_append]; simp
theorem all_el {A : List Int} {p : Int → Bool} {k : Nat} (hk : k < A.length) (h : A.all p = true) : p (el A k) = true := by
  have := List.all_eq_true.1 h (el A k) (el_mem hk)
  exact this
theorem all_not {A : List Int} {p : Int → Bool} {k : Nat} (hk : k < A.length) (h : p (el A k) = false) : A.all p = false := by
  cases e : A.all p with
  | false => rfl
  | true => rw [all_el hk e] at h; cases h
theorem prompt_any (V D Hd H L : Int) (ao : Option Addr) (n ca : Nat) (A : List Int) (w : World) (hA : IArg w ao n ca A) :
   Calls Tryd.prog 32 #[.agg (cfgC V D Hd H L), .slice ao n ca] w fun e w' => e = .returned (.int .i64 (promptN V A)) ∧ Below w.heap.size w w' := by
  have hl := hA.row.len
  have hm := hA.row.max
  have X0 := blk_new w 41 (cfgC V D Hd H L)
  have B0 : Below w.heap.size w (w.alloc (.cells (cfgC V D Hd H L) 41)) := (Below.refl _ _).alloc (Nat.le_refl _) _
  unfold cfgC at *
  generalize hw0 : w.alloc (.cells #[.int .i64 V, .int .i64 D, .int .i64 Hd, .int .i64 H, .int .i64 L] 41) = w0 at *
  have a0 : w0.cell? ⟨w.heap.size, 0, none⟩ = some (.int .i64 V) := X0.cell 0 rfl
  have R := hA.row.below B0
  clear hA
  have HN : Hid (promptN V A = if A.length = 0 then 8 else if 128 < A.length then 2 else if A.all (tokB V) = true then 0 else 7) := rfl
  generalize promptN V A = res at *
  by_cases h0 : n = 0
  · subst h0
    have HF : Hid (res = 8) := by show _ = _; rw [HN.out, hl]; rfl
    clear HN
    go_enter Tryd.func32, Tryd.ntmps32
    go_wp2
    go_ret
    exact ⟨ret_int HF.out.symm, B0⟩
  · by_cases h1 : 128 < n
    · have HF : Hid (res = 2) := by show _ = _; rw [HN.out, hl, if_neg h0, if_pos h1]
      clear HN
      go_enter Tryd.func32, Tryd.ntmps32
      go_wp2
      go_ret
      exact ⟨ret_int HF.out.symm, B0⟩
    · have HF : Hid (res = if A.all (tokB V) = true then 0 else 7) := by show _ = _; rw [HN.out, hl, if_neg h0, if_neg h1]
      clear HN
      obtain ⟨b, o, rfl, hc⟩ := R.cells (by omega)
      have hz0 : ((n : Int) == 0) = false := by simpa using h0
      go_enter Tryd.func32, Tryd.ntmps32
      go_wp2_with fail
      go_loopg [15] n (fun r i wr => ∃ k : Nat, k ≤ n ∧ r = n - k ∧ i = .int .i64 k ∧ (A.take k).all (tokB V) = true ∧ wr = w0)
      case atStart => exact ⟨0, by omega, by omega, rfl, rfl, rfl⟩
      case round =>
        obtain ⟨k, hk, rfl, rfl, hall, rfl⟩ := hrel
        by_cases hlt : k < n
        · have ck := hc k hlt
          have sx := R.small k
          have HS : Hid ((A.take (k + 1)).all (tokB V) = ((A.take k).all (tokB V) && tokB V (el A k))) := all_take_el (by omega)
          have HB : Hid (tokB V (el A k) = false → A.all (tokB V) = false) := fun h => all_not (by omega) h
          have HT : Hid (tokB V (el A k) = decide (0 ≤ el A k ∧ el A k < V)) := rfl
          clear hc
          generalize el A k = x at *
          by_cases h2 : x < 0
          · have HR : Hid (res = 7) := by show _ = _; rw [HF.out, HB.out (by rw [HT.out]; exact decide_eq_false (by omega))]; rfl
            clear HF HS HB HT
            go_wp2
            go_ret
            exact ⟨ret_int HR.out.symm, B0⟩
          · by_cases h3 : V ≤ x
            · have HR : Hid (res = 7) := by show _ = _; rw [HF.out, HB.out (by rw [HT.out]; exact decide_eq_false (by omega))]; rfl
              clear HF HS HB HT
              go_wp2
              go_ret
              exact ⟨ret_int HR.out.symm, B0⟩
            · have HA : Hid ((A.take (k + 1)).all (tokB V) = true) := by show _ = _; rw [HS.out, hall, HT.out, decide_eq_true (by omega)]; rfl
              clear HS HB HT
              go_wp2
              go_roundg (n - (k + 1))
              case measure => omega
              case rel => exact ⟨k + 1, by omega, rfl, by go_num, HA.out, rfl⟩
        · obtain rfl : k = n := by omega
          rw [← hl, List.take_length] at hall
          have HR : Hid (res = 0) := by show _ = _; rw [HF.out, hall]; rfl
          clear HF
          go_wp2
          go_ret
          exact ⟨ret_int HR.out.symm, B0⟩
theorem isToken_any (V D Hd H L : Int) (x : Int) (w : World) :
   Calls Tryd.prog 29 #[.agg (cfgC V D Hd H L), .int .i64 x] w fun e w' => e = .returned (.bool (tokB V x)) ∧ Below w.heap.size w w' := by
  have X0 := blk_new w 41 (cfgC V D Hd H L)
  have B0 : Below w.heap.size w (w.alloc (.cells (cfgC V D Hd H L) 41)) := (Below.refl _ _).alloc (Nat.le_refl _) _
  unfold cfgC at *
  generalize hw0 : w.alloc (.cells #[.int .i64 V, .int .i64 D, .int .i64 Hd, .int .i64 H, .int .i64 L] 41) = w0 at *
  have a0 : w0.cell? ⟨w.heap.size, 0, none⟩ = some (.int .i64 V) := X0.cell 0 rfl
  have HT : Hid (tokB V x = decide (0 ≤ x ∧ x < V)) := rfl
  generalize tokB V x = res at *
  by_cases h2 : x < 0
  · have HR : Hid (res = false) := by show _ = _; rw [HT.out]; exact decide_eq_false (by omega)
    clear HT
    go_enter Tryd.func29, Tryd.ntmps29
    go_wp2
    go_ret
    exact ⟨by rw [HR.out]; rfl, B0⟩
  · by_cases h3 : V ≤ x
    · have HR : Hid (res = false) := by show _ = _; rw [HT.out]; exact decide_eq_false (by omega)
      have h3' : ¬ x < V := by omega
      clear HT
      go_enter Tryd.func29, Tryd.ntmps29
      go_wp2
      go_ret
      exact ⟨by rw [HR.out]; rfl, B0⟩
    · have HR : Hid (res = true) := by show _ = _; rw [HT.out]; exact decide_eq_true (by omega)
      clear HT
      go_enter Tryd.func29, Tryd.ntmps29
      go_wp2
      go_ret
      exact ⟨by rw [HR.out]; rfl, B0⟩
set_option maxHeartbeats 800000 in
theorem listsFit_ok (V : Int) (D : Nat) (Hd H : Int) (m : Nat) (ao : Option Addr) (ca n : Nat) (C : List (List (List Int))) (w : World) (hC : CubeAt w ao m C) (hf : ∀ R ∈ C, R.length = n ∧ ∀ t, t < n → (rowOf R t).length = D) (hn : n ≤ 4096) (hD : D ≤ 4096) :
   Calls Tryd.prog 39 #[.agg (cfgC V D Hd H m), .slice ao m ca, .int .i64 n] w fun e w' => e = .returned (.bool true) ∧ Below w.heap.size w w' := by
  have hm := hC.max
  have X0 := blk_new w 41 (cfgC V D Hd H m)
  have B0 : Below w.heap.size w (w.alloc (.cells (cfgC V D Hd H m) 41)) := (Below.refl _ _).alloc (Nat.le_refl _) _
  unfold cfgC at *
  generalize hw0 : w.alloc (.cells #[.int .i64 V, .int .i64 (D : Int), .int .i64 Hd, .int .i64 H, .int .i64 (m : Int)] 41) = w0 at *
  have a1 : w0.cell? ⟨w.heap.size, 1, none⟩ = some (.int .i64 (D : Int)) := X0.cell 1 rfl
  have a4 : w0.cell? ⟨w.heap.size, 4, none⟩ = some (.int .i64 (m : Int)) := X0.cell 4 rfl
  replace hC := hC.below B0
  go_enter Tryd.func39, Tryd.ntmps39
  go_wp2_with fail
  go_loopg [18] m (fun r i wr => ∃ k : Nat, k ≤ m ∧ r = m - k ∧ i = .int .i64 k ∧ wr = w0)
  case atStart => exact ⟨0, by omega, by omega, rfl, rfl⟩
  case round =>
    obtain ⟨k, hk, rfl, rfl, rfl⟩ := hrel
    by_cases hlt : k < m
    · obtain ⟨b, o, rfl, hc⟩ := hC.cells (by omega)
      have hR : C[k]? = some (C[k]'(by rw [hC.len]; exact hlt)) := List.getElem?_eq_getElem _
      have hmem : C[k]'(by rw [hC.len]; exact hlt) ∈ C := List.getElem_mem _
      generalize C[k]'(by rw [hC.len]; exact hlt) = R at hR hmem
      obtain ⟨ro, n', c, h1, h2, h3, h4, G1⟩ := hc k R hR
      obtain ⟨q1, q2⟩ := hf R hmem
      obtain rfl : n' = n := by rw [← q1, G1.len]
      clear hc h2 h3 h4 q1 hR
      go_wp2_with fail
      go_loopg [28] n' (fun r i wx => ∃ j : Nat, j ≤ n' ∧ r = n' - j ∧ i = .int .i64 j ∧ wx = wr)
      case atStart => exact ⟨0, by omega, by omega, rfl, rfl⟩
      case round =>
        obtain ⟨j, hj, rfl, rfl, rfl⟩ := hrel
        by_cases hjt : j < n'
        · obtain ⟨b2, o2, rfl, hc⟩ := G1.cells (by omega)
          obtain ⟨ro2, d, c2, e1, A1⟩ := hc j hjt
          obtain rfl : d = D := by rw [← q2 j hjt, A1.row.len]
          clear hc A1
          go_wp2
          go_roundg (n' - (j + 1))
          case measure => omega
          case rel => exact ⟨j + 1, by omega, rfl, by go_num, rfl⟩
        · obtain rfl : j = n' := by omega
          go_wp2
          go_roundg (m - (k + 1))
          case measure => omega
          case rel => exact ⟨k + 1, by omega, rfl, by go_num, rfl⟩
    · obtain rfl : k = m := by omega
      go_wp2
      go_ret
      exact ⟨rfl, B0⟩
/-- A view: its tokens, and the lists of its keys and values. -/
structure Vw where
  T : List Int
  K : List (List (List Int))
  V : List (List (List Int))
/-- A view's values. -/
structure VwV where
  t : Sl
  k : Sl
  v : Sl
def VwV.cells (v : VwV) : Array Value := #[v.t.v, v.k.v, v.v.v]
structure VwAt (w : World) (v : VwV) (X : Vw) : Prop where
  t : IArg w v.t.ao v.t.n v.t.c X.T
  k : CubeAt w v.k.ao v.k.n X.K
  v : CubeAt w v.v.ao v.v.n X.V
theorem VwAt.below {w w' : World} {v : VwV} {X : Vw} (h : VwAt w v X) (hb : Below w.heap.size w w') : VwAt w' v X := ⟨h.t.below hb, h.k.below hb, h.v.below hb⟩
/-- A view that fits: of nothing, or of tokens with as many rows in each list. -/
structure VwFit (V : Int) (D L : Nat) (X : Vw) : Prop where
  most : X.T.length ≤ 128
  toks : X.T.all (tokB V) = true
  k : X.K.length = if X.T.length = 0 then 0 else L
  v : X.V.length = if X.T.length = 0 then 0 else L
  ks : ∀ R ∈ X.K, R.length = X.T.length ∧ ∀ t, t < X.T.length → (rowOf R t).length = D
  vs : ∀ R ∈ X.V, R.length = X.T.length ∧ ∀ t, t < X.T.length → (rowOf R t).length = D
theorem Tryd.infoV : (Tryd.prog.info? 27).map (·.size) = some 3 := by kernel_rfl
theorem Tryd.infoC : (Tryd.prog.info? 41).map (·.size) = some 5 := by kernel_rfl
set_option maxRecDepth 100000 in
set_option maxHeartbeats 1600000 in
theorem sfits_ok (V : Int) (D : Nat) (Hd H : Int) (L : Nat) (v : VwV) (X : Vw) (w : World) (hv : VwAt w v X) (hf : VwFit V D L X) (hD : D ≤ 4096) :
   Calls Tryd.prog 28 #[.agg (cfgC V D Hd H L), .agg v.cells] w fun e w' => e = .returned (.bool true) ∧ Below w.heap.size w w' := by
  obtain ⟨⟨ta, tn, tz⟩, ⟨ka, kn, kz⟩, ⟨va, vn, vz⟩⟩ := v
  have hT := hv.t.row
  have hK := hv.k
  have hV := hv.v
  clear hv
  simp only at hT hK hV
  have hl := hT.len
  have most := hf.most
  have kl := hK.len
  have vl := hV.len
  have e1 := hf.k
  have e2 := hf.v
  rw [hl] at most e1 e2
  rw [kl] at e1
  rw [vl] at e2
  show Calls Tryd.prog 28 #[.agg #[.int .i64 V, .int .i64 (D : Int), .int .i64 Hd, .int .i64 H, .int .i64 (L : Int)], .agg #[.slice ta tn tz, .slice ka kn kz, .slice va vn vz]] w _
  have X0 := blk_new w 41 #[.int .i64 V, .int .i64 (D : Int), .int .i64 Hd, .int .i64 H, .int .i64 (L : Int)]
  have B0 : Below w.heap.size w (w.alloc (.cells #[.int .i64 V, .int .i64 (D : Int), .int .i64 Hd, .int .i64 H, .int .i64 (L : Int)] 41)) := (Below.refl _ _).alloc (Nat.le_refl _) _
  have s0 : (w.alloc (.cells #[.int .i64 V, .int .i64 (D : Int), .int .i64 Hd, .int .i64 H, .int .i64 (L : Int)] 41)).heap.size = w.heap.size + 1 := by simp
  generalize hw0 : w.alloc (.cells #[.int .i64 V, .int .i64 (D : Int), .int .i64 Hd, .int .i64 H, .int .i64 (L : Int)] 41) = w0 at *
  have X1 := blk_new w0 27 #[.slice ta tn tz, .slice ka kn kz, .slice va vn vz]
  have B1 : Below w0.heap.size w0 (w0.alloc (.cells #[.slice ta tn tz, .slice ka kn kz, .slice va vn vz] 27)) := (Below.refl _ _).alloc (Nat.le_refl _) _
  rw [s0] at X1
  generalize hw1 : w0.alloc (.cells #[.slice ta tn tz, .slice ka kn kz, .slice va vn vz] 27) = w1 at *
  replace X0 := X0.below B1
  replace B1 := below_then B0 B1
  have b0 : w1.cell? ⟨w.heap.size + 1, 0, none⟩ = some (.slice ta tn tz) := X1.cell 0 rfl
  have b1 : w1.cell? ⟨w.heap.size + 1, 1, none⟩ = some (.slice ka kn kz) := X1.cell 1 rfl
  have b2 : w1.cell? ⟨w.heap.size + 1, 2, none⟩ = some (.slice va vn vz) := X1.cell 2 rfl
  by_cases h0 : tn = 0
  · subst h0
    rw [if_pos rfl] at e1 e2
    subst e1 e2
    go_enter Tryd.func28, Tryd.ntmps28
    go_wp2
    go_ret
    exact ⟨rfl, B1⟩
  · rw [if_neg h0] at e1 e2
    subst e1
    obtain rfl : vn = kn := e2
    have HK := fun wv (h : CubeAt wv ka vn X.K) => listsFit_ok V D Hd H vn ka kz tn X.K wv h (by rw [← hl]; exact hf.ks) (by omega) hD
    have HV := fun wv (h : CubeAt wv va vn X.V) => listsFit_ok V D Hd H vn va vz tn X.V wv h (by rw [← hl]; exact hf.vs) (by omega) hD
    have HI := fun wv x => isToken_any V D Hd H vn x wv
    have tk := hf.toks
    clear hf
    unfold cfgC at HK HV HI
    replace hT := hT.below B1
    obtain ⟨b, o, rfl, hc⟩ := hT.cells (by omega)
    have hz0 : ((tn : Int) == 0) = false := by simpa using h0
    go_enter Tryd.func28, Tryd.ntmps28
    go_wp2_with fail
    go_loopg [30] tn (fun r i wr => ∃ k : Nat, k ≤ tn ∧ r = tn - k ∧ i = .int .i64 k ∧ Below w1.heap.size w1 wr)
    case atStart => exact ⟨0, by omega, by omega, rfl, Below.refl _ _⟩
    case round =>
      obtain ⟨k, hk, rfl, rfl, BR⟩ := hrel
      have Y0 := X0.below BR
      have Y1 := X1.below BR
      have a0 : wr.cell? ⟨w.heap.size, 0, none⟩ = some (.int .i64 V) := Y0.cell 0 rfl
      have a1 : wr.cell? ⟨w.heap.size, 1, none⟩ = some (.int .i64 (D : Int)) := Y0.cell 1 rfl
      have a2 : wr.cell? ⟨w.heap.size, 2, none⟩ = some (.int .i64 Hd) := Y0.cell 2 rfl
      have a3 : wr.cell? ⟨w.heap.size, 3, none⟩ = some (.int .i64 H) := Y0.cell 3 rfl
      have a4 : wr.cell? ⟨w.heap.size, 4, none⟩ = some (.int .i64 (vn : Int)) := Y0.cell 4 rfl
      clear b0 b1 b2
      by_cases hlt : k < tn
      · have ck : wr.cell? ⟨b, o + k, none⟩ = some (.int .i64 (el X.T k)) := by
          have h1 := hc k hlt
          have hb : b < w1.heap.size := by simpa using World.block_lt_of_cell? w1 _ h1
          rw [BR.cell (by exact hb)]
          exact h1
        have tx := all_el (k := k) (by rw [hl]; exact hlt) tk
        generalize el X.T k = x at *
        go_wp2_with fail
        refine (HI _ x).mono ?_
        rintro e w2 ⟨rfl, B2⟩
        rw [tx]
        have B3 := below_then BR B2
        go_wp2
        go_roundg (tn - (k + 1))
        case measure => omega
        case rel => exact ⟨k + 1, by omega, rfl, by go_num, B3⟩
      · obtain rfl : k = tn := by omega
        have b0 : wr.cell? ⟨w.heap.size + 1, 0, none⟩ = some (.slice (some ⟨b, o, none⟩) k tz) := Y1.cell 0 rfl
        have b1 : wr.cell? ⟨w.heap.size + 1, 1, none⟩ = some (.slice ka vn kz) := Y1.cell 1 rfl
        have b2 : wr.cell? ⟨w.heap.size + 1, 2, none⟩ = some (.slice va vn vz) := Y1.cell 2 rfl
        have BW := below_then B1 BR
        go_wp2_with fail
        refine (HK _ (hK.below BW)).mono ?_
        rintro e w2 ⟨rfl, B2⟩
        have BX := below_then BW B2
        replace Y0 := Y0.below B2
        replace Y1 := Y1.below B2
        clear a0 a1 a2 a3 a4 b0 b1 b2
        have a0 : w2.cell? ⟨w.heap.size, 0, none⟩ = some (.int .i64 V) := Y0.cell 0 rfl
        have a1 : w2.cell? ⟨w.heap.size, 1, none⟩ = some (.int .i64 (D : Int)) := Y0.cell 1 rfl
        have a2 : w2.cell? ⟨w.heap.size, 2, none⟩ = some (.int .i64 Hd) := Y0.cell 2 rfl
        have a3 : w2.cell? ⟨w.heap.size, 3, none⟩ = some (.int .i64 H) := Y0.cell 3 rfl
        have a4 : w2.cell? ⟨w.heap.size, 4, none⟩ = some (.int .i64 (vn : Int)) := Y0.cell 4 rfl
        have b0 : w2.cell? ⟨w.heap.size + 1, 0, none⟩ = some (.slice (some ⟨b, o, none⟩) k tz) := Y1.cell 0 rfl
        have b2 : w2.cell? ⟨w.heap.size + 1, 2, none⟩ = some (.slice va vn vz) := Y1.cell 2 rfl
        go_wp2_with fail
        refine (HV _ (hV.below BX)).mono ?_
        rintro e w3 ⟨rfl, B3⟩
        go_wp2
        go_ret
        exact ⟨rfl, below_then BX B3⟩
/-- A row of the call's own, told anew. -/
theorem owns_mono {w w' : World} {B B' n : Nat} {e : TypeId} {v : Value} {xs : List Value} (h : w.ownsRow B e 1 v n xs) (hB : B' ≤ B) (hb : ∀ b, v.ownBlock = some b → w'.heap[b]? = w.heap[b]?) : w'.ownsRow B' e 1 v n xs := by
  refine ⟨h.1, ?_⟩
  rcases h.2 with h3 | ⟨g, cap, cur, hv, hg, hh, h4⟩
  · exact .inl h3
  · subst hv
    exact .inr ⟨g, cap, cur, rfl, by omega, (hb g rfl).trans hh, h4⟩
/-- The block g of m lists: those ahead of place i read as A's, the others, which are full, as C's; they hang on the blocks that p tells. -/
structure KV (w : World) (g m i : Nat) (p : Nat → Prop) (A C : List (List (List Int))) : Prop where
  row : ∃ cs : Array Value, w.heap[g]? = some (.cells cs 60 (0, 0)) ∧ cs.size = m ∧
    (∀ t, t < i → ∃ ro n c vs, cs[t]? = some (.slice ro n c) ∧ (ro = none → c = 0) ∧ n ≤ c ∧ c ≤ 9223372036854775807 ∧ Hangs p w (fun w => GridV w ro n vs (A.getD t []))) ∧
    (∀ t, i ≤ t → t < m → ∃ ro n vs, cs[t]? = some (.slice ro n n) ∧ (ro = none → n = 0) ∧ Hangs p w (fun w => GridV w ro n vs (C.getD t [])))
theorem KV.lt {w : World} {g m i : Nat} {p : Nat → Prop} {A C : List (List (List Int))} (h : KV w g m i p A C) : g < w.heap.size := by
  obtain ⟨cs, h1, _⟩ := h.row
  exact (Array.getElem?_eq_some_iff.1 h1).1
theorem KV.below {w w' : World} {g m i : Nat} {p : Nat → Prop} {A C : List (List (List Int))} (h : KV w g m i p A C) (hb : Below w.heap.size w w') : KV w' g m i p A C := by
  have hl := h.lt
  obtain ⟨cs, h1, h2, h3, h4⟩ := h.row
  exact ⟨cs, (hb.block g hl).trans h1, h2, fun t ht => let ⟨ro, n, c, vs, e, q1, q2, q3, N⟩ := h3 t ht; ⟨ro, n, c, vs, e, q1, q2, q3, N.below hb⟩, fun t ht h5 => let ⟨ro, n, vs, e, q1, N⟩ := h4 t ht h5; ⟨ro, n, vs, e, q1, N.below hb⟩⟩
theorem KV.mono {w : World} {g m i : Nat} {p q : Nat → Prop} {A C : List (List (List Int))} (h : KV w g m i p A C) (hq : ∀ b, b < w.heap.size → p b → q b) : KV w g m i q A C := by
  obtain ⟨cs, h1, h2, h3, h4⟩ := h.row
  exact ⟨cs, h1, h2, fun t ht => let ⟨ro, n, c, vs, e, q1, q2, q3, N⟩ := h3 t ht; ⟨ro, n, c, vs, e, q1, q2, q3, N.mono hq⟩, fun t ht h5 => let ⟨ro, n, vs, e, q1, N⟩ := h4 t ht h5; ⟨ro, n, vs, e, q1, N.mono hq⟩⟩
theorem KV.other {w w' : World} {g m i : Nat} {p : Nat → Prop} {A C : List (List (List Int))} (h : KV w g m i p A C) (hs : w'.heap.size = w.heap.size) (hg : w'.heap[g]? = w.heap[g]?) (ho : ∀ b, p b → w'.heap[b]? = w.heap[b]?) : KV w' g m i p A C := by
  obtain ⟨cs, h1, h2, h3, h4⟩ := h.row
  exact ⟨cs, hg.trans h1, h2, fun t ht => let ⟨ro, n, c, vs, e, q1, q2, q3, N⟩ := h3 t ht; ⟨ro, n, c, vs, e, q1, q2, q3, N.other hs ho⟩, fun t ht h5 => let ⟨ro, n, vs, e, q1, N⟩ := h4 t ht h5; ⟨ro, n, vs, e, q1, N.other hs ho⟩⟩
theorem KV.put {w : World} {g m i : Nat} {p : Nat → Prop} {A C : List (List (List Int))} (h : KV w g m i p A C) {g2 : Nat} (hg : g2 ≠ g) (hp : ¬ p g2) (cs : Array Value) : KV (w.setRow g2 cs) g m i p A C :=
  h.other (by simp [World.setRow]) (setRow_other _ _ _ _ (Ne.symm hg)) fun b hb => setRow_other _ _ _ _ (fun e => hp (by rw [← e]; exact hb))
theorem KV.far {w : World} {g m i : Nat} {p : Nat → Prop} {A C : List (List (List Int))} (h : KV w g m i p A C) {a : Addr} (hg : a.block ≠ g) (hp : ¬ p a.block) (v : Value) : KV (w.setCell a v) g m i p A C :=
  h.other (by simp [World.setCell]) (Below.heap_setCell _ _ _ _ (Ne.symm hg)) fun b hb => Below.heap_setCell _ _ _ _ (fun e => hp (by rw [← e]; exact hb))
theorem KV.frozen {w : World} {g m i : Nat} {p : Nat → Prop} {A C : List (List (List Int))} (h : KV w g m i p A C) (t : Nat) : w.frozen? ⟨g, t, none⟩ = false := by
  obtain ⟨cs, h1, _⟩ := h.row
  unfold World.frozen?; simp only [h1]; rfl
/-- The list at place i. -/
theorem KV.at {w : World} {g m i : Nat} {p : Nat → Prop} {A C : List (List (List Int))} (h : KV w g m i p A C) (hi : i < m) : ∃ ro n vs, w.cell? ⟨g, i, none⟩ = some (.slice ro n n) ∧ (ro = none → n = 0) ∧ Hangs p w (fun w => GridV w ro n vs (C.getD i [])) := by
  obtain ⟨cs, h1, h2, h3, h4⟩ := h.row
  obtain ⟨ro, n, vs, e, q1, N⟩ := h4 i (Nat.le_refl _) hi
  refine ⟨ro, n, vs, ?_, q1, N⟩
  unfold World.cell?; simp only [h1]; exact e
/-- The list at place i is told anew. -/
theorem KV.step {w : World} {g m i : Nat} {p : Nat → Prop} {A C : List (List (List Int))} (h : KV w g m i p A C) (hi : i < m) (hp : ¬ p g) {ro : Option Addr} {n c : Nat} {vs : List Value} (q1 : ro = none → c = 0) (q2 : n ≤ c) (q3 : c ≤ 9223372036854775807) (N : Hangs p w fun w => GridV w ro n vs (A.getD i [])) : KV (w.setCell ⟨g, i, none⟩ (.slice ro n c)) g m (i + 1) p A C := by
  obtain ⟨cs, h1, h2, h3, h4⟩ := h.row
  refine ⟨cs.setIfInBounds i (.slice ro n c), by simp [World.setCell, Array.getElem?_modify, h1], by simpa using h2, fun t ht => ?_, fun t ht h5 => ?_⟩
  · rw [Array.getElem?_setIfInBounds]
    by_cases e : i = t
    · subst e
      rw [if_pos rfl, if_pos (by omega)]
      exact ⟨ro, n, c, vs, rfl, q1, q2, q3, N.set hp _⟩
    · rw [if_neg e]
      obtain ⟨ro', n', c', vs', e2, x1, x2, x3, N'⟩ := h3 t (by omega)
      exact ⟨ro', n', c', vs', e2, x1, x2, x3, N'.set hp _⟩
  · rw [Array.getElem?_setIfInBounds, if_neg (by omega)]
    obtain ⟨ro', n', vs', e2, x1, N'⟩ := h4 t (by omega) h5
    exact ⟨ro', n', vs', e2, x1, N'.set hp _⟩
theorem Lists.kv {w : World} {g m : Nat} {C : List (List (List Int))} (h : Lists w g m m C) (hl : C.length = m) (A : List (List (List Int))) : KV w g m 0 (fun b => g < b ∧ b < w.heap.size) A C := by
  obtain ⟨cs, h1, h2, h3⟩ := h.row
  refine ⟨cs, h1, h2, fun t ht => by omega, fun t _ ht => ?_⟩
  have e : C[t]? = some (C.getD t []) := by rw [List.getD_eq_getElem?_getD, List.getElem?_eq_getElem (by omega)]; rfl
  obtain ⟨ro, n, vs, e2, q1, N⟩ := h3 t _ ht e
  exact ⟨ro, n, vs, e2, q1, Hangs.mono N fun b hb h => ⟨h, hb⟩⟩
set_option maxRecDepth 100000 in
set_option maxHeartbeats 1600000 in
theorem scopy_any (v : VwV) (X : Vw) (A1 A2 : List (List (List Int))) (w : World) (hv : VwAt w v X) (hT : X.T.length ≤ 4096) (hk : X.K.length ≤ 4096) (hvl : X.V.length ≤ 4096) (hks : ∀ R ∈ X.K, R.length ≤ 4096 ∧ ∀ t, t < R.length → (rowOf R t).length ≤ 1048576) (hvs : ∀ R ∈ X.V, R.length ≤ 4096 ∧ ∀ t, t < R.length → (rowOf R t).length ≤ 1048576) :
   Calls Tryd.prog 7 #[.agg v.cells] w fun e w' => ∃ tv gk gv, e = .returned (.agg #[tv, .slice (some ⟨gk, 0, none⟩) X.K.length X.K.length, .slice (some ⟨gv, 0, none⟩) X.V.length X.V.length]) ∧ IOwn w' w.heap.size tv X.T.length X.T ∧ KV w' gk X.K.length 0 (fun b => gk < b ∧ b < gv) A1 X.K ∧ KV w' gv X.V.length 0 (fun b => gv < b) A2 X.V ∧ w.heap.size + 1 < gk ∧ gk < gv ∧ (∀ b, tv.ownBlock = some b → b < gk) ∧ Below w.heap.size w w' := by
  obtain ⟨⟨ta, tn, tz⟩, ⟨ka, kn, kz⟩, ⟨va, vn, vz⟩⟩ := v
  have aT := hv.t
  have aK := hv.k
  have aV := hv.v
  clear hv
  simp only at aT aK aV
  have hl := aT.row.len
  have kl := aK.len
  have vl := aV.len
  show Calls Tryd.prog 7 #[.agg #[.slice ta tn tz, .slice ka kn kz, .slice va vn vz]] w _
  have X0 := blk_new w 27 #[.slice ta tn tz, .slice ka kn kz, .slice va vn vz]
  have B0 : Below w.heap.size w (w.alloc (.cells #[.slice ta tn tz, .slice ka kn kz, .slice va vn vz] 27)) := (Below.refl _ _).alloc (Nat.le_refl _) _
  have s0 : (w.alloc (.cells #[.slice ta tn tz, .slice ka kn kz, .slice va vn vz] 27)).heap.size = w.heap.size + 1 := by simp
  generalize hw0 : w.alloc (.cells #[.slice ta tn tz, .slice ka kn kz, .slice va vn vz] 27) = w0 at *
  have X1 := blk_new w0 27 #[.slice none 0 0, .slice none 0 0, .slice none 0 0]
  have B1 : Below w0.heap.size w0 (w0.alloc (.cells #[.slice none 0 0, .slice none 0 0, .slice none 0 0] 27)) := (Below.refl _ _).alloc (Nat.le_refl _) _
  have s1 : (w0.alloc (.cells #[.slice none 0 0, .slice none 0 0, .slice none 0 0] 27)).heap.size = w0.heap.size + 1 := by simp
  rw [s0] at X1 s1
  generalize hw1 : w0.alloc (.cells #[.slice none 0 0, .slice none 0 0, .slice none 0 0] 27) = w1 at *
  replace X0 := X0.below B1
  replace B1 := below_then B0 B1
  go_enter Tryd.func7, Tryd.ntmps7
  go_wp2_with fail
  clear hw0 hw1 s0 B0
  replace X0 := X0.below ((Below.refl _ _).drew)
  replace X1 := X1.below ((Below.refl _ _).drew)
  replace B1 := B1.drew
  have aT1 := aT.below B1
  have s1' : w.heap.size + 1 + 1 ≤ w1.drew.heap.size := by show _ ≤ w1.heap.size; omega
  refine wp_region_held_drew (S := fun w' => Blk w' w.heap.size 27 #[.slice ta tn tz, .slice ka kn kz, .slice va vn vz]) (by kernel_rfl) (X0) (fun hHeld => ?_)
  refine wpAnyH_take (i := 0) (v := (.pointer (some ⟨w.heap.size, 0, none⟩))) rfl (by kernel_rfl) (by kernel_rfl) (by kernel_rfl) (fun _ _ _ h => h) (Or.inl ⟨by rfl, ?_⟩) (by assumption) ?_
  · intro w' hSw
    go_simp
  simp only [List.getElem_toArray, List.getElem_cons_zero, Act.put, List.setIfInBounds_toArray, List.set_cons_zero, List.set_cons_succ]
  refine wpAnyH_take (i := 1) (v := (.slice ta tn tz)) rfl (by kernel_rfl) (by kernel_rfl) (by kernel_rfl) (fun _ _ _ h => h) (Or.inl ⟨by rfl, ?_⟩) (by assumption) ?_
  · intro w' hSw
    have c0 : w'.cell? ⟨w.heap.size, 0, none⟩ = some (.slice ta tn tz) := hSw.cell 0 rfl
    go_simp
  simp only [List.getElem_toArray, List.getElem_cons_succ, List.getElem_cons_zero, Act.put, List.setIfInBounds_toArray, List.set_cons_zero, List.set_cons_succ]
  refine wpAnyH_take (i := 3) (v := (.pointer (some ⟨w.heap.size, 1, none⟩))) rfl (by kernel_rfl) (by kernel_rfl) (by kernel_rfl) (fun _ _ _ h => h) (Or.inl ⟨by rfl, ?_⟩) (by assumption) ?_
  · intro w' hSw
    go_simp
  simp only [List.getElem_toArray, List.getElem_cons_succ, List.getElem_cons_zero, Act.put, List.setIfInBounds_toArray, List.set_cons_zero, List.set_cons_succ]
  refine wpAnyH_take (i := 4) (v := (.pointer (some ⟨w.heap.size, 1, none⟩))) rfl (by kernel_rfl) (by kernel_rfl) (by kernel_rfl) (fun _ _ _ h => h) (Or.inl ⟨by rfl, ?_⟩) (by assumption) ?_
  · intro w' hSw
    go_simp
  simp only [List.getElem_toArray, List.getElem_cons_succ, List.getElem_cons_zero, Act.put, List.setIfInBounds_toArray, List.set_cons_zero, List.set_cons_succ]
  refine wpAnyH_take (i := 5) (v := (.slice ka kn kz)) rfl (by kernel_rfl) (by kernel_rfl) (by kernel_rfl) (fun _ _ _ h => h) (Or.inl ⟨by rfl, ?_⟩) (by assumption) ?_
  · intro w' hSw
    have c1 : w'.cell? ⟨w.heap.size, 1, none⟩ = some (.slice ka kn kz) := hSw.cell 1 rfl
    go_simp
  simp only [List.getElem_toArray, List.getElem_cons_succ, List.getElem_cons_zero, Act.put, List.setIfInBounds_toArray, List.set_cons_zero, List.set_cons_succ]
  refine wpAnyH_take (i := 7) (v := (.pointer (some ⟨w.heap.size, 1, none⟩))) rfl (by kernel_rfl) (by kernel_rfl) (by kernel_rfl) (fun _ _ _ h => h) (Or.inl ⟨by rfl, ?_⟩) (by assumption) ?_
  · intro w' hSw
    go_simp
  simp only [List.getElem_toArray, List.getElem_cons_succ, List.getElem_cons_zero, Act.put, List.setIfInBounds_toArray, List.set_cons_zero, List.set_cons_succ]
  refine wpAnyH_take (i := 8) (v := (.pointer (some ⟨w.heap.size, 2, none⟩))) rfl (by kernel_rfl) (by kernel_rfl) (by kernel_rfl) (fun _ _ _ h => h) (Or.inl ⟨by rfl, ?_⟩) (by assumption) ?_
  · intro w' hSw
    go_simp
  simp only [List.getElem_toArray, List.getElem_cons_succ, List.getElem_cons_zero, Act.put, List.setIfInBounds_toArray, List.set_cons_zero, List.set_cons_succ]
  refine wpAnyH_take (i := 9) (v := (.slice va vn vz)) rfl (by kernel_rfl) (by kernel_rfl) (by kernel_rfl) (fun _ _ _ h => h) (Or.inl ⟨by rfl, ?_⟩) (by assumption) ?_
  · intro w' hSw
    have c2 : w'.cell? ⟨w.heap.size, 2, none⟩ = some (.slice va vn vz) := hSw.cell 2 rfl
    go_simp
  simp only [List.getElem_toArray, List.getElem_cons_succ, List.getElem_cons_zero, Act.put, List.setIfInBounds_toArray, List.set_cons_zero, List.set_cons_succ]
  refine wpAnyH_ready (rs := [2]) (by kernel_rfl) (by simp) ?_
  refine AllReadyH.cons rfl (fun Kc hKc => ?_) AllReadyH.nil
  simp only [List.getElem_toArray, List.getElem_cons_succ, List.getElem_cons_zero]
  rw [if_pos (by rfl)]
  go_wp2_with fail
  refine (iclone_any _ _ _ X.T _ aT1 (by omega)).mono ?_
  rintro e w2 ⟨tv, rfl, O2, B2⟩
  replace X0 := X0.below B2
  replace X1 := X1.below B2
  have D2 := below_then B1 B2
  have s2 := B2.size
  have aK2 := aK.below D2
  go_wp2_with fail
  refine hKc.out _ _ (X0) (fun hHeld => ?_)
  clear hKc Kc
  refine wpAnyH_ready (rs := [6]) (by kernel_rfl) (by simp) ?_
  refine AllReadyH.cons rfl (fun Kc hKc => ?_) AllReadyH.nil
  simp only [List.getElem_toArray, List.getElem_cons_succ, List.getElem_cons_zero]
  rw [if_pos (by rfl)]
  go_wp2_with fail
  refine (copyLists_any _ _ _ X.K _ aK2 (by omega) hks).mono ?_
  rintro e w3 ⟨rfl, L3, B3⟩
  replace X0 := X0.below B3
  replace X1 := X1.below B3
  have O3 := owns_below O2 B3
  have D3 := below_then D2 B3
  have s3 := L3.lt
  have L3 := L3.kv kl A1
  have aV3 := aV.below D3
  go_wp2_with fail
  refine hKc.out _ _ (X0) (fun hHeld => ?_)
  clear hKc Kc
  refine wpAnyH_ready (rs := [10]) (by kernel_rfl) (by simp) ?_
  refine AllReadyH.cons rfl (fun Kc hKc => ?_) AllReadyH.nil
  simp only [List.getElem_toArray, List.getElem_cons_succ, List.getElem_cons_zero]
  rw [if_pos (by rfl)]
  go_wp2_with fail
  refine (copyLists_any _ _ _ X.V _ aV3 (by omega) hvs).mono ?_
  rintro e w4 ⟨rfl, L4, B4⟩
  replace X0 := X0.below B4
  replace X1 := X1.below B4
  have O4 := owns_below O3 B4
  replace L3 := L3.below B4
  have D4 := below_then D3 B4
  have hlt4 := fun b hb => (O2.lt b hb).2
  have L4 := (L4.kv vl A2).mono (q := fun b => w3.heap.size < b) fun b _ h => h.1
  go_wp2_with fail
  refine hKc.out _ _ (X0) (fun hHeld => ?_)
  clear hKc Kc
  obtain ⟨ta', tc', rfl⟩ : ∃ a c, tv = .slice a tn c := by
    rcases O4.2 with ⟨h3, h4⟩ | ⟨g, cap, cur, hv, _⟩
    · exact ⟨none, 0, by rw [h3, h4]⟩
    · exact ⟨_, _, hv⟩
  refine wpAnyH_take (i := 11) (v := (.agg #[.slice (some ⟨w2.heap.size, 0, none⟩) kn kn, .slice (some ⟨w3.heap.size, 0, none⟩) vn vn])) rfl (by kernel_rfl) (by kernel_rfl) (by kernel_rfl) (fun _ _ _ h => h) (Or.inl ⟨by rfl, ?_⟩) (by assumption) ?_
  · intro w' hSw
    go_simp
  simp only [List.getElem_toArray, List.getElem_cons_succ, List.getElem_cons_zero, Act.put, List.setIfInBounds_toArray, List.set_cons_zero, List.set_cons_succ]
  refine wpAnyH_take (i := 12) (v := (.agg #[.slice ta' tn tc', .slice (some ⟨w2.heap.size, 0, none⟩) kn kn, .slice (some ⟨w3.heap.size, 0, none⟩) vn vn])) rfl (by kernel_rfl) (by kernel_rfl) (by kernel_rfl) (fun _ _ _ h => h) (Or.inl ⟨by rfl, ?_⟩) (by assumption) ?_
  · intro w' hSw
    go_simp
  simp only [List.getElem_toArray, List.getElem_cons_succ, List.getElem_cons_zero, Act.put, List.setIfInBounds_toArray, List.set_cons_zero, List.set_cons_succ]
  refine wpAnyH_ready (rs := [13]) (by kernel_rfl) (by simp) ?_
  refine AllReadyH.cons rfl (fun Kc hKc => ?_) AllReadyH.nil
  simp only [List.getElem_toArray, List.getElem_cons_succ, List.getElem_cons_zero]
  rw [if_pos (by rfl)]
  have hall : Array.all (#[.slice ta' tn tc', .slice (some ⟨w2.heap.size, 0, none⟩) kn kn, .slice (some ⟨w3.heap.size, 0, none⟩) vn vn] : Array Value) (fun v => v.oneCell') = true := by simp [Value.oneCell']
  refine wp_store_row 27 _ _ rfl (w.heap.size + 1) #[.slice ta' tn tc', .slice (some ⟨w2.heap.size, 0, none⟩) kn kn, .slice (some ⟨w3.heap.size, 0, none⟩) vn vn] rfl rfl 27 _ X1 Tryd.infoV rfl hall ?_
  refine hKc.out _ _ (Blk.of_block X0 (setRow_other _ _ _ _ (by omega))) (fun hHeld => ?_)
  clear hKc Kc
  refine wpAnyH_done (by kernel_rfl) ?_ _
  clear hHeld
  go_wp2
  refine bodyPost_ret (results_cell_row rfl _ _ (w.heap.size + 1) 27 _ _ _ rfl (X1.row _) Tryd.underlying27 rfl Tryd.infoV) rfl ?_
  subst kl vl hl
  have so : ∀ (b : Nat) (x : Array Value), b ≠ w.heap.size + 1 → (w4.setRow (w.heap.size + 1) x).heap[b]? = w4.heap[b]? := fun b x hb => setRow_other _ _ _ _ hb
  refine ⟨_, _, _, rfl, ?_, ?_, ?_, by omega, by omega, hlt4, below_setRow D4 (by omega) _⟩
  · refine (owns_mono O4 (by omega) ?_)
    intro b hb
    have := (O2.lt b hb).1
    exact so b _ (by omega)
  · exact L3.put (by omega) (by omega) _
  · exact L4.put (by omega) (by omega) _
end Go.Proofs.YtmdjlaileakbeaaDoor

/- At most so many tokens, in memory of one's own. -/
namespace Go.Proofs.YtmdjlaileakbeaaDoor
open Go.ChangeShapes Go.WideShapes Go.ChangeAt Go.RowKit
theorem IArg.take {w : World} {ao : Option Addr} {n ca : Nat} {A : List Int} (h : IArg w ao n ca A) {m : Nat} (hm : m ≤ n) : IArg w ao m ca (A.take m) := by
  have hl := h.row.len
  have hf := h.fit
  refine ⟨⟨by rw [List.length_take]; omega, by have := h.row.max; omega, fun k => ?_, fun hn => ?_⟩, by omega, h.max, h.nil⟩
  · rcases Nat.lt_or_ge k m with hk | hk
    · rw [el_take hk]; exact h.row.small k
    · rw [el_over (by rw [List.length_take]; omega)]; omega
  · obtain ⟨b, o, e, hc⟩ := h.row.cells (by omega)
    refine ⟨b, o, e, fun t ht => ?_⟩
    rw [el_take ht]
    exact hc t (by omega)
theorem few8_gen (ao : Option Addr) (n ca : Nat) (A Z : List Int) (lim : Nat) (w : World) (hA : IArg w ao n ca A) (hlim : lim ≤ 4096) (hZ : Z = A.take lim) :
   Calls Tryd.prog 11 #[.slice ao n ca, .int .i64 (lim : Int)] w fun e w' => ∃ b c, e = .returned (.slice (some ⟨b, 0, none⟩) Z.length c) ∧ IOwn w' w.heap.size (.slice (some ⟨b, 0, none⟩) Z.length c) Z.length Z ∧ Below w.heap.size w w' := by
  obtain ⟨i0, hi, hz0, hz1, hz2⟩ := info_parts Tryd.infoInt
  have hl := hA.row.len
  have hf := hA.fit
  have hmx := hA.max
  have B0 : Below w.heap.size w (w.alloc (.cells #[] 3)) := (Below.refl _ _).alloc (Nat.le_refl _) _
  have O0 : (w.alloc (.cells #[] 3)).ownsRow w.heap.size 3 1 (.slice (some ⟨w.heap.size, 0, none⟩) 0 0) 0 [] := World.ownsRow_made w #[] 0 (Nat.le_refl _) (by decide) rfl
  have key : ∀ (ao : Option Addr) (m : Nat) (Z' : List Int), IArg w ao m ca Z' → Z' = Z → m ≤ 4096 → ∀ (ops : Array Oper) (rest : List Oper) (o : Oper) (a : Act) (Q : Exit → Act → World → Prop) (s x : Operand), o.guard = none → o.op = .call { callee := .builtin .append, args := #[s, x], argTypes := #[22, 22] } → a.eval s = .slice (some ⟨w.heap.size, 0, none⟩) 0 0 → a.eval x = .slice ao m ca →
      (∀ b c w', IOwn w' w.heap.size (.slice (some ⟨b, 0, none⟩) Z.length c) Z.length Z → Below w.heap.size w w' → wpList Tryd.prog ops Q rest (a.put o.dst (.slice (some ⟨b, 0, none⟩) Z.length c)) w') → wpList Tryd.prog ops Q (o :: rest) a (w.alloc (.cells #[] 3)) := by
    intro ao m Z' hZ' eZ hm ops rest o a Q s x hg ho hs hx hK
    have hlz : Z'.length = m := hZ'.row.len
    cases ao with
    | none =>
      have hc0 := hZ'.nil rfl
      have hm0 : m = 0 := by have := hZ'.fit; omega
      subst hm0
      obtain rfl : Z' = [] := List.length_eq_zero_iff.1 hlz
      rw [hc0] at hx
      refine wpList_append_own_none hg s x 22 ho w.heap.size 3 i0 1 Tryd.underlying22 hi _ 0 [] hs O0 hx ?_
      have := hK w.heap.size 0 _ (by rw [← eZ]; exact O0) B0
      rw [← eZ] at this
      exact this
    | some ad =>
      refine wpList_append_own _ hg s x 22 ho w.heap.size 3 i0 (.int .i64 0) 1 8 Tryd.underlying22 hi hz0 hz1 hz2 rfl (by decide) _ 0 [] hs O0 ad m ca (Z'.map (Value.int .i64)) hx (by simp [hlz]) ((hZ'.row.below B0).vals) (ints_oneCell _ _) (by unfold maxLen; omega) (by omega) (by simp) ?_
      intro v' w' O1 G1 N1
      have hb : Below w.heap.size (w.alloc (.cells #[] 3)) w' := (Below.refl _ _).grown G1 (by simp) (fun k hk => (O0.lt k hk).1)
      rw [Nat.zero_add, List.nil_append] at O1
      have hv : ∃ b c, v' = .slice (some ⟨b, 0, none⟩) m c := by
        rcases O1.2 with ⟨h3, _⟩ | ⟨g, cap, cur, hv, _⟩
        · have := (N1.1 h3).1; cases this
        · exact ⟨_, _, hv⟩
      obtain ⟨b, c, rfl⟩ := hv
      have e : Z.length = m := by rw [← eZ, hlz]
      have := hK b c w' (by rw [e, ← eZ]; exact O1) (B0.trans hb)
      rw [e] at this
      exact this
  have hZl : Z.length ≤ lim := by rw [hZ, List.length_take]; omega
  by_cases h0 : lim < n
  · have hle : (lim : Int) ≤ (ca : Int) := by omega
    have KT := hA.take (m := lim) (by omega)
    rw [← hZ] at KT
    clear hl hA hZ
    go_enter Tryd.func11, Tryd.ntmps11
    go_wp2_with (at_builtin; refine key _ _ _ KT rfl (by omega) _ _ _ _ _ _ _ rfl rfl rfl rfl ?_; intro b c w' O1 B1)
    go_ret
    exact ⟨b, c, rfl, O1, B1⟩
  · have e1 : Hid (A = Z) := by show _ = _; rw [hZ, List.take_of_length_le (by omega)]
    have hn : n ≤ 4096 := by omega
    clear hl hZ
    go_enter Tryd.func11, Tryd.ntmps11
    go_wp2_with (at_builtin; refine key _ _ _ hA e1.out hn _ _ _ _ _ _ _ rfl rfl rfl rfl ?_; intro b c w' O1 B1)
    go_ret
    exact ⟨b, c, rfl, O1, B1⟩
theorem few8_any (ao : Option Addr) (n ca : Nat) (A : List Int) (lim : Nat) (w : World) (hA : IArg w ao n ca A) (hlim : lim ≤ 4096) :
   Calls Tryd.prog 11 #[.slice ao n ca, .int .i64 (lim : Int)] w fun e w' => ∃ b c, e = .returned (.slice (some ⟨b, 0, none⟩) (A.take lim).length c) ∧ IOwn w' w.heap.size (.slice (some ⟨b, 0, none⟩) (A.take lim).length c) (A.take lim).length (A.take lim) ∧ Below w.heap.size w w' := few8_gen ao n ca A _ lim w hA hlim rfl
end Go.Proofs.YtmdjlaileakbeaaDoor

/- Package step: the first rows of lists. -/
namespace Go.Proofs.YtmdjlaileakbeaaDoor
open Go.ChangeShapes Go.WideShapes Go.ChangeAt Go.RowKit
theorem rowOf_take9 {R : List (List Int)} {m t : Nat} (h : t < m) : rowOf (R.take m) t = rowOf R t := by
  unfold rowOf
  rw [List.getD_eq_getElem?_getD, List.getD_eq_getElem?_getD, List.getElem?_take_of_lt h]
theorem GridAt.take {w : World} {ao : Option Addr} {n : Nat} {R : List (List Int)} (h : GridAt w ao n R) {m : Nat} (hm : m ≤ n) : GridAt w ao m (R.take m) := by
  have hl := h.len
  have hx := h.max
  refine ⟨by rw [List.length_take]; omega, by omega, fun h0 => ?_⟩
  obtain ⟨b, o, e, hc⟩ := h.cells (by omega)
  refine ⟨b, o, e, fun t ht => ?_⟩
  rw [rowOf_take9 ht]
  exact hc t (by omega)
set_option maxHeartbeats 800000 in
theorem firstRows_any (ao : Option Addr) (m ca n : Nat) (C : List (List (List Int))) (w : World) (hC : CubeAt w ao m C) (hm : m ≤ 4096) (hn : 1 ≤ n) (hn4 : n ≤ 4096) (hl : ∀ R ∈ C, n ≤ R.length ∧ ∀ t, t < n → (rowOf R t).length ≤ 1048576) :
   Calls Tryd.prog 20 #[.slice ao m ca, .int .i64 (n : Int)] w fun e w' => e = .returned (.slice (some ⟨w.heap.size, 0, none⟩) m m) ∧ Lists w' w.heap.size m m (C.map (List.take n)) ∧ Below w.heap.size w w' := by
  have hmk := run_make_row' (P := Tryd.prog) 23 60 (.slice none 0 0) 24 Tryd.underlying23 Tryd.infoList rfl .i64 .i64 m (by omega) (by omega)
  have F0 := lists_made w m (C.map (List.take n))
  have B0 : Below w.heap.size w (w.alloc (.cells (madeCells #[.slice none 0 0] m) 60)) := (Below.refl _ _).alloc (Nat.le_refl _) _
  go_enter Tryd.func20, Tryd.ntmps20
  go_wp2
  clear hmk
  generalize w.alloc (.cells (madeCells #[.slice none 0 0] m) 60) = w0 at *
  go_loopg [13] m (fun r i wr => ∃ k : Nat, k ≤ m ∧ r = m - k ∧ i = .int .i64 k ∧ Lists wr w.heap.size m k (C.map (List.take n)) ∧ Below w.heap.size w wr)
  case atStart => exact ⟨0, by omega, by omega, rfl, F0, B0⟩
  case round =>
    obtain ⟨k, hk, rfl, rfl, F1, B1⟩ := hrel
    clear F0 B0
    by_cases hlt : k < m
    · obtain ⟨b, o, rfl, hc⟩ := (hC.below B1).cells (by omega)
      have hR : C[k]? = some (C[k]'(by rw [hC.len]; exact hlt)) := List.getElem?_eq_getElem _
      have hmem : C[k]'(by rw [hC.len]; exact hlt) ∈ C := List.getElem_mem _
      generalize C[k]'(by rw [hC.len]; exact hlt) = R at hR hmem
      obtain ⟨ro, rn, c, h1, h2, h3, h4, G1⟩ := hc k R hR
      clear hc
      obtain ⟨q1, q2⟩ := hl R hmem
      rw [G1.len] at q1
      obtain ⟨b1, o1, rfl, _⟩ := G1.cells (by omega)
      have hRt : (C.map (List.take n))[k]? = some (R.take n) := by rw [List.getElem?_map, hR]; rfl
      have G2 := G1.take q1
      have hmin : ¬ (rn : Int) < (n : Int) := by omega
      clear hR hmem G1 h2
      go_wp2_with fail
      refine (copyRows_any (some ⟨b1, o1, none⟩) n c (R.take n) wr G2 hn4 (fun t ht => by rw [rowOf_take9 ht]; exact q2 t ht)).mono ?_
      rintro e w2 ⟨g, vs, rfl, N2, B2⟩
      have s1 := F1.lt
      have F2 := (F1.below B2)
      have F3 := F2.step hlt hRt (fun h => by cases h) (N2.mono (by omega))
      have ff := F2.frozen k
      obtain ⟨v, hv⟩ := F2.cell hlt
      have B3 := below_then B1 B2
      clear N2 F1 hRt h3 h4 G2 hmin
      go_wp2
      go_roundg (m - (k + 1))
      case measure => omega
      case rel => exact ⟨k + 1, by omega, rfl, by go_num, F3, B3.setCell (Nat.le_refl _) _⟩
    · obtain rfl : k = m := by omega
      go_wp2
      go_ret
      exact ⟨rfl, F1, B1⟩
theorem Lists.cube {w : World} {g m : Nat} {C : List (List (List Int))} (h : Lists w g m m C) (hl : C.length = m) (hm : m ≤ 4096) {B : Nat} (hB : B ≤ g) : New B w (fun w => CubeAt w (some ⟨g, 0, none⟩) m C) := by
  have hlt := h.lt
  obtain ⟨cs, h1, hsz, h3⟩ := h.row
  intro w2 h2
  have hg := (h2 g hB hlt).trans h1
  refine ⟨hl, by omega, fun _ => ⟨g, 0, rfl, fun t R hR => ?_⟩⟩
  have htm : t < m := by rw [← hl]; exact (List.getElem?_eq_some_iff.1 hR).1
  obtain ⟨ro, n, vs, e, h4, N⟩ := h3 t R htm hR
  have GV := N w2 fun b hb hb2 => h2 b (Nat.le_trans (by omega) hb) hb2
  refine ⟨ro, n, n, ?_, h4, Nat.le_refl _, GV.max, GV.grid⟩
  rw [Nat.zero_add]
  unfold World.cell?
  simp only [hg]
  exact e
/-- The view of the first n tokens. -/
def cutV (X : Vw) (n : Nat) : Vw := ⟨X.T.take n, X.K.map (List.take n), X.V.map (List.take n)⟩
set_option maxRecDepth 100000 in
set_option maxHeartbeats 800000 in
theorem scut_any (vv : VwV) (X : Vw) (n : Nat) (w : World) (hv : VwAt w vv X) (hn1 : 1 ≤ n) (hnt : n ≤ X.T.length) (hT : X.T.length ≤ 4096) (hK : X.K.length ≤ 4096) (hV : X.V.length ≤ 4096) (hrk : ∀ R ∈ X.K, n ≤ R.length ∧ ∀ t, t < n → (rowOf R t).length ≤ 1048576) (hrv : ∀ R ∈ X.V, n ≤ R.length ∧ ∀ t, t < n → (rowOf R t).length ≤ 1048576) :
   Calls Tryd.prog 9 #[.agg vv.cells, .int .i64 (n : Int)] w fun e w' => ∃ v2 : VwV, e = .returned (.agg v2.cells) ∧ New w.heap.size w' (fun w => VwAt w v2 (cutV X n)) ∧ Below w.heap.size w w' := by
  have lt := hv.t.row.len
  have lk := hv.k.len
  have lv := hv.v.len
  have HT : Hid (∀ wv, Below w.heap.size w wv → IArg wv vv.t.ao vv.t.n vv.t.c X.T) := fun wv hb => hv.t.below hb
  have HK : Hid (∀ wv, Below w.heap.size w wv → CubeAt wv vv.k.ao vv.k.n X.K) := fun wv hb => hv.k.below hb
  have HV : Hid (∀ wv, Below w.heap.size w wv → CubeAt wv vv.v.ao vv.v.n X.V) := fun wv hb => hv.v.below hb
  have fit := hv.t.fit
  have mx := hv.t.max
  obtain ⟨tb, tq, hto, -⟩ := hv.t.row.cells (by omega)
  clear hv
  obtain ⟨⟨ta, tn, tc⟩, ⟨ka, kn, kc⟩, ⟨va, vn, vc⟩⟩ := vv
  unfold VwV.cells Sl.v
  simp only at *
  subst hto
  have lt' : tn ≤ 4096 := by omega
  have lk' : kn ≤ 4096 := by omega
  have lv' : vn ≤ 4096 := by omega
  have lk3 : (X.K.map (List.take n)).length = kn := by rw [List.length_map]; exact lk
  have lv3 : (X.V.map (List.take n)).length = vn := by rw [List.length_map]; exact lv
  rw [lt] at hnt hT
  clear lt lk lv hK hV
  have h0 : ¬ (n : Int) < 0 := by omega
  have h0' : ¬ (n : Int) = 0 := by omega
  have h0b : ((n : Int) == 0) = false := by simpa using h0'
  have hmn : ¬ (tn : Int) < (n : Int) := by omega
  have X0 := blk_new w 27 #[.slice (some ⟨tb, tq, none⟩) tn tc, .slice ka kn kc, .slice va vn vc]
  have B0 : Below w.heap.size w (w.alloc (.cells #[.slice (some ⟨tb, tq, none⟩) tn tc, .slice ka kn kc, .slice va vn vc] 27)) := (Below.refl _ _).alloc (Nat.le_refl _) _
  generalize hw0 : w.alloc (.cells #[.slice (some ⟨tb, tq, none⟩) tn tc, .slice ka kn kc, .slice va vn vc] 27) = w0 at *
  have lt0 := X0.lt
  have X1 := blk_new w0 27 #[.slice none 0 0, .slice none 0 0, .slice none 0 0]
  have B1 : Below w0.heap.size w0 (w0.alloc (.cells #[.slice none 0 0, .slice none 0 0, .slice none 0 0] 27)) := (Below.refl _ _).alloc (Nat.le_refl _) _
  generalize hw1 : w0.alloc (.cells #[.slice none 0 0, .slice none 0 0, .slice none 0 0] 27) = w1 at *
  replace X0 := X0.below B1
  have D := below_then B0 B1
  clear B0 B1
  have lt1 := X1.lt
  have a0 : w1.cell? ⟨w.heap.size, 0, none⟩ = some (.slice (some ⟨tb, tq, none⟩) tn tc) := X0.cell 0 rfl
  go_enter Tryd.func9, Tryd.ntmps9
  go_wp2_with fail
  clear hw0 hw1 a0
  replace X0 := X0.below ((Below.refl _ _).drew)
  replace X1 := X1.below ((Below.refl _ _).drew)
  replace D := D.drew
  replace lt1 : w0.heap.size < w1.drew.heap.size := lt1
  refine wp_region_held_drew (S := fun w' => Blk w' w.heap.size 27 #[.slice (some ⟨tb, tq, none⟩) tn tc, .slice ka kn kc, .slice va vn vc]) (by kernel_rfl) (X0) (fun hHeld => ?_)
  generalize hA : w1.drew = wA at *
  clear hA
  refine wpAnyH_take (i := 0) (v := (.pointer (some ⟨w.heap.size, 0, none⟩))) rfl (by kernel_rfl) (by kernel_rfl) (by kernel_rfl) (fun _ _ _ h => h) (Or.inl ⟨by rfl, ?_⟩) (by assumption) ?_
  · intro w' hSw
    go_simp
  simp only [List.getElem_toArray, List.getElem_cons_zero, Act.put, List.setIfInBounds_toArray, List.set_cons_zero, List.set_cons_succ]
  refine wpAnyH_take (i := 1) (v := (.slice (some ⟨tb, tq, none⟩) tn tc)) rfl (by kernel_rfl) (by kernel_rfl) (by kernel_rfl) (fun _ _ _ h => h) (Or.inl ⟨by rfl, ?_⟩) (by assumption) ?_
  · intro w' hSw
    have cc0 : w'.cell? ⟨w.heap.size, 0, none⟩ = some (.slice (some ⟨tb, tq, none⟩) tn tc) := hSw.cell 0 rfl
    go_simp
  simp only [List.getElem_toArray, List.getElem_cons_succ, List.getElem_cons_zero, Act.put, List.setIfInBounds_toArray, List.set_cons_zero, List.set_cons_succ]
  refine wpAnyH_take (i := 2) (v := (.int .i64 (n : Int))) rfl (by kernel_rfl) (by kernel_rfl) (by kernel_rfl) (fun _ _ _ h => h) (Or.inl ⟨by rfl, ?_⟩) (by assumption) ?_
  · intro w' hSw
    go_simp
  simp only [List.getElem_toArray, List.getElem_cons_succ, List.getElem_cons_zero, Act.put, List.setIfInBounds_toArray, List.set_cons_zero, List.set_cons_succ]
  refine wpAnyH_take (i := 3) (v := (.slice (some ⟨tb, tq, none⟩) n tc)) rfl (by kernel_rfl) (by kernel_rfl) (by kernel_rfl) (fun _ _ _ h => h) (Or.inl ⟨by rfl, ?_⟩) (by assumption) ?_
  · intro w' hSw
    (go_simp; intro hbad; exfalso; omega)
  simp only [List.getElem_toArray, List.getElem_cons_succ, List.getElem_cons_zero, Act.put, List.setIfInBounds_toArray, List.set_cons_zero, List.set_cons_succ]
  refine wpAnyH_take (i := 5) (v := (.pointer (some ⟨w.heap.size, 1, none⟩))) rfl (by kernel_rfl) (by kernel_rfl) (by kernel_rfl) (fun _ _ _ h => h) (Or.inl ⟨by rfl, ?_⟩) (by assumption) ?_
  · intro w' hSw
    go_simp
  simp only [List.getElem_toArray, List.getElem_cons_succ, List.getElem_cons_zero, Act.put, List.setIfInBounds_toArray, List.set_cons_zero, List.set_cons_succ]
  refine wpAnyH_take (i := 6) (v := (.pointer (some ⟨w.heap.size, 1, none⟩))) rfl (by kernel_rfl) (by kernel_rfl) (by kernel_rfl) (fun _ _ _ h => h) (Or.inl ⟨by rfl, ?_⟩) (by assumption) ?_
  · intro w' hSw
    go_simp
  simp only [List.getElem_toArray, List.getElem_cons_succ, List.getElem_cons_zero, Act.put, List.setIfInBounds_toArray, List.set_cons_zero, List.set_cons_succ]
  refine wpAnyH_take (i := 7) (v := (.slice ka kn kc)) rfl (by kernel_rfl) (by kernel_rfl) (by kernel_rfl) (fun _ _ _ h => h) (Or.inl ⟨by rfl, ?_⟩) (by assumption) ?_
  · intro w' hSw
    have cc1 : w'.cell? ⟨w.heap.size, 1, none⟩ = some (.slice ka kn kc) := hSw.cell 1 rfl
    go_simp
  simp only [List.getElem_toArray, List.getElem_cons_succ, List.getElem_cons_zero, Act.put, List.setIfInBounds_toArray, List.set_cons_zero, List.set_cons_succ]
  refine wpAnyH_take (i := 8) (v := (.int .i64 (n : Int))) rfl (by kernel_rfl) (by kernel_rfl) (by kernel_rfl) (fun _ _ _ h => h) (Or.inl ⟨by rfl, ?_⟩) (by assumption) ?_
  · intro w' hSw
    go_simp
  simp only [List.getElem_toArray, List.getElem_cons_succ, List.getElem_cons_zero, Act.put, List.setIfInBounds_toArray, List.set_cons_zero, List.set_cons_succ]
  refine wpAnyH_take (i := 10) (v := (.pointer (some ⟨w.heap.size, 1, none⟩))) rfl (by kernel_rfl) (by kernel_rfl) (by kernel_rfl) (fun _ _ _ h => h) (Or.inl ⟨by rfl, ?_⟩) (by assumption) ?_
  · intro w' hSw
    go_simp
  simp only [List.getElem_toArray, List.getElem_cons_succ, List.getElem_cons_zero, Act.put, List.setIfInBounds_toArray, List.set_cons_zero, List.set_cons_succ]
  refine wpAnyH_take (i := 11) (v := (.pointer (some ⟨w.heap.size, 2, none⟩))) rfl (by kernel_rfl) (by kernel_rfl) (by kernel_rfl) (fun _ _ _ h => h) (Or.inl ⟨by rfl, ?_⟩) (by assumption) ?_
  · intro w' hSw
    go_simp
  simp only [List.getElem_toArray, List.getElem_cons_succ, List.getElem_cons_zero, Act.put, List.setIfInBounds_toArray, List.set_cons_zero, List.set_cons_succ]
  refine wpAnyH_take (i := 12) (v := (.slice va vn vc)) rfl (by kernel_rfl) (by kernel_rfl) (by kernel_rfl) (fun _ _ _ h => h) (Or.inl ⟨by rfl, ?_⟩) (by assumption) ?_
  · intro w' hSw
    have cc2 : w'.cell? ⟨w.heap.size, 2, none⟩ = some (.slice va vn vc) := hSw.cell 2 rfl
    go_simp
  simp only [List.getElem_toArray, List.getElem_cons_succ, List.getElem_cons_zero, Act.put, List.setIfInBounds_toArray, List.set_cons_zero, List.set_cons_succ]
  refine wpAnyH_take (i := 13) (v := (.int .i64 (n : Int))) rfl (by kernel_rfl) (by kernel_rfl) (by kernel_rfl) (fun _ _ _ h => h) (Or.inl ⟨by rfl, ?_⟩) (by assumption) ?_
  · intro w' hSw
    go_simp
  simp only [List.getElem_toArray, List.getElem_cons_succ, List.getElem_cons_zero, Act.put, List.setIfInBounds_toArray, List.set_cons_zero, List.set_cons_succ]
  refine wpAnyH_ready (rs := [4]) (by kernel_rfl) (by simp) ?_
  refine AllReadyH.cons rfl (fun Kc hKc => ?_) AllReadyH.nil
  simp only [List.getElem_toArray, List.getElem_cons_succ, List.getElem_cons_zero]
  rw [if_pos (by rfl)]
  go_wp2_with fail
  refine (iclone_any (some ⟨tb, tq, none⟩) n tc (X.T.take n) _ ((HT.out _ D).take hnt) (by omega)).mono ?_
  rintro e w2 ⟨tv, rfl, OT, B2⟩
  have zA2 := B2.size
  replace X0 := X0.below B2
  replace X1 := X1.below B2
  replace D := below_then D B2
  go_wp2_with fail
  refine hKc.out _ _ (X0) (fun hHeld => ?_)
  clear hKc Kc
  refine wpAnyH_ready (rs := [9]) (by kernel_rfl) (by simp) ?_
  refine AllReadyH.cons rfl (fun Kc hKc => ?_) AllReadyH.nil
  simp only [List.getElem_toArray, List.getElem_cons_succ, List.getElem_cons_zero]
  rw [if_pos (by rfl)]
  go_wp2_with fail
  refine (firstRows_any ka kn kc n X.K _ (HK.out _ D) lk' hn1 (by omega) hrk).mono ?_
  rintro e w3 ⟨rfl, NK, B3⟩
  replace OT := owns_below OT B3
  have z3 := B3.size
  replace X0 := X0.below B3
  replace X1 := X1.below B3
  replace D := below_then D B3
  go_wp2_with fail
  refine hKc.out _ _ (X0) (fun hHeld => ?_)
  clear hKc Kc
  refine wpAnyH_ready (rs := [14]) (by kernel_rfl) (by simp) ?_
  refine AllReadyH.cons rfl (fun Kc hKc => ?_) AllReadyH.nil
  simp only [List.getElem_toArray, List.getElem_cons_succ, List.getElem_cons_zero]
  rw [if_pos (by rfl)]
  go_wp2_with fail
  refine (firstRows_any va vn vc n X.V _ (HV.out _ D) lv' hn1 (by omega) hrv).mono ?_
  rintro e w4 ⟨rfl, NV, B4⟩
  replace OT := owns_below OT B4
  replace NK := NK.below B4
  replace X0 := X0.below B4
  replace X1 := X1.below B4
  replace D := below_then D B4
  go_wp2_with fail
  refine hKc.out _ _ (X0) (fun hHeld => ?_)
  clear hKc Kc
  obtain ⟨ta2, tc2, rfl⟩ : ∃ a c, tv = .slice a n c := by
    rcases OT.2 with ⟨h3, h4⟩ | ⟨g, cap, cur, hv, _⟩
    · exact ⟨none, 0, by rw [h3, h4]⟩
    · exact ⟨_, _, hv⟩
  refine wpAnyH_take (i := 15) (v := (.agg #[.slice (some ⟨w2.heap.size, 0, none⟩) kn kn, .slice (some ⟨w3.heap.size, 0, none⟩) vn vn])) rfl (by kernel_rfl) (by kernel_rfl) (by kernel_rfl) (fun _ _ _ h => h) (Or.inl ⟨by rfl, ?_⟩) (by assumption) ?_
  · intro w' hSw
    go_simp
  simp only [List.getElem_toArray, List.getElem_cons_succ, List.getElem_cons_zero, Act.put, List.setIfInBounds_toArray, List.set_cons_zero, List.set_cons_succ]
  refine wpAnyH_take (i := 16) (v := (.agg #[.slice ta2 n tc2, .slice (some ⟨w2.heap.size, 0, none⟩) kn kn, .slice (some ⟨w3.heap.size, 0, none⟩) vn vn])) rfl (by kernel_rfl) (by kernel_rfl) (by kernel_rfl) (fun _ _ _ h => h) (Or.inl ⟨by rfl, ?_⟩) (by assumption) ?_
  · intro w' hSw
    go_simp
  simp only [List.getElem_toArray, List.getElem_cons_succ, List.getElem_cons_zero, Act.put, List.setIfInBounds_toArray, List.set_cons_zero, List.set_cons_succ]
  refine wpAnyH_ready (rs := [17]) (by kernel_rfl) (by simp) ?_
  refine AllReadyH.cons rfl (fun Kc hKc => ?_) AllReadyH.nil
  simp only [List.getElem_toArray, List.getElem_cons_succ, List.getElem_cons_zero]
  rw [if_pos (by rfl)]
  have hall : Array.all (#[.slice ta2 n tc2, .slice (some ⟨w2.heap.size, 0, none⟩) kn kn, .slice (some ⟨w3.heap.size, 0, none⟩) vn vn] : Array Value) (fun v => v.oneCell') = true := by simp [Value.oneCell']
  refine wp_store_row 27 _ _ rfl w0.heap.size #[.slice ta2 n tc2, .slice (some ⟨w2.heap.size, 0, none⟩) kn kn, .slice (some ⟨w3.heap.size, 0, none⟩) vn vn] rfl rfl 27 _ X1 Tryd.infoV rfl hall ?_
  refine hKc.out _ _ (Blk.of_block X0 (setRow_other _ _ _ _ (by omega))) (fun hHeld => ?_)
  clear hKc Kc
  refine wpAnyH_done (by kernel_rfl) ?_ _
  clear hHeld
  go_wp2
  refine bodyPost_ret (results_cell_row rfl _ _ w0.heap.size 27 _ _ _ rfl (X1.row _) Tryd.underlying27 rfl Tryd.infoV) rfl ?_
  have hsm2 : ∀ k, -9223372036854775808 ≤ el (X.T.take n) k ∧ el (X.T.take n) k ≤ 9223372036854775807 := ((HT.out w (Below.refl _ _)).take hnt).row.small
  have CK := (Hangs.row (NK.cube lk3 (by omega) (Nat.le_refl _)) (g := w0.heap.size) (by show ¬ (_ ≤ _); omega) #[.slice ta2 n tc2, .slice (some ⟨w2.heap.size, 0, none⟩) kn kn, .slice (some ⟨w3.heap.size, 0, none⟩) vn vn])
  have CV := (Hangs.row (NV.cube lv3 (by omega) (Nat.le_refl _)) (g := w0.heap.size) (by show ¬ (_ ≤ _); omega) #[.slice ta2 n tc2, .slice (some ⟨w2.heap.size, 0, none⟩) kn kn, .slice (some ⟨w3.heap.size, 0, none⟩) vn vn])
  have so : ∀ (b : Nat) (x : Array Value), b ≠ w0.heap.size → (w4.setRow w0.heap.size x).heap[b]? = w4.heap[b]? := fun b x hb => setRow_other _ _ _ _ hb
  have OT2 := owns_mono OT (Nat.le_refl _) (fun b hb => so b #[.slice ta2 n tc2, .slice (some ⟨w2.heap.size, 0, none⟩) kn kn, .slice (some ⟨w3.heap.size, 0, none⟩) vn vn] (by have := (OT.lt b hb).1; omega))
  refine ⟨⟨⟨ta2, n, tc2⟩, ⟨some ⟨w2.heap.size, 0, none⟩, kn, kn⟩, ⟨some ⟨w3.heap.size, 0, none⟩, vn, vn⟩⟩, rfl, ?_, below_setRow D (by omega) _⟩
  intro wz hz
  obtain ⟨x1, y1, e1, IT⟩ := IOwn.arg (A := X.T.take n) (owns_mono OT2 (Nat.le_refl _) (fun b hb => hz b (by have := (OT2.lt b hb).1; show _ ≤ _; omega) (OT2.lt b hb).2)) hsm2
  simp only [Value.slice.injEq, true_and] at e1
  obtain ⟨rfl, rfl⟩ := e1
  exact ⟨IT, CK wz (fun b hb hl => hz b (by show _ ≤ _; have hb' : _ ≤ b := hb; omega) hl), CV wz (fun b hb hl => hz b (by show _ ≤ _; have hb' : _ ≤ b := hb; omega) hl)⟩
end Go.Proofs.YtmdjlaileakbeaaDoor

/- The document's Same of lists of rows, and of views: of two that read alike it is true. -/
namespace Go.Proofs.YtmdjlaileakbeaaDoor
open Go.ChangeShapes Go.WideShapes Go.ChangeAt Go.RowKit
theorem drewN_cell (w : World) (m : Nat) {a : Addr} {v : Value} (h : w.cell? a = some v) : (w.drewN m).cell? a = some v := by
  have hlt := World.block_lt_of_cell? w _ h
  rw [(below_drewN (Below.refl w.heap.size w) m).cell hlt]; exact h
set_option maxHeartbeats 800000 in
theorem cubeSame_eq (ao bo : Option Addr) (n ca cb : Nat) (C : List (List (List Int))) (w : World) (hA : CubeAt w ao n C) (hB : CubeAt w bo n C) :
   Calls Tryd.prog 17 #[.slice ao n ca, .slice bo n cb] w fun e w' => e = .returned (.bool true) ∧ ∃ m, w' = w.drewN m := by
  have hn := hA.max
  have hl := hA.len
  go_enter Tryd.func17, Tryd.ntmps17
  go_wp2
  go_loopg [14] n (fun r i wr => ∃ k : Nat, k ≤ n ∧ r = n - k ∧ i = .int .i64 k ∧ ∃ m, wr = w.drewN m)
  case atStart => exact ⟨0, by omega, by omega, rfl, 0, rfl⟩
  case round =>
    obtain ⟨k, hk, rfl, rfl, m0, hw0⟩ := hrel
    have HW : Hid (wr = w.drewN m0) := hw0
    clear hw0
    by_cases hlt : k < n
    · obtain ⟨b, o, rfl, hc⟩ := hA.cells (by omega)
      obtain ⟨b', o', rfl, hc'⟩ := hB.cells (by omega)
      obtain ⟨R, hR⟩ : ∃ R, C[k]? = some R := ⟨_, List.getElem?_eq_getElem (show k < C.length by omega)⟩
      obtain ⟨ro, n1, c1, q1, -, -, -, G1⟩ := hc k R hR
      obtain ⟨ro2, n2, c2, q2, -, -, -, G2⟩ := hc' k R hR
      have e12 : n2 = n1 := by rw [← G2.len, G1.len]
      subst e12
      have hn2 := G1.max
      have Q1 : Hid (∀ m, (w.drewN m).cell? ⟨b, o + k, none⟩ = some (.slice ro n2 c1)) := fun m => drewN_cell w m q1
      have Q2 : Hid (∀ m, (w.drewN m).cell? ⟨b', o' + k, none⟩ = some (.slice ro2 n2 c2)) := fun m => drewN_cell w m q2
      clear hA hB hc hc' q1 q2
      have q1 : wr.cell? ⟨b, o + k, none⟩ = some (.slice ro n2 c1) := by rw [HW.out]; exact Q1.out _
      have q2 : wr.cell? ⟨b', o' + k, none⟩ = some (.slice ro2 n2 c2) := by rw [HW.out]; exact Q2.out _
      go_wp2_with fail
      go_quiet (fail)
      replace HW : Hid (wr.drewN nq = w.drewN (m0 + nq)) := by show _ = _; rw [HW.out, World.drewN_drewN]
      generalize wr.drewN nq = wq at *
      generalize m0 + nq = m1 at *
      clear q1 q2
      have q1 : wq.cell? ⟨b, o + k, none⟩ = some (.slice ro n2 c1) := by rw [HW.out]; exact Q1.out _
      go_wp2_with fail
      clear q1
      go_loopg [33] n2 (fun r i wr => ∃ j : Nat, j ≤ n2 ∧ r = n2 - j ∧ i = .int .i64 j ∧ ∃ m, wr = w.drewN m)
      case atStart => exact ⟨0, by omega, by omega, rfl, m1, HW.out⟩
      case round =>
        obtain ⟨j, hj, rfl, rfl, m2, hw2⟩ := hrel
        have HV : Hid (wr = w.drewN m2) := hw2
        clear hw2 HW
        by_cases hjt : j < n2
        · obtain ⟨d, p, rfl, hd⟩ := G1.cells (by omega)
          obtain ⟨d', p', rfl, hd'⟩ := G2.cells (by omega)
          obtain ⟨r1, l1, x1, s1, A1⟩ := hd j hjt
          obtain ⟨r2, l2, x2, s2, A2⟩ := hd' j hjt
          have el12 : l2 = l1 := by rw [← A2.row.len, A1.row.len]
          subst el12
          have q1 : wr.cell? ⟨b, o + k, none⟩ = some (.slice (some ⟨d, p, none⟩) n2 c1) := by rw [HV.out]; exact Q1.out _
          have q2 : wr.cell? ⟨b', o' + k, none⟩ = some (.slice (some ⟨d', p', none⟩) n2 c2) := by rw [HV.out]; exact Q2.out _
          have t1 : wr.cell? ⟨d, p + j, none⟩ = some (.slice r1 l2 x1) := by rw [HV.out]; exact drewN_cell w m2 s1
          have t2 : wr.cell? ⟨d', p' + j, none⟩ = some (.slice r2 l2 x2) := by rw [HV.out]; exact drewN_cell w m2 s2
          have SS := fun m => same_any r1 r2 l2 x1 x2 _ (wr.drewN m) (by rw [HV.out, World.drewN_drewN]; exact A1.row.below (below_drewN (Below.refl _ _) _)) (by rw [HV.out, World.drewN_drewN]; exact A2.row.below (below_drewN (Below.refl _ _) _))
          clear hd hd' s1 s2 A1 A2 G1 G2
          go_wp2_with fail
          go_quiet (first | (go_at_call 16; exact Calls.quiet_of (SS _)))
          go_wp2_with fail
          go_roundg (n2 - (j + 1))
          case measure => omega
          case rel => exact ⟨j + 1, by omega, rfl, by go_num, m2 + nq, by rw [HV.out, World.drewN_drewN]⟩
        · obtain rfl : j = n2 := by omega
          clear G1 G2
          go_wp2_with fail
          go_roundg (n - (k + 1))
          case measure => omega
          case rel => exact ⟨k + 1, by omega, rfl, by go_num, m2, HV.out⟩
    · obtain rfl : k = n := by omega
      go_wp2
      go_ret
      exact ⟨rfl, m0, HW.out⟩
/-- A view that was told, as cells. -/
structure ToldAt (w : World) (t k v : Sl) (X : Vw) : Prop where
  t : IArg w t.ao t.n t.c X.T
  k : CubeAt w k.ao k.n X.K
  v : CubeAt w v.ao v.n X.V
theorem ToldAt.below {w w' : World} {t k v : Sl} {X : Vw} (h : ToldAt w t k v X) (hb : Below w.heap.size w w') : ToldAt w' t k v X := ⟨h.t.below hb, h.k.below hb, h.v.below hb⟩
set_option maxHeartbeats 800000 in
theorem viewSame_eq (t k v t' k' v' : Sl) (X : Vw) (w : World) (h1 : ToldAt w t k v X) (h2 : ToldAt w t' k' v' X) :
   Calls Tryd.prog 6 #[.agg #[t.v, k.v, v.v], .agg #[t'.v, k'.v, v'.v]] w fun e w' => e = .returned (.bool true) ∧ Below w.heap.size w w' := by
  obtain ⟨tn, hn⟩ : ∃ tn, X.T.length = tn := ⟨_, rfl⟩
  obtain ⟨kn, hkn⟩ : ∃ kn, X.K.length = kn := ⟨_, rfl⟩
  obtain ⟨vn, hvn⟩ : ∃ vn, X.V.length = vn := ⟨_, rfl⟩
  have et1 := h1.t.row.len
  have et2 := h2.t.row.len
  have ek1 := h1.k.len
  have ek2 := h2.k.len
  have ev1 := h1.v.len
  have ev2 := h2.v.len
  rw [hn] at et1 et2
  rw [hkn] at ek1 ek2
  rw [hvn] at ev1 ev2
  have T1 : Hid (∀ wv, Below w.heap.size w wv → IArg wv t.ao t.n t.c X.T) := fun wv hb => h1.t.below hb
  have T2 : Hid (∀ wv, Below w.heap.size w wv → IArg wv t'.ao t'.n t'.c X.T) := fun wv hb => h2.t.below hb
  have K1 : Hid (∀ wv, Below w.heap.size w wv → CubeAt wv k.ao k.n X.K) := fun wv hb => h1.k.below hb
  have K2 : Hid (∀ wv, Below w.heap.size w wv → CubeAt wv k'.ao k'.n X.K) := fun wv hb => h2.k.below hb
  have V1 : Hid (∀ wv, Below w.heap.size w wv → CubeAt wv v.ao v.n X.V) := fun wv hb => h1.v.below hb
  have V2 : Hid (∀ wv, Below w.heap.size w wv → CubeAt wv v'.ao v'.n X.V) := fun wv hb => h2.v.below hb
  obtain ⟨ta, t1, tc⟩ := t
  obtain ⟨ta', t1', tc'⟩ := t'
  obtain ⟨ka, k1, kc⟩ := k
  obtain ⟨ka', k1', kc'⟩ := k'
  obtain ⟨va, v1, vc⟩ := v
  obtain ⟨va', v1', vc'⟩ := v'
  unfold Sl.v
  simp only at *
  subst et1 et2 ek1 ek2 ev1 ev2
  clear h1 h2 hn hkn hvn
  have X0 := blk_new w 29 #[.slice ta tn tc, .slice ka kn kc, .slice va vn vc]
  have B0 : Below w.heap.size w (w.alloc (.cells #[.slice ta tn tc, .slice ka kn kc, .slice va vn vc] 29)) := (Below.refl _ _).alloc (Nat.le_refl _) _
  generalize hw0 : w.alloc (.cells #[.slice ta tn tc, .slice ka kn kc, .slice va vn vc] 29) = w0 at *
  have X1 := blk_new w0 29 #[.slice ta' tn tc', .slice ka' kn kc', .slice va' vn vc']
  have B1 : Below w0.heap.size w0 (w0.alloc (.cells #[.slice ta' tn tc', .slice ka' kn kc', .slice va' vn vc'] 29)) := (Below.refl _ _).alloc (Nat.le_refl _) _
  generalize hw1 : w0.alloc (.cells #[.slice ta' tn tc', .slice ka' kn kc', .slice va' vn vc'] 29) = w1 at *
  replace X0 := X0.below B1
  have D1 := below_then B0 B1
  clear B0 B1
  have a0 : w1.cell? ⟨w.heap.size, 0, none⟩ = some (.slice ta tn tc) := X0.cell 0 rfl
  have a1 : w1.cell? ⟨w.heap.size, 1, none⟩ = some (.slice ka kn kc) := X0.cell 1 rfl
  have a2 : w1.cell? ⟨w.heap.size, 2, none⟩ = some (.slice va vn vc) := X0.cell 2 rfl
  have b0 : w1.cell? ⟨w0.heap.size, 0, none⟩ = some ((.slice ta' tn tc')) := X1.cell 0 rfl
  have b1 : w1.cell? ⟨w0.heap.size, 1, none⟩ = some ((.slice ka' kn kc')) := X1.cell 1 rfl
  have b2 : w1.cell? ⟨w0.heap.size, 2, none⟩ = some ((.slice va' vn vc')) := X1.cell 2 rfl
  have hn := (T1.out w (Below.refl _ _)).row.max
  go_enter Tryd.func6, Tryd.ntmps6
  go_wp2_with fail
  refine (cubeSame_eq ka ka' kn kc kc' X.K _ (K1.out _ D1) (K2.out _ D1)).mono ?_
  rintro e w2 ⟨rfl, m2, hm2⟩
  have B2 : Below w1.heap.size w1 w2 := by rw [hm2]; exact below_drewN (Below.refl _ _) m2
  clear hm2 a0 a1 a2 b0 b1 b2 hw0 hw1
  replace X0 := X0.below B2
  replace X1 := X1.below B2
  have D2 := below_then D1 B2
  have a0 : w2.cell? ⟨w.heap.size, 0, none⟩ = some (.slice ta tn tc) := X0.cell 0 rfl
  have a1 : w2.cell? ⟨w.heap.size, 1, none⟩ = some (.slice ka kn kc) := X0.cell 1 rfl
  have a2 : w2.cell? ⟨w.heap.size, 2, none⟩ = some (.slice va vn vc) := X0.cell 2 rfl
  have b0 : w2.cell? ⟨w0.heap.size, 0, none⟩ = some ((.slice ta' tn tc')) := X1.cell 0 rfl
  have b1 : w2.cell? ⟨w0.heap.size, 1, none⟩ = some ((.slice ka' kn kc')) := X1.cell 1 rfl
  have b2 : w2.cell? ⟨w0.heap.size, 2, none⟩ = some ((.slice va' vn vc')) := X1.cell 2 rfl
  go_wp2_with fail
  refine (cubeSame_eq va va' vn vc vc' X.V _ (V1.out _ D2) (V2.out _ D2)).mono ?_
  rintro e w3 ⟨rfl, m3, hm3⟩
  have B3 : Below w2.heap.size w2 w3 := by rw [hm3]; exact below_drewN (Below.refl _ _) m3
  clear hm3 a0 a1 a2 b0 b1 b2 D1
  replace X0 := X0.below B3
  replace X1 := X1.below B3
  have D3 := below_then D2 B3
  have a0 : w3.cell? ⟨w.heap.size, 0, none⟩ = some (.slice ta tn tc) := X0.cell 0 rfl
  have a1 : w3.cell? ⟨w.heap.size, 1, none⟩ = some (.slice ka kn kc) := X0.cell 1 rfl
  have a2 : w3.cell? ⟨w.heap.size, 2, none⟩ = some (.slice va vn vc) := X0.cell 2 rfl
  have b0 : w3.cell? ⟨w0.heap.size, 0, none⟩ = some ((.slice ta' tn tc')) := X1.cell 0 rfl
  have b1 : w3.cell? ⟨w0.heap.size, 1, none⟩ = some ((.slice ka' kn kc')) := X1.cell 1 rfl
  have b2 : w3.cell? ⟨w0.heap.size, 2, none⟩ = some ((.slice va' vn vc')) := X1.cell 2 rfl
  go_wp2_with fail
  clear a0 a1 a2 b0 b1 b2
  go_loopg [32] tn (fun r i wr => ∃ j : Nat, j ≤ tn ∧ r = tn - j ∧ i = .int .i64 j ∧ Blk wr w.heap.size 29 #[.slice ta tn tc, .slice ka kn kc, .slice va vn vc] ∧ Blk wr w0.heap.size 29 #[.slice ta' tn tc', .slice ka' kn kc', .slice va' vn vc'] ∧ Below w.heap.size w wr)
  case atStart => exact ⟨0, by omega, by omega, rfl, X0, X1, D3⟩
  case round =>
    clear X0 X1 D3 B3 B2 D2
    obtain ⟨j, hj, rfl, rfl, X0, X1, DR⟩ := hrel
    by_cases hjt : j < tn
    · obtain ⟨d, p, rfl, hd⟩ := (T1.out _ DR).row.cells (by omega)
      obtain ⟨d', p', rfl, hd'⟩ := (T2.out _ DR).row.cells (by omega)
      have c1 := hd j hjt
      have c2 := hd' j hjt
      clear hd hd'
      have a0 : wr.cell? ⟨w.heap.size, 0, none⟩ = some (.slice (some ⟨d, p, none⟩) tn tc) := X0.cell 0 rfl
      have b0 : wr.cell? ⟨w0.heap.size, 0, none⟩ = some (.slice (some ⟨d', p', none⟩) tn tc') := X1.cell 0 rfl
      go_wp2_with fail
      go_quiet (fail)
      go_wp2
      go_roundg (tn - (j + 1))
      case measure => omega
      case rel => exact ⟨j + 1, by omega, rfl, by go_num, X0.below (below_drewN (Below.refl _ _) nq), X1.below (below_drewN (Below.refl _ _) nq), below_drewN DR nq⟩
    · obtain rfl : j = tn := by omega
      go_wp2
      go_ret
      exact ⟨rfl, DR⟩
end Go.Proofs.YtmdjlaileakbeaaDoor

/- Rows of rows of the call's own: a copy of at most so many rows of at most 40 numbers. -/
namespace Go.Proofs.YtmdjlaileakbeaaDoor
open Go.ChangeShapes Go.WideShapes Go.ChangeAt Go.RowKit
theorem rowOf_snoc (R : List (List Int)) (Y : List Int) (t : Nat) : rowOf (R ++ [Y]) t = if t < R.length then rowOf R t else if t = R.length then Y else [] := by
  unfold rowOf
  simp only [List.getD_eq_getElem?_getD]
  by_cases h : t < R.length
  · rw [if_pos h, List.getElem?_append_left h]
  · rw [if_neg h, List.getElem?_append_right (by omega)]
    by_cases e : t = R.length
    · subst e; simp
    · rw [if_neg e, List.getElem?_eq_none (by simp; omega)]; rfl
/-- Block g is a row of rows, all of the call's own, one above the other. -/
structure OwnGrid (w : World) (B g k cap : Nat) (R : List (List Int)) : Prop where
  base : B ≤ g
  len : R.length = k
  own : ∃ vs, w.ownsRow B 42 1 (.slice (some ⟨g, 0, none⟩) k cap) k vs ∧ ∃ gs : Nat → Nat, (∀ t, t < k → ∃ m c, vs[t]? = some (.slice (some ⟨gs t, 0, none⟩) m c) ∧ Fresh w B (gs t) m c (rowOf R t)) ∧ ∀ t u, t < u → u < k → gs t < gs u
theorem own_block {w : World} {B e g k cap : Nat} {vs : List Value} (h : w.ownsRow B e 1 (.slice (some ⟨g, 0, none⟩) k cap) k vs) : B ≤ g ∧ ∃ cur, w.heap[g]? = some (.cells cur e (0, 0)) := by
  rcases h.2 with ⟨h3, _⟩ | ⟨g', c', cur, hv, hg, hh, _⟩
  · cases h3
  · simp only [Value.slice.injEq, Option.some.injEq, Addr.mk.injEq, and_true] at hv
    obtain ⟨rfl, -⟩ := hv
    exact ⟨hg, cur, hh⟩
theorem OwnGrid.grid {w : World} {B g k cap : Nat} {R : List (List Int)} (h : OwnGrid w B g k cap R) (hk : k ≤ 9223372036854775807) : GridAt w (some ⟨g, 0, none⟩) k R := by
  obtain ⟨vs, h1, gs, h2, _⟩ := h.own
  refine ⟨h.len, hk, fun _ => ⟨g, 0, rfl, fun t ht => ?_⟩⟩
  obtain ⟨m, c, e, F⟩ := h2 t ht
  have hc := h1.cells (g := g) rfl t _ e
  have e2 : (Addr.mk g 0 none).add t = ⟨g, t, none⟩ := by simp [Addr.add]; intro h; exact h.symm
  rw [e2] at hc
  exact ⟨_, _, _, by rw [Nat.zero_add]; exact hc, F.arg⟩
theorem OwnGrid.below {w w' : World} {B g k cap : Nat} {R : List (List Int)} (h : OwnGrid w B g k cap R) (hb : Below w.heap.size w w') : OwnGrid w' B g k cap R := by
  obtain ⟨vs, h1, gs, h2, h3⟩ := h.own
  exact ⟨h.base, h.len, vs, owns_below h1 hb, gs, fun t ht => let ⟨m, c, e, F⟩ := h2 t ht; ⟨m, c, e, F.below hb⟩, h3⟩
theorem ownGrid_empty (w : World) : OwnGrid (w.alloc (.cells #[] 42)) w.heap.size w.heap.size 0 0 [] :=
  ⟨Nat.le_refl _, rfl, [], ⟨rfl, Or.inr ⟨w.heap.size, 0, #[], rfl, Nat.le_refl _, heap_alloc_new _ _, Nat.le_refl _, by decide, rfl, rfl⟩⟩, fun t => t, fun t ht => by omega, fun t u _ hu => by omega⟩
/-- append(out, row), out a row of rows of the call's own, the row a newer one. -/
theorem wpList_append_grid {w : World} {ops : Array Oper} {rest : List Oper} {o : Oper} {a : Act} {Q : Exit → Act → World → Prop} (hgd : o.guard = none) (s x : Operand)
    (ho : o.op = .call { callee := .builtin .append, args := #[s, x], argTypes := #[60, 60] })
    (B g k cap : Nat) (R : List (List Int)) (hs : a.eval s = .slice (some ⟨g, 0, none⟩) k cap) (hF : OwnGrid w B g k cap R) (w1 : World) (hF1 : OwnGrid w1 B g k cap R) (hold : Below w1.heap.size w1 w)
    (bo g1 m1 c1 : Nat) (Y : List Int) (hx : a.eval x = .slice (some ⟨bo, 0, none⟩) 1 1) (hX : w.cell? ⟨bo, 0, none⟩ = some (.slice (some ⟨g1, 0, none⟩) m1 c1)) (hY : Fresh w B g1 m1 c1 Y) (hg1 : w1.heap.size ≤ g1)
    (hlen : k + 1 ≤ 1048576) (hB : B ≤ w.heap.size)
    (h : ∀ g' cap' w', OwnGrid w' B g' (k + 1) cap' (R ++ [Y]) → Below B w w' → wpList Tryd.prog ops Q rest (a.put o.dst (.slice (some ⟨g', 0, none⟩) (k + 1) cap')) w') : wpList Tryd.prog ops Q (o :: rest) a w := by
  obtain ⟨i0, hi, hz0, hz1, hz2⟩ := info_parts Tryd.infoRow
  obtain ⟨vs, h1', gs, h2', h3⟩ := hF1.own
  have h1 := owns_below h1' hold
  have h2 : ∀ t, t < k → ∃ m c, vs[t]? = some (.slice (some ⟨gs t, 0, none⟩) m c) ∧ Fresh w B (gs t) m c (rowOf R t) := fun t ht => let ⟨m, c, e, F⟩ := h2' t ht; ⟨m, c, e, F.below hold⟩
  have hlt : ∀ t, t < k → gs t < w1.heap.size := fun t ht => let ⟨m, c, e, F⟩ := h2' t ht; F.lt
  refine wpList_append_own w hgd s x 60 ho B 42 i0 (.slice none 0 0) 1 24 Tryd.underlying60 hi hz0 hz1 hz2 rfl (by decide) _ k _ hs h1 ⟨bo, 0, none⟩ 1 1 [.slice (some ⟨g1, 0, none⟩) m1 c1] hx rfl ?_ (by intro u hu; simp at hu; subst hu; rfl) (by unfold maxLen; omega) (by omega) hB ?_
  · intro j u hj
    match j, hj with
    | 0, hj =>
      simp at hj
      subst hj
      have e2 : (Addr.mk bo 0 none).add 0 = ⟨bo, 0, none⟩ := by simp [Addr.add]
      rw [e2, hX]
  · intro v' w' hown hg hnil
    have hb : Below B w w' := (Below.refl _ _).grown hg hB (fun k hk => by simp [Value.ownBlock] at hk; subst hk; exact hF.base)
    obtain ⟨_, cur, hcur⟩ := own_block h1
    have keep : ∀ {b m c : Nat} {Z : List Int}, Fresh w B b m c Z → Fresh w' B b m c Z := fun {b m c Z} F => F.of_block (hg.block b F.lt (by
      intro e
      simp [Value.ownBlock] at e
      subst e
      obtain ⟨c2, hb2, _⟩ := F.row
      rw [hcur] at hb2
      simp at hb2))
    have hlv : vs.length = k := by have := h1.1; omega
    have hown2 := hown
    obtain ⟨_, h4⟩ := hown2
    rcases h4 with ⟨_, h5⟩ | ⟨g', c', cur', hv, hg2, hr⟩
    · omega
    · subst hv
      refine h g' c' w' ⟨hg2, by simp [hF.len], _, hown, fun t => if t < k then gs t else g1, fun t ht => ?_, fun t u htu hu => ?_⟩ hb
      · rw [rowOf_snoc, hF.len]
        by_cases htk : t < k
        · obtain ⟨m3, c3, e3, F3⟩ := h2 t htk
          simp only [if_pos htk]
          exact ⟨m3, c3, by rw [List.getElem?_append_left (by omega)]; exact e3, keep F3⟩
        · obtain rfl : t = k := by omega
          simp only [Nat.lt_irrefl, if_false, if_pos]
          exact ⟨m1, c1, by rw [List.getElem?_append_right (by omega), hlv]; simp, keep hY⟩
      · simp only []
        rw [if_pos (show t < k by omega)]
        by_cases huk : u < k
        · rw [if_pos huk]; exact h3 t u htu huk
        · rw [if_neg huk]; have := hlt t (by omega); omega
theorem cellRow_new (w : World) (v : Value) : (w.alloc (.cells #[v] 42)).cell? ⟨w.heap.size, 0, none⟩ = some v := by
  have e := heap_alloc_new w (.cells #[v] 42)
  unfold World.cell?
  simp only [e]
  rfl
theorem take_snoc {R : List (List Int)} {k : Nat} (hk : k < R.length) : (R.take (k + 1)).map (List.take 40) = (R.take k).map (List.take 40) ++ [(rowOf R k).take 40] := by
  unfold rowOf
  rw [List.take_add_one, List.map_append, List.getD_eq_getElem?_getD, List.getElem?_eq_getElem hk]
  rfl
/-- At most lim rows of at most 40 numbers. -/
def rowsN (R : List (List Int)) (lim : Nat) : List (List Int) := (R.take lim).map (List.take 40)
set_option maxHeartbeats 1600000 in
theorem hrows_any (ao : Option Addr) (n ca : Nat) (R : List (List Int)) (lim : Nat) (li : Int) (w : World) (hli : li = lim) (hR : GridAt w ao n R) (hlim : lim ≤ 5000) :
   Calls Tryd.prog 22 #[.slice ao n ca, .int .i64 li] w fun e w' => ∃ g k cap, e = .returned (.slice (some ⟨g, 0, none⟩) k cap) ∧ k ≤ lim ∧ OwnGrid w' w.heap.size g k cap (rowsN R lim) ∧ Below w.heap.size w w' := by
  subst hli
  have hn := hR.max
  have hl := hR.len
  have F0 := ownGrid_empty w
  have B0 : Below w.heap.size w (w.alloc (.cells #[] 42)) := (Below.refl _ _).alloc (Nat.le_refl _) _
  have HR : Hid (∀ wv, Below w.heap.size w wv → GridAt wv ao n R) := fun wv hb => hR.below hb
  go_enter Tryd.func22, Tryd.ntmps22
  go_wp2
  generalize w.alloc (.cells #[] 42) = w0 at *
  clear hR
  go_loopg [5, 6] lim (fun r s i wr => ∃ (k g cap : Nat), k ≤ lim ∧ k ≤ n ∧ r = lim - k ∧ i = .int .i64 k ∧ s = .slice (some ⟨g, 0, none⟩) k cap ∧ OwnGrid wr w.heap.size g k cap (rowsN R k) ∧ Below w.heap.size w wr)
  case atStart => exact ⟨0, _, _, by omega, by omega, by omega, rfl, rfl, by unfold rowsN; rw [List.take_zero]; exact F0, B0⟩
  case round =>
    obtain ⟨k, g, cap, hk, hkn, rfl, rfl, rfl, F2, B2⟩ := hrel
    clear F0 B0
    by_cases hlt : k < n
    · by_cases h6 : k < lim
      · obtain ⟨b, o, rfl, hc⟩ := (HR.out _ B2).cells (by omega)
        obtain ⟨ro, m1, c1, q1, A1⟩ := hc k hlt
        have HS : Hid (rowsN R (k + 1) = rowsN R k ++ [(rowOf R k).take 40]) := take_snoc (by omega)
        have s2 := B2.size
        clear hc
        go_wp2_with (first | (go_at_call 36; refine (few_any _ _ _ _ 40 _ _ rfl A1 (by omega)).mono ?_; rintro e w3 ⟨g3, n3, c3, rfl, hm3, F3, B3⟩; have BL : Below w3.heap.size w3 (w3.alloc (.cells #[.slice (some ⟨g3, 0, none⟩) n3 c3] 42)) := (Below.refl _ _).alloc (Nat.le_refl _) _; have cX := cellRow_new w3 (.slice (some ⟨g3, 0, none⟩) n3 c3); have F4 := (F3.mono s2).below BL; have G4 := (F2.below B3).below BL; have s3 := B3.size; have s4 := BL.size; have B4 := below_then (below_then B2 B3) BL; have BO := below_then B3 BL; have hg3 := F3.base; generalize hw4 : w3.alloc (.cells #[.slice (some ⟨g3, 0, none⟩) n3 c3] 42) = w4 at *) | (at_builtin; refine wpList_append_grid rfl _ _ rfl w.heap.size g k cap _ rfl (by exact G4) _ (by exact F2) (by exact BO) w3.heap.size g3 n3 c3 _ rfl (by exact cX) (by exact F4) (by exact hg3) (by omega) (by omega) ?_; intro g' cap' w' F7 B7))
        go_roundg (lim - (k + 1))
        case measure => omega
        case rel => exact ⟨k + 1, _, _, by omega, by omega, rfl, by go_num, rfl, by rw [HS.out]; exact F7, B4.trans B7⟩
      · obtain rfl : k = lim := by omega
        go_wp2
        go_ret
        exact ⟨_, _, _, rfl, Nat.le_refl _, F2, B2⟩
    · obtain rfl : k = n := by omega
      have e : rowsN R k = rowsN R lim := by unfold rowsN; rw [List.take_of_length_le (by omega), List.take_of_length_le (by omega)]
      rw [e] at F2
      clear e
      go_wp2
      go_ret
      exact ⟨_, _, _, rfl, hk, F2, B2⟩
theorem rowsN_len (R : List (List Int)) (lim t : Nat) : (rowOf (rowsN R lim) t).length ≤ 40 := by
  unfold rowOf rowsN
  rw [List.getD_eq_getElem?_getD]
  cases e : ((R.take lim).map (List.take 40))[t]? with
  | none => simp
  | some x =>
    obtain ⟨y, _, rfl⟩ := List.mem_map.1 (List.mem_of_getElem? e)
    simp
    omega
end Go.Proofs.YtmdjlaileakbeaaDoor

/- append onto a row of the call's own: the row stays in its block, or goes into a new one; all other blocks stay. -/
namespace Go.Proofs.YtmdjlaileakbeaaDoor
open Go.ChangeShapes Go.WideShapes Go.ChangeAt Go.RowKit
section
variable {P : Program} (w : World)
theorem run_append_own2 (base : Nat) (t ty e : TypeId) (i : TypeInfo) (z : Value) (size bytes : Nat) (ht : P.underlying t = some (.slice e)) (hi : P.info? e = some i) (hz : i.zero = some z)
    (hsize : i.size = size) (hby : i.bytes = bytes) (hzs : z.cells.size = size) (hsz : 0 < size)
    (v : Value) (n : Nat) (xs : List Value) (hown : w.ownsRow base e size v n xs)
    (a : Addr) (m c : Nat) (news : List Value) (hl : news.length = m * size) (hnews : ∀ j u, news[j]? = some u → w.cell? (a.add j) = some u) (h1 : ∀ u ∈ news, u.oneCell' = true)
    (h63 : n + m ≤ maxLen) (hbytes : (n + m) * bytes ≤ 140737488355328) (hbase : base ≤ w.heap.size) :
    ∃ v' w', (Builtin.append_ #[t, t] ty #[v, .slice (some a) m c]).run P w = .ok v' w' ∧ w'.ownsRow base e size v' (n + m) (xs ++ news) ∧ w.grownBy w' v.ownBlock ∧
      (v' = .slice none 0 0 ↔ v = .slice none 0 0 ∧ m = 0) ∧ ∀ g', v'.ownBlock = some g' → v.ownBlock = some g' ∨ g' = w.heap.size := by
  obtain ⟨v', w', hr, h2, h3, h4⟩ := run_append_own (P := P) w base t ty e i z size bytes ht hi hz hsize hby hzs hsz v n xs hown a m c news hl hnews h1 h63 hbytes hbase
  refine ⟨v', w', hr, h2, h3, h4, ?_⟩
  subst hsize
  subst hby
  have hsmall : n + m ≤ 9223372036854775807 := by simp only [maxLen] at h63; omega
  rcases hown.2 with ⟨rfl, rfl⟩ | ⟨g, cap, cur, rfl, hbg, hg, hnc, hcm, hcs, htake⟩
  · by_cases hm : m = 0
    · have := h4.2 ⟨rfl, hm⟩
      subst this
      intro g' hg'
      cases hg'
    · have hr2 := run_append_nil (P := P) w t ty e i z ht hi hz a m c news hl hnews (by omega) (by omega) (by have hb := hbytes; simp only [Nat.zero_add] at hb; omega)
      rw [hr] at hr2
      injection hr2 with e1 e2
      subst e1
      intro g' hg'
      exact Or.inr (Option.some.inj hg').symm
  · by_cases hroom : n + m ≤ cap
    · have hfit : n * i.size + news.length ≤ cur.size := by rw [hl, hcs, ← Nat.add_mul]; exact Nat.mul_le_mul_right _ hroom
      have hr2 := run_append_room (P := P) w t ty e i ht hi g n cap cur hg a m c news hl hnews h1 hroom hfit
      rw [hr] at hr2
      injection hr2 with e1 e2
      subst e1
      intro g' hg'
      exact Or.inl hg'
    · have holds : ∀ j u, xs[j]? = some u → w.cell? ((⟨g, 0, none⟩ : Addr).add j) = some u := hown.cells (g := g) rfl
      have hr2 := run_append_grow (P := P) w t ty e i z ht hi hz ⟨g, 0, none⟩ n cap xs hown.1 holds a m c news hl hnews (by omega) (by omega) (growslice_fits (by omega) hbytes)
      rw [hr] at hr2
      injection hr2 with e1 e2
      subst e1
      intro g' hg'
      exact Or.inr (Option.some.inj hg').symm
theorem wp_append_own2 {o : Oper} {a : Act} {K : Act → World → Prop} {Q : Exit → Act → World → Prop} (s x : Operand) (t : TypeId)
    (ho : o.op = .call { callee := .builtin .append, args := #[s, x], argTypes := #[t, t] })
    (base : Nat) (e : TypeId) (i : TypeInfo) (z : Value) (size bytes : Nat) (ht : P.underlying t = some (.slice e)) (hi : P.info? e = some i) (hz : i.zero = some z)
    (hsize : i.size = size) (hby : i.bytes = bytes) (hzs : z.cells.size = size) (hsz : 0 < size)
    (v : Value) (n : Nat) (xs : List Value) (hs : a.eval s = v) (hown : w.ownsRow base e size v n xs)
    (ad : Addr) (m c : Nat) (news : List Value) (hx : a.eval x = .slice (some ad) m c) (hl : news.length = m * size) (hnews : ∀ j u, news[j]? = some u → w.cell? (ad.add j) = some u) (h1 : ∀ u ∈ news, u.oneCell' = true)
    (h63 : n + m ≤ maxLen) (hbytes : (n + m) * bytes ≤ 140737488355328) (hbase : base ≤ w.heap.size)
    (h : ∀ v' w', w'.ownsRow base e size v' (n + m) (xs ++ news) → w.grownBy w' v.ownBlock → (v' = .slice none 0 0 ↔ v = .slice none 0 0 ∧ m = 0) → (∀ g', v'.ownBlock = some g' → v.ownBlock = some g' ∨ g' = w.heap.size) → K (a.put o.dst v') w') : o.wp P a w K Q := by
  obtain ⟨v', w', hr, h2, h3, h4, h5⟩ := run_append_own2 (P := P) w base t o.type e i z size bytes ht hi hz hsize hby hzs hsz v n xs hown ad m c news hl hnews h1 h63 hbytes hbase
  unfold Oper.wp execOp
  simp only [ho, resolve, invoke, builtin, Sem.run_bind, Sem.run_pure, Result.andThen_ok, List.map_toArray, List.map_cons, List.map_nil, hs, hx, hr]
  exact h v' w' h2 h3 h4 h5
end
/-- append(out, x), out a row of the call's own, x one number: all other blocks stay. -/
theorem wpList_append_one2 {w : World} {ops : Array Oper} {rest : List Oper} {o : Oper} {a : Act} {Q : Exit → Act → World → Prop} (hgd : o.guard = none) (s x : Operand)
    (ho : o.op = .call { callee := .builtin .append, args := #[s, x], argTypes := #[42, 42] })
    (B g n cap : Nat) (A : List Int) (hs : a.eval s = .slice (some ⟨g, 0, none⟩) n cap) (hF : Fresh w B g n cap A)
    (bo : Nat) (y : Int) (hx : a.eval x = .slice (some ⟨bo, 0, none⟩) 1 1) (hX : RowAt w (some ⟨bo, 0, none⟩) 1 [y])
    (hlen : n + 1 ≤ 1048576) (hB : B ≤ w.heap.size)
    (h : ∀ g' cap' w', Fresh w' B g' (n + 1) cap' (A ++ [y]) → Below B w w' → (∀ b, b < w.heap.size → b ≠ g → w'.heap[b]? = w.heap[b]?) → (g' = g ∨ g' = w.heap.size) → wpList Tryd.prog ops Q rest (a.put o.dst (.slice (some ⟨g', 0, none⟩) (n + 1) cap')) w') : wpList Tryd.prog ops Q (o :: rest) a w := by
  obtain ⟨i0, hi, hz0, hz1, hz2⟩ := info_parts Tryd.infoNum
  refine wpList_plain hgd fun _ hK => wp_append_own2 w s x 42 ho B 80 i0 (.int .i32 0) 1 4 Tryd.underlying42 hi hz0 hz1 hz2 rfl (by decide) _ n _ hs hF.owns ⟨bo, 0, none⟩ 1 1 [.int .i32 y] hx rfl ?_ (ints_oneCell .i32 [y]) (by unfold maxLen; omega) (by omega) hB ?_
  · intro j u hj
    obtain ⟨b, o', e, hcell⟩ := hX.cells (by omega)
    simp only [Option.some.injEq, Addr.mk.injEq, and_true] at e
    obtain ⟨rfl, rfl⟩ := e
    match j, hj with
    | 0, hj =>
      have h0 := hcell 0 (by omega)
      simp at hj
      subst hj
      have e2 : (Addr.mk bo 0 none).add 0 = ⟨bo, 0 + 0, none⟩ := by simp [Addr.add]
      rw [e2, h0]
      rfl
  · intro v' w' hown hg hnil hwh
    have hb : Below B w w' := (Below.refl _ _).grown hg hB (fun k hk => by simp [Value.ownBlock] at hk; subst hk; exact hF.base)
    obtain ⟨h1, h2⟩ := hown
    rcases h2 with ⟨h3, h4⟩ | ⟨g', c', cur, hv, hr⟩
    · omega
    · subst hv
      have e : A.map (Value.int .i32) ++ [.int .i32 y] = (A ++ [y]).map (Value.int .i32) := by simp
      rw [e] at h1 hr
      obtain ⟨g2, e2, F⟩ := fresh_of_owns (w := w') (B := B) (n := n + 1) (cap := c') (ao := some ⟨g', 0, none⟩) (A := A ++ [y]) ⟨h1, Or.inr ⟨g', c', cur, rfl, hr⟩⟩ (hF.small.append hX.small) (by simp)
      simp only [Option.some.injEq, Addr.mk.injEq, and_true] at e2
      subst e2
      refine hK _ _ (h g' c' w' F hb (fun b hb2 hne => hg.block b hb2 (fun e => hne (Option.some.inj e))) ?_)
      rcases hwh g' rfl with hq | hq
      · exact Or.inl (Option.some.inj hq).symm
      · exact Or.inr hq
end Go.Proofs.YtmdjlaileakbeaaDoor

/- A region that draws its order: what a store waits for may be taken first, though the store turns what was read. -/
namespace Go.Proofs.YtmdjlaileakbeaaDoor
section
variable {P : Program} {ops : Array Oper} {Q : Exit → Act → World → Prop} {S : World → Prop} {z : Nat}
/-- Whatever comes up next; S holds as long as operation z hasn't come up. -/
def wpLate (P : Program) (ops : Array Oper) (Q : Exit → Act → World → Prop) (S : World → Prop) (z : Nat) : Nat → Array Bool → Act → World → Prop
  | 0, listed, a, w => Region.ready .any ops listed = [] ∧ Q .normal a w
  | fuel + 1, listed, a, w =>
    (Region.ready .any ops listed = [] → Q .normal a w) ∧
    ∀ i ∈ Region.ready .any ops listed, wpOp P ops Q i (fun a' w' => (i ≠ z → listed.getD z true = false → S w') ∧ wpLate P ops Q S z fuel (listed.setIfInBounds i true) a' w') a w
theorem wpAny_of_late : ∀ (fuel : Nat) (listed : Array Bool) (a : Act) (w : World), wpLate P ops Q S z fuel listed a w → wpAny P .any ops Q fuel listed a w
  | 0, _, _, _, h => h
  | fuel + 1, _, _, _, h => ⟨h.1, fun i hi => wpOp_mono (fun a' w' h' => wpAny_of_late fuel _ a' w' h'.2) (h.2 i hi)⟩
theorem wpLate_first {i : Nat} {oi oz : Oper} {v : Value} (hi : ops[i]? = some oi) (hz : ops[z]? = some oz) (hzi : ∃ e ∈ oz.after, Region.binds .any e = true ∧ e.on = i)
    (hsel : ∀ (j : Nat) (o : Oper) cs b, ops[j]? = some o → o.op ≠ .select cs b) (hQ : ∀ c a w, Q (.panic c) (a.put oi.dst v) w → Q (.panic c) a w) :
    ∀ (fuel : Nat) (listed : Array Bool) (a : Act) (w : World),
      (∀ j oj, ops[j]? = some oj → j ≠ i → listed.getD j true = false → (∀ e ∈ oj.after, Region.binds .any e = true → e.on ≠ i) → oi.apart ops oj = true) →
      i ∈ Region.ready .any ops listed → listed.getD z true = false → YieldsIf P ops S oi v a → S w →
      wpLate P ops Q S z fuel (listed.setIfInBounds i true) (a.put oi.dst v) w → wpLate P ops Q S z (fuel + 1) listed a w := by
  intro fuel
  induction fuel with
  | zero =>
    intro listed a w _ hr _ hy hS H
    refine ⟨fun h => (by rw [h] at hr; cases hr), fun j hj => ?_⟩
    by_cases hji : j = i
    · subst hji
      exact hy.wpOp hi hS ⟨fun _ _ => hS, H⟩
    · have hc := ready_mono hj hji
      rw [H.1] at hc
      cases hc
  | succ fuel ih =>
    intro listed a w hfree hr hu hy hS H
    refine ⟨fun h => (by rw [h] at hr; cases hr), fun j hj => ?_⟩
    by_cases hji : j = i
    · subst hji
      exact hy.wpOp hi hS ⟨fun _ _ => hS, H⟩
    · obtain ⟨hjun, oj, hoj, hall⟩ := mem_ready.1 hj
      have hnot : ∀ e ∈ oj.after, Region.binds .any e = true → e.on ≠ i := fun e he hb heq => by
        have h1 := hall e he hb
        have h0 := (mem_ready.1 hr).1
        rw [heq] at h1
        rcases Nat.lt_or_ge i listed.size with h' | h'
        · simp [h'] at h0 h1; rw [h0] at h1; cases h1
        · simp [Array.getElem?_eq_none h'] at h1
      have hjz : j ≠ z := by
        rintro rfl
        rw [hz] at hoj
        simp only [Option.some.injEq] at hoj
        subst hoj
        obtain ⟨e, h1, h2, h3⟩ := hzi
        exact hnot e h1 h2 h3
      have hiz : i ≠ z := by
        rintro rfl
        rw [hi] at hz
        simp only [Option.some.injEq] at hz
        subst hz
        obtain ⟨e, h1, h2, h3⟩ := hzi
        obtain ⟨hun, o', ho', hall'⟩ := mem_ready.1 hr
        rw [hi] at ho'
        simp only [Option.some.injEq] at ho'
        subst ho'
        have h4 := hall' e h1 h2
        rw [h3] at h4
        rcases Nat.lt_or_ge i listed.size with h' | h'
        · simp [h'] at hun h4; rw [hun] at h4; cases h4
        · simp [Array.getElem?_eq_none h'] at h4
      have h2 := wpOp_putIf hoj (hfree j oj hoj hji hjun hnot) (fun cs b => hsel i oi cs b hi) (fun cs b => hsel j oj cs b hoj) hQ hy (H.2 j (ready_mono hj hji))
      have hfree' : ∀ k ok, ops[k]? = some ok → k ≠ i → (listed.setIfInBounds j true).getD k true = false →
          (∀ e ∈ ok.after, Region.binds .any e = true → e.on ≠ i) → oi.apart ops ok = true := fun k ok hk hki hun hno => by
        refine hfree k ok hk hki ?_ hno
        by_cases hjk : j = k
        · subst hjk; exact hjun
        · rw [getD_set_ne true hjk] at hun; exact hun
      refine wpOp_mono (fun a' w' h3 => ?_) h2
      have hS' : S w' := h3.2.1 hjz (by rw [getD_set_ne true hiz]; exact hu)
      refine ⟨fun _ _ => hS', ih (listed.setIfInBounds j true) a' w' hfree' (ready_mono hr (Ne.symm hji)) (by rw [getD_set_ne true hjz]; exact hu) h3.1 hS' ?_⟩
      rw [Array.setIfInBounds_comm _ _ hji]
      exact h3.2.2
/-- The same of an operation that yields its value in whatever world: z needn't wait for it. -/
theorem wpLate_plain {i : Nat} {oi : Oper} {v : Value} (hi : ops[i]? = some oi) (hiz : i ≠ z)
    (hsel : ∀ (j : Nat) (o : Oper) cs b, ops[j]? = some o → o.op ≠ .select cs b) (hQ : ∀ c a w, Q (.panic c) (a.put oi.dst v) w → Q (.panic c) a w) :
    ∀ (fuel : Nat) (listed : Array Bool) (a : Act) (w : World),
      (∀ j oj, ops[j]? = some oj → j ≠ i → listed.getD j true = false → (∀ e ∈ oj.after, Region.binds .any e = true → e.on ≠ i) → oi.apart ops oj = true) →
      i ∈ Region.ready .any ops listed → (listed.getD z true = false → S w) → YieldsIf P ops (fun _ => True) oi v a →
      wpLate P ops Q S z fuel (listed.setIfInBounds i true) (a.put oi.dst v) w → wpLate P ops Q S z (fuel + 1) listed a w := by
  intro fuel
  induction fuel with
  | zero =>
    intro listed a w _ hr hS hy H
    refine ⟨fun h => (by rw [h] at hr; cases hr), fun j hj => ?_⟩
    by_cases hji : j = i
    · subst hji
      exact hy.wpOp hi trivial ⟨fun _ => hS, H⟩
    · have hc := ready_mono hj hji
      rw [H.1] at hc
      cases hc
  | succ fuel ih =>
    intro listed a w hfree hr hS hy H
    refine ⟨fun h => (by rw [h] at hr; cases hr), fun j hj => ?_⟩
    by_cases hji : j = i
    · subst hji
      exact hy.wpOp hi trivial ⟨fun _ => hS, H⟩
    · obtain ⟨hjun, oj, hoj, hall⟩ := mem_ready.1 hj
      have hnot : ∀ e ∈ oj.after, Region.binds .any e = true → e.on ≠ i := fun e he hb heq => by
        have h1 := hall e he hb
        have h0 := (mem_ready.1 hr).1
        rw [heq] at h1
        rcases Nat.lt_or_ge i listed.size with h' | h'
        · simp [h'] at h0 h1; rw [h0] at h1; cases h1
        · simp [Array.getElem?_eq_none h'] at h1
      have h2 := wpOp_putIf hoj (hfree j oj hoj hji hjun hnot) (fun cs b => hsel i oi cs b hi) (fun cs b => hsel j oj cs b hoj) hQ hy (H.2 j (ready_mono hj hji))
      have hfree' : ∀ k ok, ops[k]? = some ok → k ≠ i → (listed.setIfInBounds j true).getD k true = false →
          (∀ e ∈ ok.after, Region.binds .any e = true → e.on ≠ i) → oi.apart ops ok = true := fun k ok hk hki hun hno => by
        refine hfree k ok hk hki ?_ hno
        by_cases hjk : j = k
        · subst hjk; exact hjun
        · rw [getD_set_ne true hjk] at hun; exact hun
      refine wpOp_mono (fun a' w' h3 => ?_) h2
      have hS' : j ≠ z → listed.getD z true = false → S w' := fun hjz hu => h3.2.1 hjz (by rw [getD_set_ne true hiz]; exact hu)
      refine ⟨hS', ih (listed.setIfInBounds j true) a' w' hfree' (ready_mono hr (Ne.symm hji)) (fun hu => ?_) h3.1 ?_⟩
      · by_cases hjz : j = z
        · subst hjz
          have hlt : j < listed.size := by
            rcases Nat.lt_or_ge j listed.size with h' | h'
            · exact h'
            · simp [h'] at hjun
          simp [hlt] at hu
        · exact hS' hjz (by rw [getD_set_ne true hjz] at hu; exact hu)
      · rw [Array.setIfInBounds_comm _ _ hji]
        exact h3.2.2
/-- Does operation z wait for i? -/
def waitsOn (ops : Array Oper) (z i : Nat) : Bool := ((ops[z]?).map fun o => o.after.any fun e => Region.binds .any e && (e.on == i)).getD false
theorem waitsOn_spec {i : Nat} (h : waitsOn ops z i = true) : ∃ oz, ops[z]? = some oz ∧ ∃ e ∈ oz.after, Region.binds .any e = true ∧ e.on = i := by
  unfold waitsOn at h
  cases e : ops[z]? with
  | none => rw [e] at h; simp at h
  | some oz =>
    rw [e] at h
    simp only [Option.map_some, Option.getD_some, Array.any_eq_true, Bool.and_eq_true, beq_iff_eq] at h
    obtain ⟨k, hk, h1, h2⟩ := h
    exact ⟨oz, rfl, _, Array.getElem_mem hk, h1, h2⟩
/-- Take number i first. -/
theorem wpLate_take {i : Nat} {oi : Oper} {v : Value} {fuel : Nat} {listed : Array Bool} {a : Act} {w : World} (hi : ops[i]? = some oi) (hz : waitsOn ops z i = true) (hu : listed.getD z true = false)
    (hs : Region.noSelect ops = true) (hf : Region.free .any ops listed i = true) (hr : (Region.ready .any ops listed).contains i = true)
    (hQ : ∀ c a w, Q (.panic c) (a.put oi.dst v) w → Q (.panic c) a w) (hy : YieldsIf P ops S oi v a) (hS : S w)
    (h : wpLate P ops Q S z fuel (listed.setIfInBounds i true) (a.put oi.dst v) w) : wpLate P ops Q S z (fuel + 1) listed a w := by
  obtain ⟨oz, h1, h2⟩ := waitsOn_spec hz
  exact wpLate_first hi h1 h2 (Region.noSelect_spec hs) hQ fuel listed a w (Region.free_spec hi hf) (by simpa using hr) hu hy hS h
/-- Take number i first: it yields its value in whatever world. -/
theorem wpLate_pure {i : Nat} {oi : Oper} {v : Value} {fuel : Nat} {listed : Array Bool} {a : Act} {w : World} (hi : ops[i]? = some oi) (hiz : i ≠ z)
    (hs : Region.noSelect ops = true) (hf : Region.free .any ops listed i = true) (hr : (Region.ready .any ops listed).contains i = true)
    (hQ : ∀ c a w, Q (.panic c) (a.put oi.dst v) w → Q (.panic c) a w) (hy : YieldsIf P ops (fun _ => True) oi v a) (hS : listed.getD z true = false → S w)
    (h : wpLate P ops Q S z fuel (listed.setIfInBounds i true) (a.put oi.dst v) w) : wpLate P ops Q S z (fuel + 1) listed a w :=
  wpLate_plain hi hiz (Region.noSelect_spec hs) hQ fuel listed a w (Region.free_spec hi hf) (by simpa using hr) hS hy h
/-- One of those that may come up. -/
theorem wpLate_nil {fuel : Nat} {listed : Array Bool} {a : Act} {w : World} : ∀ i ∈ ([] : List Nat), wpOp P ops Q i (fun a' w' => (i ≠ z → listed.getD z true = false → S w') ∧ wpLate P ops Q S z fuel (listed.setIfInBounds i true) a' w') a w := fun _ h => by cases h
theorem wpLate_cons {fuel : Nat} {listed : Array Bool} {a : Act} {w : World} {i : Nat} {o : Oper} {rs : List Nat} (ho : ops[i]? = some o)
    (h : ∀ K' : Act → World → Prop, Shut (∀ a w, (i ≠ z → listed.getD z true = false → S w) → wpLate P ops Q S z fuel (listed.setIfInBounds i true) a w → K' a w) → if Region.wanted o (yielded ops a.tmps) = true then Oper.wp P o a w K' Q else K' (a.put o.dst undef) w)
    (hs : ∀ j ∈ rs, wpOp P ops Q j (fun a' w' => (j ≠ z → listed.getD z true = false → S w') ∧ wpLate P ops Q S z fuel (listed.setIfInBounds j true) a' w') a w) :
    ∀ j ∈ i :: rs, wpOp P ops Q j (fun a' w' => (j ≠ z → listed.getD z true = false → S w') ∧ wpLate P ops Q S z fuel (listed.setIfInBounds j true) a' w') a w := fun j hj => by
  rcases List.mem_cons.1 hj with rfl | hj
  · exact wpOp_step ho (fun K' hK => h K' (fun a w hS hW => hK a w ⟨hS, hW⟩))
  · exact hs j hj
theorem wpLate_ready {rs : List Nat} {fuel : Nat} {listed : Array Bool} {a : Act} {w : World} (hr : Region.ready .any ops listed = rs) (hne : rs ≠ [])
    (h : ∀ i ∈ rs, wpOp P ops Q i (fun a' w' => (i ≠ z → listed.getD z true = false → S w') ∧ wpLate P ops Q S z fuel (listed.setIfInBounds i true) a' w') a w) : wpLate P ops Q S z (fuel + 1) listed a w :=
  ⟨fun h0 => absurd (hr ▸ h0) hne, hr ▸ h⟩
theorem wpLate_done {listed : Array Bool} {a : Act} {w : World} (hr : Region.ready .any ops listed = []) (h : Q .normal a w) : ∀ fuel, wpLate P ops Q S z fuel listed a w
  | 0 => ⟨hr, h⟩
  | _ + 1 => ⟨fun _ => h, by rw [hr]; simp⟩
theorem wp_region_late {id : Nat} {a : Act} {w : World} (z : Nat) (hm : P.follows .mixedOrders = true) (hS : S w.drew)
    (h : S w.drew → wpLate P ops Q S z ops.size (Array.replicate ops.size false) a w.drew) : (Code.region id ops true).wp P Q a w :=
  wp_region_any hm (wpAny_of_late _ _ _ _ (h hS))
end
end Go.Proofs.YtmdjlaileakbeaaDoor

/- Package step: append of a row to a full list of rows; what a token more makes of a view. -/
namespace Go.Proofs.YtmdjlaileakbeaaDoor
open Go.ChangeShapes Go.WideShapes Go.ChangeAt Go.RowKit
theorem front_get (l : List Value) (z : Array Value) {j : Nat} {u : Value} (h : l[j]? = some u) : (l.toArray ++ z)[j]? = some u := by
  have hj := (List.getElem?_eq_some_iff.1 h).1
  rw [Array.getElem?_append_left (by simpa using hj)]
  simpa using h
/-- append(rows, row), rows a full list. -/
theorem wp_append_full {o : Oper} {a : Act} {w : World} {K : Act → World → Prop} {Q : Exit → Act → World → Prop} (s x : Operand) (hop : o.op = .call { callee := .builtin .append, args := #[s, x], argTypes := #[60, 60] })
    (p : Nat → Prop) (ro : Option Addr) (n : Nat) (vs : List Value) (R : List (List Int)) (hs : a.eval s = .slice ro n n) (hnil : ro = none → n = 0) (hG : Hangs p w (fun w => GridV w ro n vs R))
    (bo g1 m1 c1 : Nat) (Y : List Int) (hx : a.eval x = .slice (some ⟨bo, 0, none⟩) 1 1) (hX : w.cell? ⟨bo, 0, none⟩ = some (.slice (some ⟨g1, 0, none⟩) m1 c1)) (hY : Hangs p w (fun w => Arg w (some ⟨g1, 0, none⟩) m1 c1 Y)) (hn : n ≤ 4096) (hp : p w.heap.size)
    (h : ∀ cap w', n + 1 ≤ cap → cap ≤ 9223372036854775807 → Hangs p w' (fun wv => GridV wv (some ⟨w.heap.size, 0, none⟩) (n + 1) (vs ++ [.slice (some ⟨g1, 0, none⟩) m1 c1]) (R ++ [Y])) → Below w.heap.size w w' → K (a.put o.dst (.slice (some ⟨w.heap.size, 0, none⟩) (n + 1) cap)) w') : Oper.wp Tryd.prog o a w K Q := by
  obtain ⟨i0, hi, hz0, hz1, hz2⟩ := info_parts Tryd.infoRow
  have hnews : ∀ j u, [Value.slice (some ⟨g1, 0, none⟩) m1 c1][j]? = some u → w.cell? ((Addr.mk bo 0 none).add j) = some u := by
    intro j u hj
    match j, hj with
    | 0, hj =>
      simp at hj
      subst hj
      have e2 : (Addr.mk bo 0 none).add 0 = ⟨bo, 0, none⟩ := by simp [Addr.add]
      rw [e2, hX]
  have hgo : ∀ (cs : Array Value) (cap : Nat), (∀ (j : Nat) (u : Value), (vs ++ [.slice (some ⟨g1, 0, none⟩) m1 c1])[j]? = some u → cs[j]? = some u) → n + 1 ≤ cap → cap ≤ 9223372036854775807 → K (a.put o.dst (.slice (some ⟨w.heap.size, 0, none⟩) (n + 1) cap)) (w.drew.alloc (.cells cs 42)) := by
    intro cs cap hcs h1 h2
    have hb : Below w.heap.size w (w.drew.alloc (.cells cs 42)) := ((Below.refl _ _).drew).alloc (Nat.le_refl _) _
    refine h cap _ h1 h2 (fun w2 h3 => ?_) hb
    have hnew := heap_alloc_new w.drew (.cells cs 42)
    have hg : w2.heap[w.heap.size]? = some (.cells cs 42 (0, 0)) := (h3 w.heap.size hp (by simp)).trans hnew
    have ho : ∀ b, p b → b < w.heap.size → w2.heap[b]? = w.heap[b]? := fun b hb1 hb2 => (h3 b hb1 (Nat.lt_of_lt_of_le hb2 hb.size)).trans (hb.block b hb2)
    have V := hG w2 ho
    have A := hY w2 ho
    refine ⟨V.rows.snoc A, by simp [V.len], by omega, fun _ => ⟨w.heap.size, 0, rfl, fun j u hj => ?_⟩⟩
    rw [Nat.zero_add]
    unfold World.cell?
    simp only [hg]
    exact hcs j u hj
  have V0 := hG.now
  have hmx := fun (nd od : Nat) (hh : nd ≤ maxLen) => grownCap_le_maxLen w nd od 42 hh
  have hge := fun (nd od : Nat) => grownCap_ge w nd od 42
  cases ro with
  | none =>
    obtain rfl : n = 0 := hnil rfl
    obtain rfl : vs = [] := List.length_eq_zero_iff.1 V0.len
    have hrun := run_append_nil (P := Tryd.prog) w 60 o.type 42 i0 (.slice none 0 0) Tryd.underlying60 hi hz0 ⟨bo, 0, none⟩ 1 1 [.slice (some ⟨g1, 0, none⟩) m1 c1] (by simp [hz1]) hnews (by omega) (by omega) (by rw [hz2]; omega)
    unfold Oper.wp
    simp [execOp, hop, resolve, invoke, builtin, hs, hx, hrun, Result.andThen]
    refine hgo _ _ (fun j u hj => ?_) (hge 1 0) (by have := hmx 1 0 (by decide); unfold maxLen at this; omega)
    exact front_get [.slice (some ⟨g1, 0, none⟩) m1 c1] _ hj
  | some ad =>
    have holds : ∀ j v, vs[j]? = some v → w.cell? (ad.add j) = some v := fun j v hj => by
      have hjn : j < n := by rw [← V0.len]; exact (List.getElem?_eq_some_iff.1 hj).1
      obtain ⟨b, o', e, hc⟩ := V0.cells (by omega)
      simp only [Option.some.injEq] at e
      subst e
      have e2 : (Addr.mk b o' none).add j = ⟨b, o' + j, none⟩ := by simp [Addr.add]
      rw [e2]
      exact hc j v hj
    have hrun := run_append_grow (P := Tryd.prog) w 60 o.type 42 i0 (.slice none 0 0) Tryd.underlying60 hi hz0 ad n n vs (by rw [hz1, V0.len]; omega) holds ⟨bo, 0, none⟩ 1 1 [.slice (some ⟨g1, 0, none⟩) m1 c1] (by simp [hz1]) hnews (by omega) (by omega) (growslice_fits (by omega) (by rw [hz2]; omega))
    unfold Oper.wp
    simp [execOp, hop, resolve, invoke, builtin, hs, hx, hrun, Result.andThen]
    refine hgo _ _ (fun j u hj => ?_) (hge (n + 1) n) (by have := hmx (n + 1) n (by unfold maxLen; omega); unfold maxLen at this; omega)
    exact front_get (vs ++ [.slice (some ⟨g1, 0, none⟩) m1 c1]) _ hj
end Go.Proofs.YtmdjlaileakbeaaDoor
