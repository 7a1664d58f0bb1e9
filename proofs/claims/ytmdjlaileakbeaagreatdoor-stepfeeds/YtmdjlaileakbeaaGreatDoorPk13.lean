/- Contracts of the program's functions, part 13 of 19: what each call returns and leaves of memory. -/
import Derived.Test.YtmdjlaileakbeaaGreatDoorPk12
import Derived.Test.YtmdjlaileakbeaaGreatDoorPk11
import Derived.Test.YtmdjlaileakbeaaGreatDoorPk10
import Derived.Test.YtmdjlaileakbeaaGreatDoorPk5
import Derived.Test.YtmdjlaileakbeaaGreatDoorPk4
/- Fits of layer 9, of any view and any configuration: the program's and the document's answer alike. -/
namespace Go.Proofs.YtmdjlaileakbeaaGreatDoor
open Go.ChangeShapes Go.WideShapes Go.ChangeAt Go.RowKit
/-- Is there a list a layer, each with a row a place, each of so many numbers? -/
def lfB (C : List (List (List Int))) (places dim L : Int) : Bool := decide ((C.length : Int) = L) && rfB C places dim
/-- Has a view the form of a configuration? -/
def vwB (Vo D L : Int) (X : Vw) : Bool := if X.T.length = 0 then decide (X.K.length = 0) && decide (X.V.length = 0) else decide (X.T.length ≤ 128) && X.T.all (tokB Vo) && (lfB X.K X.T.length D L && lfB X.V X.T.length D L)
set_option maxRecDepth 100000 in
set_option maxHeartbeats 1600000 in
theorem listsFitG_any (Vo dim Hd H L : Int) (ao : Option Addr) (m ca : Nat) (C : List (List (List Int))) (places : Int) (w : World) (hC : CubeAt w ao m C) :
   Calls Tryz.prog 27 #[.agg (cfgC Vo dim Hd H L), .slice ao m ca, .int .i64 places] w fun e w' => e = .returned (.bool (lfB C places dim L)) ∧ Below w.heap.size w w' := by
  have hm := hC.max
  have HLN : Hid (C.length = m) := hC.len
  have X0 := blk_new w 23 (cfgC Vo dim Hd H L)
  have B0 : Below w.heap.size w (w.alloc (.cells (cfgC Vo dim Hd H L) 23)) := (Below.refl _ _).alloc (Nat.le_refl _) _
  unfold cfgC at *
  generalize hw0 : w.alloc (.cells #[.int .i64 Vo, .int .i64 dim, .int .i64 Hd, .int .i64 H, .int .i64 L] 23) = w0 at *
  have a1 : w0.cell? ⟨w.heap.size, 1, none⟩ = some (.int .i64 dim) := X0.cell 1 rfl
  have a4 : w0.cell? ⟨w.heap.size, 4, none⟩ = some (.int .i64 L) := X0.cell 4 rfl
  replace hC := hC.below B0
  clear X0
  obtain ⟨q, hq⟩ : ∃ q, rfB C places dim = q := ⟨_, rfl⟩
  have HQ : Hid (rfB C places dim = q) := hq
  by_cases hL : (m : Int) = L
  rotate_left
  · have hL2 : ((m : Int) == L) = false := by simpa using hL
    have HR : Hid (lfB C places dim L = false) := by
      show _ = _
      unfold lfB
      rw [HLN.out, show decide ((m : Int) = L) = false from decide_eq_false hL, Bool.false_and]
    clear hq hL hC
    go_enter Tryz.func27, Tryz.ntmps27
    go_wp2
    go_ret
    exact ⟨by rw [HR.out]; rfl, B0⟩
  have hL2 : ((m : Int) == L) = true := by simpa using hL
  have hL3 : ((m : Int) != L) = false := by simp [bne, hL2]
  have HLF : Hid (lfB C places dim L = q) := by
    show _ = _
    unfold lfB
    rw [HLN.out, show decide ((m : Int) = L) = true from decide_eq_true hL, Bool.true_and, hq]
  rw [HLF.out]
  clear hq hL
  go_enter Tryz.func27, Tryz.ntmps27
  go_wp2
  clear hL2 hL3 a4
  go_loopg [18] m (fun r i wr => ∃ k : Nat, k ≤ m ∧ r = m - k ∧ i = .int .i64 (k : Int) ∧ wr = w0 ∧ ∀ t R, t < k → C[t]? = some R → rfR R places dim = true)
  case atStart => exact ⟨0, by omega, by omega, rfl, rfl, fun t R h => by omega⟩
  case round =>
    obtain ⟨k, hk, rfl, rfl, hwr, HA⟩ := hrel
    obtain rfl : w0 = wr := hwr.symm
    by_cases hlt : k < m
    · obtain ⟨b, o, rfl, hc⟩ := hC.cells (by omega)
      have hR : C[k]? = some (C[k]'(by rw [HLN.out]; exact hlt)) := List.getElem?_eq_getElem _
      generalize C[k]'(by rw [HLN.out]; exact hlt) = R at hR
      obtain ⟨ro, n, c, k1, k2, k3, k4, G⟩ := hc k R hR
      have hn := G.max
      have hgl := G.len
      have HGL : Hid (R.length = n) := hgl
      clear hc hC hgl
      by_cases hnp : (n : Int) = places
      · have hnp2 : ((n : Int) == places) = true := by simpa using hnp
        have HNP : Hid ((n : Int) = places) := hnp
        clear hnp
        go_wp2_with fail
        clear k1 hnp2
        go_loopg [28] n (fun r i wr => ∃ j : Nat, j ≤ n ∧ r = n - j ∧ i = .int .i64 (j : Int) ∧ wr = w0 ∧ ∀ t, t < j → ((rowOf R t).length : Int) = dim)
        case atStart => exact ⟨0, by omega, by omega, rfl, rfl, fun t h => by omega⟩
        case round =>
          obtain ⟨j, hj, rfl, rfl, hwr, HB⟩ := hrel
          obtain rfl : w0 = wr := hwr.symm
          by_cases hjt : j < n
          · obtain ⟨b2, o2, rfl, hr⟩ := G.cells (by omega)
            obtain ⟨r3, l3, c3, s1, A⟩ := hr j hjt
            have hal := A.row.len
            have HAL : Hid ((rowOf R j).length = l3) := hal
            clear hr G A hal
            by_cases hld : (l3 : Int) = dim
            · have hld2 : ((l3 : Int) == dim) = true := by simpa using hld
              have HLD : Hid ((l3 : Int) = dim) := hld
              clear hld
              go_wp2_with fail
              go_roundg (n - (j + 1))
              case measure => omega
              case rel =>
                refine ⟨j + 1, by omega, rfl, by go_num, rfl, fun t ht => ?_⟩
                rcases Nat.lt_or_ge t j with h | h
                · exact HB t h
                · obtain rfl : t = j := by omega
                  rw [HAL.out]
                  exact HLD.out
            · have hld2 : ((l3 : Int) == dim) = false := by simpa using hld
              have HLD : Hid (¬ (l3 : Int) = dim) := hld
              clear hld
              go_wp2_with fail
              go_ret
              refine ⟨?_, B0⟩
              rw [← HQ.out, rfB_false hR (rfR_row (t := j) (by rw [HGL.out]; exact hjt) (by rw [HAL.out]; exact HLD.out))]
              rfl
          · obtain rfl : n = j := by omega
            go_wp2_with fail
            go_roundg (m - (k + 1))
            case measure => omega
            case rel =>
              refine ⟨k + 1, by omega, rfl, by go_num, rfl, fun t R' ht hR' => ?_⟩
              rcases Nat.lt_or_ge t k with h | h
              · exact HA t R' h hR'
              · obtain rfl : t = k := by omega
                rw [hR] at hR'
                simp only [Option.some.injEq] at hR'
                subst hR'
                exact rfR_true (by rw [HGL.out]; exact HNP.out) (fun t ht => HB t (by rw [HGL.out] at ht; exact ht))
      · have hnp2 : ((n : Int) == places) = false := by simpa using hnp
        have HNP : Hid (¬ (n : Int) = places) := hnp
        clear hnp G
        go_wp2_with fail
        go_ret
        refine ⟨?_, B0⟩
        rw [← HQ.out, rfB_false hR (rfR_short (by rw [HGL.out]; exact HNP.out))]
        rfl
    · obtain rfl : m = k := by omega
      go_wp2
      go_ret
      refine ⟨?_, B0⟩
      rw [← HQ.out, rfB_true fun t R hR => HA t R (by have := (List.getElem?_eq_some_iff.1 hR).1; rw [HLN.out] at this; exact this) hR]
      rfl
set_option maxRecDepth 100000 in
set_option maxHeartbeats 1600000 in
theorem sfitsG_any (Vo D Hd H L : Int) (v : VwV) (X : Vw) (w : World) (hv : VwAt w v X) :
   Calls Tryz.prog 11 #[.agg (cfgC Vo D Hd H L), .agg v.cells] w fun e w' => e = .returned (.bool (vwB Vo D L X)) ∧ Below w.heap.size w w' := by
  obtain ⟨⟨ta, tn, tz⟩, ⟨ka, kn, kz⟩, ⟨va, vn, vz⟩⟩ := v
  have hT : IArg w ta tn tz X.T := hv.t
  have hK : CubeAt w ka kn X.K := hv.k
  have hV : CubeAt w va vn X.V := hv.v
  clear hv
  have hl := hT.row.len
  have kl := hK.len
  have vl := hV.len
  have tm := hT.row.max
  have km := hK.max
  have vm := hV.max
  have HK := fun wv (hb : Below w.heap.size w wv) => listsFitG_any Vo D Hd H L ka kn kz X.K tn wv (hK.below hb)
  have HV := fun wv (hb : Below w.heap.size w wv) => listsFitG_any Vo D Hd H L va vn vz X.V tn wv (hV.below hb)
  have HI := fun wv x => isToken_any Vo D Hd H L x wv
  have HT : Hid (∀ wv, Below w.heap.size w wv → IRowAt wv ta tn X.T) := fun wv hb => hT.row.below hb
  unfold cfgC at HK HV HI
  show Calls Tryz.prog 11 #[.agg #[.int .i64 Vo, .int .i64 D, .int .i64 Hd, .int .i64 H, .int .i64 L], .agg #[.slice ta tn tz, .slice ka kn kz, .slice va vn vz]] w _
  have X0 := blk_new w 23 #[.int .i64 Vo, .int .i64 D, .int .i64 Hd, .int .i64 H, .int .i64 L]
  have B0 : Below w.heap.size w (w.alloc (.cells #[.int .i64 Vo, .int .i64 D, .int .i64 Hd, .int .i64 H, .int .i64 L] 23)) := (Below.refl _ _).alloc (Nat.le_refl _) _
  have s0 : (w.alloc (.cells #[.int .i64 Vo, .int .i64 D, .int .i64 Hd, .int .i64 H, .int .i64 L] 23)).heap.size = w.heap.size + 1 := by simp
  generalize hw0 : w.alloc (.cells #[.int .i64 Vo, .int .i64 D, .int .i64 Hd, .int .i64 H, .int .i64 L] 23) = w0 at *
  have X1 := blk_new w0 35 #[.slice ta tn tz, .slice ka kn kz, .slice va vn vz]
  have B1 : Below w0.heap.size w0 (w0.alloc (.cells #[.slice ta tn tz, .slice ka kn kz, .slice va vn vz] 35)) := (Below.refl _ _).alloc (Nat.le_refl _) _
  rw [s0] at X1
  generalize hw1 : w0.alloc (.cells #[.slice ta tn tz, .slice ka kn kz, .slice va vn vz] 35) = w1 at *
  replace X0 := X0.below B1
  replace B1 := below_then B0 B1
  clear B0
  have b0 : w1.cell? ⟨w.heap.size + 1, 0, none⟩ = some (.slice ta tn tz) := X1.cell 0 rfl
  have b1 : w1.cell? ⟨w.heap.size + 1, 1, none⟩ = some (.slice ka kn kz) := X1.cell 1 rfl
  have b2 : w1.cell? ⟨w.heap.size + 1, 2, none⟩ = some (.slice va vn vz) := X1.cell 2 rfl
  obtain ⟨q, hq⟩ : ∃ q, vwB Vo D L X = q := ⟨_, rfl⟩
  rw [hq]
  have HQ : Hid (q = if tn = 0 then decide (kn = 0) && decide (vn = 0) else decide (tn ≤ 128) && X.T.all (tokB Vo) && (lfB X.K tn D L && lfB X.V tn D L)) := by
    show _ = _
    rw [← hq]; unfold vwB; rw [hl, kl, vl]
  clear hq hT hK hV
  by_cases h0 : tn = 0
  · subst h0
    have HR : Hid (q = (decide (kn = 0) && decide (vn = 0))) := by show _ = _; rw [HQ.out, if_pos rfl]
    clear HQ HK HV HI HT
    by_cases hk0 : kn = 0
    · subst hk0
      go_enter Tryz.func11, Tryz.ntmps11
      go_wp2
      go_ret
      refine ⟨?_, B1⟩
      rw [HR.out]
      by_cases hv0 : vn = 0
      · subst hv0; rfl
      · rw [show decide (vn = 0) = false from decide_eq_false hv0]
        have : ((vn : Int) == 0) = false := by simpa using hv0
        simp [hv0]
    · have hk1 : ((kn : Int) == 0) = false := by simpa using hk0
      go_enter Tryz.func11, Tryz.ntmps11
      go_wp2
      go_ret
      refine ⟨?_, B1⟩
      rw [HR.out, show decide (kn = 0) = false from decide_eq_false hk0]
      rfl
  have hz0 : ((tn : Int) == 0) = false := by simpa using h0
  by_cases h128 : tn ≤ 128
  rotate_left
  · have HR : Hid (q = false) := by show _ = _; rw [HQ.out, if_neg h0, show decide (tn ≤ 128) = false from decide_eq_false h128]; rfl
    have h128' : (128 : Int) < tn := by omega
    clear HQ HK HV HI HT
    go_enter Tryz.func11, Tryz.ntmps11
    go_wp2
    go_ret
    exact ⟨by rw [HR.out]; rfl, B1⟩
  have HR : Hid (q = (X.T.all (tokB Vo) && (lfB X.K tn D L && lfB X.V tn D L))) := by show _ = _; rw [HQ.out, if_neg h0, show decide (tn ≤ 128) = true from decide_eq_true h128, Bool.true_and]
  clear HQ
  obtain ⟨b, o, rfl, _⟩ := (HT.out w (Below.refl _ _)).cells (by omega)
  have h128' : ¬ (128 : Int) < tn := by omega
  go_enter Tryz.func11, Tryz.ntmps11
  go_wp2_with fail
  go_loopg [30] tn (fun r i wr => ∃ k : Nat, k ≤ tn ∧ r = tn - k ∧ i = .int .i64 k ∧ Below w1.heap.size w1 wr ∧ (X.T.take k).all (tokB Vo) = true)
  case atStart => exact ⟨0, by omega, by omega, rfl, Below.refl _ _, by simp⟩
  case round =>
    obtain ⟨k, hk, rfl, rfl, BR, HA⟩ := hrel
    have Y0 := X0.below BR
    have Y1 := X1.below BR
    have a0 : wr.cell? ⟨w.heap.size, 0, none⟩ = some (.int .i64 Vo) := Y0.cell 0 rfl
    have a1 : wr.cell? ⟨w.heap.size, 1, none⟩ = some (.int .i64 D) := Y0.cell 1 rfl
    have a2 : wr.cell? ⟨w.heap.size, 2, none⟩ = some (.int .i64 Hd) := Y0.cell 2 rfl
    have a3 : wr.cell? ⟨w.heap.size, 3, none⟩ = some (.int .i64 H) := Y0.cell 3 rfl
    have a4 : wr.cell? ⟨w.heap.size, 4, none⟩ = some (.int .i64 L) := Y0.cell 4 rfl
    clear b0 b1 b2
    have BW := below_then B1 BR
    by_cases hlt : k < tn
    · obtain ⟨b', o', e', hc⟩ := (HT.out wr BW).cells (by omega)
      simp only [Option.some.injEq, Addr.mk.injEq, and_true] at e'
      obtain ⟨rfl, rfl⟩ := e'
      have ck := hc k hlt
      have HX : Hid ((X.T.take (k + 1)).all (tokB Vo) = ((X.T.take k).all (tokB Vo) && tokB Vo (el X.T k))) := by
        show _ = _
        rw [List.take_add_one, List.getElem?_eq_getElem (show k < X.T.length by omega), List.all_append]
        unfold el
        rw [List.getD_eq_getElem?_getD, List.getElem?_eq_getElem (show k < X.T.length by omega)]
        simp
      have HM : Hid (tokB Vo (el X.T k) = false → X.T.all (tokB Vo) = false) := fun hf => by
        cases e : X.T.all (tokB Vo) with
        | false => rfl
        | true =>
          rw [List.all_eq_true] at e
          have := e _ (List.getElem_mem (show k < X.T.length by omega))
          unfold el at hf
          rw [List.getD_eq_getElem?_getD, List.getElem?_eq_getElem (show k < X.T.length by omega), Option.getD_some, this] at hf
          exact hf
      generalize el X.T k = x at *
      clear hc
      go_wp2_with fail
      refine (HI _ x).mono ?_
      rintro e w2 ⟨rfl, B2⟩
      clear a0 a1 a2 a3 a4 ck
      have B3 := below_then BR B2
      cases ht : tokB Vo x with
      | true =>
        go_wp2
        go_roundg (tn - (k + 1))
        case measure => omega
        case rel => exact ⟨k + 1, by omega, rfl, by go_num, B3, by rw [HX.out, HA, ht]; rfl⟩
      | false =>
        go_wp2
        go_ret
        exact ⟨by rw [HR.out, HM.out ht]; rfl, below_then B1 B3⟩
    · obtain rfl : k = tn := by omega
      have HA2 : Hid (X.T.all (tokB Vo) = true) := by rw [List.take_of_length_le (by omega)] at HA; exact HA
      clear HA
      have b0 : wr.cell? ⟨w.heap.size + 1, 0, none⟩ = some (.slice (some ⟨b, o, none⟩) k tz) := Y1.cell 0 rfl
      have b1 : wr.cell? ⟨w.heap.size + 1, 1, none⟩ = some (.slice ka kn kz) := Y1.cell 1 rfl
      have b2 : wr.cell? ⟨w.heap.size + 1, 2, none⟩ = some (.slice va vn vz) := Y1.cell 2 rfl
      have KK := HK wr BW
      clear HK HI HT
      cases hlk : lfB X.K k D L with
      | false =>
        rw [hlk] at KK
        go_wp2_with fail
        refine KK.mono ?_
        rintro e w2 ⟨rfl, B2⟩
        clear a0 a1 a2 a3 a4 b0 b1 b2
        go_wp2
        go_ret
        exact ⟨by rw [HR.out, HA2.out, hlk]; rfl, below_then BW B2⟩
      | true =>
        rw [hlk] at KK
        go_wp2_with fail
        refine KK.mono ?_
        rintro e w2 ⟨rfl, B2⟩
        have BW2 := below_then BW B2
        have KV := HV w2 BW2
        have Z0 := Y0.below B2
        have Z1 := Y1.below B2
        clear a0 a1 a2 a3 a4 b0 b1 b2 HV
        have a0 : w2.cell? ⟨w.heap.size, 0, none⟩ = some (.int .i64 Vo) := Z0.cell 0 rfl
        have a1 : w2.cell? ⟨w.heap.size, 1, none⟩ = some (.int .i64 D) := Z0.cell 1 rfl
        have a2 : w2.cell? ⟨w.heap.size, 2, none⟩ = some (.int .i64 Hd) := Z0.cell 2 rfl
        have a3 : w2.cell? ⟨w.heap.size, 3, none⟩ = some (.int .i64 H) := Z0.cell 3 rfl
        have a4 : w2.cell? ⟨w.heap.size, 4, none⟩ = some (.int .i64 L) := Z0.cell 4 rfl
        have b0 : w2.cell? ⟨w.heap.size + 1, 0, none⟩ = some (.slice (some ⟨b, o, none⟩) k tz) := Z1.cell 0 rfl
        have b2 : w2.cell? ⟨w.heap.size + 1, 2, none⟩ = some (.slice va vn vz) := Z1.cell 2 rfl
        go_wp2_with fail
        refine KV.mono ?_
        rintro e w3 ⟨rfl, B3⟩
        clear a0 a1 a2 a3 a4 b0 b2
        go_wp2
        go_ret
        exact ⟨by rw [HR.out, HA2.out, hlk, Bool.true_and, Bool.true_and]; rfl, below_then BW2 B3⟩
set_option maxRecDepth 100000 in
set_option maxHeartbeats 1600000 in
theorem rrows9_any (ao : Option Addr) (n ca : Nat) (R : List (List Int)) (places dim : Int) (w : World) (hR : GridAt w ao n R) :
   Calls Tryz.prog 28 #[.slice ao n ca, .int .i64 places, .int .i64 dim] w fun e w' => e = .returned (.bool (rfR R places dim)) ∧ w' = w := by
  have hm := hR.max
  have HLN : Hid (R.length = n) := hR.len
  obtain ⟨q, hq⟩ : ∃ q, rfR R places dim = q := ⟨_, rfl⟩
  rw [hq]
  have HQ : Hid (q = (decide ((n : Int) = places) && R.all fun r : List Int => decide ((r.length : Int) = dim))) := by show _ = _; rw [← hq]; unfold rfR; rw [HLN.out]
  clear hq
  obtain ⟨g, hg⟩ : ∃ g, ((n : Int) == places) = g := ⟨_, rfl⟩
  have HG : Hid (decide ((n : Int) = places) = g) := by show _ = _; rw [← hg]; rfl
  go_enter Tryz.func28, Tryz.ntmps28
  go_wp2
  clear hg
  go_loopg [7, 16] n (fun r g2 i wr => ∃ k : Nat, k ≤ n ∧ r = n - k ∧ i = .int .i64 (k : Int) ∧ wr = w ∧ g2 = .bool (g && (R.take k).all fun r : List Int => decide ((r.length : Int) = dim)))
  case atStart => exact ⟨0, by omega, by omega, rfl, rfl, by simp⟩
  case round =>
    obtain ⟨k, hk, rfl, rfl, hwr, rfl⟩ := hrel
    obtain rfl : w = wr := hwr.symm
    by_cases hlt : k < n
    · obtain ⟨b, o, rfl, hc⟩ := hR.cells (by omega)
      obtain ⟨r3, l3, c3, s1, A⟩ := hc k hlt
      have HX : Hid ((R.take (k + 1)).all (fun r : List Int => decide ((r.length : Int) = dim)) = ((R.take k).all (fun r : List Int => decide ((r.length : Int) = dim)) && decide ((l3 : Int) = dim))) := by
        show _ = _
        have := A.row.len
        rw [List.take_add_one, List.getElem?_eq_getElem (show k < R.length by rw [HLN.out]; exact hlt), List.all_append]
        unfold rowOf at this
        rw [List.getD_eq_getElem?_getD, List.getElem?_eq_getElem (show k < R.length by rw [HLN.out]; exact hlt)] at this
        simp only [Option.getD_some] at this
        simp [this]
      have hm3 := A.row.max
      clear hc A
      generalize (R.take k).all (fun r : List Int => decide ((r.length : Int) = dim)) = p at *
      cases hp : (g && p) with
      | false =>
        have HP : Hid ((g && p) = false) := hp
        clear hp
        go_wp2
        go_roundg (n - (k + 1))
        case measure => omega
        case rel => exact ⟨k + 1, by omega, rfl, by go_num, rfl, by rw [HX.out, ← Bool.and_assoc, HP.out]; rfl⟩
      | true =>
        have HP : Hid ((g && p) = true) := hp
        clear hp
        go_wp2
        go_roundg (n - (k + 1))
        case measure => omega
        case rel => exact ⟨k + 1, by omega, rfl, by go_num, rfl, by rw [HX.out, ← Bool.and_assoc, HP.out]; rfl⟩
    · obtain rfl : k = n := by omega
      have HE : Hid (q = (g && (R.take k).all fun r : List Int => decide ((r.length : Int) = dim))) := by
        show _ = _
        rw [HQ.out, HG.out, List.take_of_length_le (by rw [HLN.out]; exact Nat.le_refl _)]
      go_wp2
      go_ret
      exact ⟨by rw [HE.out]; rfl, rfl⟩
end Go.Proofs.YtmdjlaileakbeaaGreatDoor

/- step.Feed where Check fails, and where the view doesn't fit. Laid by tools/genfeedno9.py. -/
namespace Go.Proofs.YtmdjlaileakbeaaGreatDoor
open Go.ChangeShapes Go.WideShapes Go.ChangeAt Go.RowKit
set_option maxRecDepth 100000 in
set_option maxHeartbeats 800000 in
theorem feed_no (C : Cfg) (hC : C.Ok) (W : Wt) (bs : List Bk) (v : VwV) (tok : Int) (w : World) (hok : W.Ok) (hb0 : BlocksAt w W.b bs) (hq : checkN C.V C.D C.Hd C.H C.L W bs ≠ 0) :
   Calls Tryz.prog 6 #[.agg (cfgC C.V C.D C.Hd C.H C.L), .agg W.cells, .agg v.cells, .int .i64 tok] w fun e w' => e = .returned (.tuple #[.agg noV, .slice none 0 0, .int .i64 (checkN C.V C.D C.Hd C.H C.L W bs)]) ∧ Below w.heap.size w w' := by
  have CK := fun (wv : World) (hb : Below w.heap.size w wv) => mcheck_any C hC W bs wv hok (hb0.below hb)
  obtain ⟨⟨ta, n, tz⟩, ⟨ka, kn, kz⟩, ⟨va, vn, vz⟩⟩ := v
  have hq' : (checkN C.V C.D C.Hd C.H C.L W bs == 0) = false := by simpa using hq
  generalize checkN C.V C.D C.Hd C.H C.L W bs = q at *
  unfold Cfg.val cfgC at CK
  show Calls Tryz.prog 6 #[.agg #[.int .i64 C.V, .int .i64 C.D, .int .i64 C.Hd, .int .i64 C.H, .int .i64 C.L], .agg W.cells, .agg #[.slice ta n tz, .slice ka kn kz, .slice va vn vz], .int .i64 tok] w _
  have siz : W.cells.size = 8 := rfl
  generalize hws : W.cells = ws at *
  have X0 := blk_new w 23 #[.int .i64 C.V, .int .i64 C.D, .int .i64 C.Hd, .int .i64 C.H, .int .i64 C.L]
  have B0 : Below w.heap.size w (w.alloc (.cells #[.int .i64 C.V, .int .i64 C.D, .int .i64 C.Hd, .int .i64 C.H, .int .i64 C.L] 23)) := (Below.refl _ _).alloc (Nat.le_refl _) _
  have s0 : (w.alloc (.cells #[.int .i64 C.V, .int .i64 C.D, .int .i64 C.Hd, .int .i64 C.H, .int .i64 C.L] 23)).heap.size = w.heap.size + 1 := by simp
  generalize hw0 : w.alloc (.cells #[.int .i64 C.V, .int .i64 C.D, .int .i64 C.Hd, .int .i64 C.H, .int .i64 C.L] 23) = w0 at *
  have X1 := blk_new w0 29 ws
  have B1 : Below w0.heap.size w0 (w0.alloc (.cells ws 29)) := (Below.refl _ _).alloc (Nat.le_refl _) _
  have s1 : (w0.alloc (.cells ws 29)).heap.size = w0.heap.size + 1 := by simp
  rw [s0] at X1 s1
  generalize hw1 : w0.alloc (.cells ws 29) = w1 at *
  have X2 := blk_new w1 35 #[.slice ta n tz, .slice ka kn kz, .slice va vn vz]
  have B2 : Below w1.heap.size w1 (w1.alloc (.cells #[.slice ta n tz, .slice ka kn kz, .slice va vn vz] 35)) := (Below.refl _ _).alloc (Nat.le_refl _) _
  have s2 : (w1.alloc (.cells #[.slice ta n tz, .slice ka kn kz, .slice va vn vz] 35)).heap.size = w1.heap.size + 1 := by simp
  rw [s1] at X2 s2
  generalize hw2 : w1.alloc (.cells #[.slice ta n tz, .slice ka kn kz, .slice va vn vz] 35) = w2 at *
  have X3 := blk_new w2 35 #[.slice none 0 0, .slice none 0 0, .slice none 0 0]
  have B3 : Below w2.heap.size w2 (w2.alloc (.cells #[.slice none 0 0, .slice none 0 0, .slice none 0 0] 35)) := (Below.refl _ _).alloc (Nat.le_refl _) _
  have s3 : (w2.alloc (.cells #[.slice none 0 0, .slice none 0 0, .slice none 0 0] 35)).heap.size = w2.heap.size + 1 := by simp
  rw [s2] at X3 s3
  generalize hw3 : w2.alloc (.cells #[.slice none 0 0, .slice none 0 0, .slice none 0 0] 35) = w3 at *
  replace X0 := ((X0.below B1).below B2).below B3
  replace X1 := (X1.below B2).below B3
  replace X2 := X2.below B3
  replace B3 := below_then (below_then (below_then B0 B1) B2) B3
  have a0 : w3.cell? ⟨w.heap.size, 0, none⟩ = some (.int .i64 C.V) := X0.cell 0 rfl
  have a1 : w3.cell? ⟨w.heap.size, 1, none⟩ = some (.int .i64 C.D) := X0.cell 1 rfl
  have a2 : w3.cell? ⟨w.heap.size, 2, none⟩ = some (.int .i64 C.Hd) := X0.cell 2 rfl
  have a3 : w3.cell? ⟨w.heap.size, 3, none⟩ = some (.int .i64 C.H) := X0.cell 3 rfl
  have a4 : w3.cell? ⟨w.heap.size, 4, none⟩ = some (.int .i64 C.L) := X0.cell 4 rfl
  go_enter Tryz.func6, Tryz.ntmps6
  go_wp2_with (refine wpList_load_row rfl 29 _ rfl (w.heap.size + 1) rfl 29 ws (0, 0) _ X1 Tryz.underlying29 rfl (by rw [siz]; exact Tryz.infoW) ?_)
  refine (CK _ B3).mono ?_
  rintro e w4 ⟨rfl, B4⟩
  replace X0 := X0.below B4
  replace X1 := X1.below B4
  replace X2 := X2.below B4
  replace X3 := X3.below B4
  have D4 := below_then B3 B4
  clear a0 a1 a2 a3 a4 B3 B4 CK hw0 hw1 hw2 hw3 B0 B1 B2 s0 s1 s2 s3
  have hall : Array.all (#[.slice none 0 0, .slice none 0 0, .slice none 0 0] : Array Value) (fun v => v.oneCell') = true := by simp [Value.oneCell']
  go_wp2_with (refine wpList_store_row rfl 35 _ _ rfl (w.heap.size + 1 + 1 + 1) #[.slice none 0 0, .slice none 0 0, .slice none 0 0] rfl rfl 35 _ X3 Tryz.infoV rfl hall ?_)
  refine bodyPost_ret (results_blk3 rfl _ _ (w.heap.size + 1 + 1 + 1) _ rfl (load_v (X3.row _) rfl)) rfl ?_
  exact ⟨rfl, below_setRow D4 (by omega) _⟩
set_option maxRecDepth 100000 in
set_option maxHeartbeats 800000 in
theorem feed_form (V D Hd H L : Nat) (W : Wt) (bs : List Bk) (M : Mdl) (v : VwV) (X : Vw) (tok : Int) (w : World) (hG : Good w V D Hd H L W bs M) (hv : VwAt w v X) (hf : vwB V D L X = false) :
   Calls Tryz.prog 6 #[.agg (cfgC V D Hd H L), .agg W.cells, .agg v.cells, .int .i64 tok] w fun e w' => e = .returned (.tuple #[.agg noV, .slice none 0 0, .int .i64 4]) ∧ Below w.heap.size w w' := by
  obtain ⟨q1, q2, q3, q4, q5, q6, q7, q8, q9, q10⟩ := shape_ok hG.shape
  have CK := fun (wv : World) (hb : Below w.heap.size w wv) => check_good (hG.below hb)
  have CF := fun (wv : World) (hb : Below w.heap.size w wv) => sfitsG_any V D Hd H L v X wv (hv.below hb)
  rw [hf] at CF
  obtain ⟨⟨ta, n, tz⟩, ⟨ka, kn, kz⟩, ⟨va, vn, vz⟩⟩ := v
  unfold VwV.cells Sl.v cfgC at CF
  unfold cfgC at CK
  simp only at CF
  show Calls Tryz.prog 6 #[.agg #[.int .i64 (V : Int), .int .i64 (D : Int), .int .i64 (Hd : Int), .int .i64 (H : Int), .int .i64 (L : Int)], .agg W.cells, .agg #[.slice ta n tz, .slice ka kn kz, .slice va vn vz], .int .i64 tok] w _
  have siz : W.cells.size = 8 := rfl
  generalize hws : W.cells = ws at *
  have X0 := blk_new w 23 #[.int .i64 (V : Int), .int .i64 (D : Int), .int .i64 (Hd : Int), .int .i64 (H : Int), .int .i64 (L : Int)]
  have B0 : Below w.heap.size w (w.alloc (.cells #[.int .i64 (V : Int), .int .i64 (D : Int), .int .i64 (Hd : Int), .int .i64 (H : Int), .int .i64 (L : Int)] 23)) := (Below.refl _ _).alloc (Nat.le_refl _) _
  have s0 : (w.alloc (.cells #[.int .i64 (V : Int), .int .i64 (D : Int), .int .i64 (Hd : Int), .int .i64 (H : Int), .int .i64 (L : Int)] 23)).heap.size = w.heap.size + 1 := by simp
  generalize hw0 : w.alloc (.cells #[.int .i64 (V : Int), .int .i64 (D : Int), .int .i64 (Hd : Int), .int .i64 (H : Int), .int .i64 (L : Int)] 23) = w0 at *
  have X1 := blk_new w0 29 ws
  have B1 : Below w0.heap.size w0 (w0.alloc (.cells ws 29)) := (Below.refl _ _).alloc (Nat.le_refl _) _
  have s1 : (w0.alloc (.cells ws 29)).heap.size = w0.heap.size + 1 := by simp
  rw [s0] at X1 s1
  generalize hw1 : w0.alloc (.cells ws 29) = w1 at *
  have X2 := blk_new w1 35 #[.slice ta n tz, .slice ka kn kz, .slice va vn vz]
  have B2 : Below w1.heap.size w1 (w1.alloc (.cells #[.slice ta n tz, .slice ka kn kz, .slice va vn vz] 35)) := (Below.refl _ _).alloc (Nat.le_refl _) _
  have s2 : (w1.alloc (.cells #[.slice ta n tz, .slice ka kn kz, .slice va vn vz] 35)).heap.size = w1.heap.size + 1 := by simp
  rw [s1] at X2 s2
  generalize hw2 : w1.alloc (.cells #[.slice ta n tz, .slice ka kn kz, .slice va vn vz] 35) = w2 at *
  have X3 := blk_new w2 35 #[.slice none 0 0, .slice none 0 0, .slice none 0 0]
  have B3 : Below w2.heap.size w2 (w2.alloc (.cells #[.slice none 0 0, .slice none 0 0, .slice none 0 0] 35)) := (Below.refl _ _).alloc (Nat.le_refl _) _
  have s3 : (w2.alloc (.cells #[.slice none 0 0, .slice none 0 0, .slice none 0 0] 35)).heap.size = w2.heap.size + 1 := by simp
  rw [s2] at X3 s3
  generalize hw3 : w2.alloc (.cells #[.slice none 0 0, .slice none 0 0, .slice none 0 0] 35) = w3 at *
  replace X0 := ((X0.below B1).below B2).below B3
  replace X1 := (X1.below B2).below B3
  replace X2 := X2.below B3
  replace B3 := below_then (below_then (below_then B0 B1) B2) B3
  have a0 : w3.cell? ⟨w.heap.size, 0, none⟩ = some (.int .i64 (V : Int)) := X0.cell 0 rfl
  have a1 : w3.cell? ⟨w.heap.size, 1, none⟩ = some (.int .i64 (D : Int)) := X0.cell 1 rfl
  have a2 : w3.cell? ⟨w.heap.size, 2, none⟩ = some (.int .i64 (Hd : Int)) := X0.cell 2 rfl
  have a3 : w3.cell? ⟨w.heap.size, 3, none⟩ = some (.int .i64 (H : Int)) := X0.cell 3 rfl
  have a4 : w3.cell? ⟨w.heap.size, 4, none⟩ = some (.int .i64 (L : Int)) := X0.cell 4 rfl
  go_enter Tryz.func6, Tryz.ntmps6
  go_wp2_with (refine wpList_load_row rfl 29 _ rfl (w.heap.size + 1) rfl 29 ws (0, 0) _ X1 Tryz.underlying29 rfl (by rw [siz]; exact Tryz.infoW) ?_)
  refine (CK _ B3).mono ?_
  rintro e w4 ⟨rfl, B4⟩
  replace X0 := X0.below B4
  replace X1 := X1.below B4
  replace X2 := X2.below B4
  replace X3 := X3.below B4
  have D4 := below_then B3 B4
  clear a0 a1 a2 a3 a4 B3 B4 CK hw0 hw1 hw2 hw3 B0 B1 B2 s0 s1 s2 s3
  have a0 : w4.cell? ⟨w.heap.size, 0, none⟩ = some (.int .i64 (V : Int)) := X0.cell 0 rfl
  have a1 : w4.cell? ⟨w.heap.size, 1, none⟩ = some (.int .i64 (D : Int)) := X0.cell 1 rfl
  have a2 : w4.cell? ⟨w.heap.size, 2, none⟩ = some (.int .i64 (Hd : Int)) := X0.cell 2 rfl
  have a3 : w4.cell? ⟨w.heap.size, 3, none⟩ = some (.int .i64 (H : Int)) := X0.cell 3 rfl
  have a4 : w4.cell? ⟨w.heap.size, 4, none⟩ = some (.int .i64 (L : Int)) := X0.cell 4 rfl
  have b0 : w4.cell? ⟨w.heap.size + 1 + 1, 0, none⟩ = some (.slice ta n tz) := X2.cell 0 rfl
  have b1 : w4.cell? ⟨w.heap.size + 1 + 1, 1, none⟩ = some (.slice ka kn kz) := X2.cell 1 rfl
  have b2 : w4.cell? ⟨w.heap.size + 1 + 1, 2, none⟩ = some (.slice va vn vz) := X2.cell 2 rfl
  go_wp2_with fail
  refine (CF _ D4).mono ?_
  rintro e w5 ⟨rfl, B5⟩
  replace X0 := X0.below B5
  replace X1 := X1.below B5
  replace X2 := X2.below B5
  replace X3 := X3.below B5
  have D5 := below_then D4 B5
  clear a0 a1 a2 a3 a4 b0 b1 b2 D4 B5 CF
  have a0 : w5.cell? ⟨w.heap.size, 0, none⟩ = some (.int .i64 (V : Int)) := X0.cell 0 rfl
  have a1 : w5.cell? ⟨w.heap.size, 1, none⟩ = some (.int .i64 (D : Int)) := X0.cell 1 rfl
  have a2 : w5.cell? ⟨w.heap.size, 2, none⟩ = some (.int .i64 (Hd : Int)) := X0.cell 2 rfl
  have a3 : w5.cell? ⟨w.heap.size, 3, none⟩ = some (.int .i64 (H : Int)) := X0.cell 3 rfl
  have a4 : w5.cell? ⟨w.heap.size, 4, none⟩ = some (.int .i64 (L : Int)) := X0.cell 4 rfl
  have b0 : w5.cell? ⟨w.heap.size + 1 + 1, 0, none⟩ = some (.slice ta n tz) := X2.cell 0 rfl
  have b1 : w5.cell? ⟨w.heap.size + 1 + 1, 1, none⟩ = some (.slice ka kn kz) := X2.cell 1 rfl
  have b2 : w5.cell? ⟨w.heap.size + 1 + 1, 2, none⟩ = some (.slice va vn vz) := X2.cell 2 rfl
  have hall : Array.all (#[.slice none 0 0, .slice none 0 0, .slice none 0 0] : Array Value) (fun v => v.oneCell') = true := by simp [Value.oneCell']
  go_wp2_with (refine wpList_store_row rfl 35 _ _ rfl (w.heap.size + 1 + 1 + 1) #[.slice none 0 0, .slice none 0 0, .slice none 0 0] rfl rfl 35 _ X3 Tryz.infoV rfl hall ?_)
  refine bodyPost_ret (results_blk3 rfl _ _ (w.heap.size + 1 + 1 + 1) _ rfl (load_v (X3.row _) rfl)) rfl ?_
  exact ⟨rfl, below_setRow D5 (by omega) _⟩
end Go.Proofs.YtmdjlaileakbeaaGreatDoor

/- A model's numbers as the document's, all of them: the same rows, the layers in a row of their own. -/
namespace Go.Proofs.YtmdjlaileakbeaaGreatDoor
open Go.ChangeShapes Go.WideShapes Go.ChangeAt Go.RowKit
theorem Tryz.infoRB : (Tryz.prog.info? 61).map (fun i => (i.zero, i.size, i.bytes)) = some (some (.agg #[.slice none 0 0, .int .i64 0, .int .i64 0, .slice none 0 0, .int .i64 0, .int .i64 0, .slice none 0 0, .int .i64 0, .int .i64 0, .slice none 0 0, .int .i64 0, .int .i64 0, .slice none 0 0, .slice none 0 0, .int .i64 0, .int .i64 0, .slice none 0 0, .int .i64 0, .int .i64 0, .slice none 0 0]), 20, 288) := by kernel_rfl
theorem Tryz.infoRB1 : (Tryz.prog.info? 61).map (·.size) = some 20 := by kernel_rfl
theorem Tryz.infoRW : (Tryz.prog.info? 38).map (·.size) = some 8 := by kernel_rfl
/-- Layers, cell behind cell. -/
def flat (bs : List Bk) : List Value := bs.flatMap fun b => b.cells.toList
theorem flat_len : ∀ bs : List Bk, (flat bs).length = bs.length * 20
  | [] => rfl
  | b :: bs => by
    have := flat_len bs
    unfold flat at *
    rw [List.flatMap_cons, List.length_append, this, List.length_cons]
    show 20 + bs.length * 20 = _
    omega
theorem flat_cons (b : Bk) (bs : List Bk) : flat (b :: bs) = b.cells.toList ++ flat bs := by unfold flat; rw [List.flatMap_cons]
theorem bk_len (b : Bk) : b.cells.toList.length = 20 := rfl
theorem flat_at : ∀ (bs : List Bk) (t : Nat) (x : Bk), bs[t]? = some x → ∀ (j : Nat) (v : Value), x.cells.toList[j]? = some v → (flat bs)[t * 20 + j]? = some v
  | [], t, x, h, _, _, _ => by simp at h
  | b :: bs, t, x, h, j, v, hv => by
    have hl := bk_len b
    have hx := bk_len x
    have hj : j < 20 := by have := (List.getElem?_eq_some_iff.1 hv).1; omega
    cases t with
    | zero =>
      simp at h
      subst h
      rw [flat_cons, Nat.zero_mul, Nat.zero_add, List.getElem?_append_left (by omega)]
      exact hv
    | succ t =>
      have ih := flat_at bs t x (by simpa using h) j v hv
      rw [flat_cons, List.getElem?_append_right (by omega), hl, show (t + 1) * 20 + j - 20 = t * 20 + j by omega]
      exact ih
/-- A row of layers of the call's own. -/
structure OwnB (w : World) (B : Nat) (s : Sl) (bs : List Bk) : Prop where
  own : w.ownsRow B 61 20 s.v s.n (flat bs)
  ok : ∀ x ∈ bs, x.Ok
  few : s.n ≤ 1000000
theorem OwnB.len {w : World} {B : Nat} {s : Sl} {bs : List Bk} (h : OwnB w B s bs) : bs.length = s.n := by
  have := h.own.1
  rw [flat_len] at this
  omega
theorem OwnB.blocks {w : World} {B : Nat} {s : Sl} {bs : List Bk} (h : OwnB w B s bs) : BlocksAt w s bs := by
  refine ⟨h.len, by have := h.few; omega, h.ok, fun hn => ?_⟩
  rcases h.own.2 with ⟨h0, h1⟩ | ⟨g, cap, cur, hv, _⟩
  · omega
  · unfold Sl.v at hv
    simp only [Value.slice.injEq, true_and] at hv
    refine ⟨g, 0, hv.1, fun t x hx j v hv2 => ?_⟩
    have hc := h.own.cells (g := g) (by unfold Sl.v; rw [hv.1]; rfl) (t * 20 + j) v (flat_at bs t x hx j v hv2)
    rw [Addr.add_mid] at hc
    rw [Nat.zero_add] at hc ⊢
    exact hc
theorem OwnB.below {w w' : World} {B : Nat} {s : Sl} {bs : List Bk} (h : OwnB w B s bs) (hb : Below w.heap.size w w') : OwnB w' B s bs := by
  obtain ⟨h1, h2⟩ := h.own
  refine ⟨⟨h1, ?_⟩, h.ok, h.few⟩
  rcases h2 with h2 | ⟨g, cap, cur, hv, hg, hh, r⟩
  · exact Or.inl h2
  · exact Or.inr ⟨g, cap, cur, hv, hg, by rw [hb.block g (Array.getElem?_eq_some_iff.1 hh).1]; exact hh, r⟩
theorem ownB_nil (w : World) (B : Nat) : OwnB w B ⟨none, 0, 0⟩ [] := ⟨World.ownsRow_nil _ _ _ _, (fun x hx => by cases hx), (by show 0 ≤ 1000000; omega)⟩
/-- append(out, block). -/
theorem wpList_append_block {w : World} {ops : Array Oper} {rest : List Oper} {o : Oper} {a : Act} {Q : Exit → Act → World → Prop} (hgd : o.guard = none) (s x : Operand)
    (ho : o.op = .call { callee := .builtin .append, args := #[s, x], argTypes := #[36, 36] })
    (B : Nat) (S : Sl) (bs : List Bk) (hs : a.eval s = S.v) (hF : OwnB w B S bs) (bo : Nat) (y : Bk) (hx : a.eval x = .slice (some ⟨bo, 0, none⟩) 1 1) (hX : Blk w bo 61 y.cells) (hy : y.Ok)
    (hlen : S.n + 1 ≤ 1000000) (hB : B ≤ w.heap.size)
    (h : ∀ S' w', S'.n = S.n + 1 → OwnB w' B S' (bs ++ [y]) → Below B w w' → wpList Tryz.prog ops Q rest (a.put o.dst S'.v) w') : wpList Tryz.prog ops Q (o :: rest) a w := by
  obtain ⟨i0, hi, hz0, hz1, hz2⟩ := info_parts Tryz.infoRB
  refine wpList_append_own w hgd s x 36 ho B 61 i0 (.agg #[.slice none 0 0, .int .i64 0, .int .i64 0, .slice none 0 0, .int .i64 0, .int .i64 0, .slice none 0 0, .int .i64 0, .int .i64 0, .slice none 0 0, .int .i64 0, .int .i64 0, .slice none 0 0, .slice none 0 0, .int .i64 0, .int .i64 0, .slice none 0 0, .int .i64 0, .int .i64 0, .slice none 0 0]) 20 288 Tryz.underlying36 hi hz0 hz1 hz2 rfl (by decide) _ S.n _ hs hF.own ⟨bo, 0, none⟩ 1 1 y.cells.toList hx rfl ?_ ?_ (by unfold maxLen; omega) (by omega) hB ?_
  · intro j u hj
    rw [Addr.add_mid, Nat.zero_add]
    exact hX.cell j (by simpa using hj)
  · intro u hu
    exact (Array.all_eq_true_iff_forall_mem.1 (bk_one y)) u (by simpa using hu)
  · intro v' w' hown hg hnil
    have hb : Below B w w' := (Below.refl _ _).grown hg hB (fun k hk => (hF.own.lt k hk).1)
    have e : flat bs ++ y.cells.toList = flat (bs ++ [y]) := by unfold flat; rw [List.flatMap_append]; simp
    rw [e] at hown
    obtain ⟨h1, h2⟩ := hown
    rcases h2 with ⟨h3, h4⟩ | ⟨g', c', cur, hv, hr⟩
    · omega
    · subst hv
      exact h ⟨some ⟨g', 0, none⟩, S.n + 1, c'⟩ w' rfl ⟨⟨h1, Or.inr ⟨g', c', cur, rfl, hr⟩⟩, fun z hz => (List.mem_append.1 hz).elim (hF.ok z) (fun h => by simp at h; subst h; exact hy), hlen⟩ hb
end Go.Proofs.YtmdjlaileakbeaaGreatDoor

/- The document's rows and matrices of made numbers. -/
namespace Go.Proofs.YtmdjlaileakbeaaGreatDoor
open Go.ChangeShapes Go.WideShapes Go.ChangeAt Go.RowKit
theorem tab_snoc4 (n : Nat) (f : Nat → Int) : tab (n + 1) f = tab n f ++ [f n] := by unfold tab; rw [List.range_succ, List.map_append]; rfl
end Go.Proofs.YtmdjlaileakbeaaGreatDoor

/- The document's model, made from a seed. Laid by tools/genrmake.py. -/
namespace Go.Proofs.YtmdjlaileakbeaaGreatDoor
open Go.ChangeShapes Go.WideShapes Go.ChangeAt Go.RowKit
/-- A slice that is a row of the call's own. -/
def FR (w : World) (B : Nat) (s : Sl) (n : Nat) (A : List Int) : Prop := ∃ g, s.ao = some ⟨g, 0, none⟩ ∧ s.n = n ∧ Fresh w B g n s.c A
theorem FR.below {w w' : World} {B : Nat} {s : Sl} {n : Nat} {A : List Int} (h : FR w B s n A) (hb : Below w.heap.size w w') : FR w' B s n A := by
  obtain ⟨g, h1, h2, F⟩ := h
  exact ⟨g, h1, h2, F.below hb⟩
theorem FR.keep {w w' : World} {B b : Nat} {T : TypeId} {cs : Array Value} {s : Sl} {n : Nat} {A : List Int} (h : FR w B s n A) (hb : Blk w b T cs) (hT : T ≠ 83) (so : ∀ k, k ≠ b → w'.heap[k]? = w.heap[k]?) : FR w' B s n A := by
  obtain ⟨g, h1, h2, F⟩ := h
  exact ⟨g, h1, h2, F.of_block (so g (F.ne hb hT))⟩
theorem FR.row {w : World} {B : Nat} {s : Sl} {n : Nat} {A : List Int} (h : FR w B s n A) : RowAt w s.ao n A := by
  obtain ⟨g, h1, _, F⟩ := h
  rw [h1]; exact F.rowAt
theorem FR.mono {w : World} {B B' : Nat} {s : Sl} {n : Nat} {A : List Int} (h : FR w B s n A) (hB : B' ≤ B) : FR w B' s n A := by
  obtain ⟨g, h1, h2, F⟩ := h
  exact ⟨g, h1, h2, F.mono hB⟩
structure FM (w : World) (B : Nat) (m : Mt) (r c n : Nat) (A : List Int) : Prop where
  r : m.r = r
  c : m.c = c
  d : FR w B m.d n A
/-- A layer of the document's model. -/
structure MadeR (w : World) (B seed i D H : Nat) (x : Bk) : Prop where
  f : FR w B x.f D (gainR seed i D)
  q : FM w B x.q D D (D * D) (numR seed (i + D) (D * D) 65536)
  k : FM w B x.k D D (D * D) (numR seed (i + D + D * D) (D * D) 65536)
  v : FM w B x.v D D (D * D) (numR seed (i + D + D * D + D * D) (D * D) 65536)
  o : FM w B x.o D D (D * D) (numR seed (i + D + D * D + D * D + D * D) (D * D) 65536)
  s : FR w B x.s D (gainR seed (i + D + D * D + D * D + D * D + D * D) D)
  u : FM w B x.u H D (H * D) (numR seed (i + D + D * D + D * D + D * D + D * D + D) (H * D) 65536)
  d : FM w B x.d D H (D * H) (numR seed (i + D + D * D + D * D + D * D + D * D + D + H * D) (D * H) 65536)
theorem MadeR.below {w w' : World} {B seed i D H : Nat} {x : Bk} (h : MadeR w B seed i D H x) (hb : Below w.heap.size w w') : MadeR w' B seed i D H x :=
  ⟨h.f.below hb, ⟨h.q.r, h.q.c, h.q.d.below hb⟩, ⟨h.k.r, h.k.c, h.k.d.below hb⟩, ⟨h.v.r, h.v.c, h.v.d.below hb⟩, ⟨h.o.r, h.o.c, h.o.d.below hb⟩, h.s.below hb, ⟨h.u.r, h.u.c, h.u.d.below hb⟩, ⟨h.d.r, h.d.c, h.d.d.below hb⟩⟩
theorem MadeR.keep {w w' : World} {B b seed i D H : Nat} {T : TypeId} {cs : Array Value} {x : Bk} (h : MadeR w B seed i D H x) (hb : Blk w b T cs) (hT : T ≠ 83) (so : ∀ k, k ≠ b → w'.heap[k]? = w.heap[k]?) : MadeR w' B seed i D H x :=
  ⟨h.f.keep hb hT so, ⟨h.q.r, h.q.c, h.q.d.keep hb hT so⟩, ⟨h.k.r, h.k.c, h.k.d.keep hb hT so⟩, ⟨h.v.r, h.v.c, h.v.d.keep hb hT so⟩, ⟨h.o.r, h.o.c, h.o.d.keep hb hT so⟩, h.s.keep hb hT so, ⟨h.u.r, h.u.c, h.u.d.keep hb hT so⟩, ⟨h.d.r, h.d.c, h.d.d.keep hb hT so⟩⟩
theorem gain_tab (seed i n : Nat) : (tab n fun j => numN seed (i + j) 16384 + ((65536 : Nat) : Int)) = gainR seed i n := tab_congr fun j _ => by rw [Int.add_comm]; rfl
/-- One layer of the document's model, laid into block g8: the eight calls. -/
theorem lenB_le {D H : Nat} (h1 : D ≤ 32) (h2 : H ≤ 64) : lenB D H ≤ 8256 ∧ D * D ≤ 1024 ∧ H * D ≤ 2048 ∧ D * H ≤ 2048 := by
  have a1 : D * D ≤ 32 * 32 := Nat.mul_le_mul h1 h1
  have a2 : H * D ≤ 64 * 32 := Nat.mul_le_mul h2 h1
  have a3 : D * H ≤ 32 * 64 := Nat.mul_le_mul h1 h2
  unfold lenB
  omega

theorem OwnB.ne {w : World} {B : Nat} {s : Sl} {bs : List Bk} (h : OwnB w B s bs) {b : Nat} {T : TypeId} {cs : Array Value} (hb : w.heap[b]? = some (.cells cs T (0, 0))) (hT : T ≠ 61) : some b ≠ s.v.ownBlock := by
  intro e
  rcases h.own.2 with ⟨h0, _⟩ | ⟨g, cap, cur, hv, _, hh, _⟩
  · rw [h0] at e; simp [Value.ownBlock] at e
  · rw [hv] at e
    simp [Value.ownBlock] at e
    subst e
    rw [hb] at hh
    simp at hh
    exact hT hh.2
theorem OwnB.keep {w w' : World} {B b : Nat} {T : TypeId} {cs : Array Value} {s : Sl} {bs : List Bk} (h : OwnB w B s bs) (hb : Blk w b T cs) (hT : T ≠ 61) (so : ∀ k, k ≠ b → w'.heap[k]? = w.heap[k]?) : OwnB w' B s bs := by
  have hne := h.ne hb hT
  obtain ⟨h1, h2⟩ := h.own
  refine ⟨⟨h1, h2.imp id ?_⟩, h.ok, h.few⟩
  rintro ⟨g, cap, cur, hv, hg, hh, r⟩
  exact ⟨g, cap, cur, hv, hg, by rw [so g (fun e => hne (by rw [hv, e]; rfl))]; exact hh, r⟩
theorem OwnB.mono {w : World} {B B' : Nat} {s : Sl} {bs : List Bk} (h : OwnB w B s bs) (hB : B' ≤ B) : OwnB w B' s bs := by
  obtain ⟨h1, h2⟩ := h.own
  refine ⟨⟨h1, h2.imp id ?_⟩, h.ok, h.few⟩
  rintro ⟨g, cap, cur, hv, hg, r⟩
  exact ⟨g, cap, cur, hv, by omega, r⟩
/-- append(out, block): nothing turns but the row of layers. -/
theorem wpList_append_block2 {w : World} {ops : Array Oper} {rest : List Oper} {o : Oper} {a : Act} {Q : Exit → Act → World → Prop} (hgd : o.guard = none) (s x : Operand)
    (ho : o.op = .call { callee := .builtin .append, args := #[s, x], argTypes := #[36, 36] })
    (B : Nat) (S : Sl) (bs : List Bk) (hs : a.eval s = S.v) (hF : OwnB w B S bs) (bo : Nat) (y : Bk) (hx : a.eval x = .slice (some ⟨bo, 0, none⟩) 1 1) (hX : Blk w bo 61 y.cells) (hy : y.Ok)
    (hlen : S.n + 1 ≤ 1000000) (hB : B ≤ w.heap.size)
    (h : ∀ S' w', S'.n = S.n + 1 → OwnB w' B S' (bs ++ [y]) → Below B w w' → (∀ (k : Nat) (T : TypeId) (cs : Array Value), w.heap[k]? = some (.cells cs T (0, 0)) → T ≠ 61 → w'.heap[k]? = w.heap[k]?) → wpList Tryz.prog ops Q rest (a.put o.dst S'.v) w') : wpList Tryz.prog ops Q (o :: rest) a w := by
  obtain ⟨i0, hi, hz0, hz1, hz2⟩ := info_parts Tryz.infoRB
  refine wpList_append_own w hgd s x 36 ho B 61 i0 (.agg #[.slice none 0 0, .int .i64 0, .int .i64 0, .slice none 0 0, .int .i64 0, .int .i64 0, .slice none 0 0, .int .i64 0, .int .i64 0, .slice none 0 0, .int .i64 0, .int .i64 0, .slice none 0 0, .slice none 0 0, .int .i64 0, .int .i64 0, .slice none 0 0, .int .i64 0, .int .i64 0, .slice none 0 0]) 20 288 Tryz.underlying36 hi hz0 hz1 hz2 rfl (by decide) _ S.n _ hs hF.own ⟨bo, 0, none⟩ 1 1 y.cells.toList hx rfl ?_ ?_ (by unfold maxLen; omega) (by omega) hB ?_
  · intro j u hj
    rw [Addr.add_mid, Nat.zero_add]
    exact hX.cell j (by simpa using hj)
  · intro u hu
    exact (Array.all_eq_true_iff_forall_mem.1 (bk_one y)) u (by simpa using hu)
  · intro v' w' hown hg hnil
    have hb : Below B w w' := (Below.refl _ _).grown hg hB (fun k hk => (hF.own.lt k hk).1)
    have hk : ∀ (k : Nat) (T : TypeId) (cs : Array Value), w.heap[k]? = some (.cells cs T (0, 0)) → T ≠ 61 → w'.heap[k]? = w.heap[k]? := fun k T cs h1 h2 => hg.block k (Array.getElem?_eq_some_iff.1 h1).1 (hF.ne h1 h2)
    have e : flat bs ++ y.cells.toList = flat (bs ++ [y]) := by unfold flat; rw [List.flatMap_append]; simp
    rw [e] at hown
    obtain ⟨h1, h2⟩ := hown
    rcases h2 with ⟨h3, h4⟩ | ⟨g', c', cur, hv, hr⟩
    · omega
    · subst hv
      exact h ⟨some ⟨g', 0, none⟩, S.n + 1, c'⟩ w' rfl ⟨⟨h1, Or.inr ⟨g', c', cur, rfl, hr⟩⟩, fun z hz => (List.mem_append.1 hz).elim (hF.ok z) (fun h => by simp at h; subst h; exact hy), hlen⟩ hb hk
theorem FR.type {w w' : World} {B : Nat} {s : Sl} {n : Nat} {A : List Int} (h : FR w B s n A) (hk : ∀ (k : Nat) (T : TypeId) (cs : Array Value), w.heap[k]? = some (.cells cs T (0, 0)) → T ≠ 61 → w'.heap[k]? = w.heap[k]?) : FR w' B s n A := by
  obtain ⟨g, h1, h2, F⟩ := h
  obtain ⟨c9, h9, _⟩ := F.row
  exact ⟨g, h1, h2, F.of_block (hk g _ _ h9 (by decide))⟩
theorem MadeR.type {w w' : World} {B seed i D H : Nat} {x : Bk} (h : MadeR w B seed i D H x) (hk : ∀ (k : Nat) (T : TypeId) (cs : Array Value), w.heap[k]? = some (.cells cs T (0, 0)) → T ≠ 61 → w'.heap[k]? = w.heap[k]?) : MadeR w' B seed i D H x :=
  ⟨h.f.type hk, ⟨h.q.r, h.q.c, h.q.d.type hk⟩, ⟨h.k.r, h.k.c, h.k.d.type hk⟩, ⟨h.v.r, h.v.c, h.v.d.type hk⟩, ⟨h.o.r, h.o.c, h.o.d.type hk⟩, h.s.type hk, ⟨h.u.r, h.u.c, h.u.d.type hk⟩, ⟨h.d.r, h.d.c, h.d.d.type hk⟩⟩
theorem set3_other {w : World} {b o1 o2 o3 : Nat} {v1 v2 v3 : Value} : ∀ k, k ≠ b → (((w.setCell ⟨b, o1, none⟩ v1).setCell ⟨b, o2, none⟩ v2).setCell ⟨b, o3, none⟩ v3).heap[k]? = w.heap[k]? := fun k hk => by
  rw [Below.heap_setCell _ _ _ _ (by exact hk), Below.heap_setCell _ _ _ _ (by exact hk), Below.heap_setCell _ _ _ _ (by exact hk)]
theorem set1_other {w : World} {b o1 : Nat} {v1 : Value} : ∀ k, k ≠ b → (w.setCell ⟨b, o1, none⟩ v1).heap[k]? = w.heap[k]? := fun k hk => by
  rw [Below.heap_setCell _ _ _ _ (by exact hk)]
/-- One layer that is being made: its block, and that all elder ones stand. -/
theorem Below.set3 {B : Nat} {w w' : World} (h : Below B w w') {b : Nat} (hb : B ≤ b) (o1 o2 o3 : Nat) (v1 v2 v3 : Value) : Below B w (((w'.setCell ⟨b, o1, none⟩ v1).setCell ⟨b, o2, none⟩ v2).setCell ⟨b, o3, none⟩ v3) :=
  ((h.setCell (p := ⟨b, o1, none⟩) (by exact hb) _).setCell (p := ⟨b, o2, none⟩) (by exact hb) _).setCell (p := ⟨b, o3, none⟩) (by exact hb) _

end Go.Proofs.YtmdjlaileakbeaaGreatDoor

/- Rows of layers of the call's own that grow, as one operation. -/
namespace Go.Proofs.YtmdjlaileakbeaaGreatDoor
open Go.ChangeShapes Go.WideShapes Go.ChangeAt Go.RowKit
theorem wp_append_blockR {w : World} {o : Oper} {a : Act} {K : Act → World → Prop} {Q : Exit → Act → World → Prop} (s x : Operand)
    (ho : o.op = .call { callee := .builtin .append, args := #[s, x], argTypes := #[36, 36] })
    (B : Nat) (S : Sl) (bs : List Bk) (hs : a.eval s = S.v) (hF : OwnB w B S bs) (bo : Nat) (y : Bk) (hx : a.eval x = .slice (some ⟨bo, 0, none⟩) 1 1) (hX : Blk w bo 61 y.cells) (hy : y.Ok)
    (hlen : S.n + 1 ≤ 1000000) (hB : B ≤ w.heap.size)
    (h : ∀ S' w', S'.n = S.n + 1 → OwnB w' B S' (bs ++ [y]) → Below B w w' → (∀ (k : Nat) (T : TypeId) (cs : Array Value), w.heap[k]? = some (.cells cs T (0, 0)) → T ≠ 61 → w'.heap[k]? = w.heap[k]?) → K (a.put o.dst S'.v) w') : o.wp Tryz.prog a w K Q := by
  obtain ⟨i0, hi, hz0, hz1, hz2⟩ := info_parts Tryz.infoRB
  refine wp_append_own w s x 36 ho B 61 i0 (.agg #[.slice none 0 0, .int .i64 0, .int .i64 0, .slice none 0 0, .int .i64 0, .int .i64 0, .slice none 0 0, .int .i64 0, .int .i64 0, .slice none 0 0, .int .i64 0, .int .i64 0, .slice none 0 0, .slice none 0 0, .int .i64 0, .int .i64 0, .slice none 0 0, .int .i64 0, .int .i64 0, .slice none 0 0]) 20 288 Tryz.underlying36 hi hz0 hz1 hz2 rfl (by decide) _ S.n _ hs hF.own ⟨bo, 0, none⟩ 1 1 y.cells.toList hx rfl ?_ ?_ (by unfold maxLen; omega) (by omega) hB ?_
  · intro j u hj
    rw [Addr.add_mid, Nat.zero_add]
    exact hX.cell j (by simpa using hj)
  · intro u hu
    exact (Array.all_eq_true_iff_forall_mem.1 (bk_one y)) u (by simpa using hu)
  · intro v' w' hown hg hnil
    have hb : Below B w w' := (Below.refl _ _).grown hg hB (fun k hk => (hF.own.lt k hk).1)
    have hk : ∀ (k : Nat) (T : TypeId) (cs : Array Value), w.heap[k]? = some (.cells cs T (0, 0)) → T ≠ 61 → w'.heap[k]? = w.heap[k]? := fun k T cs h1 h2 => hg.block k (Array.getElem?_eq_some_iff.1 h1).1 (hF.ne h1 h2)
    have e : flat bs ++ y.cells.toList = flat (bs ++ [y]) := by unfold flat; rw [List.flatMap_append]; simp
    rw [e] at hown
    obtain ⟨h1, h2⟩ := hown
    rcases h2 with ⟨h3, h4⟩ | ⟨g', c', cur, hv, hr⟩
    · omega
    · subst hv
      exact h ⟨some ⟨g', 0, none⟩, S.n + 1, c'⟩ w' rfl ⟨⟨h1, Or.inr ⟨g', c', cur, rfl, hr⟩⟩, fun z hz => (List.mem_append.1 hz).elim (hF.ok z) (fun h => by simp at h; subst h; exact hy), hlen⟩ hb hk
/-- A row of layers of the call's own. -/
structure OwnM (w : World) (B : Nat) (s : Sl) (bs : List Bk) : Prop where
  own : w.ownsRow B 60 20 s.v s.n (flat bs)
  ok : ∀ x ∈ bs, x.Ok
  few : s.n ≤ 1000000
theorem OwnM.len {w : World} {B : Nat} {s : Sl} {bs : List Bk} (h : OwnM w B s bs) : bs.length = s.n := by
  have := h.own.1
  rw [flat_len] at this
  omega
theorem OwnM.blocks {w : World} {B : Nat} {s : Sl} {bs : List Bk} (h : OwnM w B s bs) : BlocksAt w s bs := by
  refine ⟨h.len, by have := h.few; omega, h.ok, fun hn => ?_⟩
  rcases h.own.2 with ⟨h0, h1⟩ | ⟨g, cap, cur, hv, _⟩
  · omega
  · unfold Sl.v at hv
    simp only [Value.slice.injEq, true_and] at hv
    refine ⟨g, 0, hv.1, fun t x hx j v hv2 => ?_⟩
    have hc := h.own.cells (g := g) (by unfold Sl.v; rw [hv.1]; rfl) (t * 20 + j) v (flat_at bs t x hx j v hv2)
    rw [Addr.add_mid] at hc
    rw [Nat.zero_add] at hc ⊢
    exact hc
theorem OwnM.below {w w' : World} {B : Nat} {s : Sl} {bs : List Bk} (h : OwnM w B s bs) (hb : Below w.heap.size w w') : OwnM w' B s bs := by
  obtain ⟨h1, h2⟩ := h.own
  refine ⟨⟨h1, ?_⟩, h.ok, h.few⟩
  rcases h2 with h2 | ⟨g, cap, cur, hv, hg, hh, r⟩
  · exact Or.inl h2
  · exact Or.inr ⟨g, cap, cur, hv, hg, by rw [hb.block g (Array.getElem?_eq_some_iff.1 hh).1]; exact hh, r⟩
theorem ownM_nil (w : World) (B : Nat) : OwnM w B ⟨none, 0, 0⟩ [] := ⟨World.ownsRow_nil _ _ _ _, (fun x hx => by cases hx), (by show 0 ≤ 1000000; omega)⟩
theorem OwnM.ne {w : World} {B : Nat} {s : Sl} {bs : List Bk} (h : OwnM w B s bs) {b : Nat} {T : TypeId} {cs : Array Value} (hb : w.heap[b]? = some (.cells cs T (0, 0))) (hT : T ≠ 60) : some b ≠ s.v.ownBlock := by
  intro e
  rcases h.own.2 with ⟨h0, _⟩ | ⟨g, cap, cur, hv, _, hh, _⟩
  · rw [h0] at e; simp [Value.ownBlock] at e
  · rw [hv] at e
    simp [Value.ownBlock] at e
    subst e
    rw [hb] at hh
    simp at hh
    exact hT hh.2
theorem OwnM.keep {w w' : World} {B b : Nat} {T : TypeId} {cs : Array Value} {s : Sl} {bs : List Bk} (h : OwnM w B s bs) (hb : Blk w b T cs) (hT : T ≠ 60) (so : ∀ k, k ≠ b → w'.heap[k]? = w.heap[k]?) : OwnM w' B s bs := by
  have hne := h.ne hb hT
  obtain ⟨h1, h2⟩ := h.own
  refine ⟨⟨h1, h2.imp id ?_⟩, h.ok, h.few⟩
  rintro ⟨g, cap, cur, hv, hg, hh, r⟩
  exact ⟨g, cap, cur, hv, hg, by rw [so g (fun e => hne (by rw [hv, e]; rfl))]; exact hh, r⟩
theorem OwnM.mono {w : World} {B B' : Nat} {s : Sl} {bs : List Bk} (h : OwnM w B s bs) (hB : B' ≤ B) : OwnM w B' s bs := by
  obtain ⟨h1, h2⟩ := h.own
  refine ⟨⟨h1, h2.imp id ?_⟩, h.ok, h.few⟩
  rintro ⟨g, cap, cur, hv, hg, r⟩
  exact ⟨g, cap, cur, hv, by omega, r⟩
/-- append(out, block): nothing turns but the row of layers. -/
theorem wpList_append_blockM {w : World} {ops : Array Oper} {rest : List Oper} {o : Oper} {a : Act} {Q : Exit → Act → World → Prop} (hgd : o.guard = none) (s x : Operand)
    (ho : o.op = .call { callee := .builtin .append, args := #[s, x], argTypes := #[27, 27] })
    (B : Nat) (S : Sl) (bs : List Bk) (hs : a.eval s = S.v) (hF : OwnM w B S bs) (bo : Nat) (y : Bk) (hx : a.eval x = .slice (some ⟨bo, 0, none⟩) 1 1) (hX : Blk w bo 60 y.cells) (hy : y.Ok)
    (hlen : S.n + 1 ≤ 1000000) (hB : B ≤ w.heap.size)
    (h : ∀ S' w', S'.n = S.n + 1 → OwnM w' B S' (bs ++ [y]) → Below B w w' → (∀ (k : Nat) (T : TypeId) (cs : Array Value), w.heap[k]? = some (.cells cs T (0, 0)) → T ≠ 60 → w'.heap[k]? = w.heap[k]?) → wpList Tryz.prog ops Q rest (a.put o.dst S'.v) w') : wpList Tryz.prog ops Q (o :: rest) a w := by
  obtain ⟨i0, hi, hz0, hz1, hz2⟩ := info_parts Tryz.infoBlk
  refine wpList_append_own w hgd s x 27 ho B 60 i0 (.agg #[.slice none 0 0, .int .i64 0, .int .i64 0, .slice none 0 0, .int .i64 0, .int .i64 0, .slice none 0 0, .int .i64 0, .int .i64 0, .slice none 0 0, .int .i64 0, .int .i64 0, .slice none 0 0, .slice none 0 0, .int .i64 0, .int .i64 0, .slice none 0 0, .int .i64 0, .int .i64 0, .slice none 0 0]) 20 288 Tryz.underlying27 hi hz0 hz1 hz2 rfl (by decide) _ S.n _ hs hF.own ⟨bo, 0, none⟩ 1 1 y.cells.toList hx rfl ?_ ?_ (by unfold maxLen; omega) (by omega) hB ?_
  · intro j u hj
    rw [Addr.add_mid, Nat.zero_add]
    exact hX.cell j (by simpa using hj)
  · intro u hu
    exact (Array.all_eq_true_iff_forall_mem.1 (bk_one y)) u (by simpa using hu)
  · intro v' w' hown hg hnil
    have hb : Below B w w' := (Below.refl _ _).grown hg hB (fun k hk => (hF.own.lt k hk).1)
    have hk : ∀ (k : Nat) (T : TypeId) (cs : Array Value), w.heap[k]? = some (.cells cs T (0, 0)) → T ≠ 60 → w'.heap[k]? = w.heap[k]? := fun k T cs h1 h2 => hg.block k (Array.getElem?_eq_some_iff.1 h1).1 (hF.ne h1 h2)
    have e : flat bs ++ y.cells.toList = flat (bs ++ [y]) := by unfold flat; rw [List.flatMap_append]; simp
    rw [e] at hown
    obtain ⟨h1, h2⟩ := hown
    rcases h2 with ⟨h3, h4⟩ | ⟨g', c', cur, hv, hr⟩
    · omega
    · subst hv
      exact h ⟨some ⟨g', 0, none⟩, S.n + 1, c'⟩ w' rfl ⟨⟨h1, Or.inr ⟨g', c', cur, rfl, hr⟩⟩, fun z hz => (List.mem_append.1 hz).elim (hF.ok z) (fun h => by simp at h; subst h; exact hy), hlen⟩ hb hk
theorem FR.typeM {w w' : World} {B : Nat} {s : Sl} {n : Nat} {A : List Int} (h : FR w B s n A) (hk : ∀ (k : Nat) (T : TypeId) (cs : Array Value), w.heap[k]? = some (.cells cs T (0, 0)) → T ≠ 60 → w'.heap[k]? = w.heap[k]?) : FR w' B s n A := by
  obtain ⟨g, h1, h2, F⟩ := h
  obtain ⟨c9, h9, _⟩ := F.row
  exact ⟨g, h1, h2, F.of_block (hk g _ _ h9 (by decide))⟩
theorem wp_append_blockM {w : World} {o : Oper} {a : Act} {K : Act → World → Prop} {Q : Exit → Act → World → Prop} (s x : Operand)
    (ho : o.op = .call { callee := .builtin .append, args := #[s, x], argTypes := #[27, 27] })
    (B : Nat) (S : Sl) (bs : List Bk) (hs : a.eval s = S.v) (hF : OwnM w B S bs) (bo : Nat) (y : Bk) (hx : a.eval x = .slice (some ⟨bo, 0, none⟩) 1 1) (hX : Blk w bo 60 y.cells) (hy : y.Ok)
    (hlen : S.n + 1 ≤ 1000000) (hB : B ≤ w.heap.size)
    (h : ∀ S' w', S'.n = S.n + 1 → OwnM w' B S' (bs ++ [y]) → Below B w w' → (∀ (k : Nat) (T : TypeId) (cs : Array Value), w.heap[k]? = some (.cells cs T (0, 0)) → T ≠ 60 → w'.heap[k]? = w.heap[k]?) → K (a.put o.dst S'.v) w') : o.wp Tryz.prog a w K Q := by
  obtain ⟨i0, hi, hz0, hz1, hz2⟩ := info_parts Tryz.infoBlk
  refine wp_append_own w s x 27 ho B 60 i0 (.agg #[.slice none 0 0, .int .i64 0, .int .i64 0, .slice none 0 0, .int .i64 0, .int .i64 0, .slice none 0 0, .int .i64 0, .int .i64 0, .slice none 0 0, .int .i64 0, .int .i64 0, .slice none 0 0, .slice none 0 0, .int .i64 0, .int .i64 0, .slice none 0 0, .int .i64 0, .int .i64 0, .slice none 0 0]) 20 288 Tryz.underlying27 hi hz0 hz1 hz2 rfl (by decide) _ S.n _ hs hF.own ⟨bo, 0, none⟩ 1 1 y.cells.toList hx rfl ?_ ?_ (by unfold maxLen; omega) (by omega) hB ?_
  · intro j u hj
    rw [Addr.add_mid, Nat.zero_add]
    exact hX.cell j (by simpa using hj)
  · intro u hu
    exact (Array.all_eq_true_iff_forall_mem.1 (bk_one y)) u (by simpa using hu)
  · intro v' w' hown hg hnil
    have hb : Below B w w' := (Below.refl _ _).grown hg hB (fun k hk => (hF.own.lt k hk).1)
    have hk : ∀ (k : Nat) (T : TypeId) (cs : Array Value), w.heap[k]? = some (.cells cs T (0, 0)) → T ≠ 60 → w'.heap[k]? = w.heap[k]? := fun k T cs h1 h2 => hg.block k (Array.getElem?_eq_some_iff.1 h1).1 (hF.ne h1 h2)
    have e : flat bs ++ y.cells.toList = flat (bs ++ [y]) := by unfold flat; rw [List.flatMap_append]; simp
    rw [e] at hown
    obtain ⟨h1, h2⟩ := hown
    rcases h2 with ⟨h3, h4⟩ | ⟨g', c', cur, hv, hr⟩
    · omega
    · subst hv
      exact h ⟨some ⟨g', 0, none⟩, S.n + 1, c'⟩ w' rfl ⟨⟨h1, Or.inr ⟨g', c', cur, rfl, hr⟩⟩, fun z hz => (List.mem_append.1 hz).elim (hF.ok z) (fun h => by simp at h; subst h; exact hy), hlen⟩ hb hk
end Go.Proofs.YtmdjlaileakbeaaGreatDoor

/- Rows, rows of rows and lists of them that came in: as they read, nothing said of what is frozen; copies of them, of the call's own. -/
namespace Go.Proofs.YtmdjlaileakbeaaGreatDoor
open Go.ChangeShapes Go.WideShapes Go.ChangeAt Go.RowKit
structure ArgR (w : World) (ao : Option Addr) (n ca : Nat) (A : List Int) : Prop where
  row : RowAt w ao n A
  fit : n ≤ ca
  max : ca ≤ 9223372036854775807
  nil : ao = none → ca = 0
theorem ArgR.below {w w' : World} {ao : Option Addr} {n ca : Nat} {A : List Int} (h : ArgR w ao n ca A) (hb : Below w.heap.size w w') : ArgR w' ao n ca A := ⟨h.row.below hb, h.fit, h.max, h.nil⟩
theorem Arg.raw {w : World} {ao : Option Addr} {n ca : Nat} {A : List Int} (h : Arg w ao n ca A) : ArgR w ao n ca A := ⟨h.row, h.fit, h.max, h.nil⟩
structure GridR (w : World) (ao : Option Addr) (n : Nat) (R : List (List Int)) : Prop where
  len : R.length = n
  max : n ≤ 9223372036854775807
  cells : 0 < n → ∃ b o, ao = some ⟨b, o, none⟩ ∧ ∀ t, t < n → ∃ ro m c, w.cell? ⟨b, o + t, none⟩ = some (.slice ro m c) ∧ ArgR w ro m c (rowOf R t)
theorem GridR.nil (w : World) (ao : Option Addr) : GridR w ao 0 [] := ⟨rfl, by omega, fun h => by omega⟩
theorem GridR.below {w w' : World} {ao : Option Addr} {n : Nat} {R : List (List Int)} (h : GridR w ao n R) (hb : Below w.heap.size w w') : GridR w' ao n R := by
  refine ⟨h.len, h.max, fun hn => ?_⟩
  obtain ⟨b, o, e, hc⟩ := h.cells hn
  refine ⟨b, o, e, fun t ht => ?_⟩
  obtain ⟨ro, m, c, h1, h2⟩ := hc t ht
  have hlt : b < w.heap.size := by simpa using World.block_lt_of_cell? w _ h1
  exact ⟨ro, m, c, by rw [hb.cell (by exact hlt)]; exact h1, h2.below hb⟩
theorem GridAt.raw {w : World} {ao : Option Addr} {n : Nat} {R : List (List Int)} (h : GridAt w ao n R) : GridR w ao n R := ⟨h.len, h.max, fun hn => by
  obtain ⟨b, o, e, hc⟩ := h.cells hn
  exact ⟨b, o, e, fun t ht => let ⟨ro, m, c, h1, h2⟩ := hc t ht; ⟨ro, m, c, h1, h2.raw⟩⟩⟩
structure CubeR (w : World) (ao : Option Addr) (m : Nat) (C : List (List (List Int))) : Prop where
  len : C.length = m
  max : m ≤ 9223372036854775807
  cells : 0 < m → ∃ b o, ao = some ⟨b, o, none⟩ ∧ ∀ (t : Nat) (R : List (List Int)), C[t]? = some R → ∃ ro n c, w.cell? ⟨b, o + t, none⟩ = some (.slice ro n c) ∧ (ro = none → c = 0) ∧ n ≤ c ∧ c ≤ 9223372036854775807 ∧ GridR w ro n R
theorem CubeR.nil (w : World) (ao : Option Addr) : CubeR w ao 0 [] := ⟨rfl, by omega, fun h => by omega⟩
theorem CubeR.below {w w' : World} {ao : Option Addr} {m : Nat} {C : List (List (List Int))} (h : CubeR w ao m C) (hb : Below w.heap.size w w') : CubeR w' ao m C := by
  refine ⟨h.len, h.max, fun hn => ?_⟩
  obtain ⟨b, o, e, hc⟩ := h.cells hn
  refine ⟨b, o, e, fun t R hR => ?_⟩
  obtain ⟨ro, n, c, h1, h2, h3, h4, h5⟩ := hc t R hR
  have hlt : b < w.heap.size := by simpa using World.block_lt_of_cell? w _ h1
  exact ⟨ro, n, c, by rw [hb.cell (by exact hlt)]; exact h1, h2, h3, h4, h5.below hb⟩
theorem CubeAt.raw {w : World} {ao : Option Addr} {m : Nat} {C : List (List (List Int))} (h : CubeAt w ao m C) : CubeR w ao m C := ⟨h.len, h.max, fun hn => by
  obtain ⟨b, o, e, hc⟩ := h.cells hn
  exact ⟨b, o, e, fun t R hR => let ⟨ro, n, c, h1, h2, h3, h4, h5⟩ := hc t R hR; ⟨ro, n, c, h1, h2, h3, h4, h5.raw⟩⟩⟩
set_option maxHeartbeats 800000 in
theorem fewR_any (ao : Option Addr) (n ca : Nat) (A : List Int) (lim : Nat) (li : Int) (w : World) (hli : li = lim) (hA : ArgR w ao n ca A) (hl : lim ≤ 5000) :
   Calls Tryz.prog 17 #[.slice ao n ca, .int .i64 li] w fun e w' => ∃ g n' cap, e = .returned (.slice (some ⟨g, 0, none⟩) n' cap) ∧ n' ≤ lim ∧ Fresh w' w.heap.size g n' cap (A.take lim) ∧ Below w.heap.size w w' := by
  subst hli
  have hm := hA.max
  have hf := hA.fit
  have hlen := hA.row.len
  have F0 := fresh_empty w
  have B0 : Below w.heap.size w (w.alloc (.cells #[] 83)) := (Below.refl _ _).alloc (Nat.le_refl _) _
  by_cases hgt : lim < n
  · obtain ⟨b, o, rfl, hc⟩ := hA.row.cells (by omega)
    have R := (hA.row.part 0 lim (by omega)).below B0
    rw [Nat.add_zero, List.drop_zero] at R
    clear hA hc hlen
    go_enter Tryz.func17, Tryz.ntmps17
    go_wp2_with (at_builtin; refine wpList_append_row rfl _ _ rfl w.heap.size w.heap.size 0 0 [] rfl F0 (some ⟨b, o, none⟩) lim ca (A.take lim) rfl R (fun h => by cases h) (by omega) (by simp) ?_; intro g' cap' w' F1 B1)
    rw [Nat.zero_add, List.nil_append] at *
    go_ret
    exact ⟨_, _, _, rfl, Nat.le_refl _, F1, B0.trans B1⟩
  · have R := hA.row.below B0
    have ht : A.take lim = A := List.take_of_length_le (by omega)
    rw [ht]
    have hnil := hA.nil
    clear hA ht hlen
    go_enter Tryz.func17, Tryz.ntmps17
    go_wp2_with (at_builtin; refine wpList_append_row rfl _ _ rfl w.heap.size w.heap.size 0 0 [] rfl F0 ao n ca A rfl R hnil (by omega) (by simp) ?_; intro g' cap' w' F1 B1)
    rw [Nat.zero_add, List.nil_append] at *
    go_ret
    exact ⟨_, _, _, rfl, by omega, F1, B0.trans B1⟩
set_option maxHeartbeats 1600000 in
theorem hrowsR_any (ao : Option Addr) (n ca : Nat) (R : List (List Int)) (lim : Nat) (li : Int) (w : World) (hli : li = lim) (hR : GridR w ao n R) (hlim : lim ≤ 5000) :
   Calls Tryz.prog 32 #[.slice ao n ca, .int .i64 li] w fun e w' => ∃ g k cap, e = .returned (.slice (some ⟨g, 0, none⟩) k cap) ∧ k ≤ lim ∧ OwnGrid w' w.heap.size g k cap (rowsN R lim) ∧ Below w.heap.size w w' := by
  subst hli
  have hn := hR.max
  have hl := hR.len
  have F0 := ownGrid_empty w
  have B0 : Below w.heap.size w (w.alloc (.cells #[] 24)) := (Below.refl _ _).alloc (Nat.le_refl _) _
  have HR : Hid (∀ wv, Below w.heap.size w wv → GridR wv ao n R) := fun wv hb => hR.below hb
  go_enter Tryz.func32, Tryz.ntmps32
  go_wp2
  generalize w.alloc (.cells #[] 24) = w0 at *
  clear hR
  go_loopg [5, 6] lim (fun r s i wr => ∃ (k g cap : Nat), k ≤ lim ∧ k ≤ n ∧ r = lim - k ∧ i = .int .i64 k ∧ s = .slice (some ⟨g, 0, none⟩) k cap ∧ OwnGrid wr w.heap.size g k cap (rowsN R k) ∧ Below w.heap.size w wr)
  case atStart => exact ⟨0, _, _, by omega, by omega, by omega, rfl, rfl, by unfold rowsN; rw [List.take_zero]; exact F0, B0⟩
  case round =>
    obtain ⟨k, g, cap, hk, hkn, rfl, rfl, rfl, F2, B2⟩ := hrel
    clear F0 B0
    by_cases hlt : k < n
    · by_cases h6 : k < lim
      · obtain ⟨b, o, rfl, hc⟩ := (HR.out _ B2).cells (by omega)
        obtain ⟨ro, m1, c1, q1, A1⟩ := hc k hlt
        have HS : Hid (rowsN R (k + 1) = rowsN R k ++ [(rowOf R k).take 40]) := take_snoc (by omega)
        have s2 := B2.size
        clear hc
        go_wp2_with (first | (go_at_call 17; refine (fewR_any _ _ _ _ 40 _ _ rfl A1 (by omega)).mono ?_; rintro e w3 ⟨g3, n3, c3, rfl, hm3, F3, B3⟩; have BL : Below w3.heap.size w3 (w3.alloc (.cells #[.slice (some ⟨g3, 0, none⟩) n3 c3] 24)) := (Below.refl _ _).alloc (Nat.le_refl _) _; have cX := cellRow_new w3 (.slice (some ⟨g3, 0, none⟩) n3 c3); have F4 := (F3.mono s2).below BL; have G4 := (F2.below B3).below BL; have s3 := B3.size; have s4 := BL.size; have B4 := below_then (below_then B2 B3) BL; have BO := below_then B3 BL; have hg3 := F3.base; generalize hw4 : w3.alloc (.cells #[.slice (some ⟨g3, 0, none⟩) n3 c3] 24) = w4 at *) | (at_builtin; refine wpList_append_grid rfl _ _ rfl w.heap.size g k cap _ rfl (by exact G4) _ (by exact F2) (by exact BO) w3.heap.size g3 n3 c3 _ rfl (by exact cX) (by exact F4) (by exact hg3) (by omega) (by omega) ?_; intro g' cap' w' F7 B7))
        go_roundg (lim - (k + 1))
        case measure => omega
        case rel => exact ⟨k + 1, _, _, by omega, by omega, rfl, by go_num, rfl, by rw [HS.out]; exact F7, B4.trans B7⟩
      · obtain rfl : k = lim := by omega
        go_wp2
        go_ret
        exact ⟨_, _, _, rfl, Nat.le_refl _, F2, B2⟩
    · obtain rfl : k = n := by omega
      have e : rowsN R k = rowsN R lim := by unfold rowsN; rw [List.take_of_length_le (by omega), List.take_of_length_le (by omega)]
      rw [e] at F2
      clear e
      go_wp2
      go_ret
      exact ⟨_, _, _, rfl, hk, F2, B2⟩
/-- At most five lists of at most lim rows of at most 40 numbers. -/
def cutC (C : List (List (List Int))) (lim : Nat) : List (List (List Int)) := (C.take 5).map fun R => rowsN R lim
theorem cutC_len (C : List (List (List Int))) (lim : Nat) : (cutC C lim).length = min 5 C.length := by unfold cutC; simp
theorem cutC_snoc {C : List (List (List Int))} {k : Nat} {R : List (List Int)} (lim : Nat) (_hk : k < 5) (h : C[k]? = some R) : ((C.take (k + 1)).map fun R => rowsN R lim) = ((C.take k).map fun R => rowsN R lim) ++ [rowsN R lim] := by
  rw [take_one h]; simp
set_option maxRecDepth 100000 in
set_option maxHeartbeats 800000 in
theorem listsR_any (ao : Option Addr) (n ca : Nat) (C : List (List (List Int))) (m5 : Nat) (Z : List (List (List Int))) (w : World) (hC : CubeR w ao n C) (hm5 : m5 = min 5 n) (hZ : Z = cutC C 130) :
   Calls Tryz.prog 19 #[.slice ao n ca] w fun e w' => ∃ g cap, e = .returned (.slice (some ⟨g, 0, none⟩) m5 cap) ∧ New w.heap.size w' (fun w => CubeAt w (some ⟨g, 0, none⟩) m5 Z) ∧ Below w.heap.size w w' := by
  have hl := hC.len
  have F0 := ownCube_empty w
  have B0 : Below w.heap.size w (w.alloc (.cells #[] 77)) := (Below.refl _ _).alloc (Nat.le_refl _) _
  have HC : Hid (∀ wv, Below w.heap.size w wv → CubeR wv ao n C) := fun wv hb => hC.below hb
  go_enter Tryz.func19, Tryz.ntmps19
  go_wp2
  generalize w.alloc (.cells #[] 77) = w0 at *
  have hC' := hC
  have HZ : Hid (Z = cutC C 130) := hZ
  have HM5 : Hid (m5 = min 5 n) := hm5
  clear hC hZ hm5
  have hmx := hC'.max
  go_loopg [3, 4] n (fun r s i wr => ∃ (k g cap : Nat), k ≤ n ∧ k ≤ 5 ∧ r = n - k ∧ i = .int .i64 k ∧ s = .slice (some ⟨g, 0, none⟩) k cap ∧ OwnCube wr w.heap.size g k cap ((C.take k).map fun R => rowsN R 130) ∧ Below w.heap.size w wr)
  case atStart => exact ⟨0, _, _, by omega, by omega, by omega, rfl, rfl, by rw [List.take_zero]; exact F0, B0⟩
  case round =>
    obtain ⟨k, g, cap, hk, hk5, rfl, rfl, rfl, F2, B2⟩ := hrel
    clear hC'
    clear F0 B0
    by_cases hlt : k < n ∧ k < 5
    · obtain ⟨hlt, h5⟩ := hlt
      obtain ⟨b, o, rfl, hc⟩ := (HC.out _ B2).cells (by omega)
      obtain ⟨R, hR⟩ : ∃ R, C[k]? = some R := ⟨_, List.getElem?_eq_getElem (show k < C.length by omega)⟩
      obtain ⟨ro, m1, c1, q1, -, -, -, G1⟩ := hc k R hR
      have HS : Hid (((C.take (k + 1)).map fun R => rowsN R 130) = ((C.take k).map fun R => rowsN R 130) ++ [rowsN R 130]) := cutC_snoc 130 h5 hR
      have s2 := B2.size
      have lg := F2.lt
      have h5' : (k : Int) < 5 := by omega
      clear hc
      go_wp2_with fail
      refine (hrowsR_any ro m1 c1 R 130 130 _ rfl G1 (by omega)).mono ?_
      rintro e w3 ⟨g3, n3, c3, rfl, hm3, OG, B3⟩
      obtain ⟨p1, p2⟩ := own_caps OG.own.choose_spec.1
      have NG := OG.hangs (by omega)
      have BL : Below w3.heap.size w3 (w3.alloc (.cells #[.slice (some ⟨g3, 0, none⟩) n3 c3] 77)) := (Below.refl _ _).alloc (Nat.le_refl _) _
      have cX := cellList_new w3 (.slice (some ⟨g3, 0, none⟩) n3 c3)
      have F4 := (F2.below B3).below BL
      have s3 := B3.size
      have s4 := BL.size
      have NG4 : Hangs (fun b => w.heap.size ≤ b ∧ b ≠ g) (w3.alloc (.cells #[.slice (some ⟨g3, 0, none⟩) n3 c3] 77)) (fun w => GridAt w (some ⟨g3, 0, none⟩) n3 (rowsN R 130)) := Hangs.mono (Hangs.below NG BL) (fun b _ hb => ⟨by omega, by omega⟩)
      have B4 := below_then (below_then B2 B3) BL
      clear NG OG F2 G1 q1
      generalize hw4 : w3.alloc (.cells #[.slice (some ⟨g3, 0, none⟩) n3 c3] 77) = w4 at *
      go_wp2_with (at_builtin; refine wpList_append_cube rfl _ _ rfl w.heap.size g k cap _ rfl (by exact F4) w3.heap.size g3 n3 c3 (rowsN R 130) rfl (by exact cX) p1 p2 (by exact NG4) (by omega) (by omega) ?_; intro g' cap' w' F7 B7)
      go_roundg (n - (k + 1))
      case measure => omega
      case rel => exact ⟨k + 1, _, _, by omega, by omega, rfl, by go_num, rfl, by rw [HS.out]; exact F7, B4.trans B7⟩
    · have e1 : (C.take k).map (fun R => rowsN R 130) = cutC C 130 := by
        unfold cutC
        by_cases h5 : k = 5
        · rw [h5]
        · rw [List.take_of_length_le (by omega), List.take_of_length_le (by omega)]
      have e2 : k = min 5 n := by omega
      have e3 := HM5.out
      rw [← e2] at e3
      rw [e1, ← HZ.out] at F2
      subst e3
      clear hlt
      by_cases h5 : m5 < n
      · have hk5' : (m5 : Int) = 5 := by omega
        clear e1 e2
        go_wp2
        go_ret
        exact ⟨_, _, rfl, F2.hangs (by omega), B2⟩
      · obtain rfl : m5 = n := by omega
        clear e1 e2
        go_wp2
        go_ret
        exact ⟨_, _, rfl, F2.hangs (by omega), B2⟩
end Go.Proofs.YtmdjlaileakbeaaGreatDoor

/- Numbers of a model that came in, as they read; what is told of a layer. -/
namespace Go.Proofs.YtmdjlaileakbeaaGreatDoor
open Go.ChangeShapes Go.WideShapes Go.ChangeAt Go.RowKit
set_option maxHeartbeats 1600000 in
theorem mfewR_any (r c : Int) (ao : Option Addr) (n ca : Nat) (D : List Int) (w : World) (hD : ArgR w ao n ca D) :
   Calls Tryz.prog 16 #[matV r c ao n ca] w fun e w' => ∃ g n' cap, e = .returned (matV r c (some ⟨g, 0, none⟩) n' cap) ∧ n' ≤ 2000 ∧ Fresh w' w.heap.size g n' cap (D.take 2000) ∧ Below w.heap.size w w' := by
  have X0 := box_new w r c ao n ca
  have B0 : Below w.heap.size w (w.alloc (.cells #[.int .i64 r, .int .i64 c, .slice ao n ca] 26)) := (Below.refl _ _).alloc (Nat.le_refl _) _
  generalize hw0 : w.alloc (.cells #[.int .i64 r, .int .i64 c, .slice ao n ca] 26) = w0 at X0 B0
  have hs0 : w0.heap.size = w.heap.size + 1 := by rw [← hw0]; simp
  have X1 := box_new w0 0 0 none 0 0
  have B1 : Below w0.heap.size w0 (w0.alloc (.cells #[.int .i64 0, .int .i64 0, .slice none 0 0] 26)) := (Below.refl _ _).alloc (Nat.le_refl _) _
  generalize hw1 : w0.alloc (.cells #[.int .i64 0, .int .i64 0, .slice none 0 0] 26) = w1 at X1 B1
  replace X0 := X0.below B1
  replace B1 := below_then B0 B1
  rw [hs0] at X1
  have q2 := X0.c2
  go_enter Tryz.func16, Tryz.ntmps16
  unfold matV at *
  go_wp2_with fail
  refine (fewR_any ao n ca D 2000 2000 _ rfl (by exact hD.below B1) (by omega)).mono ?_
  rintro e w2 ⟨g2, n2, c2, rfl, l2, F2, B2⟩
  have i2 := F2.base
  have i0 := X0.lt
  have i1 := X1.lt
  replace X0 := X0.below B2
  replace X1 := X1.below B2
  replace B2 := below_then B1 B2
  clear hw0 hw1 q2
  have q0 := X0.c0
  have q1 := X0.c1
  have q2 := X0.c2
  have f2 := X0.frozen 2
  have u0 := X1.c0
  have u1 := X1.c1
  have u2 := X1.c2
  have v0 := X1.frozen 0
  have v1 := X1.frozen 1
  have v2 := X1.frozen 2
  go_wp2
  have X2 := X1.block (w' := w2.setCell ⟨w.heap.size, 2, none⟩ (.slice (some ⟨g2, 0, none⟩) n2 c2)) (Below.heap_setCell _ _ _ _ (by show w.heap.size + 1 ≠ w.heap.size; omega))
  have F3 := F2.setOther (a := ⟨w.heap.size, 2, none⟩) (by show g2 ≠ w.heap.size; omega) (.slice (some ⟨g2, 0, none⟩) n2 c2)
  have B3 := B2.setCell (p := ⟨w.heap.size, 2, none⟩) (Nat.le_refl _) (.slice (some ⟨g2, 0, none⟩) n2 c2)
  generalize w2.setCell ⟨w.heap.size, 2, none⟩ (.slice (some ⟨g2, 0, none⟩) n2 c2) = w3 at *
  refine bodyPost_ret (results_cell_row rfl _ _ (w.heap.size + 1) _ _ _ _ rfl (X2.put _ _ _ _ _) Tryz.underlying26 rfl (by kernel_rfl)) rfl ?_
  exact ⟨g2, n2, c2, rfl, l2, (F3.mono (by omega)).put (by omega) _ _ _, Below.put B3 (by omega) _ _ _⟩
/-- A layer that came in. -/
structure LyR (w : World) (x : Bk) (y : Lay) : Prop where
  f : ArgR w x.f.ao x.f.n x.f.c y.F
  q : ArgR w x.q.d.ao x.q.d.n x.q.d.c y.Q
  k : ArgR w x.k.d.ao x.k.d.n x.k.d.c y.K
  v : ArgR w x.v.d.ao x.v.d.n x.v.d.c y.V
  o : ArgR w x.o.d.ao x.o.d.n x.o.d.c y.O
  s : ArgR w x.s.ao x.s.n x.s.c y.S
  u : ArgR w x.u.d.ao x.u.d.n x.u.d.c y.U
  d : ArgR w x.d.d.ao x.d.d.n x.d.d.c y.N
theorem LyR.below {w w' : World} {x : Bk} {y : Lay} (h : LyR w x y) (hb : Below w.heap.size w w') : LyR w' x y := ⟨h.f.below hb, h.q.below hb, h.k.below hb, h.v.below hb, h.o.below hb, h.s.below hb, h.u.below hb, h.d.below hb⟩
/-- A model's numbers that came in. -/
structure WtR (w : World) (W : Wt) (bs : List Bk) (M : Mdl) : Prop where
  ok : W.Ok
  e : ArgR w W.e.d.ao W.e.d.n W.e.d.c M.E
  b : BlocksAt w W.b bs
  len : bs.length = M.Ls.length
  ls : ∀ (t : Nat) (x : Bk), bs[t]? = some x → ∃ y, M.Ls[t]? = some y ∧ LyR w x y
  l : ArgR w W.l.ao W.l.n W.l.c M.G
  o : ArgR w W.o.d.ao W.o.d.n W.o.d.c M.O
theorem WtR.below {w w' : World} {W : Wt} {bs : List Bk} {M : Mdl} (h : WtR w W bs M) (hb : Below w.heap.size w w') : WtR w' W bs M :=
  ⟨h.ok, h.e.below hb, h.b.below hb, h.len, fun t x hx => let ⟨y, h1, h2⟩ := h.ls t x hx; ⟨y, h1, h2.below hb⟩, h.l.below hb, h.o.below hb⟩
def cutL (n : Nat) (y : Lay) : Lay := ⟨y.F.take n, y.Q.take 2000, y.K.take 2000, y.V.take 2000, y.O.take 2000, y.S.take n, y.U.take 2000, y.N.take 2000⟩
/-- A layer that was told: rows of the call's own, the sides as they were. -/
structure BT (w : World) (B : Nat) (x x' : Bk) (y : Lay) : Prop where
  f : FR w B x'.f x'.f.n y.F
  q : FR w B x'.q.d x'.q.d.n y.Q
  k : FR w B x'.k.d x'.k.d.n y.K
  v : FR w B x'.v.d x'.v.d.n y.V
  o : FR w B x'.o.d x'.o.d.n y.O
  s : FR w B x'.s x'.s.n y.S
  u : FR w B x'.u.d x'.u.d.n y.U
  d : FR w B x'.d.d x'.d.d.n y.N
  qs : x'.q.r = x.q.r ∧ x'.q.c = x.q.c
  ks : x'.k.r = x.k.r ∧ x'.k.c = x.k.c
  vs : x'.v.r = x.v.r ∧ x'.v.c = x.v.c
  os : x'.o.r = x.o.r ∧ x'.o.c = x.o.c
  us : x'.u.r = x.u.r ∧ x'.u.c = x.u.c
  ds : x'.d.r = x.d.r ∧ x'.d.c = x.d.c
theorem BT.below {w w' : World} {B : Nat} {x x' : Bk} {y : Lay} (h : BT w B x x' y) (hb : Below w.heap.size w w') : BT w' B x x' y := ⟨h.f.below hb, h.q.below hb, h.k.below hb, h.v.below hb, h.o.below hb, h.s.below hb, h.u.below hb, h.d.below hb, h.qs, h.ks, h.vs, h.os, h.us, h.ds⟩
theorem BT.keep {w w' : World} {B b : Nat} {T : TypeId} {cs : Array Value} {x x' : Bk} {y : Lay} (h : BT w B x x' y) (hb : Blk w b T cs) (hT : T ≠ 83) (so : ∀ k, k ≠ b → w'.heap[k]? = w.heap[k]?) : BT w' B x x' y := ⟨h.f.keep hb hT so, h.q.keep hb hT so, h.k.keep hb hT so, h.v.keep hb hT so, h.o.keep hb hT so, h.s.keep hb hT so, h.u.keep hb hT so, h.d.keep hb hT so, h.qs, h.ks, h.vs, h.os, h.us, h.ds⟩
theorem BT.typeR {w w' : World} {B : Nat} {x x' : Bk} {y : Lay} (h : BT w B x x' y) (hk : ∀ (k : Nat) (T : TypeId) (cs : Array Value), w.heap[k]? = some (.cells cs T (0, 0)) → T ≠ 61 → w'.heap[k]? = w.heap[k]?) : BT w' B x x' y := ⟨h.f.type hk, h.q.type hk, h.k.type hk, h.v.type hk, h.o.type hk, h.s.type hk, h.u.type hk, h.d.type hk, h.qs, h.ks, h.vs, h.os, h.us, h.ds⟩
theorem BT.typeM {w w' : World} {B : Nat} {x x' : Bk} {y : Lay} (h : BT w B x x' y) (hk : ∀ (k : Nat) (T : TypeId) (cs : Array Value), w.heap[k]? = some (.cells cs T (0, 0)) → T ≠ 60 → w'.heap[k]? = w.heap[k]?) : BT w' B x x' y := ⟨h.f.typeM hk, h.q.typeM hk, h.k.typeM hk, h.v.typeM hk, h.o.typeM hk, h.s.typeM hk, h.u.typeM hk, h.d.typeM hk, h.qs, h.ks, h.vs, h.os, h.us, h.ds⟩
theorem BT.mono {w : World} {B B' : Nat} {x x' : Bk} {y : Lay} (h : BT w B x x' y) (hB : B' ≤ B) : BT w B' x x' y := ⟨h.f.mono hB, h.q.mono hB, h.k.mono hB, h.v.mono hB, h.o.mono hB, h.s.mono hB, h.u.mono hB, h.d.mono hB, h.qs, h.ks, h.vs, h.os, h.us, h.ds⟩
/-- Layers that were told, one by one. -/
structure BTs (w : World) (B n k : Nat) (bs xs : List Bk) (Ls : List Lay) : Prop where
  len : xs.length = k
  at_ : ∀ (t : Nat) (x' : Bk), xs[t]? = some x' → ∃ x y, bs[t]? = some x ∧ Ls[t]? = some y ∧ BT w B x x' (cutL n y)
theorem BTs.map {w w' : World} {B n k : Nat} {bs xs : List Bk} {Ls : List Lay} (h : BTs w B n k bs xs Ls) (f : ∀ {x x' : Bk} {y : Lay}, BT w B x x' y → BT w' B x x' y) : BTs w' B n k bs xs Ls := ⟨h.len, fun t x' hx => let ⟨x, y, h1, h2, h3⟩ := h.at_ t x' hx; ⟨x, y, h1, h2, f h3⟩⟩
theorem bts_nil (w : World) (B n : Nat) (bs : List Bk) (Ls : List Lay) : BTs w B n 0 bs [] Ls := ⟨rfl, fun t x' hx => by simp at hx⟩
theorem BTs.snoc {w : World} {B n k : Nat} {bs xs : List Bk} {Ls : List Lay} (h : BTs w B n k bs xs Ls) {x x' : Bk} {y : Lay} (h1 : bs[k]? = some x) (h2 : Ls[k]? = some y) (h3 : BT w B x x' (cutL n y)) : BTs w B n (k + 1) bs (xs ++ [x']) Ls := by
  have hl := h.len
  refine ⟨by simp [hl], fun t z hz => ?_⟩
  rcases Nat.lt_or_ge t k with ht | ht
  · rw [List.getElem?_append_left (by omega)] at hz
    exact h.at_ t z hz
  · rw [List.getElem?_append_right (by omega), hl] at hz
    have ht2 : t < k + 1 := by
      rcases Nat.lt_or_ge (t - k) 1 with q | q
      · omega
      · rw [List.getElem?_eq_none (by simpa using q)] at hz; cases hz
    obtain rfl : t = k := by omega
    simp at hz
    subst hz
    exact ⟨x, y, h1, h2, h3⟩
/-- What Told (n = 100) and Of (n = 5000) hand out. -/
structure WTold (w : World) (B n k : Nat) (W W' : Wt) (bs xs : List Bk) (M : Mdl) : Prop where
  e : FR w B W'.e.d W'.e.d.n (M.E.take 2000)
  es : W'.e.r = W.e.r ∧ W'.e.c = W.e.c
  l : FR w B W'.l W'.l.n (M.G.take n)
  o : FR w B W'.o.d W'.o.d.n (M.O.take 2000)
  os : W'.o.r = W.o.r ∧ W'.o.c = W.o.c
  b : BlocksAt w W'.b xs
  ls : BTs w B n k bs xs M.Ls
end Go.Proofs.YtmdjlaileakbeaaGreatDoor

/- What was told of a model reads as a model again, and its check is the same. -/
namespace Go.Proofs.YtmdjlaileakbeaaGreatDoor
open Go.ChangeShapes Go.WideShapes Go.ChangeAt Go.RowKit
def cutM (n k : Nat) (M : Mdl) : Mdl := ⟨M.E.take 2000, (M.Ls.take k).map (cutL n), M.G.take n, M.O.take 2000⟩
theorem FR.raw {w : World} {B : Nat} {s : Sl} {n : Nat} {A : List Int} (h : FR w B s n A) : ArgR w s.ao s.n s.c A := by
  obtain ⟨g, e1, e2, F⟩ := h
  exact ⟨by rw [e1, e2]; exact F.rowAt, by rw [e2]; exact F.fit, F.max, fun h => by rw [e1] at h; cases h⟩
theorem BT.raw {w : World} {B : Nat} {x x' : Bk} {y : Lay} (h : BT w B x x' y) : LyR w x' y :=
  ⟨h.f.raw, h.q.raw, h.k.raw, h.v.raw, h.o.raw, h.s.raw, h.u.raw, h.d.raw⟩
theorem BTs.le {w : World} {B n k : Nat} {bs xs : List Bk} {Ls : List Lay} (h : BTs w B n k bs xs Ls) : k ≤ Ls.length := by
  have hl := h.len
  by_cases h0 : k = 0
  · omega
  · obtain ⟨x, y, _, h2, _⟩ := h.at_ (k - 1) (xs[k - 1]'(by omega)) (List.getElem?_eq_getElem (by omega))
    have := (List.getElem?_eq_some_iff.1 h2).1
    omega
theorem cutLs_at {n k t : Nat} {Ls : List Lay} {y : Lay} (ht : t < k) (h : Ls[t]? = some y) : ((Ls.take k).map (cutL n))[t]? = some (cutL n y) := by
  rw [List.getElem?_map, List.getElem?_take_of_lt ht, h]; rfl
theorem mt_ok_of {m m' : Mt} (h : m.Ok) (e : m'.r = m.r ∧ m'.c = m.c) : m'.Ok := ⟨by rw [e.1]; exact h.r, by rw [e.2]; exact h.c⟩
theorem WTold.raw {w : World} {B n k : Nat} {W W' : Wt} {bs xs : List Bk} {M : Mdl} (h : WTold w B n k W W' bs xs M) (hW : W.Ok) : WtR w W' xs (cutM n k M) := by
  have hle := h.ls.le
  have hl := h.ls.len
  refine ⟨⟨mt_ok_of hW.e h.es, by have := h.l.row.max; omega, mt_ok_of hW.o h.os⟩, h.e.raw, h.b, ?_, ?_, h.l.raw, h.o.raw⟩
  · show xs.length = ((M.Ls.take k).map (cutL n)).length
    simp; omega
  · intro t x' hx
    have ht : t < k := by have := (List.getElem?_eq_some_iff.1 hx).1; omega
    obtain ⟨x, y, _, h2, h3⟩ := h.ls.at_ t x' hx
    exact ⟨cutL n y, cutLs_at ht h2, h3.raw⟩
theorem sides_congr {m m' : Mt} (e : m'.r = m.r ∧ m'.c = m.c) (h : m'.d.n = m.d.n) (R K : Int) : sidesB m' R K = sidesB m R K := by
  unfold sidesB; rw [e.1, e.2, h]
theorem fr_len {w : World} {B n : Nat} {s : Sl} {A : List Int} (h : FR w B s n A) : A.length = n := h.row.len
theorem bk_again {w1 w2 : World} {B1 B2 : Nat} {x x' x'' : Bk} {y : Lay} (h1 : BT w1 B1 x x' (cutL 100 y)) (h2 : BT w2 B2 x' x'' (cutL 5000 (cutL 100 y))) (D H : Int) : bkB D H x'' = bkB D H x' := by
  have t2 : ∀ A : List Int, ((A.take 2000).take 2000).length = (A.take 2000).length := fun A => by rw [List.take_take]; rfl
  have t1 : ∀ A : List Int, ((A.take 100).take 5000).length = (A.take 100).length := fun A => by rw [List.take_take]; rfl
  have f : x''.f.n = x'.f.n := by rw [← fr_len h2.f, ← fr_len h1.f]; exact t1 _
  have s : x''.s.n = x'.s.n := by rw [← fr_len h2.s, ← fr_len h1.s]; exact t1 _
  have q : x''.q.d.n = x'.q.d.n := by rw [← fr_len h2.q, ← fr_len h1.q]; exact t2 _
  have k : x''.k.d.n = x'.k.d.n := by rw [← fr_len h2.k, ← fr_len h1.k]; exact t2 _
  have v : x''.v.d.n = x'.v.d.n := by rw [← fr_len h2.v, ← fr_len h1.v]; exact t2 _
  have o : x''.o.d.n = x'.o.d.n := by rw [← fr_len h2.o, ← fr_len h1.o]; exact t2 _
  have u : x''.u.d.n = x'.u.d.n := by rw [← fr_len h2.u, ← fr_len h1.u]; exact t2 _
  have d : x''.d.d.n = x'.d.d.n := by rw [← fr_len h2.d, ← fr_len h1.d]; exact t2 _
  unfold bkB
  rw [f, s, sides_congr h2.qs q, sides_congr h2.ks k, sides_congr h2.vs v, sides_congr h2.os o, sides_congr h2.us u, sides_congr h2.ds d]
theorem all_of_map {α : Type} {p : α → Bool} {A B : List α} (h : A.map p = B.map p) : A.all p = B.all p := by
  have e : ∀ L : List α, L.all p = (L.map p).all id := fun L => by rw [List.all_map]; rfl
  rw [e, e, h]
theorem check_again {w1 w2 : World} {B1 B2 k : Nat} {W W' W'' : Wt} {bs xs ys : List Bk} {M : Mdl} (h1 : WTold w1 B1 100 k W W' bs xs M) (h2 : WTold w2 B2 5000 W'.b.n W' W'' xs ys (cutM 100 k M)) (V D Hd H L : Int) :
    checkN V D Hd H L W'' ys = checkN V D Hd H L W' xs := by
  have t2 : ∀ A : List Int, ((A.take 2000).take 2000).length = (A.take 2000).length := fun A => by rw [List.take_take]; rfl
  have t1 : ∀ A : List Int, ((A.take 100).take 5000).length = (A.take 100).length := fun A => by rw [List.take_take]; rfl
  have e : W''.e.d.n = W'.e.d.n := by rw [← fr_len h2.e, ← fr_len h1.e]; exact t2 _
  have o : W''.o.d.n = W'.o.d.n := by rw [← fr_len h2.o, ← fr_len h1.o]; exact t2 _
  have l : W''.l.n = W'.l.n := by rw [← fr_len h2.l, ← fr_len h1.l]; exact t1 _
  have l1 := h1.ls.len
  have l2 := h2.ls.len
  have l3 := h2.b.len
  have l4 := h1.b.len
  have b : W''.b.n = W'.b.n := by omega
  have hm : ys.map (bkB D H) = xs.map (bkB D H) := by
    apply List.ext_getElem (by simp; omega)
    intro t ht1 ht2
    have hy : ys[t]? = some (ys[t]'(by simpa using ht1)) := List.getElem?_eq_getElem _
    have hx : xs[t]? = some (xs[t]'(by simpa using ht2)) := List.getElem?_eq_getElem _
    obtain ⟨x', y2, g1, g2, g3⟩ := h2.ls.at_ t _ hy
    obtain ⟨x, y, g4, g5, g6⟩ := h1.ls.at_ t _ hx
    rw [hx] at g1
    obtain rfl := Option.some.inj g1
    have htk : t < k := by have : t < xs.length := by simpa using ht2
                           omega
    have g7 : (cutM 100 k M).Ls[t]? = some (cutL 100 y) := cutLs_at htk g5
    rw [g7] at g2
    obtain rfl := Option.some.inj g2
    rw [List.getElem_map, List.getElem_map]
    exact bk_again g6 g3 D H
  unfold checkN fitsB
  rw [sides_congr h2.es e, sides_congr h2.os o, l, b, all_of_map hm]
end Go.Proofs.YtmdjlaileakbeaaGreatDoor
