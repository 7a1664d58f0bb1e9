/- The given statement on GreedyAsks: at every input the law returns true and its arguments read as before; the listed table lies as the program's text lays it (the card ties it). -/
import Derived.Test.YthlpenbggcmagaaDoorPk7
import Derived.Test.YthlpenbggcmagaaDoorRows
import Derived.Test.YthlpenbggcmagaaDoorCards
import Derived.Test.YthlpenbggcmagaaDoorTie
import Derived.Test.YthlpenbggcmagaaDoorPk8
import Derived.Test.YthlpenbggcmagaaDoorPk3
import Derived.ProofKit
import Derived.Carry
import Derived.LaidMore
import Derived.OpenShut
import Derived.Stop.Joined
import Derived.SevenTiedAt
/- The document's errors of prompts and requests, and its ends. -/
namespace Go.Proofs.YthlpenbggcmagaaDoor
open Go.ChangeShapes Go.WideShapes Go.ChangeAt Go.RowKit
theorem refPrompt_any (V D Hd H L : Int) (ao : Option Addr) (n ca : Nat) (A : List Int) (w : World) (hA : IArg w ao n ca A) :
   Calls Tryd.prog 17 #[.agg (cfgC V D Hd H L), .slice ao n ca] w fun e w' => e = .returned (.int .i64 (promptN V A)) ∧ Below w.heap.size w w' := by
  have hl := hA.row.len
  have hm := hA.row.max
  have X0 := blk_new w 23 (cfgC V D Hd H L)
  have B0 : Below w.heap.size w (w.alloc (.cells (cfgC V D Hd H L) 23)) := (Below.refl _ _).alloc (Nat.le_refl _) _
  unfold cfgC at *
  generalize hw0 : w.alloc (.cells #[.int .i64 V, .int .i64 D, .int .i64 Hd, .int .i64 H, .int .i64 L] 23) = w0 at *
  have a0 : w0.cell? ⟨w.heap.size, 0, none⟩ = some (.int .i64 V) := X0.cell 0 rfl
  have R := hA.row.below B0
  clear hA
  have HN : Hid (promptN V A = if A.length = 0 then 8 else if 128 < A.length then 2 else if A.all (tokB V) = true then 0 else 7) := rfl
  generalize promptN V A = res at *
  by_cases h0 : n = 0
  · subst h0
    have HF : Hid (res = 8) := by show _ = _; rw [HN.out, hl]; rfl
    clear HN
    go_enter Tryd.func17, Tryd.ntmps17
    go_wp2
    go_ret
    exact ⟨ret_int HF.out.symm, B0⟩
  · by_cases h1 : 128 < n
    · have hz0 : ¬ ((n : Int) < 1) := by omega
      have HF : Hid (res = 2) := by show _ = _; rw [HN.out, hl, if_neg h0, if_pos h1]
      clear HN
      go_enter Tryd.func17, Tryd.ntmps17
      go_wp2
      go_ret
      exact ⟨ret_int HF.out.symm, B0⟩
    · have HF : Hid (res = if A.all (tokB V) = true then 0 else 7) := by show _ = _; rw [HN.out, hl, if_neg h0, if_neg h1]
      clear HN
      obtain ⟨b, o, rfl, hc⟩ := R.cells (by omega)
      have hz0 : ¬ ((n : Int) < 1) := by omega
      go_enter Tryd.func17, Tryd.ntmps17
      go_wp2_with fail
      go_loopg [15] n (fun r i wr => ∃ k : Nat, k ≤ n ∧ r = n - k ∧ i = .int .i64 k ∧ (A.take k).all (tokB V) = true ∧ wr = w0)
      case atStart => exact ⟨0, by omega, by omega, rfl, rfl, rfl⟩
      case round =>
        obtain ⟨k, hk, rfl, rfl, hall, rfl⟩ := hrel
        by_cases hlt : k < n
        · have ck := hc k hlt
          have sx := R.small k
          have HS : Hid ((A.take (k + 1)).all (tokB V) = ((A.take k).all (tokB V) && tokB V (el A k))) := all_take_el (by omega)
          have HB : Hid (tokB V (el A k) = false → A.all (tokB V) = false) := fun h => all_not (by omega) h
          have HT : Hid (tokB V (el A k) = decide (0 ≤ el A k ∧ el A k < V)) := rfl
          clear hc
          generalize el A k = x at *
          by_cases h2 : x < 0
          · have HR : Hid (res = 7) := by show _ = _; rw [HF.out, HB.out (by rw [HT.out]; exact decide_eq_false (by omega))]; rfl
            clear HF HS HB HT
            go_wp2
            go_ret
            exact ⟨ret_int HR.out.symm, B0⟩
          · by_cases h3 : V ≤ x
            · have HR : Hid (res = 7) := by show _ = _; rw [HF.out, HB.out (by rw [HT.out]; exact decide_eq_false (by omega))]; rfl
              clear HF HS HB HT
              go_wp2
              go_ret
              exact ⟨ret_int HR.out.symm, B0⟩
            · have HA : Hid ((A.take (k + 1)).all (tokB V) = true) := by show _ = _; rw [HS.out, hall, HT.out, decide_eq_true (by omega)]; rfl
              clear HS HB HT
              go_wp2
              go_roundg (n - (k + 1))
              case measure => omega
              case rel => exact ⟨k + 1, by omega, rfl, by go_num, HA.out, rfl⟩
        · obtain rfl : k = n := by omega
          rw [← hl, List.take_length] at hall
          have HR : Hid (res = 0) := by show _ = _; rw [HF.out, hall]; rfl
          clear HF
          go_wp2
          go_ret
          exact ⟨ret_int HR.out.symm, B0⟩
theorem refAsked_any (V D Hd H L : Int) (ao : Option Addr) (n ca : Nat) (A : List Int) (most : Int) (w : World) (hA : IArg w ao n ca A) :
   Calls Tryd.prog 9 #[.agg (cfgC V D Hd H L), .slice ao n ca, .int .i64 most] w fun e w' => e = .returned (.int .i64 (askedN V A most)) ∧ Below w.heap.size w w' := by
  have hl := hA.row.len
  have X0 := blk_new w 23 (cfgC V D Hd H L)
  have B0 : Below w.heap.size w (w.alloc (.cells (cfgC V D Hd H L) 23)) := (Below.refl _ _).alloc (Nat.le_refl _) _
  have CP := fun (wv : World) (hb : Below w.heap.size w wv) => refPrompt_any V D Hd H L ao n ca A wv (hA.below hb)
  have HP : Hid (promptN V A = 0 → n ≤ 128) := fun h => by have := prompt_ok h; omega
  have HN : Hid (askedN V A most = if promptN V A ≠ 0 then promptN V A else if most < 1 then 1 else if 128 - (n : Int) < most then 2 else 0) := by show _ = _; unfold askedN; rw [hl]
  generalize askedN V A most = res at *
  generalize promptN V A = q at *
  unfold cfgC at *
  generalize hw0 : w.alloc (.cells #[.int .i64 V, .int .i64 D, .int .i64 Hd, .int .i64 H, .int .i64 L] 23) = w0 at *
  have a0 : w0.cell? ⟨w.heap.size, 0, none⟩ = some (.int .i64 V) := X0.cell 0 rfl
  have a1 : w0.cell? ⟨w.heap.size, 1, none⟩ = some (.int .i64 D) := X0.cell 1 rfl
  have a2 : w0.cell? ⟨w.heap.size, 2, none⟩ = some (.int .i64 Hd) := X0.cell 2 rfl
  have a3 : w0.cell? ⟨w.heap.size, 3, none⟩ = some (.int .i64 H) := X0.cell 3 rfl
  have a4 : w0.cell? ⟨w.heap.size, 4, none⟩ = some (.int .i64 L) := X0.cell 4 rfl
  clear hA
  go_enter Tryd.func9, Tryd.ntmps9
  go_wp2_with fail
  refine (CP _ B0).mono ?_
  rintro e w1 ⟨rfl, B1⟩
  have D1 := below_then B0 B1
  clear a0 a1 a2 a3 a4 hw0 CP
  by_cases hq : q = 0
  · subst hq
    have hn := HP.out rfl
    by_cases h1 : most < 1
    · have HF : Hid (res = 1) := by show _ = _; rw [HN.out, if_neg (by simp), if_pos h1]
      clear HN
      go_wp2
      go_ret
      exact ⟨ret_int HF.out.symm, D1⟩
    · by_cases h2 : 128 - (n : Int) < most
      · have HF : Hid (res = 2) := by show _ = _; rw [HN.out, if_neg (by simp), if_neg h1, if_pos h2]
        clear HN
        by_cases h3 : 128 < most
        · go_wp2
          go_ret
          exact ⟨ret_int HF.out.symm, D1⟩
        · have ew : IntKind.i64.wrap ((n : Int) + most) = (n : Int) + most := wrap_in (by omega)
          have h4 : 128 < (n : Int) + most := by omega
          go_wp2
          go_ret
          exact ⟨ret_int HF.out.symm, D1⟩
      · have HF : Hid (res = 0) := by show _ = _; rw [HN.out, if_neg (by simp), if_neg h1, if_neg h2]
        have ew : IntKind.i64.wrap ((n : Int) + most) = (n : Int) + most := wrap_in (by omega)
        have h3 : ¬ 128 < most := by omega
        have h4 : ¬ 128 < (n : Int) + most := by omega
        clear HN
        go_wp2
        go_ret
        exact ⟨ret_int HF.out.symm, D1⟩
  · have HF : Hid (res = q) := by show _ = _; rw [HN.out, if_pos hq]
    have hq' : (q == 0) = false := by simpa using hq
    clear HN
    go_wp2
    go_ret
    exact ⟨ret_int HF.out.symm, D1⟩
theorem refOver_any (ao : Option Addr) (n ca : Nat) (A : List Int) (most : Int) (w : World) (hA : IRowAt w ao n A) :
   Calls Tryd.prog 11 #[.slice ao n ca, .int .i64 most] w fun e w' => e = .returned (.bool (overB A most)) ∧ w' = w := by
  have hl := hA.len
  have hm := hA.max
  have HE : Hid (overB A most = (decide (most ≤ (n : Int)) || (decide (0 < n) && decide (el A (n - 1) = 0)))) := by show _ = _; unfold overB endB; rw [hl]
  generalize overB A most = res at *
  by_cases h0 : most ≤ (n : Int)
  · have HF : Hid (res = true) := by show _ = _; rw [HE.out, decide_eq_true h0]; rfl
    clear HE
    go_enter Tryd.func11, Tryd.ntmps11
    go_wp2
    go_ret
    exact ⟨by rw [HF.out]; rfl, rfl⟩
  · by_cases h1 : n = 0
    · subst h1
      have HF : Hid (res = false) := by show _ = _; rw [HE.out, decide_eq_false h0]; rfl
      have h9 : decide (most ≤ (0 : Int)) = false := decide_eq_false (by omega)
      clear HE
      go_enter Tryd.func11, Tryd.ntmps11
      go_wp2
      go_ret
      exact ⟨by rw [HF.out]; rfl, rfl⟩
    · obtain ⟨b, o, rfl, hc⟩ := hA.cells (by omega)
      obtain ⟨m, rfl⟩ : ∃ m, n = m + 1 := ⟨n - 1, by omega⟩
      have hc0 := hc m (by omega)
      have e1 : IntKind.i64.wrap (((m : Int) + 1) - 1) = (m : Int) := by rw [show ((m : Int) + 1) - 1 = m by omega]; exact wrap_in (by omega)
      have HE2 : Hid (res = decide (el A m = 0)) := by show _ = _; rw [HE.out, decide_eq_false h0, decide_eq_true (by omega), Bool.true_and, Bool.false_or]; rfl
      clear HE hc hl
      generalize el A m = x at *
      by_cases hx : x = 0
      · subst hx
        have HF : Hid (res = true) := by show _ = _; rw [HE2.out]; simp
        clear HE2
        go_enter Tryd.func11, Tryd.ntmps11
        go_wp2
        go_ret
        exact ⟨by rw [HF.out]; rfl, rfl⟩
      · have HF : Hid (res = false) := by show _ = _; rw [HE2.out, decide_eq_false hx]
        have h9 : decide (most ≤ (m : Int) + 1) = false := decide_eq_false (by omega)
        have hx' : (x == 0) = false := by simpa using hx
        clear HE2
        go_enter Tryd.func11, Tryd.ntmps11
        go_wp2
        go_ret
        exact ⟨by rw [HF.out]; rfl, rfl⟩
end Go.Proofs.YthlpenbggcmagaaDoor

/- Requests, ends and the first best token are as the document says: the walk. -/
namespace Go.Proofs.YthlpenbggcmagaaDoor
open Go.ChangeShapes Go.WideShapes Go.ChangeAt Go.RowKit
set_option maxRecDepth 100000 in
set_option maxHeartbeats 400000 in
theorem greedyAsks_walk (C : Cfg) (a1 : Option Addr) (n1 c1 : Nat) (Z1 : List Int) (a2 : Option Addr) (n2 c2 : Nat) (Z2 : List Int) (most : Int) (a3 : Option Addr) (n3 c3 : Nat) (Z3 : List Int) (w : World) (_hC : C.Ok) (h1 : IArg w a1 n1 c1 Z1) (h2 : IArg w a2 n2 c2 Z2) (_bm : -9223372036854775808 ≤ most ∧ most ≤ 9223372036854775807) (h3 : Arg w a3 n3 c3 Z3) (hT : Tab w) :
   Calls Tryd.prog 3 #[C.val, .slice a1 n1 c1, .slice a2 n2 c2, .int .i64 most, .slice a3 n3 c3] w fun e w' => e = .returned (.bool true) ∧ Below w.heap.size w w' := by
  obtain ⟨V, D, Hd, H, L⟩ := C
  have HT : Hid (∀ wv, Below w.heap.size w wv → Tab wv) := fun wv hb => hT.next hb
  have CF1 := fun (wv : World) (hb : Below w.heap.size w wv) => few8_any a1 n1 c1 Z1 200 wv (h1.below hb) (by omega)
  have CF2 := fun (wv : World) (hb : Below w.heap.size w wv) => few8_any a2 n2 c2 Z2 200 wv (h2.below hb) (by omega)
  have CF3 := fun (wv : World) (hb : Below w.heap.size w wv) => few_any a3 n3 c3 Z3 200 200 wv rfl (h3.below hb) (by omega)
  have sm : ∀ Z : List Int, (∀ k, -9223372036854775808 ≤ el Z k ∧ el Z k ≤ 9223372036854775807) → ∀ k, -9223372036854775808 ≤ el (Z.take 200) k ∧ el (Z.take 200) k ≤ 9223372036854775807 := fun Z hZ k => by
    rcases Nat.lt_or_ge k 200 with h | h
    · rw [el_take h]; exact hZ k
    · rw [el_over (by rw [List.length_take]; omega)]; omega
  have s1 := sm Z1 h1.row.small
  have s2 := sm Z2 h2.row.small
  clear hT h1 h2 h3 sm
  show Calls Tryd.prog 3 #[.agg #[.int .i64 V, .int .i64 D, .int .i64 Hd, .int .i64 H, .int .i64 L], .slice a1 n1 c1, .slice a2 n2 c2, .int .i64 most, .slice a3 n3 c3] w _
  have X0 := blk_new w 23 #[.int .i64 V, .int .i64 D, .int .i64 Hd, .int .i64 H, .int .i64 L]
  have B0 : Below w.heap.size w (w.alloc (.cells #[.int .i64 V, .int .i64 D, .int .i64 Hd, .int .i64 H, .int .i64 L] 23)) := (Below.refl _ _).alloc (Nat.le_refl _) _
  generalize hw0 : w.alloc (.cells #[.int .i64 V, .int .i64 D, .int .i64 Hd, .int .i64 H, .int .i64 L] 23) = w0 at *
  go_enter Tryd.func3, Tryd.ntmps3
  go_wp2_with fail
  refine (CF1 _ B0).mono ?_
  rintro e w1 ⟨b1, k1, rfl, O1, B1⟩
  generalize Z1.take 200 = P1 at *
  generalize hl1 : P1.length = l1 at *
  clear hl1
  have D1 := below_then B0 B1
  replace X0 := X0.below B1
  clear hw0 CF1 B0 B1
  go_wp2_with fail
  refine (CF2 _ D1).mono ?_
  rintro e w2 ⟨b2, k2, rfl, O2, B2⟩
  generalize Z2.take 200 = P2 at *
  generalize hl2 : P2.length = l2 at *
  clear hl2
  have D2 := below_then D1 B2
  replace X0 := X0.below B2
  replace O1 := owns_below O1 B2
  clear CF2 D1 B2
  go_wp2_with fail
  refine (CF3 _ D2).mono ?_
  rintro e w3 ⟨g3, m3, k3, rfl, hm3, F3, B3⟩
  have D3 := below_then D2 B3
  replace X0 := X0.below B3
  replace O1 := owns_below O1 B3
  replace O2 := owns_below O2 B3
  clear CF3 D2 B3
  obtain ⟨x1, y1, e1, I1⟩ := IOwn.arg O1 s1
  obtain ⟨x2, y2, e2, I2⟩ := IOwn.arg O2 s2
  simp only [Value.slice.injEq, true_and] at e1 e2
  obtain ⟨rfl, rfl⟩ := e1
  obtain ⟨rfl, rfl⟩ := e2
  generalize Z3.take 200 = P3 at *
  have HI1 : Hid (∀ wv, Below w3.heap.size w3 wv → IArg wv (some ⟨b1, 0, none⟩) l1 k1 P1) := fun wv hb => I1.below hb
  have HI2 : Hid (∀ wv, Below w3.heap.size w3 wv → IRowAt wv (some ⟨b2, 0, none⟩) l2 P2) := fun wv hb => (I2.below hb).row
  have HF3 : Hid (∀ wv, Below w3.heap.size w3 wv → RowAt wv (some ⟨g3, 0, none⟩) m3 P3) := fun wv hb => (F3.below hb).rowAt
  have q0 : ∀ p : Nxt w3, p.to.cell? ⟨w.heap.size, 0, none⟩ = some (.int .i64 V) := fun p => (X0.below p.ok).cell 0 rfl
  have q1 : ∀ p : Nxt w3, p.to.cell? ⟨w.heap.size, 1, none⟩ = some (.int .i64 D) := fun p => (X0.below p.ok).cell 1 rfl
  have q2 : ∀ p : Nxt w3, p.to.cell? ⟨w.heap.size, 2, none⟩ = some (.int .i64 Hd) := fun p => (X0.below p.ok).cell 2 rfl
  have q3 : ∀ p : Nxt w3, p.to.cell? ⟨w.heap.size, 3, none⟩ = some (.int .i64 H) := fun p => (X0.below p.ok).cell 3 rfl
  have q4 : ∀ p : Nxt w3, p.to.cell? ⟨w.heap.size, 4, none⟩ = some (.int .i64 L) := fun p => (X0.below p.ok).cell 4 rfl
  have CA := fun (p : Nxt w3) => asked_any V D Hd H L (some ⟨b1, 0, none⟩) l1 k1 P1 most p.to (HI1.out _ p.ok)
  have CB := fun (p : Nxt w3) => refAsked_any V D Hd H L (some ⟨b1, 0, none⟩) l1 k1 P1 most p.to (HI1.out _ p.ok)
  have CO := fun (p : Nxt w3) => over_any (some ⟨b2, 0, none⟩) l2 k2 P2 most p.to (HI2.out _ p.ok)
  have CP := fun (p : Nxt w3) => refOver_any (some ⟨b2, 0, none⟩) l2 k2 P2 most p.to (HI2.out _ p.ok)
  have CX := fun (p : Nxt w3) => gnext_any (some ⟨g3, 0, none⟩) m3 k3 P3 p.to (HF3.out _ p.ok)
  have CY := fun (p : Nxt w3) => refArgmax_any (some ⟨g3, 0, none⟩) m3 k3 P3 p.to (HF3.out _ p.ok)
  have CW := fun (p : Nxt w3) => gawake_any p.to (HT.out _ (below_then D3 p.ok))
  unfold cfgC at CA CB
  generalize askedN V P1 most = qa at *
  generalize overB P2 most = qo at *
  generalize amax P3 m3 = qx at *
  clear X0 O1 O2 I1 I2 F3 s1 s2 HI1 HI2 HF3
  go_wp2_with fail
  haveI := nxt_ne w3
  refine wp_region_nxt (by kernel_rfl) (by kernel_rfl) ?_
  repeat (first | go_big_quiet_skip | (go_big_quiet_want; go_big_quiet_op; first | go_big_quiet_on | (apply Exists.intro; refine ⟨fun pq => ?_, ?_⟩; (first | (go_at_call 7; exact calls_nxt (CW pq)) | (go_at_call 8; exact calls_nxt (CA pq)) | (go_at_call 9; exact calls_nxt (CB pq)) | (go_at_call 10; exact calls_nxt_same (CO pq)) | (go_at_call 11; exact calls_nxt_same (CP pq)) | (go_at_call 12; exact calls_nxt_same (CX pq)) | (go_at_call 13; exact calls_nxt_drew (CY pq)) | exact rfl); go_big_quiet_on)))
  refine wpQuiet_nil ?_
  intro _ hw'
  obtain ⟨⟨wq, hwq⟩, hw''⟩ := hw'
  subst hw''
  go_wp2
  go_ret
  exact ⟨rfl, below_then D3 hwq⟩
end Go.Proofs.YthlpenbggcmagaaDoor

/- The given statement on GreedyAsks: at every input the law returns true and its arguments read as before; the listed table lies as the program's text lays it (the card ties it). -/
namespace Go.Proofs.YthlpenbggcmagaaDoor.greedyAsks
open Go.ChangeShapes Go.WideShapes Go.ChangeAt Go.WideMaps Go.WideElems Go.RowKit
set_option linter.unusedVariables false
abbrev lst : List (String × DataW Unit) := Rows.greedyAsksRow.laid
theorem door_met (os : Os) (args : Array Value) : laidMetH Tryd.prog lst ((World.doorLaid Tryd.prog 14 os).forCall (fun _ _ => 0) ⟨#[], args, []⟩).memory :=
  laidMetH_of_parts3 (fuel := 8) (laidMet_of_run' 8 (by kernel_rfl) (by kernel_rfl)) (by kernel_rfl) (by kernel_rfl)
set_option maxRecDepth 100000 in
theorem lifted (os : Os) (started : os.Started) (H : Type) (enc : TypeId × Value → H) :
    ReturnsInHanded {} Tryd.checked os 3 .any (fun w args => (Rows.greedyAsksSpec.pre enc Tryd.prog Tryd.f3 [] false w args ∧ laidMetH Tryd.prog lst w) ∧ sizedMet enc Tryd.prog Tryd.f3 (OpenSpec.ofChange Rows.greedyAsksSpec) false w args)
      (Rows.greedyAsksSpec.post enc Tryd.prog Tryd.f3 false true false false) := by
  refine returnsInHanded_of_change_and (C := Tryd.checked) (X := fun w _ => laidMetH Tryd.prog lst w) (fun _ _ _ hh h => h.of_heap hh) Tryd.own started (by kernel_rfl) Tryd.func3
    (ChangeSpec.witness_shaped (enc := enc) (C := Tryd.checked) (os := os) (X := fun w _ => laidMetH Tryd.prog lst w) false (World.doorLaid Tryd.prog 14 os) #[.agg #[.int .i64 0, .int .i64 0, .int .i64 0, .int .i64 0, .int .i64 0], .slice none 0 0, .slice none 0 0, .int .i64 0, .slice none 0 0] 8 rfl (World.shaped_of_RefB (by kernel_rfl) (by kernel_rfl)) (by kernel_rfl) (by kernel_rfl) (by kernel_rfl) (door_met os _)) ?_
  intro W base args ds gs before hval0 hW _ _ hL _
  have hval : ∀ (j : Nat) t v, Tryd.f3.params[j]? = some t → args[j]? = some v → Value.okWide Tryd.prog W .any base t v := hval0
  have hW' := hW
  obtain ⟨p, q, hA0, hV, rfl, _, _⟩ := hW
  have hA : DataW.TrodAll enc Tryd.prog W 0 (fun _ => true) true Tryd.f3.params.toList args.toList ds p := hA0
  rw [Tryd.params3] at hA hval
  obtain ⟨v0, vs0, d0, ds0, p0, q0, hargs, rfl, rfl, h0, r0⟩ := trodAll_cons hA
  obtain ⟨v1, vs1, d1, ds1, p1, q1, rfl, rfl, rfl, h1, r1⟩ := trodAll_cons r0
  obtain ⟨v2, vs2, d2, ds2, p2, q2, rfl, rfl, rfl, h2, r2⟩ := trodAll_cons r1
  obtain ⟨v3, vs3, d3, ds3, p3, q3, rfl, rfl, rfl, h3, r3⟩ := trodAll_cons r2
  obtain ⟨v4, vs4, d4, ds4, p4, q4, rfl, rfl, rfl, h4, r4⟩ := trodAll_cons r3
  obtain ⟨rfl, rfl, rfl⟩ := trodAll_nil r4
  obtain rfl : args = #[v0, v1, v2, v3, v4] := by cases args; simp_all
  obtain ⟨rfl, rfl⟩ := trodVars_none hV
  have k0 := h0
  obtain ⟨C0, rfl, g0⟩ := viewCfg (hval 0 _ v0 rfl rfl) h0
  have k1 := h1
  obtain ⟨a1, n1, c1, Z1, rfl, g1⟩ := viewI (hval 1 _ v1 rfl rfl) h1
  have k2 := h2
  obtain ⟨a2, n2, c2, Z2, rfl, g2⟩ := viewI (hval 2 _ v2 rfl rfl) h2
  have k3 := h3
  obtain ⟨a3, rfl, rfl, rfl, w3⟩ := open_int Tryd.underlying3 (hval 3 3 v3 rfl rfl) h3
  have b3 := bounds_i64 w3
  have k4 := h4
  obtain ⟨a4, n4, c4, Z4, rfl, g4⟩ := view (hval 4 _ v4 rfl rfl) h4
  clear hA0 hval0
  simp only [List.append_nil] at hW'
  have hlt : ∀ x ∈ p0 ++ p1 ++ p2 ++ p4, x.block < W.heap.size := fun x hx => by
    have hx2 := hx
    exact hW'.lt x (by grind)
  refine (greedyAsks_walk C0 a1 n1 c1 Z1 a2 n2 c2 Z2 a3 a4 n4 c4 Z4 W g0 g1 g2 b3 g4 (tab_of_laid hL)).mono fun e W' ⟨he, hb⟩ => ?_
  subst he
  exact ⟨_, rfl, _, _, _, [], _, [], hW', trodAll_mk1 (shut_bool Tryd.underlying4 true), trodAll_cons_mk (Below.trod Tryd.laidOut (by kernel_rfl) (of_decide_eq_true (by kernel_rfl)) k0 hb (fun x hx => hlt x (by simp [hx]))) (trodAll_cons_mk (Below.trod Tryd.laidOut (by kernel_rfl) (of_decide_eq_true (by kernel_rfl)) k1 hb (fun x hx => hlt x (by simp [hx]))) (trodAll_cons_mk (Below.trod Tryd.laidOut (by kernel_rfl) (of_decide_eq_true (by kernel_rfl)) k2 hb (fun x hx => hlt x (by simp [hx]))) (trodAll_cons_mk (shut_int Tryd.underlying3 w3) (trodAll_cons_mk (Below.trod Tryd.laidOut (by kernel_rfl) (of_decide_eq_true (by kernel_rfl)) k4 hb (fun x hx => hlt x (by simp [hx]))) trodAll_mk0)))), rfl, hb.frame _, fun h => by cases h⟩
theorem row_holds : Rows.GreedyAsksSaid :=
  OpenClaim.holds_of_wide 3 Tryd.f3 rfl rfl rfl rfl rfl rfl rfl ⟨rfl, rfl, rfl, rfl, rfl⟩ rfl rfl rfl rfl rfl (by kernel_rfl) Tryd.func3 (by kernel_rfl)
    (of_decide_eq_true (by kernel_rfl)) (by unfold Func.isWrapper; first | (rw [if_pos (by decide +kernel)]; kernel_rfl) | (rw [if_neg (by decide +kernel)]; exact ⟨rfl, rfl⟩))
    (fun os started H enc _ => lifted os started H enc)
/-- The given statement. -/
theorem card_holds : Rows.GreedyAsksCardSaid :=
  Claim7.holds_tied_plain_at .later [] [.data] true (true, "09ce2c38ff9bf4d17c793b416d1c3226a1cdcdc98cd4836ca0fd7b4653ec0128") false
    row_holds (fun _ h => by cases h) (by kernel_rfl) (fun _ h => by cases h) greedyAsks_row_tie rfl ⟨rfl, rfl⟩ (by kernel_rfl) rfl
    (fun f fn hf hfn => by
      obtain rfl : f = 3 := Option.some.inj ((show Tryd.prog.funcNamed Rows.greedyAsksRow.func = some 3 by kernel_rfl).symm.trans hf) |>.symm
      obtain rfl : fn = Tryd.f3 := (Option.some.inj (Tryd.func3.symm.trans hfn)).symm
      exact ⟨by kernel_rfl, fun j t ht => by
        rw [Tryd.params3] at ht
        have hm : t ∈ [23, 24, 24, 3, 25] := by simpa using Array.mem_of_getElem? ht
        have hall : ([23, 24, 24, 3, 25].all fun u => !Tryd.prog.wantsStandIn u) = true := by kernel_rfl
        exact (show Tryd.prog.wantsStandIn t = false by simpa using List.all_eq_true.1 hall t hm)⟩)
    (by kernel_rfl)
end Go.Proofs.YthlpenbggcmagaaDoor.greedyAsks
namespace Go.Proofs.YthlpenbggcmagaaDoor
theorem greedyAsks_holds : Rows.GreedyAsksCardSaid := greedyAsks.card_holds
#print axioms greedyAsks_holds
end Go.Proofs.YthlpenbggcmagaaDoor
