/- TrieFronts' walk: the longest row is that of the longest beginning that is there. -/
import Derived.Test.YtkahgbkmpmnklaaTFew
namespace Go.Proofs.Ytkahgbkmpmnklaa
open Go.ChangeShapes Go.WideShapes Go.ChangeAt Go.RowKit Go.Maps
/-- What Put tells of a row of n numbers where there is room. -/
def putE (n : Nat) : Int := if n = 0 then 8 else if 128 < n then 2 else 0
/-- What is kept behind Put where there is room. -/
def putV (vl : List Int → Option Int) (A : List Int) (v : Int) : List Int → Option Int := if A.length = 0 then vl else if 128 < A.length then vl else upd vl A (some v)
/-- Put of any row of at most 140 numbers where there is room. -/
theorem put_some (ca b n : Nat) (A : List Int) (v : Int) (w : World) (B tb NB cnt : Nat) (vl : List Int → Option Int) (h : TA w B tb vl NB cnt) (hA : Tk w (some ⟨b, 0, none⟩) n A) (hf : 1 ≤ n → ∀ b' o, (some ⟨b, 0, none⟩ : Option Addr) = some ⟨b', o, none⟩ → w.cell? ⟨b', 0, none⟩ = some (.int .i64 (A.getD 0 0)))
    (hn : n ≤ 140) (hc : cnt < 1000) (hN : NB ≤ 1000000) :
   Calls Try.prog 6 #[.pointer (some ⟨tb, 0, none⟩), .slice (some ⟨b, 0, none⟩) n ca, .int .i64 v] w fun e w' => (∃ x, e = .returned (.tuple #[.bool x, .int .i64 (putE n)])) ∧ (∃ c', c' ≤ cnt + 1 ∧ TA w' B tb (putV vl A v) (NB + 140) c') ∧ Below B w w' := by
  have hl := hA.len
  unfold putE putV
  rw [hl]
  by_cases h0 : n = 0
  · subst h0
    rw [if_pos rfl, if_pos rfl]
    exact (put_none ca _ v tb w).mono fun e w' ⟨he, hw⟩ => ⟨⟨_, he⟩, ⟨cnt, by omega, by rw [hw]; exact h.wider (by omega)⟩, by rw [hw]; exact Below.refl _ _⟩
  rw [if_neg h0, if_neg h0]
  by_cases h1 : 128 < n
  · rw [if_pos h1, if_pos h1]
    exact (put_big n ca _ v tb w h1 (by omega)).mono fun e w' ⟨he, hw⟩ => ⟨⟨_, he⟩, ⟨cnt, by omega, by rw [hw]; exact h.wider (by omega)⟩, by rw [hw]; exact Below.refl _ _⟩
  rw [if_neg h1, if_neg h1]
  rcases hx : vl A with _ | x
  · exact (put_new _ n ca A v w B tb NB cnt vl h hA (hf (by omega)) (by omega) (by omega) hx hc (by omega)).mono fun e w' ⟨he, T, hb⟩ => ⟨⟨_, he⟩, ⟨cnt + 1, by omega, T.wider (by omega)⟩, hb⟩
  · exact (put_there _ n ca A v x w B tb NB cnt vl h hA (by omega) (by omega) hx).mono fun e w' ⟨he, T, hb⟩ => ⟨⟨_, he⟩, ⟨cnt, by omega, T.wider (by omega)⟩, hb⟩
set_option maxRecDepth 8000 in
set_option maxHeartbeats 4000000 in
theorem trieFronts_walk (a0 : Option Addr) (n0 c0 : Nat) (Z0 : GZ) (a1 : Option Addr) (n1 c1 : Nat) (Z1 : List Int) (w : World) (G0 : GridI w a0 n0 Z0.A Z0.L Z0.C Z0.Z) (G1 : IArg w a1 n1 c1 Z1) :
   Calls Try.prog 4 #[.slice a0 n0 c0, .slice a1 n1 c1] w fun e w' => e = .returned (.bool true) ∧ Below w.heap.size w w' := by
  have AW := fun W => awake_any W
  have T0 := ta_new w
  have B0 := below_alloc w (.cells #[.map none, .bool false, .int .i64 0, .int .i64 0] 27)
  have hm0 := G0.max
  go_enter Try.func4, Try.ntmps4
  go_wp2_with fail
  generalize hw1 : w.alloc (.cells #[.map none, .bool false, .int .i64 0, .int .i64 0] 27) = w1 at *
  clear hw1
  go_loopg [6] n0 (fun r s6 wr => ∃ i : Nat, i ≤ n0 ∧ i ≤ 30 ∧ r = n0 - i ∧ s6 = .int .i64 (i : Int) ∧ (∃ vl c, c ≤ i ∧ TA wr w.heap.size w.heap.size vl (140 * i) c) ∧ Below w.heap.size w wr)
  case atStart => exact ⟨0, by omega, by omega, by omega, rfl, ⟨_, 0, by omega, T0⟩, B0⟩
  case round =>
    clear T0 B0
    obtain ⟨i, hi, hi30, rfl, rfl, ⟨vl, c, hc, TT⟩, BB⟩ := hrel
    by_cases hgo : i < n0 ∧ i < 30
    · obtain ⟨hl1, hl2⟩ := hgo
      · obtain ⟨b, o, rfl, hcl⟩ := G0.cells (by omega)
        obtain ⟨h1, hI'⟩ := hcl i hl1
        have hlt : b < w.heap.size := by simpa using World.block_lt_of_cell? w _ h1
        have h2 : wr.cell? ⟨b, o + i, none⟩ = some (.slice (Z0.A i) (Z0.L i) (Z0.C i)) := by rw [BB.cell (by exact hlt)]; exact h1
        have F := few8_any _ _ _ _ 140 wr (hI'.below BB) (by omega)
        have hs := hI'.take_small 140
        have hZl : ((Z0.Z i).take 140).length ≤ 140 := by rw [List.length_take]; omega
        have FP : Hid (∀ (b2 cp : Nat) (w2 : World), IOwn w2 wr.heap.size (.slice (some ⟨b2, 0, none⟩) ((Z0.Z i).take 140).length cp) ((Z0.Z i).take 140).length ((Z0.Z i).take 140) → Below wr.heap.size wr w2 → Calls Try.prog 6 #[.pointer (some ⟨w.heap.size, 0, none⟩), .slice (some ⟨b2, 0, none⟩) ((Z0.Z i).take 140).length cp, .int .i64 (i : Int)] w2 fun e w' => (∃ x, e = .returned (.tuple #[.bool x, .int .i64 (putE ((Z0.Z i).take 140).length)])) ∧ (∃ c', c' ≤ c + 1 ∧ TA w' w.heap.size w.heap.size (putV vl ((Z0.Z i).take 140) i) (140 * i + 140) c') ∧ Below w.heap.size w2 w') :=
          fun b2 cp w2 O2 B2 => put_some cp b2 _ _ (i : Int) w2 _ _ _ _ _ (TT.below B2) (O2.tk hs (by omega)) (fun h => O2.first hs h) hZl (by omega) (by omega)
        clear hcl h1 hI' hs G0 G1 TT hZl
        generalize ((Z0.Z i).take 140) = Y at *
        generalize Y.length = m at *
        generalize Z0.A i = ad at *
        generalize Z0.L i = ln at *
        generalize Z0.C i = cp0 at *
        go_wp2_with (first
          | (go_at_call 9; refine F.mono ?_; rintro e w2 ⟨b2, cp, rfl, O2, B2⟩; have P := FP.out b2 cp w2 O2 B2)
          | (go_at_call 6; refine P.mono ?_; rintro e w3 ⟨⟨x, rfl⟩, ⟨c', hc', T3⟩, B3⟩))
        go_roundg (n0 - (i + 1))
        case measure => omega
        case rel => exact ⟨i + 1, by omega, by omega, rfl, by go_num, ⟨_, c', by omega, T3.wider (by omega)⟩, (BB.trans (B2.mono BB.size)).trans B3⟩
    · have hx : n0 ≤ i ∨ (i < n0 ∧ 30 ≤ i) := by omega
      have F := few8_any _ _ _ _ 20 wr (G1.below BB) (by omega)
      have hs : Hid (∀ k, -9223372036854775808 ≤ el (Z1.take 20) k ∧ el (Z1.take 20) k ≤ 9223372036854775807) := G1.take_small 20
      have hZl : (Z1.take 20).length ≤ 20 := by rw [List.length_take]; omega
      have HT : Hid (TA wr w.heap.size w.heap.size vl (140 * i) c) := TT
      clear G0 G1 TT hgo
      generalize (Z1.take 20) = Y at *
      obtain ⟨m, hm⟩ : ∃ m, m = Y.length := ⟨_, rfl⟩
      rw [← hm] at F hZl
      clear hm
      rcases hx with hx | ⟨hx, hx2⟩ <;>
       (go_wp2_with (go_at_call 9; refine F.mono ?_; rintro e w2 ⟨b2, cp, rfl, O2, B2⟩)
        have TK := O2.tk hs.out (by omega)
        have fit : m ≤ cp ∧ cp ≤ 9223372036854775807 := by
          obtain ⟨ao, c', e', R⟩ := O2.arg hs.out
          injection e' with e1 e2 e3
          subst e3
          exact ⟨R.fit, R.max⟩
        obtain ⟨fit1, fit2⟩ := fit
        have T2 := HT.out.below B2
        have BT := BB.trans (B2.mono BB.size)
        have GT : Hid (∀ k, k ≤ m → Calls Try.prog 7 #[.pointer (some ⟨w.heap.size, 0, none⟩), .slice (some ⟨b2, 0, none⟩) k cp] w2 fun e w' => e = .returned (.tuple #[.int .i64 ((vl (Y.take k)).getD 0), .bool (vl (Y.take k)).isSome]) ∧ w' = w2) := fun k hk => get_any _ k cp _ w2 _ _ _ _ _ T2 (TK.take hk)
        have LG := longest_any _ m cp Y w2 _ _ _ _ _ T2 TK
        clear F HT O2 B2 TK hs T2 BB hx
        go_loopg [7, 8, 9] m (fun r s7 s8 s9 wq => ∃ j : Nat, j ≤ m ∧ r = m - j ∧ s7 = .int .i64 ((lgN vl Y j).1 : Int) ∧ s8 = .int .i64 (lgN vl Y j).2 ∧ s9 = .int .i64 ((j + 1 : Nat) : Int) ∧ wq = w2)
        case atStart => exact ⟨0, by omega, by omega, rfl, rfl, rfl, rfl⟩
        case round => 
          obtain ⟨j, hj, rfl, rfl, rfl, rfl, rfl⟩ := hrel
          by_cases hlt : j < m
          · clear LG
            have G := GT.out (j + 1) (by omega)
            rcases hv : vl (Y.take (j + 1)) with _ | x
            · rw [hv] at G
              have HL1 : Hid ((lgN vl Y (j + 1)).1 = (lgN vl Y j).1) := by show _ = _; rw [lgN_off hv]
              have HL2 : Hid ((lgN vl Y (j + 1)).2 = (lgN vl Y j).2) := by show _ = _; rw [lgN_off hv]
              clear hv GT
              generalize (lgN vl Y j).1 = p1 at *
              generalize (lgN vl Y j).2 = p2 at *
              go_wp2_with (go_at_call 7; refine G.mono ?_; rintro e w5 ⟨rfl, hw⟩; replace hw := hw.symm; subst hw)
              go_roundg (m - (j + 1))
              case measure => omega
              case rel => exact ⟨j + 1, by omega, rfl, by rw [HL1.out], by rw [HL2.out], by go_num, rfl⟩
            · rw [hv] at G
              have HL : Hid (lgN vl Y (j + 1) = (j + 1, x)) := lgN_on hv
              clear hv GT
              generalize (lgN vl Y j).1 = p1 at *
              generalize (lgN vl Y j).2 = p2 at *
              go_wp2_with (go_at_call 7; refine G.mono ?_; rintro e w5 ⟨rfl, hw⟩; replace hw := hw.symm; subst hw)
              go_roundg (m - (j + 1))
              case measure => omega
              case rel =>
                refine ⟨j + 1, by omega, rfl, ?_, ?_, by go_num, rfl⟩
                · rw [HL.out]; rfl
                · rw [HL.out]
          · obtain rfl : j = m := by omega
            have hp := lgN_bd vl Y j
            clear GT
            generalize (lgN vl Y j).1 = p1 at *
            generalize (lgN vl Y j).2 = p2 at *
            go_wp2_with (first
              | (go_at_call 10; refine LG.mono ?_; rintro e w5 ⟨rfl, mm, hw⟩; subst hw)
              | (go_at_call 5; refine (AW _).mono ?_; rintro e w6 ⟨rfl, B6⟩))
            go_ret
            exact ⟨rfl, below_then (below_drewN BT mm) B6⟩)
end Go.Proofs.Ytkahgbkmpmnklaa
