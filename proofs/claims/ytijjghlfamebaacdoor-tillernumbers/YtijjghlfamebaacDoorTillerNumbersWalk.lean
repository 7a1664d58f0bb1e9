/- The Go text of TillerNumbers returns true at every two numbers, where the table of steps and the library's table of powers of ten lie as the program's text lays them. -/
import Derived.Test.YtijjghlfamebaacDoorCurve
import Derived.Test.YtijjghlfamebaacDoorParse
import Derived.Test.YtijjghlfamebaacDoorRound
import Derived.Test.YtijjghlfamebaacDoorMNum
namespace Go.Proofs.YtijjghlfamebaacDoor
open Go.ChangeShapes Go.WideShapes Go.ChangeAt Go.RowKit
set_option linter.unusedVariables false
theorem pow_any (x : Int) (w : World) (h : Tab w) (h1 : -2147483648 ≤ x) (h2 : x ≤ 2147483647) :
   Calls Tryd.prog 5 #[.int .i32 x] w fun e w' => e = .returned (.int .i32 (powI x)) ∧ Below w.heap.size w w' := by
  have h' : Calls Tryd.prog 5 #[.int .i32 x] w fun e w' => e = .returned (.int .i32 (powI x)) ∧ ∃ n, w' = w.drewN n := by
    by_cases hx : 0 < x
    · rw [powI_pos x hx]; exact pow_pos x w h hx
    · obtain ⟨y, rfl⟩ : ∃ y : Nat, x = -(y : Int) := ⟨(-x).toNat, by omega⟩
      rw [powI_neg]; exact pow_neg y w h (by omega)
  exact h'.mono fun _ _ ⟨he, n, hw⟩ => ⟨he, by rw [hw]; exact below_drewN (Below.refl _ _) _⟩
theorem mul_any2 (x y : Int) (w : World) (h1 : -2147483648 ≤ x) (h2 : x ≤ 2147483647) (h3 : -2147483648 ≤ y) (h4 : y ≤ 2147483647) :
    Calls Tryd.prog 8 #[.int .i32 x, .int .i32 y] w fun e w' => e = .returned (.int .i32 (mulN x y)) ∧ Below w.heap.size w w' :=
  (mul_any x y w h1 h2 h3 h4).mono fun _ _ ⟨he, n, hw⟩ => ⟨he, by rw [hw]; exact below_drewN (Below.refl _ _) _⟩
theorem text_len (x : Int) (h1 : -2147483648 ≤ x) (h2 : x ≤ 2147483647) : (textL x).length ≤ 100 := by
  unfold textL
  rw [List.length_append, List.length_append, Lib.itoa_nonneg]
  have a := dec_len 6 (x.natAbs / 65536) (by omega) (by decide)
  have b := partL_len (x.natAbs % 65536)
  split <;> simp <;> omega
/-- What the round of a number over its text answers. -/
def backN (x : Int) : Int := (parN (textL x)).1
def backE (x : Int) : Int := (parN (textL x)).2
theorem back_of (x : Int) (h1 : -2147483647 ≤ x) (h2 : x ≤ 2147483647) : backN x = x ∧ backE x = 0 := by
  unfold backN backE; rw [par_text x (by omega) h2, if_neg (by omega)]; exact ⟨rfl, rfl⟩
theorem par_text_any (x : Int) (w : World) (h1 : -2147483648 ≤ x) (h2 : x ≤ 2147483647) :
    Calls Tryd.prog 7 #[.string ⟨(textL x).toArray⟩] w fun e w' => e = .returned (.tuple #[.int .i32 (backN x), .int .i64 (backE x)]) ∧ Below w.heap.size w w' :=
  parse_any ⟨(textL x).toArray⟩ w (by rw [sz_mk]; have := text_len x h1 h2; omega)
set_option maxRecDepth 100000 in
set_option maxHeartbeats 6400000 in
theorem tillerNumbers_walk (x y : Int) (x1 : -2147483648 ≤ x) (x2 : x ≤ 2147483647) (y1 : -2147483648 ≤ y) (y2 : y ≤ 2147483647) (w : World) (hT : Tab w) (hP : Pw w) :
    Calls Tryd.prog 3 #[.int .i32 x, .int .i32 y] w fun e w' => e = .returned (.bool true) ∧ Below w.heap.size w w' := by
  have t15 : (⟨(textL 98304).toArray⟩ : ByteArray) = ⟨#[49, 46, 53]⟩ := by decide +kernel
  have c15 : ∀ w, Pw w → Calls Tryd.prog 4 #[.int .i32 98304] w fun e w' => e = .returned (.string ⟨#[49, 46, 53]⟩) ∧ Below w.heap.size w w' := fun w h => by rw [← t15]; exact text_any 98304 w (by omega) (by omega) h
  have pq : powI (-65536) = 32768 := by decide
  obtain ⟨px, hpx⟩ : ∃ p, p = powI x := ⟨_, rfl⟩
  obtain ⟨iy, hiy⟩ : ∃ p, p = invN y := ⟨_, rfl⟩
  have bx := powI_bd x
  have bi := invN_bd y
  rw [← hpx] at bx
  rw [← hiy] at bi
  have cpx : ∀ w, Tab w → Calls Tryd.prog 5 #[.int .i32 x] w fun e w' => e = .returned (.int .i32 px) ∧ Below w.heap.size w w' := fun w h => by rw [hpx]; exact pow_any x w h x1 x2
  have ciy : ∀ w, Calls Tryd.prog 6 #[.int .i32 y] w fun e w' => e = .returned (.int .i32 iy) ∧ w' = w := fun w => by rw [hiy]; exact inv_any y w y1 y2
  have HPX : Hid (px = powI x) := hpx
  clear hpx hiy t15
  go_enter Tryd.func3, Tryd.ntmps3
  go_wp2_with (first | (go_at_call 4; refine (c15 _ hP).mono ?_; rintro e w1 ⟨rfl, hb1⟩) | (go_at_call_of 5 x; refine (cpx _ (hT.next (below_then hb1 hb2))).mono ?_; rintro e w3 ⟨rfl, hb3⟩) | (go_at_call 5; refine (pow_any (-65536) _ (hT.next hb1) (by omega) (by omega)).mono ?_; rintro e w2 ⟨rfl, hb2⟩) | (go_at_call 6; refine (ciy _).mono ?_; rintro e w4 ⟨rfl, rfl⟩))
  have hbw : Below w.heap.size w w4 := below_then (below_then hb1 hb2) hb3
  have HT : Hid (Tab w) := hT
  have HP : Hid (Pw w) := hP
  obtain ⟨g, hg⟩ : ∃ g, g = w4.heap.size := ⟨_, rfl⟩
  obtain ⟨val, hval⟩ : ∃ val : Nat → Int, val = fun k => if k = 0 then px else if k = 1 then iy else if k = 2 then x else y := ⟨_, rfl⟩
  have HV : Hid (∀ k, -2147483648 ≤ val k ∧ val k ≤ 2147483647) := fun k => by
    show _ ∧ _
    rw [hval]
    dsimp only
    by_cases k0 : k = 0
    · rw [if_pos k0]; omega
    · rw [if_neg k0]
      by_cases k1 : k = 1
      · rw [if_pos k1]; omega
      · rw [if_neg k1]
        by_cases k2 : k = 2
        · rw [if_pos k2]; omega
        · rw [if_neg k2]; omega
  have hcell : ∀ j, j < 4 → (w4.alloc (.cells #[.int .i32 px, .int .i32 iy, .int .i32 x, .int .i32 y] 22)).cell? ⟨g, j, none⟩ = some (.int .i32 (val j)) := by
    intro j hj
    have hh : (w4.alloc (.cells #[.int .i32 px, .int .i32 iy, .int .i32 x, .int .i32 y] 22)).heap[g]? = some (.cells #[.int .i32 px, .int .i32 iy, .int .i32 x, .int .i32 y] 22) := by rw [hg]; exact heap_alloc_new _ _
    simp only [World.cell?, hh, hval]
    match j, hj with
    | 0, _ => rfl
    | 1, _ => rfl
    | 2, _ => rfl
    | 3, _ => rfl
  have hgs : g < (w4.alloc (.cells #[.int .i32 px, .int .i32 iy, .int .i32 x, .int .i32 y] 22)).heap.size := by rw [hg]; simp
  have HCELL : Hid (∀ j, j < 4 → (w4.alloc (.cells #[.int .i32 px, .int .i32 iy, .int .i32 x, .int .i32 y] 22)).cell? ⟨g, j, none⟩ = some (.int .i32 (val j))) := hcell
  have HGS : Hid (g < (w4.alloc (.cells #[.int .i32 px, .int .i32 iy, .int .i32 x, .int .i32 y] 22)).heap.size) := hgs
  rw [← hg]
  clear hval hg hcell hgs hT hP
  go_loopw [24] (fun i wr => ∃ k : Nat, k ≤ 4 ∧ i = .int .i64 k ∧ Below w.heap.size w wr ∧ (∀ j, j < 4 → wr.cell? ⟨g, j, none⟩ = some (.int .i32 (val j))) ∧ g < wr.heap.size) (fun i _ => 4 - (intOf i).toNat)
  case atStart => exact ⟨0, by omega, rfl, hbw.alloc hbw.size _, HCELL.out, HGS.out⟩
  case round =>
    obtain ⟨k, hk, rfl, hb5, hce, hgw⟩ := hrel
    by_cases hk4 : k < 4
    · have hck := hce k hk4
      have hvk := HV.out k
      have HCE : Hid (∀ j, j < 4 → wr.cell? ⟨g, j, none⟩ = some (.int .i32 (val j))) := hce
      clear hce
      obtain ⟨z, hz⟩ : ∃ z, z = val k := ⟨_, rfl⟩
      rw [← hz] at hck hvk
      clear hz
      have ctz : ∀ w, Pw w → Calls Tryd.prog 4 #[.int .i32 z] w fun e w' => e = .returned (.string ⟨(textL z).toArray⟩) ∧ Below w.heap.size w w' := fun w h => text_any z w hvk.1 hvk.2 h
      have cpz := fun w => par_text_any z w hvk.1 hvk.2
      obtain ⟨S, hS⟩ : ∃ S : ByteArray, S = ⟨(textL z).toArray⟩ := ⟨_, rfl⟩
      rw [← hS] at ctz
      simp only [← hS] at cpz
      clear hS
      by_cases hzm : -2147483647 ≤ z
      · obtain ⟨e1, e2⟩ := back_of z hzm hvk.2
        rw [e1, e2] at cpz
        clear e1 e2
        go_wp2_with (first | (go_at_call 4; refine (ctz _ (HP.out.next hb5)).mono ?_; rintro e v1 ⟨rfl, hv1⟩) | (go_at_call 7; refine (cpz _).mono ?_; rintro e v2 ⟨rfl, hv2⟩))
        go_roundw
        case rel => exact ⟨k + 1, by omega, by go_num, below_then (below_then hb5 hv1) hv2, fun j hj => ((below_then hv1 hv2).cell (p := ⟨g, j, none⟩) hgw).trans (HCE.out j hj), Nat.lt_of_lt_of_le hgw (below_then hv1 hv2).size⟩
        case measure => simp [intOf]; omega
      · go_wp2_with (first | (go_at_call 4; refine (ctz _ (HP.out.next hb5)).mono ?_; rintro e v1 ⟨rfl, hv1⟩) | (go_at_call 7; refine (cpz _).mono ?_; rintro e v2 ⟨rfl, hv2⟩))
        go_roundw
        case rel => exact ⟨k + 1, by omega, by go_num, below_then (below_then hb5 hv1) hv2, fun j hj => ((below_then hv1 hv2).cell (p := ⟨g, j, none⟩) hgw).trans (HCE.out j hj), Nat.lt_of_lt_of_le hgw (below_then hv1 hv2).size⟩
        case measure => simp [intOf]; omega
    · obtain rfl : k = 4 := by omega
      clear hce hgw
      by_cases c1 : 0 < x
      · go_wp2
        go_ret
        exact ⟨rfl, hb5⟩
      by_cases c2 : 0 < y
      · go_wp2
        go_ret
        exact ⟨rfl, hb5⟩
      by_cases c3 : x < -524288
      · go_wp2
        go_ret
        exact ⟨rfl, hb5⟩
      by_cases c4 : y < -524288
      · go_wp2
        go_ret
        exact ⟨rfl, hb5⟩
      have hm := missI x y (by omega) (by omega)
      have byy := powI_bd y
      have bxy := powI_bd (x + y)
      have cpy : ∀ w, Tab w → Calls Tryd.prog 5 #[.int .i32 y] w fun e w' => e = .returned (.int .i32 (powI y)) ∧ Below w.heap.size w w' := fun w h => pow_any y w h y1 y2
      have cxy : ∀ w, Tab w → Calls Tryd.prog 5 #[.int .i32 (x + y)] w fun e w' => e = .returned (.int .i32 (powI (x + y))) ∧ Below w.heap.size w w' := fun w h => pow_any (x + y) w h (by omega) (by omega)
      rw [← HPX.out] at hm
      obtain ⟨py, hpy⟩ : ∃ p, p = powI y := ⟨_, rfl⟩
      obtain ⟨ps, hps⟩ : ∃ p, p = powI (x + y) := ⟨_, rfl⟩
      rw [← hpy] at hm byy cpy
      rw [← hps] at hm bxy cxy
      have bm := mulN_bd px py
      clear hpy hps
      go_wp2_with (first | (go_at_call 8; refine (mul_any2 _ _ _ (by omega) (by omega) (by omega) (by omega)).mono ?_; rintro e v4 ⟨rfl, hv4⟩) | (go_at_call_of 5 (x + y); refine (cxy _ (HT.out.next (hb5))).mono ?_; rintro e v1 ⟨rfl, hv1⟩) | (go_at_call_of 5 x; refine (cpx _ (HT.out.next (below_then hb5 hv1))).mono ?_; rintro e v2 ⟨rfl, hv2⟩) | (go_at_call_of 5 y; refine (cpy _ (HT.out.next (below_then (below_then hb5 hv1) hv2))).mono ?_; rintro e v3 ⟨rfl, hv3⟩))
      all_goals
        go_ret
        exact ⟨by first | rfl | exact ret_true (by omega), below_then (below_then (below_then (below_then hb5 hv1) hv2) hv3) hv4⟩
end Go.Proofs.YtijjghlfamebaacDoor
