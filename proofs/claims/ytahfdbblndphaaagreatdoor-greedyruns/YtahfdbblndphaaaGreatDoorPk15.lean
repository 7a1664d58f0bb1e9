/- Contracts of the program's functions, part 15 of 17: what each call returns and leaves of memory. -/
import Derived.Test.YtahfdbblndphaaaGreatDoorPk4
/- The document's Shape. -/
namespace Go.Proofs.YtahfdbblndphaaaGreatDoor
open Go.ChangeShapes Go.WideShapes Go.ChangeAt Go.RowKit
def cfA (V D Hd H L : Int) (k : Nat) : Int := match k with | 0 => V | 1 => D | 2 => Hd | 3 => H | _ => L
def leA (k : Nat) : Int := match k with | 0 => 2 | _ => 1
def moA (k : Nat) : Int := match k with | 0 => 64 | 1 => 32 | 2 => 4 | 3 => 64 | _ => 4
theorem lt5 {k : Nat} (h : k < 5) : k = 0 ∨ k = 1 ∨ k = 2 ∨ k = 3 ∨ k = 4 := by omega
theorem cfA_bd {V D Hd H L : Int} (b1 : I64 V) (b2 : I64 D) (b3 : I64 Hd) (b4 : I64 H) (b5 : I64 L) (k : Nat) : I64 (cfA V D Hd H L k) := by
  unfold cfA; split <;> assumption
theorem shape_low {V D Hd H L : Int} (k : Nat) (hk : k < 5) (h : cfA V D Hd H L k < leA k) : shapeN V D Hd H L = 1 := by
  unfold shapeN
  rw [if_pos]
  rcases lt5 hk with rfl | rfl | rfl | rfl | rfl <;> simp only [cfA, leA] at h <;> omega
theorem shape_high {V D Hd H L : Int} (hl : ∀ j, j < 5 → leA j ≤ cfA V D Hd H L j) (k : Nat) (hk : k < 5) (h : moA k < cfA V D Hd H L k) : shapeN V D Hd H L = 2 := by
  have h0 := hl 0 (by omega); have h1 := hl 1 (by omega); have h2 := hl 2 (by omega); have h3 := hl 3 (by omega); have h4 := hl 4 (by omega)
  simp only [cfA, leA] at h0 h1 h2 h3 h4
  unfold shapeN
  rw [if_neg (by omega), if_pos]
  rcases lt5 hk with rfl | rfl | rfl | rfl | rfl <;> simp only [cfA, moA] at h <;> omega
theorem shape_rest {V D Hd H L : Int} (hl : ∀ j, j < 5 → leA j ≤ cfA V D Hd H L j) (hm : ∀ j, j < 5 → cfA V D Hd H L j ≤ moA j) : (1 ≤ D ∧ D ≤ 32 ∧ 1 ≤ Hd ∧ Hd ≤ 4) ∧ shapeN V D Hd H L = if 0 < D.tmod Hd then 4 else 0 := by
  have h0 := hl 0 (by omega); have h1 := hl 1 (by omega); have h2 := hl 2 (by omega); have h3 := hl 3 (by omega); have h4 := hl 4 (by omega)
  have g0 := hm 0 (by omega); have g1 := hm 1 (by omega); have g2 := hm 2 (by omega); have g3 := hm 3 (by omega); have g4 := hm 4 (by omega)
  simp only [cfA, leA, moA] at h0 h1 h2 h3 h4 g0 g1 g2 g3 g4
  refine ⟨by omega, ?_⟩
  unfold shapeN
  rw [if_neg (by omega), if_neg (by omega)]
  have := Int.tmod_nonneg Hd (show 0 ≤ D by omega)
  by_cases h : D.tmod Hd ≠ 0
  · rw [if_pos h, if_pos (by omega)]
  · rw [if_neg h, if_neg (by omega)]
set_option maxHeartbeats 1600000 in
theorem rshape_any (V D Hd H L : Int) (w : World) (b1 : I64 V) (b2 : I64 D) (b3 : I64 Hd) (b4 : I64 H) (b5 : I64 L) :
   Calls Tryz.prog 21 #[.agg (cfgC V D Hd H L)] w fun e w' => e = .returned (.int .i64 (shapeN V D Hd H L)) ∧ Below w.heap.size w w' := by
  have X0 := blk_new w 23 (cfgC V D Hd H L)
  have B0 : Below w.heap.size w (w.alloc (.cells (cfgC V D Hd H L) 23)) := (Below.refl _ _).alloc (Nat.le_refl _) _
  have s0 : (w.alloc (.cells (cfgC V D Hd H L) 23)).heap.size = w.heap.size + 1 := by simp
  unfold cfgC at *
  generalize hw0 : w.alloc (.cells #[.int .i64 V, .int .i64 D, .int .i64 Hd, .int .i64 H, .int .i64 L] 23) = w0 at *
  have c0 : w0.cell? ⟨w.heap.size, 0, none⟩ = some (.int .i64 V) := X0.cell 0 rfl
  have c1 : w0.cell? ⟨w.heap.size, 1, none⟩ = some (.int .i64 D) := X0.cell 1 rfl
  have c2 : w0.cell? ⟨w.heap.size, 2, none⟩ = some (.int .i64 Hd) := X0.cell 2 rfl
  have c3 : w0.cell? ⟨w.heap.size, 3, none⟩ = some (.int .i64 H) := X0.cell 3 rfl
  have c4 : w0.cell? ⟨w.heap.size, 4, none⟩ = some (.int .i64 L) := X0.cell 4 rfl
  go_enter Tryz.func21, Tryz.ntmps21
  have X1 := blk_new w0 3 #[.int .i64 V, .int .i64 D, .int .i64 Hd, .int .i64 H, .int .i64 L]
  have B1 : Below w0.heap.size w0 (w0.alloc (.cells #[.int .i64 V, .int .i64 D, .int .i64 Hd, .int .i64 H, .int .i64 L] 3)) := (Below.refl _ _).alloc (Nat.le_refl _) _
  have s1 : (w0.alloc (.cells #[.int .i64 V, .int .i64 D, .int .i64 Hd, .int .i64 H, .int .i64 L] 3)).heap.size = w0.heap.size + 1 := by simp
  rw [s0] at X1 s1
  generalize hw1 : w0.alloc (.cells #[.int .i64 V, .int .i64 D, .int .i64 Hd, .int .i64 H, .int .i64 L] 3) = w1 at *
  have X2 := blk_new w1 3 #[.int .i64 2, .int .i64 1, .int .i64 1, .int .i64 1, .int .i64 1]
  have B2 : Below w1.heap.size w1 (w1.alloc (.cells #[.int .i64 2, .int .i64 1, .int .i64 1, .int .i64 1, .int .i64 1] 3)) := (Below.refl _ _).alloc (Nat.le_refl _) _
  have s2 : (w1.alloc (.cells #[.int .i64 2, .int .i64 1, .int .i64 1, .int .i64 1, .int .i64 1] 3)).heap.size = w1.heap.size + 1 := by simp
  rw [s1] at X2 s2
  generalize hw2 : w1.alloc (.cells #[.int .i64 2, .int .i64 1, .int .i64 1, .int .i64 1, .int .i64 1] 3) = w2 at *
  have X3 := blk_new w2 3 #[.int .i64 64, .int .i64 32, .int .i64 4, .int .i64 64, .int .i64 4]
  have B3 : Below w2.heap.size w2 (w2.alloc (.cells #[.int .i64 64, .int .i64 32, .int .i64 4, .int .i64 64, .int .i64 4] 3)) := (Below.refl _ _).alloc (Nat.le_refl _) _
  rw [s2] at X3
  generalize hw3 : w2.alloc (.cells #[.int .i64 64, .int .i64 32, .int .i64 4, .int .i64 64, .int .i64 4] 3) = w3 at *
  replace X0 := ((X0.below B1).below B2).below B3
  replace X1 := (X1.below B2).below B3
  replace X2 := X2.below B3
  replace B3 := below_then (below_then (below_then B0 B1) B2) B3
  go_wp2_with fail
  clear hw0 hw1 hw2 hw3 c0 c1 c2 c3 c4 B0 B1 B2 s0 s1 s2
  have HA : Hid (∀ v : World, Below w3.heap.size w3 v → ∀ k, k < 5 → v.cell? ⟨w.heap.size + 1, k, none⟩ = some (.int .i64 (cfA V D Hd H L k))) := fun v hv k hk => by rcases lt5 hk with rfl | rfl | rfl | rfl | rfl <;> exact (X1.below hv).cell _ rfl
  have HL : Hid (∀ v : World, Below w3.heap.size w3 v → ∀ k, k < 5 → v.cell? ⟨w.heap.size + 1 + 1, k, none⟩ = some (.int .i64 (leA k))) := fun v hv k hk => by rcases lt5 hk with rfl | rfl | rfl | rfl | rfl <;> exact (X2.below hv).cell _ rfl
  have HM : Hid (∀ v : World, Below w3.heap.size w3 v → ∀ k, k < 5 → v.cell? ⟨w.heap.size + 1 + 1 + 1, k, none⟩ = some (.int .i64 (moA k))) := fun v hv k hk => by rcases lt5 hk with rfl | rfl | rfl | rfl | rfl <;> exact (X3.below hv).cell _ rfl
  have HB : Hid (∀ k, I64 (cfA V D Hd H L k)) := fun k => cfA_bd b1 b2 b3 b4 b5 k
  clear X1 X2 X3
  go_loopg [23] 5 (fun r q wr => ∃ k : Nat, k ≤ 5 ∧ r = 5 - k ∧ q = .int .i64 k ∧ Below w3.heap.size w3 wr ∧ Hid (∀ j, j < k → leA j ≤ cfA V D Hd H L j))
  case atStart => exact ⟨0, by omega, rfl, rfl, Below.refl _ _, fun j hj => by omega⟩
  case round =>
    obtain ⟨k, hk, rfl, rfl, BR, HN⟩ := hrel
    by_cases hlt : k < 5
    · have a1 := HA.out wr BR k hlt
      have a2 := HL.out wr BR k hlt
      have hb := HB.out k
      have HS : Hid (cfA V D Hd H L k < leA k → shapeN V D Hd H L = 1) := fun h => shape_low k hlt h
      have HN2 : Hid (leA k ≤ cfA V D Hd H L k → ∀ j, j < k + 1 → leA j ≤ cfA V D Hd H L j) := fun h j hj => by
        rcases Nat.lt_or_ge j k with h1 | h1
        · exact HN.out j h1
        · obtain rfl : j = k := by omega
          exact h
      clear HN
      generalize cfA V D Hd H L k = a at *
      generalize leA k = b at *
      by_cases hab : a < b
      · have e1 : Hid (shapeN V D Hd H L = 1) := HS.out hab
        go_wp2_with fail
        go_quiet (fail)
        go_wp2_with fail
        go_ret
        exact ⟨by rw [e1.out]; rfl, below_then B3 (below_drewN BR _)⟩
      · go_wp2_with fail
        go_quiet (fail)
        go_wp2_with fail
        go_roundg (5 - (k + 1))
        case measure => omega
        case rel => exact ⟨k + 1, by omega, rfl, by go_num, below_drewN BR _, HN2.out (by omega)⟩
    · obtain rfl : k = 5 := by omega
      go_wp2_with fail
      clear hlt hk
      go_loopg [38] 5 (fun r q wr => ∃ k : Nat, k ≤ 5 ∧ r = 5 - k ∧ q = .int .i64 k ∧ Below w3.heap.size w3 wr ∧ Hid (∀ j, j < k → cfA V D Hd H L j ≤ moA j))
      case atStart => exact ⟨0, by omega, rfl, rfl, BR, fun j hj => by omega⟩
      case round =>
        clear BR
        obtain ⟨k, hk, rfl, rfl, BR, HN3⟩ := hrel
        by_cases hlt : k < 5
        · have a1 := HA.out wr BR k hlt
          have a2 := HM.out wr BR k hlt
          have hb := HB.out k
          have HS : Hid (moA k < cfA V D Hd H L k → shapeN V D Hd H L = 2) := fun h => shape_high HN.out k hlt h
          have HN2 : Hid (cfA V D Hd H L k ≤ moA k → ∀ j, j < k + 1 → cfA V D Hd H L j ≤ moA j) := fun h j hj => by
            rcases Nat.lt_or_ge j k with h1 | h1
            · exact HN3.out j h1
            · obtain rfl : j = k := by omega
              exact h
          clear HN3
          generalize cfA V D Hd H L k = a at *
          generalize moA k = b at *
          by_cases hab : b < a
          · have e1 : Hid (shapeN V D Hd H L = 2) := HS.out hab
            go_wp2_with fail
            go_quiet (fail)
            go_wp2_with fail
            go_ret
            exact ⟨by rw [e1.out]; rfl, below_then B3 (below_drewN BR _)⟩
          · go_wp2_with fail
            go_quiet (fail)
            go_wp2_with fail
            go_roundg (5 - (k + 1))
            case measure => omega
            case rel => exact ⟨k + 1, by omega, rfl, by go_num, below_drewN BR _, HN2.out (by omega)⟩
        · obtain rfl : k = 5 := by omega
          obtain ⟨hr, e0⟩ := shape_rest HN.out HN3.out
          obtain ⟨q, hq⟩ : ∃ q, Hid (shapeN V D Hd H L = q) := ⟨_, rfl⟩
          rw [hq.out] at e0
          have c1 : wr.cell? ⟨w.heap.size, 1, none⟩ = some (.int .i64 D) := (X0.below BR).cell 1 rfl
          have c2 : wr.cell? ⟨w.heap.size, 2, none⟩ = some (.int .i64 Hd) := (X0.below BR).cell 2 rfl
          clear HN HN3 HA HL HM HB
          have hz : (Hd == 0) = false := by simp; omega
          have t1 := Int.tmod_nonneg Hd (show 0 ≤ D by omega)
          have t2 := Int.tmod_lt_of_pos D (show 0 < Hd by omega)
          by_cases hm : 0 < D.tmod Hd
          · rw [if_pos hm] at e0
            have e3 : 0 < D % Hd := by rw [← Int.tmod_eq_emod_of_nonneg (by omega)]; exact hm
            replace e0 : Hid (q = 4) := e0
            go_wp2_with fail
            go_ret
            exact ⟨by rw [hq.out, e0.out]; rfl, below_then B3 BR⟩
          · rw [if_neg hm] at e0
            have e3 : ¬ 0 < D % Hd := by rw [← Int.tmod_eq_emod_of_nonneg (by omega)]; exact hm
            replace e0 : Hid (q = 0) := e0
            go_wp2_with fail
            go_ret
            exact ⟨by rw [hq.out, e0.out]; rfl, below_then B3 BR⟩
end Go.Proofs.YtahfdbblndphaaaGreatDoor
