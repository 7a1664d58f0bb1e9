/- The statements' awake of tries, new tries, and rows that are written out. -/
import Derived.Test.YtomcbihaonndmaaDoorTLong
namespace Go.Proofs.YtomcbihaonndmaaDoor
open Go.ChangeShapes Go.WideShapes Go.ChangeAt Go.RowKit Go.Maps
theorem below_alloc (w : World) (o : Obj) : Below w.heap.size w (w.alloc o) := (Below.refl _ w).alloc (Nat.le_refl _) o
theorem ta_new (w : World) : TA (w.alloc (.cells #[.map none, .bool false, .int .i64 0, .int .i64 0] 31)) w.heap.size w.heap.size (fun _ => none) 0 0 := by
  have hnd : ∀ (p : List Int) (g : Nat), (if p = [] then some w.heap.size else none) = some g → p = [] ∧ g = w.heap.size := fun p g hp => by
    by_cases e : p = []
    · rw [if_pos e] at hp; injection hp with hp; exact ⟨e, hp.symm⟩
    · rw [if_neg e] at hp; cases hp
  refine ⟨⟨fun p => if p = [] then some w.heap.size else none, fun _ => none, fun _ => none⟩, ⟨(show (if ([] : List Int) = [] then some w.heap.size else none) = some w.heap.size from if_pos rfl), ?_, ?_, ?_, ?_, ?_, ?_, ?_, ?_, ?_, ?_, ?_, ?_, ?_, ?_⟩, rfl⟩
  · intro p g hp; obtain ⟨_, rfl⟩ := hnd p g hp; exact Nat.le_refl _
  · intro p b hb; cases hb
  · intro p g hp; obtain ⟨_, rfl⟩ := hnd p g hp; (rw [World.cell?_alloc_at _ _ _ _ (by simp)]; rfl)
  · intro p g hp; obtain ⟨_, rfl⟩ := hnd p g hp; (rw [World.cell?_alloc_at _ _ _ _ (by simp)]; rfl)
  · intro p g hp; obtain ⟨_, rfl⟩ := hnd p g hp; (rw [World.cell?_alloc_at _ _ _ _ (by simp)]; rfl)
  · intro p g hp j _; obtain ⟨_, rfl⟩ := hnd p g hp; (rw [World.frozen?_alloc_at _ _ _ _ (by simp)])
  · intro p b hb; cases hb
  · intro p _ k; show (if p ++ [k] = [] then some w.heap.size else none) = none; exact if_neg (by simp)
  · intro p q g hp hq; rw [(hnd p g hp).1, (hnd q g hq).1]
  · intro p q b hb; cases hb
  · intro p hp; exact absurd rfl hp
  · intro p hp; exact absurd rfl hp
  · (rw [World.cell?_alloc_at _ _ _ _ (by simp)]; rfl)
  · (rw [World.frozen?_alloc_at _ _ _ _ (by simp)])
theorem TA.wider {w : World} {B tb NB NB' cnt : Nat} {vl : List Int → Option Int} (h : TA w B tb vl NB cnt) (hn : NB ≤ NB') : TA w B tb vl NB' cnt := by
  obtain ⟨S, hT, hv⟩ := h
  exact ⟨S, hT.wider hn, hv⟩
theorem tk_lit2 (w : World) (x y : Int) (hx : -9223372036854775808 ≤ x ∧ x ≤ 9223372036854775807) (hy : -9223372036854775808 ≤ y ∧ y ≤ 9223372036854775807) : Tk (w.alloc (.cells #[.int .i64 x, .int .i64 y] 3)) (some ⟨w.heap.size, 0, none⟩) 2 [x, y] := by
  refine ⟨rfl, by omega, fun k => ?_, fun _ => ⟨_, _, rfl, fun t ht => ?_⟩⟩
  · rcases k with _ | _ | k
    · exact hx
    · exact hy
    · simp
  · rcases t with _ | _ | t
    · (rw [World.cell?_alloc_at _ _ _ _ (by simp)]; rfl)
    · (rw [World.cell?_alloc_at _ _ _ _ (by simp)]; rfl)
    · omega
theorem tk_lit3 (w : World) (x y z : Int) (hx : -9223372036854775808 ≤ x ∧ x ≤ 9223372036854775807) (hy : -9223372036854775808 ≤ y ∧ y ≤ 9223372036854775807) (hz : -9223372036854775808 ≤ z ∧ z ≤ 9223372036854775807) : Tk (w.alloc (.cells #[.int .i64 x, .int .i64 y, .int .i64 z] 3)) (some ⟨w.heap.size, 0, none⟩) 3 [x, y, z] := by
  refine ⟨rfl, by omega, fun k => ?_, fun _ => ⟨_, _, rfl, fun t ht => ?_⟩⟩
  · rcases k with _ | _ | _ | k
    · exact hx
    · exact hy
    · exact hz
    · simp
  · rcases t with _ | _ | _ | t
    · (rw [World.cell?_alloc_at _ _ _ _ (by simp)]; rfl)
    · (rw [World.cell?_alloc_at _ _ _ _ (by simp)]; rfl)
    · (rw [World.cell?_alloc_at _ _ _ _ (by simp)]; rfl)
    · omega
theorem first_lit2 (w : World) (x y : Int) : ∀ b o, (some ⟨w.heap.size, 0, none⟩ : Option Addr) = some ⟨b, o, none⟩ → (w.alloc (.cells #[.int .i64 x, .int .i64 y] 3)).cell? ⟨b, 0, none⟩ = some (.int .i64 (([x, y] : List Int).getD 0 0)) := fun b o e => by
  injection e with e; injection e with e1 e2; subst e1
  rw [World.cell?_alloc_at _ _ _ _ (by simp)]; rfl
theorem lg_awake : lgN (upd (fun _ => none) [1, 2] (some 7)) [1, 2, 3] 3 = (2, 7) := by
  rw [lgN_off (i := 2) (by simp [upd]), lgN_on (i := 1) (v := 7) (by simp [upd])]
end Go.Proofs.YtomcbihaonndmaaDoor
