/- The statements' awake of tries, new tries, and rows that are written out. -/
import Derived.Test.YtomfkdaaimhmkaaTLong
namespace Go.Proofs.Ytomfkdaaimhmkaa
open Go.ChangeShapes Go.WideShapes Go.ChangeAt Go.RowKit Go.Maps
theorem below_alloc (w : World) (o : Obj) : Below w.heap.size w (w.alloc o) := (Below.refl _ w).alloc (Nat.le_refl _) o
theorem ta_newB (w : World) (B : Nat) (hB : B ≤ w.heap.size) : ∃ S, TA (w.alloc (.cells #[.map none, .bool false, .int .i64 0, .int .i64 0] 28)) B w.heap.size S (fun _ => none) 0 0 ∧ ∀ x, S.has x → x = w.heap.size := by
  have hnd : ∀ (p : List Int) (g : Nat), (if p = [] then some w.heap.size else none) = some g → p = [] ∧ g = w.heap.size := fun p g hp => by
    by_cases e : p = []
    · rw [if_pos e] at hp; injection hp with hp; exact ⟨e, hp.symm⟩
    · rw [if_neg e] at hp; cases hp
  refine ⟨⟨fun p => if p = [] then some w.heap.size else none, fun _ => none, fun _ => none⟩, ⟨⟨(show (if ([] : List Int) = [] then some w.heap.size else none) = some w.heap.size from if_pos rfl), ?_, ?_, ?_, ?_, ?_, ?_, ?_, ?_, ?_, ?_, ?_, ?_, ?_, ?_⟩, rfl, fun q hq => ?_, ⟨[], List.nodup_nil, rfl, fun q => by simp⟩, by omega⟩, fun x hx => ?_⟩
  · intro p g hp; obtain ⟨_, rfl⟩ := hnd p g hp; exact hB
  · intro p b hb; cases hb
  · intro p g hp; obtain ⟨_, rfl⟩ := hnd p g hp; (rw [World.cell?_alloc_at _ _ _ _ (by simp)]; rfl)
  · intro p g hp; obtain ⟨_, rfl⟩ := hnd p g hp; (rw [World.cell?_alloc_at _ _ _ _ (by simp)]; rfl)
  · intro p g hp; obtain ⟨_, rfl⟩ := hnd p g hp; (rw [World.cell?_alloc_at _ _ _ _ (by simp)]; rfl)
  · intro p g hp j _; obtain ⟨_, rfl⟩ := hnd p g hp; (rw [World.frozen?_alloc_at _ _ _ _ (by simp)])
  · intro p b hb; cases hb
  · intro p _ k; show (if p ++ [k] = [] then some w.heap.size else none) = none; exact if_neg (by simp)
  · intro p q g hp hq; rw [(hnd p g hp).1, (hnd q g hq).1]
  · intro p q b hb; cases hb
  · intro p hp; exact absurd rfl hp
  · intro p hp; exact absurd rfl hp
  · (rw [World.cell?_alloc_at _ _ _ _ (by simp)]; rfl)
  · (rw [World.frozen?_alloc_at _ _ _ _ (by simp)])
  · obtain ⟨g, hg⟩ := Option.ne_none_iff_exists'.1 hq
    obtain ⟨e, _⟩ := hnd q g hg
    rw [e]; simp
  · rcases hx with ⟨p, hp⟩ | ⟨p, hp⟩
    · exact (hnd p x hp).2
    · cases hp
theorem ta_new (w : World) : ∃ S, TA (w.alloc (.cells #[.map none, .bool false, .int .i64 0, .int .i64 0] 28)) w.heap.size w.heap.size S (fun _ => none) 0 0 := by
  obtain ⟨S, h, _⟩ := ta_newB w w.heap.size (Nat.le_refl _)
  exact ⟨S, h⟩
theorem TA.wider {w : World} {B tb NB NB' cnt : Nat} {S : TS} {vl : List Int → Option Int} (h : TA w B tb S vl NB cnt) (hn : NB ≤ NB') : TA w B tb S vl NB' cnt := ⟨h.ti.wider hn, h.vv, h.dp, h.ls, h.cm⟩
theorem tk_lit2 (w : World) (x y : Int) (hx : -9223372036854775808 ≤ x ∧ x ≤ 9223372036854775807) (hy : -9223372036854775808 ≤ y ∧ y ≤ 9223372036854775807) : Tk (w.alloc (.cells #[.int .i64 x, .int .i64 y] 3)) (some ⟨w.heap.size, 0, none⟩) 2 [x, y] := by
  refine ⟨rfl, by omega, fun k => ?_, fun _ => ⟨_, _, rfl, fun t ht => ?_⟩⟩
  · rcases k with _ | _ | k
    · exact hx
    · exact hy
    · simp
  · rcases t with _ | _ | t
    · (rw [World.cell?_alloc_at _ _ _ _ (by simp)]; rfl)
    · (rw [World.cell?_alloc_at _ _ _ _ (by simp)]; rfl)
    · omega
theorem tk_lit3 (w : World) (x y z : Int) (hx : -9223372036854775808 ≤ x ∧ x ≤ 9223372036854775807) (hy : -9223372036854775808 ≤ y ∧ y ≤ 9223372036854775807) (hz : -9223372036854775808 ≤ z ∧ z ≤ 9223372036854775807) : Tk (w.alloc (.cells #[.int .i64 x, .int .i64 y, .int .i64 z] 3)) (some ⟨w.heap.size, 0, none⟩) 3 [x, y, z] := by
  refine ⟨rfl, by omega, fun k => ?_, fun _ => ⟨_, _, rfl, fun t ht => ?_⟩⟩
  · rcases k with _ | _ | _ | k
    · exact hx
    · exact hy
    · exact hz
    · simp
  · rcases t with _ | _ | _ | t
    · (rw [World.cell?_alloc_at _ _ _ _ (by simp)]; rfl)
    · (rw [World.cell?_alloc_at _ _ _ _ (by simp)]; rfl)
    · (rw [World.cell?_alloc_at _ _ _ _ (by simp)]; rfl)
    · omega
theorem first_lit2 (w : World) (x y : Int) : ∀ b o, (some ⟨w.heap.size, 0, none⟩ : Option Addr) = some ⟨b, o, none⟩ → (w.alloc (.cells #[.int .i64 x, .int .i64 y] 3)).cell? ⟨b, 0, none⟩ = some (.int .i64 (([x, y] : List Int).getD 0 0)) := fun b o e => by
  injection e with e; injection e with e1 e2; subst e1
  rw [World.cell?_alloc_at _ _ _ _ (by simp)]; rfl
theorem lg_awake : lgN (upd (fun _ => none) [1, 2] (some 7)) [1, 2, 3] 3 = (2, 7) := by
  rw [lgN_off (i := 2) (by simp [upd]), lgN_on (i := 1) (v := 7) (by simp [upd])]
set_option maxHeartbeats 1000000 in
theorem awake_any (w : World) : Calls Try.prog 8 #[] w fun e w' => e = .returned (.bool true) ∧ Below w.heap.size w w' := by
  obtain ⟨w1, hw1⟩ : ∃ w1, w1 = w.alloc (.cells #[.map none, .bool false, .int .i64 0, .int .i64 0] 28) := ⟨_, rfl⟩
  obtain ⟨S1, T1⟩ : ∃ S1, TA w1 w.heap.size w.heap.size S1 (fun _ => none) 0 0 := hw1 ▸ ta_new w
  have s1 : w1.heap.size = w.heap.size + 1 := by rw [hw1]; simp
  have B1 : Below w.heap.size w w1 := by rw [hw1]; exact below_alloc _ _
  have BL := below_alloc w1 (.cells #[.int .i64 1, .int .i64 2] 3)
  have P := put_new (some ⟨w1.heap.size, 0, none⟩) 2 2 [1, 2] 7 _ _ _ 0 0 _ _ (T1.below BL) (tk_lit2 w1 1 2 (by omega) (by omega)) (first_lit2 w1 1 2) (by omega) (by omega) rfl (by omega) (by omega)
  rw [s1, hw1] at P
  have HB : Hid (Below w.heap.size w ((w.alloc (.cells #[.map none, .bool false, .int .i64 0, .int .i64 0] 28)).alloc (.cells #[.int .i64 1, .int .i64 2] 3))) := (below_alloc w _).alloc (by simp) _
  clear T1 B1 BL s1 hw1
  go_enter Try.func8, Try.ntmps8
  go_wp2_with (go_at_call 9; refine P.mono ?_; rintro e w3 ⟨rfl, ⟨S3, T3, _⟩, B3⟩)
  have L := longest_any (some ⟨w3.heap.size, 0, none⟩) 3 3 [1, 2, 3] _ _ _ _ _ _ _ (T3.below (below_alloc w3 (.cells #[.int .i64 1, .int .i64 2, .int .i64 3] 3))) (tk_lit3 w3 1 2 3 (by omega) (by omega) (by omega))
  rw [lg_awake] at L
  have T4 := T3.below (below_alloc w3 (.cells #[.int .i64 1, .int .i64 2, .int .i64 3] 3))
  go_wp2_with (first
    | (go_at_call 16; refine L.mono ?_; rintro e w4 ⟨rfl, m, rfl⟩; have CT := count_any _ _ _ _ _ _ _ (T4.below (below_drewN (Below.refl _ _) m)))
    | (go_at_call 21; refine CT.mono ?_; rintro e w5 ⟨rfl, rfl⟩))
  go_ret
  have B4 := HB.out.trans B3
  exact ⟨rfl, below_drewN (B4.alloc B4.size _) _⟩
end Go.Proofs.Ytomfkdaaimhmkaa
