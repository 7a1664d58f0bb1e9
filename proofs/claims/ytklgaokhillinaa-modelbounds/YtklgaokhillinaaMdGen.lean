/- What Make answers of any configuration, as laws use it. -/
import Derived.Test.YtklgaokhillinaaMdAwake
import Derived.Test.YtklgaokhillinaaViewC
namespace Go.Proofs.Ytklgaokhillinaa
open Go.ChangeShapes Go.WideShapes Go.ChangeAt Go.RowKit
/-- The cells of a model that was made, or of none. -/
structure Model (w : World) (B : Nat) (C : Cfg) (seed : Nat) (cs : Array Value) (q : Int) : Prop where
  err : q = shapeN C.V C.D C.Hd C.H C.L
  size : cs.size = 8
  one : cs.all (·.oneCell') = true
  no : q ≠ 0 → cs = noW
  ok : q = 0 → ∃ V D Hd H L ge gB gl go : Nat, C.V = V ∧ C.D = D ∧ C.Hd = Hd ∧ C.H = H ∧ C.L = L ∧ cs = wCells V D (rv ge (V * D)) (rv gB L) (rv gl D) (rv go (V * D)) V D ∧ MadeW w B seed V D H L ge gB gl go
theorem noW_one : noW.all (·.oneCell') = true := by simp [noW, Value.oneCell']
theorem wCells_one (V D e b l o : Nat) (n1 n2 n3 n4 : Nat) (V' D' : Int) : (wCells V D (rv e n1) (rv b n2) (rv l n3) (rv o n4) V' D').all (·.oneCell') = true := by simp [wCells, rv, Value.oneCell']
theorem make_gen (C : Cfg) (hC : C.Ok) (seed : Nat) (hs : seed < 18446744073709551616) (w : World) :
   Calls Try.prog 16 #[C.val, .int .u64 (seed : Int)] w fun e w' => ∃ cs q, e = .returned (.tuple #[.agg cs, .int .i64 q]) ∧ Model w' w.heap.size C seed cs q ∧ Below w.heap.size w w' := by
  obtain ⟨V, D, Hd, H, L⟩ := C
  unfold Cfg.val
  by_cases hf : shapeN V D Hd H L = 0
  · have hk := shape_ok hf
    obtain ⟨V', rfl⟩ : ∃ n : Nat, V = n := ⟨V.toNat, by omega⟩
    obtain ⟨D', rfl⟩ : ∃ n : Nat, D = n := ⟨D.toNat, by omega⟩
    obtain ⟨Hd', rfl⟩ : ∃ n : Nat, Hd = n := ⟨Hd.toNat, by omega⟩
    obtain ⟨H', rfl⟩ : ∃ n : Nat, H = n := ⟨H.toNat, by omega⟩
    obtain ⟨L', rfl⟩ : ∃ n : Nat, L = n := ⟨L.toNat, by omega⟩
    refine (make_any V' D' Hd' H' L' seed w hs hf).mono ?_
    rintro e w' ⟨ge, gB, gl, go, rfl, M, B⟩
    exact ⟨_, _, rfl, ⟨hf.symm, rfl, wCells_one _ _ _ _ _ _ _ _ _ _ _ _, fun h => absurd rfl h, fun _ => ⟨V', D', Hd', H', L', ge, gB, gl, go, rfl, rfl, rfl, rfl, rfl, rfl, M⟩⟩, B⟩
  · refine (make_bad V D Hd H L seed w hC.V hC.D hC.Hd hC.H hC.L hf).mono ?_
    rintro e w' ⟨rfl, B⟩
    exact ⟨_, _, rfl, ⟨rfl, rfl, noW_one, fun _ => rfl, fun h => absurd h hf⟩, B⟩
/-- A model that is laid into a new block. -/
theorem put_w (w : World) (cs : Array Value) : Blk ((w.alloc (.cells #[.int .i64 0, .int .i64 0, .slice none 0 0, .slice none 0 0, .slice none 0 0, .int .i64 0, .int .i64 0, .slice none 0 0] 29)).setRow w.heap.size cs) w.heap.size 29 cs ∧ Below w.heap.size w ((w.alloc (.cells #[.int .i64 0, .int .i64 0, .slice none 0 0, .slice none 0 0, .slice none 0 0, .int .i64 0, .int .i64 0, .slice none 0 0] 29)).setRow w.heap.size cs) :=
  ⟨(blk_new w _ _).row cs, below_setRow ((Below.refl _ _).alloc (Nat.le_refl _) _) (Nat.le_refl _) _⟩
theorem MadeW.below {w w' : World} {B seed V D H L ge gB gl go : Nat} (h : MadeW w B seed V D H L ge gB gl go) (hb : Below w.heap.size w w') : MadeW w' B seed V D H L ge gB gl go := by
  obtain ⟨cs, h1, h2⟩ := h.bl
  have e := hb.block gB (Array.getElem?_eq_some_iff.1 h1).1
  refine ⟨h.e.below hb, ⟨cs, e.trans h1, h2⟩, h.base, fun j hj => ?_, h.l.below hb, h.o.below hb⟩
  obtain ⟨f, q, k, v, o, s, u, d, r1, r2⟩ := h.bs j hj
  exact ⟨f, q, k, v, o, s, u, d, rangeAt_block r1 e, r2.of (Nat.le_refl _) (fun F => hb.block _ F.lt)⟩
theorem Model.below {w w' : World} {B : Nat} {C : Cfg} {seed : Nat} {cs : Array Value} {q : Int} (h : Model w B C seed cs q) (hb : Below w.heap.size w w') : Model w' B C seed cs q :=
  ⟨h.err, h.size, h.one, h.no, fun hq => by
    obtain ⟨V, D, Hd, H, L, ge, gB, gl, go, h1, h2, h3, h4, h5, h6, M⟩ := h.ok hq
    exact ⟨V, D, Hd, H, L, ge, gB, gl, go, h1, h2, h3, h4, h5, h6, M.below hb⟩⟩
/-- A configuration in its box. -/
theorem cfg_cells {w : World} {g : Nat} {C : Cfg} (h : Blk w g 23 (cfgC C.V C.D C.Hd C.H C.L)) : w.cell? ⟨g, 0, none⟩ = some (.int .i64 C.V) ∧ w.cell? ⟨g, 1, none⟩ = some (.int .i64 C.D) ∧ w.cell? ⟨g, 2, none⟩ = some (.int .i64 C.Hd) ∧ w.cell? ⟨g, 3, none⟩ = some (.int .i64 C.H) ∧ w.cell? ⟨g, 4, none⟩ = some (.int .i64 C.L) :=
  ⟨h.cell 0 rfl, h.cell 1 rfl, h.cell 2 rfl, h.cell 3 rfl, h.cell 4 rfl⟩
end Go.Proofs.Ytklgaokhillinaa
