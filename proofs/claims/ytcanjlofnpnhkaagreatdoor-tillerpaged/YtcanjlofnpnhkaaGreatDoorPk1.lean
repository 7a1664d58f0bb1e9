/- Contracts of the program's functions, part 1 of 13: what each call returns and leaves of memory. -/
import Derived.WalkKit
import Derived.ProofKit
import Derived.OpenShut
import Derived.WalkLawsBesides
import Derived.BigQuiet
import Derived.WalkSmall
import Derived.OwnWalk
/- Small tools of this seat's walks: worlds behind a world, of which nothing that was there has turned; regions walked once in the order of the text. -/
namespace Go.Proofs.YtcanjlofnpnhkaaGreatDoor
open Go.ChangeShapes Go.WideShapes Go.ChangeAt Go.RowKit
theorem ret_int {k : IntKind} {a b : Int} (h : a = b) : Ending.returned (.int k a) = .returned (.int k b) := by rw [h]
theorem ret_true {p : Prop} [Decidable p] (h : p) : Ending.returned (.bool (decide p)) = .returned (.bool true) := by rw [decide_eq_true h]
/-- A world behind w: of what was there nothing has turned. -/
structure Nxt (w : World) where
  to : World
  ok : Below w.heap.size w to
theorem nxt_ne (w : World) : Nonempty (Nxt w) := ⟨⟨w, Below.refl _ _⟩⟩
theorem below_then {w w1 w2 : World} (h : Below w.heap.size w w1) (k : Below w1.heap.size w1 w2) : Below w.heap.size w w2 := h.trans (k.mono h.size)
theorem wp_region_nxt {P : Program} {id : Nat} {Q : Exit → Act → World → Prop} {a : Act} {w : World} {l : List Oper} (hm : P.follows .mixedOrders = true) (hB : Region.lexB .any l.toArray = true)
    (h : wpQuiet P l.toArray (fun w' => ∃ p : Nxt w, w' = p.to) (fun a' => ∀ w', (∃ p : Nxt w, w' = p.to) → Q .normal a' w') l a) : (Code.region id l.toArray true).wp P Q a w :=
  wp_region_quiet (C := fun w' => ∃ p : Nxt w, w' = p.to) hm hB ⟨⟨{ w with drawn := w.drawn + 1 }, (Below.refl _ w).drew⟩, rfl⟩ (by simpa using h)
theorem calls_nxt {P : Program} {f : FuncId} {args : Array Value} {w : World} {p : Nxt w} {v : Value}
    (h : Calls P f args p.to fun e w' => e = .returned v ∧ Below p.to.heap.size p.to w') : Calls P f args p.to fun e w'' => e = .returned v ∧ ∃ q : Nxt w, w'' = q.to :=
  h.mono fun _ w' ⟨he, hb⟩ => ⟨he, ⟨w', below_then p.ok hb⟩, rfl⟩
theorem calls_nxt_same {P : Program} {f : FuncId} {args : Array Value} {w : World} {p : Nxt w} {v : Value}
    (h : Calls P f args p.to fun e w' => e = .returned v ∧ w' = p.to) : Calls P f args p.to fun e w'' => e = .returned v ∧ ∃ q : Nxt w, w'' = q.to :=
  h.mono fun _ _ ⟨he, hw⟩ => ⟨he, p, hw⟩
theorem calls_nxt_drew {P : Program} {f : FuncId} {args : Array Value} {w : World} {p : Nxt w} {v : Value}
    (h : Calls P f args p.to fun e w' => e = .returned v ∧ ∃ n, w' = p.to.drewN n) : Calls P f args p.to fun e w'' => e = .returned v ∧ ∃ q : Nxt w, w'' = q.to :=
  h.mono fun _ w' ⟨he, n, hw⟩ => ⟨he, ⟨w', by rw [hw]; exact below_drewN p.ok n⟩, rfl⟩
end Go.Proofs.YtcanjlofnpnhkaaGreatDoor
