/- Package frame's Why and Place of the errors that the program makes. Condition: the library's variable holds the handle of the type error. -/
import Derived.Test.YtmcjcmddijikbaaDoorFAs2
import Derived.Tactics
import Derived.Tactics2
import Derived.Defers
import Derived.Recover
import Derived.Laws.Pointers
import Derived.Test.YtmcjcmddijikbaaDoorKin
namespace Go.Proofs.YtmcjcmddijikbaaDoor
open Go.RowKit
theorem hush (w : World) :
    CallsD Tryd.prog 49 #[] .returning w fun e u' w' => e = .returned (.tuple #[]) ∧ u' = .returning ∧ w' = w := by
  refine callsD_of_wpS Tryd.func49 rfl fun c₀ cs hu => ?_
  apply wpS_region
  simp [wpOpsS, go_sem, recoverD, hu, Tryd.ntmps49]
  cases c₀
  simp_all [bodyPostS, results, Tryd.results49]
theorem askedWhy (cap : Array Value) (b : Bool) (w : World) (Q : World → Prop)
    (h : Calls Tryd.prog 33 cap w fun e w' => e = .returned (.bool b) ∧ Q w') :
    Calls Tryd.prog 32 #[.func (.func 33) #[] cap] w fun e w' => e = .returned (.bool b) ∧ Q w' := by
  have hmf : ∀ (fn : Fn) (first cap : Array Value) (w : World), (Instr.makeFunc fn first cap).run Tryd.prog w = .ok (.func fn first cap) w := fun _ _ _ _ => rfl
  go_enter_defers Tryd.func32, Tryd.ntmps32
  go_wp2_with (go_at_call 33; refine h.mono ?_; rintro e w' ⟨rfl, hq⟩)
  refine leaves_cons (f := 49) (args := #[]) (by simp) (by simp [go_sem]) ?_
  refine (hush _).mono ?_
  rintro e u' w'' ⟨rfl, rfl, rfl⟩
  simp [Leaves, settle, results, Tryd.results32, go_sem]
  exact hq
theorem askedPlace (cap : Array Value) (b : Bool) (w : World) (Q : World → Prop)
    (h : Calls Tryd.prog 36 cap w fun e w' => e = .returned (.bool b) ∧ Q w') :
    Calls Tryd.prog 32 #[.func (.func 36) #[] cap] w fun e w' => e = .returned (.bool b) ∧ Q w' := by
  have hmf : ∀ (fn : Fn) (first cap : Array Value) (w : World), (Instr.makeFunc fn first cap).run Tryd.prog w = .ok (.func fn first cap) w := fun _ _ _ _ => rfl
  go_enter_defers Tryd.func32, Tryd.ntmps32
  go_wp2_with (go_at_call 36; refine h.mono ?_; rintro e w' ⟨rfl, hq⟩)
  refine leaves_cons (f := 49) (args := #[]) (by simp) (by simp [go_sem]) ?_
  refine (hush _).mono ?_
  rintro e u' w'' ⟨rfl, rfl, rfl⟩
  simp [Leaves, settle, results, Tryd.results32, go_sem]
  exact hq
theorem askedIs (cap : Array Value) (b : Bool) (w : World) (Q : World → Prop)
    (h : Calls Tryd.prog 44 cap w fun e w' => e = .returned (.bool b) ∧ Q w') :
    Calls Tryd.prog 32 #[.func (.func 44) #[] cap] w fun e w' => e = .returned (.bool b) ∧ Q w' := by
  have hmf : ∀ (fn : Fn) (first cap : Array Value) (w : World), (Instr.makeFunc fn first cap).run Tryd.prog w = .ok (.func fn first cap) w := fun _ _ _ _ => rfl
  go_enter_defers Tryd.func32, Tryd.ntmps32
  go_wp2_with (go_at_call 44; refine h.mono ?_; rintro e w' ⟨rfl, hq⟩)
  refine leaves_cons (f := 49) (args := #[]) (by simp) (by simp [go_sem]) ?_
  refine (hush _).mono ?_
  rintro e u' w'' ⟨rfl, rfl, rfl⟩
  simp [Leaves, settle, results, Tryd.results32, go_sem]
  exact hq
end Go.Proofs.YtmcjcmddijikbaaDoor
