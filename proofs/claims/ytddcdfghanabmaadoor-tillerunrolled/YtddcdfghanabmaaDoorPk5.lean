/- Contracts of the program's functions, part 5 of 7: what each call returns and leaves of memory. -/
import Derived.Deep.RegionHeld3
import Derived.Test.YtddcdfghanabmaaDoorPk4
import Derived.Test.YtddcdfghanabmaaDoorPk1
import Derived.LaidMore
import Derived.Lib.LaidTab
import Derived.Stop.Joined
import Derived.Test.YtddcdfghanabmaaDoorPk3
/- A region that draws its order: what a store waits for may be taken first, though the store turns what was read. -/
namespace Go.Proofs.YtddcdfghanabmaaDoor
section
variable {P : Program} {ops : Array Oper} {Q : Exit → Act → World → Prop} {S : World → Prop} {z : Nat}
/-- Whatever comes up next; S holds as long as operation z hasn't come up. -/
def wpLate (P : Program) (ops : Array Oper) (Q : Exit → Act → World → Prop) (S : World → Prop) (z : Nat) : Nat → Array Bool → Act → World → Prop
  | 0, listed, a, w => Region.ready .any ops listed = [] ∧ Q .normal a w
  | fuel + 1, listed, a, w =>
    (Region.ready .any ops listed = [] → Q .normal a w) ∧
    ∀ i ∈ Region.ready .any ops listed, wpOp P ops Q i (fun a' w' => (i ≠ z → listed.getD z true = false → S w') ∧ wpLate P ops Q S z fuel (listed.setIfInBounds i true) a' w') a w
theorem wpAny_of_late : ∀ (fuel : Nat) (listed : Array Bool) (a : Act) (w : World), wpLate P ops Q S z fuel listed a w → wpAny P .any ops Q fuel listed a w
  | 0, _, _, _, h => h
  | fuel + 1, _, _, _, h => ⟨h.1, fun i hi => wpOp_mono (fun a' w' h' => wpAny_of_late fuel _ a' w' h'.2) (h.2 i hi)⟩
theorem wpLate_first {i : Nat} {oi oz : Oper} {v : Value} (hi : ops[i]? = some oi) (hz : ops[z]? = some oz) (hzi : ∃ e ∈ oz.after, Region.binds .any e = true ∧ e.on = i)
    (hsel : ∀ (j : Nat) (o : Oper) cs b, ops[j]? = some o → o.op ≠ .select cs b) (hQ : ∀ c a w, Q (.panic c) (a.put oi.dst v) w → Q (.panic c) a w) :
    ∀ (fuel : Nat) (listed : Array Bool) (a : Act) (w : World),
      (∀ j oj, ops[j]? = some oj → j ≠ i → listed.getD j true = false → (∀ e ∈ oj.after, Region.binds .any e = true → e.on ≠ i) → oi.apart ops oj = true) →
      i ∈ Region.ready .any ops listed → listed.getD z true = false → YieldsIf P ops S oi v a → S w →
      wpLate P ops Q S z fuel (listed.setIfInBounds i true) (a.put oi.dst v) w → wpLate P ops Q S z (fuel + 1) listed a w := by
  intro fuel
  induction fuel with
  | zero =>
    intro listed a w _ hr _ hy hS H
    refine ⟨fun h => (by rw [h] at hr; cases hr), fun j hj => ?_⟩
    by_cases hji : j = i
    · subst hji
      exact hy.wpOp hi hS ⟨fun _ _ => hS, H⟩
    · have hc := ready_mono hj hji
      rw [H.1] at hc
      cases hc
  | succ fuel ih =>
    intro listed a w hfree hr hu hy hS H
    refine ⟨fun h => (by rw [h] at hr; cases hr), fun j hj => ?_⟩
    by_cases hji : j = i
    · subst hji
      exact hy.wpOp hi hS ⟨fun _ _ => hS, H⟩
    · obtain ⟨hjun, oj, hoj, hall⟩ := mem_ready.1 hj
      have hnot : ∀ e ∈ oj.after, Region.binds .any e = true → e.on ≠ i := fun e he hb heq => by
        have h1 := hall e he hb
        have h0 := (mem_ready.1 hr).1
        rw [heq] at h1
        rcases Nat.lt_or_ge i listed.size with h' | h'
        · simp [h'] at h0 h1; rw [h0] at h1; cases h1
        · simp [Array.getElem?_eq_none h'] at h1
      have hjz : j ≠ z := by
        rintro rfl
        rw [hz] at hoj
        simp only [Option.some.injEq] at hoj
        subst hoj
        obtain ⟨e, h1, h2, h3⟩ := hzi
        exact hnot e h1 h2 h3
      have hiz : i ≠ z := by
        rintro rfl
        rw [hi] at hz
        simp only [Option.some.injEq] at hz
        subst hz
        obtain ⟨e, h1, h2, h3⟩ := hzi
        obtain ⟨hun, o', ho', hall'⟩ := mem_ready.1 hr
        rw [hi] at ho'
        simp only [Option.some.injEq] at ho'
        subst ho'
        have h4 := hall' e h1 h2
        rw [h3] at h4
        rcases Nat.lt_or_ge i listed.size with h' | h'
        · simp [h'] at hun h4; rw [hun] at h4; cases h4
        · simp [Array.getElem?_eq_none h'] at h4
      have h2 := wpOp_putIf hoj (hfree j oj hoj hji hjun hnot) (fun cs b => hsel i oi cs b hi) (fun cs b => hsel j oj cs b hoj) hQ hy (H.2 j (ready_mono hj hji))
      have hfree' : ∀ k ok, ops[k]? = some ok → k ≠ i → (listed.setIfInBounds j true).getD k true = false →
          (∀ e ∈ ok.after, Region.binds .any e = true → e.on ≠ i) → oi.apart ops ok = true := fun k ok hk hki hun hno => by
        refine hfree k ok hk hki ?_ hno
        by_cases hjk : j = k
        · subst hjk; exact hjun
        · rw [getD_set_ne true hjk] at hun; exact hun
      refine wpOp_mono (fun a' w' h3 => ?_) h2
      have hS' : S w' := h3.2.1 hjz (by rw [getD_set_ne true hiz]; exact hu)
      refine ⟨fun _ _ => hS', ih (listed.setIfInBounds j true) a' w' hfree' (ready_mono hr (Ne.symm hji)) (by rw [getD_set_ne true hjz]; exact hu) h3.1 hS' ?_⟩
      rw [Array.setIfInBounds_comm _ _ hji]
      exact h3.2.2
/-- The same of an operation that yields its value in whatever world: z needn't wait for it. -/
theorem wpLate_plain {i : Nat} {oi : Oper} {v : Value} (hi : ops[i]? = some oi) (hiz : i ≠ z)
    (hsel : ∀ (j : Nat) (o : Oper) cs b, ops[j]? = some o → o.op ≠ .select cs b) (hQ : ∀ c a w, Q (.panic c) (a.put oi.dst v) w → Q (.panic c) a w) :
    ∀ (fuel : Nat) (listed : Array Bool) (a : Act) (w : World),
      (∀ j oj, ops[j]? = some oj → j ≠ i → listed.getD j true = false → (∀ e ∈ oj.after, Region.binds .any e = true → e.on ≠ i) → oi.apart ops oj = true) →
      i ∈ Region.ready .any ops listed → (listed.getD z true = false → S w) → YieldsIf P ops (fun _ => True) oi v a →
      wpLate P ops Q S z fuel (listed.setIfInBounds i true) (a.put oi.dst v) w → wpLate P ops Q S z (fuel + 1) listed a w := by
  intro fuel
  induction fuel with
  | zero =>
    intro listed a w _ hr hS hy H
    refine ⟨fun h => (by rw [h] at hr; cases hr), fun j hj => ?_⟩
    by_cases hji : j = i
    · subst hji
      exact hy.wpOp hi trivial ⟨fun _ => hS, H⟩
    · have hc := ready_mono hj hji
      rw [H.1] at hc
      cases hc
  | succ fuel ih =>
    intro listed a w hfree hr hS hy H
    refine ⟨fun h => (by rw [h] at hr; cases hr), fun j hj => ?_⟩
    by_cases hji : j = i
    · subst hji
      exact hy.wpOp hi trivial ⟨fun _ => hS, H⟩
    · obtain ⟨hjun, oj, hoj, hall⟩ := mem_ready.1 hj
      have hnot : ∀ e ∈ oj.after, Region.binds .any e = true → e.on ≠ i := fun e he hb heq => by
        have h1 := hall e he hb
        have h0 := (mem_ready.1 hr).1
        rw [heq] at h1
        rcases Nat.lt_or_ge i listed.size with h' | h'
        · simp [h'] at h0 h1; rw [h0] at h1; cases h1
        · simp [Array.getElem?_eq_none h'] at h1
      have h2 := wpOp_putIf hoj (hfree j oj hoj hji hjun hnot) (fun cs b => hsel i oi cs b hi) (fun cs b => hsel j oj cs b hoj) hQ hy (H.2 j (ready_mono hj hji))
      have hfree' : ∀ k ok, ops[k]? = some ok → k ≠ i → (listed.setIfInBounds j true).getD k true = false →
          (∀ e ∈ ok.after, Region.binds .any e = true → e.on ≠ i) → oi.apart ops ok = true := fun k ok hk hki hun hno => by
        refine hfree k ok hk hki ?_ hno
        by_cases hjk : j = k
        · subst hjk; exact hjun
        · rw [getD_set_ne true hjk] at hun; exact hun
      refine wpOp_mono (fun a' w' h3 => ?_) h2
      have hS' : j ≠ z → listed.getD z true = false → S w' := fun hjz hu => h3.2.1 hjz (by rw [getD_set_ne true hiz]; exact hu)
      refine ⟨hS', ih (listed.setIfInBounds j true) a' w' hfree' (ready_mono hr (Ne.symm hji)) (fun hu => ?_) h3.1 ?_⟩
      · by_cases hjz : j = z
        · subst hjz
          have hlt : j < listed.size := by
            rcases Nat.lt_or_ge j listed.size with h' | h'
            · exact h'
            · simp [h'] at hjun
          simp [hlt] at hu
        · exact hS' hjz (by rw [getD_set_ne true hjz] at hu; exact hu)
      · rw [Array.setIfInBounds_comm _ _ hji]
        exact h3.2.2
/-- Does operation z wait for i? -/
def waitsOn (ops : Array Oper) (z i : Nat) : Bool := ((ops[z]?).map fun o => o.after.any fun e => Region.binds .any e && (e.on == i)).getD false
theorem waitsOn_spec {i : Nat} (h : waitsOn ops z i = true) : ∃ oz, ops[z]? = some oz ∧ ∃ e ∈ oz.after, Region.binds .any e = true ∧ e.on = i := by
  unfold waitsOn at h
  cases e : ops[z]? with
  | none => rw [e] at h; simp at h
  | some oz =>
    rw [e] at h
    simp only [Option.map_some, Option.getD_some, Array.any_eq_true, Bool.and_eq_true, beq_iff_eq] at h
    obtain ⟨k, hk, h1, h2⟩ := h
    exact ⟨oz, rfl, _, Array.getElem_mem hk, h1, h2⟩
/-- Take number i first. -/
theorem wpLate_take {i : Nat} {oi : Oper} {v : Value} {fuel : Nat} {listed : Array Bool} {a : Act} {w : World} (hi : ops[i]? = some oi) (hz : waitsOn ops z i = true) (hu : listed.getD z true = false)
    (hs : Region.noSelect ops = true) (hf : Region.free .any ops listed i = true) (hr : (Region.ready .any ops listed).contains i = true)
    (hQ : ∀ c a w, Q (.panic c) (a.put oi.dst v) w → Q (.panic c) a w) (hy : YieldsIf P ops S oi v a) (hS : S w)
    (h : wpLate P ops Q S z fuel (listed.setIfInBounds i true) (a.put oi.dst v) w) : wpLate P ops Q S z (fuel + 1) listed a w := by
  obtain ⟨oz, h1, h2⟩ := waitsOn_spec hz
  exact wpLate_first hi h1 h2 (Region.noSelect_spec hs) hQ fuel listed a w (Region.free_spec hi hf) (by simpa using hr) hu hy hS h
/-- Take number i first: it yields its value in whatever world. -/
theorem wpLate_pure {i : Nat} {oi : Oper} {v : Value} {fuel : Nat} {listed : Array Bool} {a : Act} {w : World} (hi : ops[i]? = some oi) (hiz : i ≠ z)
    (hs : Region.noSelect ops = true) (hf : Region.free .any ops listed i = true) (hr : (Region.ready .any ops listed).contains i = true)
    (hQ : ∀ c a w, Q (.panic c) (a.put oi.dst v) w → Q (.panic c) a w) (hy : YieldsIf P ops (fun _ => True) oi v a) (hS : listed.getD z true = false → S w)
    (h : wpLate P ops Q S z fuel (listed.setIfInBounds i true) (a.put oi.dst v) w) : wpLate P ops Q S z (fuel + 1) listed a w :=
  wpLate_plain hi hiz (Region.noSelect_spec hs) hQ fuel listed a w (Region.free_spec hi hf) (by simpa using hr) hS hy h
/-- One of those that may come up. -/
theorem wpLate_nil {fuel : Nat} {listed : Array Bool} {a : Act} {w : World} : ∀ i ∈ ([] : List Nat), wpOp P ops Q i (fun a' w' => (i ≠ z → listed.getD z true = false → S w') ∧ wpLate P ops Q S z fuel (listed.setIfInBounds i true) a' w') a w := fun _ h => by cases h
theorem wpLate_cons {fuel : Nat} {listed : Array Bool} {a : Act} {w : World} {i : Nat} {o : Oper} {rs : List Nat} (ho : ops[i]? = some o)
    (h : ∀ K' : Act → World → Prop, Shut (∀ a w, (i ≠ z → listed.getD z true = false → S w) → wpLate P ops Q S z fuel (listed.setIfInBounds i true) a w → K' a w) → if Region.wanted o (yielded ops a.tmps) = true then Oper.wp P o a w K' Q else K' (a.put o.dst undef) w)
    (hs : ∀ j ∈ rs, wpOp P ops Q j (fun a' w' => (j ≠ z → listed.getD z true = false → S w') ∧ wpLate P ops Q S z fuel (listed.setIfInBounds j true) a' w') a w) :
    ∀ j ∈ i :: rs, wpOp P ops Q j (fun a' w' => (j ≠ z → listed.getD z true = false → S w') ∧ wpLate P ops Q S z fuel (listed.setIfInBounds j true) a' w') a w := fun j hj => by
  rcases List.mem_cons.1 hj with rfl | hj
  · exact wpOp_step ho (fun K' hK => h K' (fun a w hS hW => hK a w ⟨hS, hW⟩))
  · exact hs j hj
theorem wpLate_ready {rs : List Nat} {fuel : Nat} {listed : Array Bool} {a : Act} {w : World} (hr : Region.ready .any ops listed = rs) (hne : rs ≠ [])
    (h : ∀ i ∈ rs, wpOp P ops Q i (fun a' w' => (i ≠ z → listed.getD z true = false → S w') ∧ wpLate P ops Q S z fuel (listed.setIfInBounds i true) a' w') a w) : wpLate P ops Q S z (fuel + 1) listed a w :=
  ⟨fun h0 => absurd (hr ▸ h0) hne, hr ▸ h⟩
theorem wpLate_done {listed : Array Bool} {a : Act} {w : World} (hr : Region.ready .any ops listed = []) (h : Q .normal a w) : ∀ fuel, wpLate P ops Q S z fuel listed a w
  | 0 => ⟨hr, h⟩
  | _ + 1 => ⟨fun _ => h, by rw [hr]; simp⟩
theorem wp_region_late {id : Nat} {a : Act} {w : World} (z : Nat) (hm : P.follows .mixedOrders = true) (hS : S w.drew)
    (h : S w.drew → wpLate P ops Q S z ops.size (Array.replicate ops.size false) a w.drew) : (Code.region id ops true).wp P Q a w :=
  wp_region_any hm (wpAny_of_late _ _ _ _ (h hS))
end
end Go.Proofs.YtddcdfghanabmaaDoor

/- Package step: append of a row to a full list of rows; what a token more makes of a view. -/
namespace Go.Proofs.YtddcdfghanabmaaDoor
open Go.ChangeShapes Go.WideShapes Go.ChangeAt Go.RowKit
theorem front_get (l : List Value) (z : Array Value) {j : Nat} {u : Value} (h : l[j]? = some u) : (l.toArray ++ z)[j]? = some u := by
  have hj := (List.getElem?_eq_some_iff.1 h).1
  rw [Array.getElem?_append_left (by simpa using hj)]
  simpa using h
/-- append(rows, row), rows a full list. -/
theorem wp_append_full {o : Oper} {a : Act} {w : World} {K : Act → World → Prop} {Q : Exit → Act → World → Prop} (s x : Operand) (hop : o.op = .call { callee := .builtin .append, args := #[s, x], argTypes := #[32, 32] })
    (p : Nat → Prop) (ro : Option Addr) (n : Nat) (vs : List Value) (R : List (List Int)) (hs : a.eval s = .slice ro n n) (hnil : ro = none → n = 0) (hG : Hangs p w (fun w => GridV w ro n vs R))
    (bo g1 m1 c1 : Nat) (Y : List Int) (hx : a.eval x = .slice (some ⟨bo, 0, none⟩) 1 1) (hX : w.cell? ⟨bo, 0, none⟩ = some (.slice (some ⟨g1, 0, none⟩) m1 c1)) (hY : Hangs p w (fun w => Arg w (some ⟨g1, 0, none⟩) m1 c1 Y)) (hn : n ≤ 4096) (hp : p w.heap.size)
    (h : ∀ cap w', n + 1 ≤ cap → cap ≤ 9223372036854775807 → Hangs p w' (fun wv => GridV wv (some ⟨w.heap.size, 0, none⟩) (n + 1) (vs ++ [.slice (some ⟨g1, 0, none⟩) m1 c1]) (R ++ [Y])) → Below w.heap.size w w' → K (a.put o.dst (.slice (some ⟨w.heap.size, 0, none⟩) (n + 1) cap)) w') : Oper.wp Tryd.prog o a w K Q := by
  obtain ⟨i0, hi, hz0, hz1, hz2⟩ := info_parts Tryd.infoRow
  have hnews : ∀ j u, [Value.slice (some ⟨g1, 0, none⟩) m1 c1][j]? = some u → w.cell? ((Addr.mk bo 0 none).add j) = some u := by
    intro j u hj
    match j, hj with
    | 0, hj =>
      simp at hj
      subst hj
      have e2 : (Addr.mk bo 0 none).add 0 = ⟨bo, 0, none⟩ := by simp [Addr.add]
      rw [e2, hX]
  have hgo : ∀ (cs : Array Value) (cap : Nat), (∀ (j : Nat) (u : Value), (vs ++ [.slice (some ⟨g1, 0, none⟩) m1 c1])[j]? = some u → cs[j]? = some u) → n + 1 ≤ cap → cap ≤ 9223372036854775807 → K (a.put o.dst (.slice (some ⟨w.heap.size, 0, none⟩) (n + 1) cap)) (w.drew.alloc (.cells cs 27)) := by
    intro cs cap hcs h1 h2
    have hb : Below w.heap.size w (w.drew.alloc (.cells cs 27)) := ((Below.refl _ _).drew).alloc (Nat.le_refl _) _
    refine h cap _ h1 h2 (fun w2 h3 => ?_) hb
    have hnew := heap_alloc_new w.drew (.cells cs 27)
    have hg : w2.heap[w.heap.size]? = some (.cells cs 27 (0, 0)) := (h3 w.heap.size hp (by simp)).trans hnew
    have ho : ∀ b, p b → b < w.heap.size → w2.heap[b]? = w.heap[b]? := fun b hb1 hb2 => (h3 b hb1 (Nat.lt_of_lt_of_le hb2 hb.size)).trans (hb.block b hb2)
    have V := hG w2 ho
    have A := hY w2 ho
    refine ⟨V.rows.snoc A, by simp [V.len], by omega, fun _ => ⟨w.heap.size, 0, rfl, fun j u hj => ?_⟩⟩
    rw [Nat.zero_add]
    unfold World.cell?
    simp only [hg]
    exact hcs j u hj
  have V0 := hG.now
  have hmx := fun (nd od : Nat) (hh : nd ≤ maxLen) => grownCap_le_maxLen w nd od 27 hh
  have hge := fun (nd od : Nat) => grownCap_ge w nd od 27
  cases ro with
  | none =>
    obtain rfl : n = 0 := hnil rfl
    obtain rfl : vs = [] := List.length_eq_zero_iff.1 V0.len
    have hrun := run_append_nil (P := Tryd.prog) w 32 o.type 27 i0 (.slice none 0 0) Tryd.underlying32 hi hz0 ⟨bo, 0, none⟩ 1 1 [.slice (some ⟨g1, 0, none⟩) m1 c1] (by simp [hz1]) hnews (by omega) (by omega) (by rw [hz2]; omega)
    unfold Oper.wp
    simp [execOp, hop, resolve, invoke, builtin, hs, hx, hrun, Result.andThen]
    refine hgo _ _ (fun j u hj => ?_) (hge 1 0) (by have := hmx 1 0 (by decide); unfold maxLen at this; omega)
    exact front_get [.slice (some ⟨g1, 0, none⟩) m1 c1] _ hj
  | some ad =>
    have holds : ∀ j v, vs[j]? = some v → w.cell? (ad.add j) = some v := fun j v hj => by
      have hjn : j < n := by rw [← V0.len]; exact (List.getElem?_eq_some_iff.1 hj).1
      obtain ⟨b, o', e, hc⟩ := V0.cells (by omega)
      simp only [Option.some.injEq] at e
      subst e
      have e2 : (Addr.mk b o' none).add j = ⟨b, o' + j, none⟩ := by simp [Addr.add]
      rw [e2]
      exact hc j v hj
    have hrun := run_append_grow (P := Tryd.prog) w 32 o.type 27 i0 (.slice none 0 0) Tryd.underlying32 hi hz0 ad n n vs (by rw [hz1, V0.len]; omega) holds ⟨bo, 0, none⟩ 1 1 [.slice (some ⟨g1, 0, none⟩) m1 c1] (by simp [hz1]) hnews (by omega) (by omega) (growslice_fits (by omega) (by rw [hz2]; omega))
    unfold Oper.wp
    simp [execOp, hop, resolve, invoke, builtin, hs, hx, hrun, Result.andThen]
    refine hgo _ _ (fun j u hj => ?_) (hge (n + 1) n) (by have := hmx (n + 1) n (by unfold maxLen; omega); unfold maxLen at this; omega)
    exact front_get (vs ++ [.slice (some ⟨g1, 0, none⟩) m1 c1]) _ hj
end Go.Proofs.YtddcdfghanabmaaDoor

/- Package step: goOn: the view behind one token more. -/
namespace Go.Proofs.YtddcdfghanabmaaDoor
open Go.ChangeShapes Go.WideShapes Go.ChangeAt Go.RowKit
def layD : Lay := ⟨[], [], [], [], [], [], [], []⟩
def layAt (M : Mdl) (l : Nat) : Lay := M.Ls.getD l layD
/-- The row that l layers make of a first one, behind the lists K and V of n rows each. -/
def xRow (M : Mdl) (D H Hd n : Nat) (K V : List (List (List Int))) (x : List Int) : Nat → List Int
  | 0 => x
  | l + 1 => oneR (layAt M l) D H Hd (xRow M D H Hd n K V x l) (K.getD l []) (V.getD l []) n
def newK (M : Mdl) (D H Hd n L : Nat) (K V : List (List (List Int))) (x : List Int) : List (List (List Int)) := (List.range L).map fun l => K.getD l [] ++ [keyR (layAt M l) D (xRow M D H Hd n K V x l)]
def newV (M : Mdl) (D H Hd n L : Nat) (K V : List (List (List Int))) (x : List Int) : List (List (List Int)) := (List.range L).map fun l => V.getD l [] ++ [valR (layAt M l) D (xRow M D H Hd n K V x l)]
theorem newK_at (M : Mdl) (D H Hd n L : Nat) (K V : List (List (List Int))) (x : List Int) {l : Nat} (h : l < L) : (newK M D H Hd n L K V x).getD l [] = K.getD l [] ++ [keyR (layAt M l) D (xRow M D H Hd n K V x l)] := by
  unfold newK
  rw [List.getD_eq_getElem?_getD, List.getElem?_map, List.getElem?_range h]
  rfl
theorem newV_at (M : Mdl) (D H Hd n L : Nat) (K V : List (List (List Int))) (x : List Int) {l : Nat} (h : l < L) : (newV M D H Hd n L K V x).getD l [] = V.getD l [] ++ [valR (layAt M l) D (xRow M D H Hd n K V x l)] := by
  unfold newV
  rw [List.getD_eq_getElem?_getD, List.getElem?_map, List.getElem?_range h]
  rfl
/-- The view behind one token more, and the row that the last layer makes of it. -/
def feedV (M : Mdl) (D H Hd L : Nat) (X : Vw) (tok : Nat) : Vw := ⟨X.T ++ [(tok : Int)], newK M D H Hd X.T.length L X.K X.V (begR M.E D tok X.T.length), newV M D H Hd X.T.length L X.K X.V (begR M.E D tok X.T.length)⟩
def feedX (M : Mdl) (D H Hd L : Nat) (X : Vw) (tok : Nat) : List Int := xRow M D H Hd X.T.length X.K X.V (begR M.E D tok X.T.length) L
/-- The blocks that a new view's lists may hang on. -/
def offB (w : World) (gk gv gN : Nat) (tv : Value) (b : Nat) : Prop := w.heap.size + 3 < b ∧ b ≠ gk ∧ b ≠ gv ∧ b ≠ gN ∧ tv.ownBlock ≠ some b
theorem load_b {w : World} {g : Nat} {cs : Array Value} (h : Blk w g 48 cs) (hs : cs.size = 20) : (loadVar 48 ⟨g, 0, none⟩).run Tryd.prog w = .ok (.agg cs) w :=
  run_loadVar_row w g _ _ cs _ _ h Tryd.underlying48 rfl (by rw [hs]; exact Tryd.infoB)
theorem yield_row {w : World} {a : Act} {o : Oper} (ty : TypeId) (x : Operand) (ho : o.op = .load ty x) (g : Nat) (hx : a.eval x = .pointer (some ⟨g, 0, none⟩)) (cs : Array Value) (hl : (loadVar ty ⟨g, 0, none⟩).run Tryd.prog w = .ok (.agg cs) w) : (execOp a.eval o).run Tryd.prog w = .ok (.value (.agg cs)) w := by
  unfold execOp
  simp only [ho, hx, Instr.loadAt, Instr.sureAddr, Sem.run_bind, Sem.run_pure, Result.andThen_ok, hl]
theorem Fresh.arg_off {wr w : World} {B g n c : Nat} {A : List Int} {gk gv gN : Nat} {tv : Value} (h : Fresh wr B g n c A) (hB : w.heap.size + 3 < B) (h1 : g ≠ gk) (h2 : g ≠ gv) (h3 : g ≠ gN) (h4 : tv.ownBlock ≠ some g) : Hangs (offB w gk gv gN tv) wr fun w => Arg w (some ⟨g, 0, none⟩) n c A :=
  (h.hangs.mono fun b _ e => by subst e; have := h.base; exact ⟨by omega, h1, h2, h3, h4⟩).imp fun _ h => h.arg
theorem kv_made (w : World) (L : Nat) (p : Nat → Prop) (A C : List (List (List Int))) (hC : C = []) : KV (w.alloc (.cells (madeCells #[.slice none 0 0] L) 32)) w.heap.size L 0 p A C := by
  subst hC
  refine ⟨_, heap_alloc_new _ _, by simp [madeCells], fun t ht => by omega, fun t _ ht => ⟨none, 0, [], ?_, fun _ => rfl, fun _ _ => gridV_nil _ _⟩⟩
  simp [madeCells, ht, Nat.mod_one]
theorem getD_set_true (l : Array Bool) (z : Nat) : (l.setIfInBounds z true).getD z true = true := by
  rcases Nat.lt_or_ge z l.size with h | h
  · simp [h]
  · simp [h]
theorem cell_keep {w w' : World} {a : Addr} {v : Value} (h : w.cell? a = some v) (hb : Below w.heap.size w w') : w'.cell? a = some v := by
  rw [World.cell?_of_block (hb.block _ (World.block_lt_of_cell? w _ h))]
  exact h
theorem Hangs.grown {p : Nat → Prop} {w w' : World} {Φ : World → Prop} (h : Hangs p w Φ) {r : Option Nat} (hg : w.grownBy w' r) (hr : ∀ b, p b → some b ≠ r) : Hangs p w' Φ := fun w2 h2 =>
  h w2 fun b h3 h4 => (h2 b h3 (Nat.lt_of_lt_of_le h4 hg.size)).trans (hg.block b h4 (hr b h3))
theorem KV.grown {w w' : World} {g m i : Nat} {p : Nat → Prop} {A C : List (List (List Int))} (h : KV w g m i p A C) {r : Option Nat} (hg : w.grownBy w' r) (hr : ∀ b, p b → some b ≠ r) (hgr : some g ≠ r) : KV w' g m i p A C := by
  have hl := h.lt
  obtain ⟨cs, h1, h2, h3, h4⟩ := h.row
  exact ⟨cs, (hg.block g hl hgr).trans h1, h2, fun t ht => let ⟨ro, n, c, vs, e, q1, q2, q3, N⟩ := h3 t ht; ⟨ro, n, c, vs, e, q1, q2, q3, N.grown hg hr⟩, fun t ht h5 => let ⟨ro, n, vs, e, q1, N⟩ := h4 t ht h5; ⟨ro, n, vs, e, q1, N.grown hg hr⟩⟩
/-- Lists that were all told anew, as they read. -/
theorem KV.cube {w : World} {g m : Nat} {p : Nat → Prop} {A C : List (List (List Int))} (h : KV w g m m p A C) (hl : A.length = m) (hm : m ≤ 9223372036854775807) {B : Nat} (hp : ∀ b, p b → B ≤ b) (hB : B ≤ g) : New B w fun w => CubeAt w (some ⟨g, 0, none⟩) m A := by
  intro w2 h2
  have hlt := h.lt
  obtain ⟨cs, h1, hs, h3, _⟩ := h.row
  have hg := (h2 g hB hlt).trans h1
  refine ⟨hl, hm, fun _ => ⟨g, 0, rfl, fun t R hR => ?_⟩⟩
  have ht : t < m := by rw [← hl]; exact (List.getElem?_eq_some_iff.1 hR).1
  obtain ⟨ro, n, c, vs, e, q1, q2, q3, N⟩ := h3 t ht
  have eR : A.getD t [] = R := by rw [List.getD_eq_getElem?_getD, hR]; rfl
  rw [eR] at N
  refine ⟨ro, n, c, ?_, q1, q2, q3, (N w2 fun b hb hb2 => h2 b (hp b hb) hb2).grid⟩
  rw [Nat.zero_add]
  unfold World.cell?
  simp only [hg]
  exact e
theorem owns_slice {w : World} {B n : Nat} {e : TypeId} {v : Value} {xs : List Value} (h : w.ownsRow B e 1 v n xs) : ∃ a c, v = .slice a n c := by
  rcases h.2 with ⟨h3, h4⟩ | ⟨g, cap, cur, hv, _⟩
  · exact ⟨none, 0, by rw [h3, h4]⟩
  · exact ⟨_, _, hv⟩
/-- What lists of a view that fits are like. -/
theorem fit_list {D L n : Nat} {K : List (List (List Int))} (hk : K.length = if n = 0 then 0 else L) (ks : ∀ R ∈ K, R.length = n ∧ ∀ t, t < n → (rowOf R t).length = D) {l : Nat} (hl : l < L) : (K.getD l []).length = n ∧ ∀ t, t < n → (rowOf (K.getD l []) t).length = D := by
  by_cases h0 : n = 0
  · rw [if_pos h0] at hk
    obtain rfl : K = [] := List.length_eq_zero_iff.1 hk
    subst h0
    exact ⟨rfl, fun t ht => by omega⟩
  · rw [if_neg h0] at hk
    have e : K.getD l [] = K[l]'(by omega) := by rw [List.getD_eq_getElem?_getD, List.getElem?_eq_getElem (by omega)]; rfl
    rw [e]
    exact ks _ (List.getElem_mem _)
end Go.Proofs.YtddcdfghanabmaaDoor

/- A made model as numbers that fit, and what becomes of them where one row is of another length. -/
namespace Go.Proofs.YtddcdfghanabmaaDoor
open Go.ChangeShapes Go.WideShapes Go.ChangeAt Go.RowKit
def rs (g n : Nat) : Sl := ⟨some ⟨g, 0, none⟩, n, n⟩
def mkB (D H f q k v o s u d : Nat) : Bk := ⟨rs f D, ⟨D, D, rs q (D * D)⟩, ⟨D, D, rs k (D * D)⟩, ⟨D, D, rs v (D * D)⟩, ⟨D, D, rs o (D * D)⟩, rs s D, ⟨H, D, rs u (H * D)⟩, ⟨D, H, rs d (D * H)⟩⟩
theorem mkB_cells (D H f q k v o s u d : Nat) : (mkB D H f q k v o s u d).cells = madeB D H f q k v o s u d := rfl
def mkW (V D L ge gB gl go : Nat) : Wt := ⟨⟨V, D, rs ge (V * D)⟩, rs gB L, rs gl D, ⟨V, D, rs go (V * D)⟩⟩
theorem mkW_cells (V D L ge gB gl go : Nat) : (mkW V D L ge gB gl go).cells = wCells V D (rv ge (V * D)) (rv gB L) (rv gl D) (rv go (V * D)) V D := rfl
theorem i64_nat {n : Nat} (h : n ≤ 4096) : I64 (n : Int) := by unfold I64; omega
theorem mkB_ok {D H f q k v o s u d : Nat} (h1 : D ≤ 4096) (h2 : H ≤ 4096) : (mkB D H f q k v o s u d).Ok :=
  ⟨by show D ≤ _; omega, ⟨i64_nat h1, i64_nat h1⟩, ⟨i64_nat h1, i64_nat h1⟩, ⟨i64_nat h1, i64_nat h1⟩, ⟨i64_nat h1, i64_nat h1⟩, by show D ≤ _; omega, ⟨i64_nat h2, i64_nat h1⟩, ⟨i64_nat h1, i64_nat h2⟩⟩
theorem mkW_ok {V D L ge gB gl go : Nat} (h1 : V ≤ 4096) (h2 : D ≤ 4096) : (mkW V D L ge gB gl go).Ok := ⟨⟨i64_nat h1, i64_nat h2⟩, by show D ≤ _; omega, ⟨i64_nat h1, i64_nat h2⟩⟩
theorem sides_yes {r c : Nat} (g : Nat) (h1 : 1 ≤ r) (h2 : r ≤ 128) (h3 : 1 ≤ c) (h4 : c ≤ 128) : sidesB ⟨r, c, rs g (r * c)⟩ r c = true := by
  unfold sidesB
  rw [decide_eq_true ⟨chk_ok h1 h2 h3 h4 rfl, rfl, rfl⟩]
theorem sides_no {r c : Nat} (s : Sl) (R K : Int) (h : s.n ≠ r * c) : sidesB ⟨r, c, s⟩ R K = false := by
  unfold sidesB
  refine decide_eq_false fun hh => ?_
  obtain ⟨r', c', e1, e2, _, _, _, _, e3⟩ := chk_zero hh.1
  simp only at e1 e2 e3
  obtain rfl : r = r' := by omega
  obtain rfl : c = c' := by omega
  exact h e3
theorem mkB_fits {D H f q k v o s u d : Nat} (h1 : 1 ≤ D) (h2 : D ≤ 128) (h3 : 1 ≤ H) (h4 : H ≤ 128) : bkB D H (mkB D H f q k v o s u d) = true := by
  unfold bkB mkB
  simp only [rs]
  have e1 := fun g => sides_yes (r := D) (c := D) g h1 h2 h1 h2
  have e2 := sides_yes (r := H) (c := D) u h3 h4 h1 h2
  have e3 := sides_yes (r := D) (c := H) d h1 h2 h3 h4
  unfold rs at e1 e2 e3
  rw [e1, e1, e1, e1, e2, e3]
  simp
/-- A made model's layers. -/
structure MadeL (w : World) (B seed i0 gB D H L : Nat) (bs : List Bk) : Prop where
  len : bs.length = L
  at_ : ∀ (t : Nat) (x : Bk), bs[t]? = some x → w.rangeAt gB (t * 20) x.cells.toList ∧ ∃ f q k v o s u d, x = mkB D H f q k v o s u d ∧ MadeB w B seed (i0 + t * lenB D H) D H f q k v o s u d
theorem madeL_of {w : World} {B seed i0 gB D H : Nat} : ∀ (L : Nat), (∀ j, j < L → ∃ f q k v o s u d, w.rangeAt gB (j * 20) (madeB D H f q k v o s u d).toList ∧ MadeB w B seed (i0 + j * lenB D H) D H f q k v o s u d) → ∃ bs, MadeL w B seed i0 gB D H L bs
  | 0, _ => ⟨[], rfl, fun t x h => by simp at h⟩
  | L + 1, h => by
    obtain ⟨bs, hl, ha⟩ := madeL_of L (fun j hj => h j (by omega))
    obtain ⟨f, q, k, v, o, s, u, d, hr, hm⟩ := h L (by omega)
    refine ⟨bs ++ [mkB D H f q k v o s u d], by simp [hl], fun t x hx => ?_⟩
    rcases Nat.lt_or_ge t L with h1 | h1
    · rw [List.getElem?_append_left (by omega)] at hx
      exact ha t x hx
    · rw [List.getElem?_append_right (by omega)] at hx
      have ht : t - bs.length = 0 := by
        rcases Nat.eq_zero_or_pos (t - bs.length) with h2 | h2
        · exact h2
        · rw [List.getElem?_eq_none (by simp; omega)] at hx; cases hx
      rw [ht] at hx
      simp at hx
      subst hx
      obtain rfl : t = L := by omega
      exact ⟨hr, f, q, k, v, o, s, u, d, rfl, hm⟩
theorem MadeL.blocks {w : World} {B seed i0 gB D H L : Nat} {bs : List Bk} (h : MadeL w B seed i0 gB D H L bs) (hL : L ≤ 4) (h1 : D ≤ 4096) (h2 : H ≤ 4096) : BlocksAt w (rs gB L) bs :=
  ⟨h.len, by show L ≤ _; omega, fun x hx => by
    obtain ⟨t, ht⟩ := List.mem_iff_getElem?.1 hx
    obtain ⟨_, f, q, k, v, o, s, u, d, rfl, _⟩ := h.at_ t x ht
    exact mkB_ok h1 h2, fun _ => ⟨gB, 0, rfl, fun t x hx => by rw [Nat.zero_add]; exact (h.at_ t x hx).1⟩⟩
theorem MadeL.below {w w' : World} {B seed i0 gB D H L : Nat} {bs : List Bk} (h : MadeL w B seed i0 gB D H L bs) (hg : gB < w.heap.size) (hb : Below w.heap.size w w') : MadeL w' B seed i0 gB D H L bs :=
  ⟨h.len, fun t x hx => by
    obtain ⟨r, f, q, k, v, o, s, u, d, e, m⟩ := h.at_ t x hx
    exact ⟨rangeAt_block r (hb.block gB hg), f, q, k, v, o, s, u, d, e, m.of (Nat.le_refl _) (fun F => hb.block _ F.lt)⟩⟩
/-- A made model fits. -/
theorem made_fits {w : World} {C : Cfg} {B seed i0 V D H L ge gB gl go : Nat} {bs : List Bk} (h : MadeL w B seed i0 gB D H L bs) (e1 : C.V = V) (e2 : C.D = D) (e4 : C.H = H) (e5 : C.L = L) (hs : shapeN C.V C.D C.Hd C.H C.L = 0) :
    checkN C.V C.D C.Hd C.H C.L (mkW V D L ge gB gl go) bs = 0 := by
  have hk := shape_ok hs
  unfold checkN
  rw [if_neg (by rw [hs]; simp), e1, e2, e4, e5]
  have : fitsB V D H L (mkW V D L ge gB gl go) bs = true := by
    unfold fitsB mkW
    simp only [rs]
    have s1 := sides_yes (r := V) (c := D) ge (by omega) (by omega) (by omega) (by omega)
    have s2 := sides_yes (r := V) (c := D) go (by omega) (by omega) (by omega) (by omega)
    unfold rs at s1 s2
    rw [s1, s2]
    simp only [decide_true, Bool.true_and, List.all_eq_true]
    intro x hx
    obtain ⟨t, ht⟩ := List.mem_iff_getElem?.1 hx
    obtain ⟨_, f, q, k, v, o, s, u, d, rfl, _⟩ := h.at_ t x ht
    exact mkB_fits (by omega) (by omega) (by omega) (by omega)
  rw [if_pos this]
theorem check_four {V D Hd H L : Int} {W : Wt} {bs : List Bk} (hs : shapeN V D Hd H L = 0) (hf : fitsB V D H L W bs = false) : checkN V D Hd H L W bs = 4 := by
  unfold checkN
  rw [if_neg (by rw [hs]; simp), if_neg (by rw [hf]; simp)]
/-- A cell of a range is written over. -/
theorem rangeAt_set {w : World} {g o : Nat} {cs : List Value} (h : w.rangeAt g o cs) {i : Nat} (hi : i < cs.length) (v : Value) : (w.setCell ⟨g, o + i, none⟩ v).rangeAt g o (cs.set i v) := fun j u hj => by
  rw [List.getElem?_set] at hj
  by_cases e : i = j
  · subst e
    rw [if_pos rfl, if_pos hi] at hj
    have := h i _ (List.getElem?_eq_getElem hi)
    rw [World.cell?_setCell_same _ _ _ this, ← hj]
  · rw [if_neg e] at hj
    rw [World.cell?_setCell_other _ _ _ _ (by simp <;> omega)]
    exact h j u hj
theorem rangeAt_apart {w : World} {g o : Nat} {cs : List Value} (h : w.rangeAt g o cs) {i : Nat} (hi : i < o ∨ o + cs.length ≤ i) (v : Value) : (w.setCell ⟨g, i, none⟩ v).rangeAt g o cs := fun j u hj => by
  have hjl : j < cs.length := (List.getElem?_eq_some_iff.1 hj).1
  rw [World.cell?_setCell_other _ _ _ _ (by simp <;> omega)]
  exact h j u hj
/-- The layers where one cell of the last is written over. -/
theorem MadeL.last {w : World} {B seed i0 gB D H L : Nat} {bs : List Bk} (h : MadeL w B seed i0 gB D H L bs) (h0 : 1 ≤ L) (hL : L ≤ 4) (h1 : D ≤ 4096) (h2 : H ≤ 4096) {x x' : Bk} (hx : bs[L - 1]? = some x) {i : Nat} (hi : i < 20) (s : Sl) (hc : x'.cells.toList = x.cells.toList.set i s.v) (ho : x'.Ok) (hb : bkB D H x' = false) :
    ∃ bs', BlocksAt (w.setCell ⟨gB, (L - 1) * 20 + i, none⟩ s.v) (rs gB L) bs' ∧ bs'.all (bkB D H) = false := by
  have hlen := h.len
  refine ⟨bs.set (L - 1) x', ⟨by simp [hlen, rs], by show L ≤ _; omega, fun y hy => ?_, fun _ => ⟨gB, 0, rfl, fun t y hy => ?_⟩⟩, ?_⟩
  · rcases List.mem_or_eq_of_mem_set hy with hy | rfl
    · obtain ⟨t, ht⟩ := List.mem_iff_getElem?.1 hy
      obtain ⟨_, f, q, k, v, o, s, u, d, rfl, _⟩ := h.at_ t y ht
      exact mkB_ok h1 h2
    · exact ho
  · rw [Nat.zero_add]
    rw [List.getElem?_set] at hy
    by_cases e : L - 1 = t
    · subst e
      rw [if_pos rfl, if_pos (by omega)] at hy
      obtain rfl := Option.some.inj hy
      rw [hc]
      exact rangeAt_set (h.at_ (L - 1) x hx).1 hi _
    · rw [if_neg e] at hy
      have ht : t < bs.length := (List.getElem?_eq_some_iff.1 hy).1
      exact rangeAt_apart (h.at_ t y hy).1 (Or.inr (by show t * 20 + 20 ≤ _; omega)) _
  · rw [← Bool.not_eq_true]
    intro ha
    have := List.all_eq_true.1 ha x' (List.mem_iff_getElem?.2 ⟨L - 1, by rw [List.getElem?_set, if_pos rfl, if_pos (by omega)]⟩)
    rw [hb] at this
    cases this
/-- A row of a made model that may be written over: what Check answers then. -/
structure Wanted (w : World) (g9 : Nat) (C : Cfg) (base ga oa gd n : Nat) : Prop where
  cell : w.cell? ⟨ga, oa, none⟩ = some (.slice (some ⟨gd, 0, none⟩) n n)
  froz : w.frozen? ⟨ga, oa, none⟩ = false
  row : ∃ B A, Fresh w B gd n n A
  pos : 1 ≤ n ∧ n ≤ 4096
  low : base ≤ ga
  eff : ∀ w', Below w.heap.size w w' → ∀ s : Sl, s.n ≠ n → s.n ≤ 9223372036854775807 → ∃ W' bs', Blk (w'.setCell ⟨ga, oa, none⟩ s.v) g9 37 W'.cells ∧ W'.Ok ∧ BlocksAt (w'.setCell ⟨ga, oa, none⟩ s.v) W'.b bs' ∧ checkN C.V C.D C.Hd C.H C.L W' bs' = 4
theorem Wanted.below {w w' : World} {g9 : Nat} {C : Cfg} {base ga oa gd n : Nat} (h : Wanted w g9 C base ga oa gd n) (hb : Below w.heap.size w w') : Wanted w' g9 C base ga oa gd n := by
  have hlt : ga < w.heap.size := by simpa using World.block_lt_of_cell? w _ h.cell
  obtain ⟨B, A, F⟩ := h.row
  exact ⟨(hb.cell (p := ⟨ga, oa, none⟩) hlt).trans h.cell, (World.frozen?_of_block (w := w) (hb.block ga hlt)).trans h.froz, ⟨B, A, F.below hb⟩, h.pos, h.low, fun w2 h2 => h.eff w2 (below_then hb h2)⟩
/-- Where the rows of a model lie. -/
def ptrN (g9 gB L : Nat) : Nat → Nat × Nat
  | 0 => (g9, 2)
  | 1 => (g9, 4)
  | 2 => (g9, 7)
  | 3 => (gB, (L - 1) * 20 + 0)
  | 4 => (gB, (L - 1) * 20 + 3)
  | 5 => (gB, (L - 1) * 20 + 6)
  | 6 => (gB, (L - 1) * 20 + 9)
  | 7 => (gB, (L - 1) * 20 + 12)
  | 8 => (gB, (L - 1) * 20 + 13)
  | 9 => (gB, (L - 1) * 20 + 16)
  | _ => (gB, (L - 1) * 20 + 19)
theorem blocks_other {w : World} {b : Sl} {bs : List Bk} {gB : Nat} (h : BlocksAt w b bs) (hb : ∀ g o, b.ao = some ⟨g, o, none⟩ → g = gB) {a : Addr} (ha : gB ≠ a.block) (v : Value) : BlocksAt (w.setCell a v) b bs := by
  refine ⟨h.len, h.max, h.ok, fun hn => ?_⟩
  obtain ⟨g, o, e, hc⟩ := h.cells hn
  refine ⟨g, o, e, fun t x hx => rangeAt_block (hc t x hx) (Below.heap_setCell _ _ _ _ (by rw [hb g o e]; exact ha))⟩
section
variable {w : World} {C : Cfg} {B seed i0 V D H L ge gB gl go g9 base : Nat} {bs : List Bk}
theorem wanted_top (h : MadeL w B seed i0 gB D H L bs) (X : Blk w g9 37 (mkW V D L ge gB gl go).cells) (hne : gB ≠ g9) (hgB : gB < w.heap.size) (hlow : base ≤ g9)
    (e1 : C.V = V) (e2 : C.D = D) (e4 : C.H = H) (e5 : C.L = L) (hs : shapeN C.V C.D C.Hd C.H C.L = 0) (i gd n : Nat)
    (hc : (mkW V D L ge gB gl go).cells[i]? = some (.slice (some ⟨gd, 0, none⟩) n n)) (hF : ∃ B A, Fresh w B gd n n A) (hn : 1 ≤ n ∧ n ≤ 4096)
    (he : ∀ s : Sl, s.n ≠ n → s.n ≤ 9223372036854775807 → ∃ W' : Wt, W'.cells = (mkW V D L ge gB gl go).cells.setIfInBounds i s.v ∧ W'.Ok ∧ W'.b = rs gB L ∧ fitsB V D H L W' bs = false) :
    Wanted w g9 C base g9 i gd n := by
  have hk := shape_ok hs
  refine ⟨X.cell i hc, X.frozen i, hF, hn, hlow, fun w' hb s h1 h2 => ?_⟩
  obtain ⟨W', c1, c2, c3, c4⟩ := he s h1 h2
  refine ⟨W', bs, ?_, c2, ?_, ?_⟩
  · rw [c1]; exact (X.below hb).set i _
  · rw [c3]
    exact blocks_other ((h.below hgB hb).blocks (by omega) (by omega) (by omega)) (fun g o e => by cases e; rfl) (by exact hne) _
  · rw [e1, e2, e4, e5] at hs ⊢
    exact check_four hs c4
theorem wanted_deep (h : MadeL w B seed i0 gB D H L bs) (X : Blk w g9 37 (mkW V D L ge gB gl go).cells) (hne : gB ≠ g9) (hgB : gB < w.heap.size) (hfr : ∀ o, w.frozen? ⟨gB, o, none⟩ = false) (hlow : base ≤ gB)
    (e1 : C.V = V) (e2 : C.D = D) (e4 : C.H = H) (e5 : C.L = L) (hs : shapeN C.V C.D C.Hd C.H C.L = 0) (x : Bk) (hx : bs[L - 1]? = some x) (i gd n : Nat) (hi : i < 20)
    (hc : x.cells.toList[i]? = some (.slice (some ⟨gd, 0, none⟩) n n)) (hF : ∃ B A, Fresh w B gd n n A) (hn : 1 ≤ n ∧ n ≤ 4096)
    (he : ∀ s : Sl, s.n ≠ n → s.n ≤ 9223372036854775807 → ∃ x' : Bk, x'.cells.toList = x.cells.toList.set i s.v ∧ x'.Ok ∧ bkB D H x' = false) :
    Wanted w g9 C base gB ((L - 1) * 20 + i) gd n := by
  have hk := shape_ok hs
  refine ⟨(h.at_ (L - 1) x hx).1 i _ hc, hfr _, hF, hn, hlow, fun w' hb s h1 h2 => ?_⟩
  obtain ⟨x', c1, c2, c3⟩ := he s h1 h2
  obtain ⟨bs', b1, b2⟩ := (h.below hgB hb).last (by omega) (by omega) (by omega) (by omega) hx hi s c1 c2 c3
  refine ⟨mkW V D L ge gB gl go, bs', (X.below hb).other (by show g9 ≠ gB; omega) _, mkW_ok (by omega) (by omega), b1, ?_⟩
  rw [e1, e2, e4, e5] at hs ⊢
  refine check_four hs ?_
  unfold fitsB
  rw [b2]
  simp
theorem wanted_all (M : MadeW w B seed V D H L ge gB gl go) (h : MadeL w B seed i0 gB D H L bs) (X : Blk w g9 37 (mkW V D L ge gB gl go).cells) (hl1 : base ≤ g9) (hl2 : base ≤ B)
    (e1 : C.V = V) (e2 : C.D = D) (e4 : C.H = H) (e5 : C.L = L) (hs : shapeN C.V C.D C.Hd C.H C.L = 0) (i : Nat) (hi : i < 11) :
    ∃ gd n, Wanted w g9 C base (ptrN g9 gB L i).1 (ptrN g9 gB L i).2 gd n := by
  have hk := shape_ok hs
  obtain ⟨cs, hB, _⟩ := M.bl
  have hgB : gB < w.heap.size := (Array.getElem?_eq_some_iff.1 hB).1
  have hne : gB ≠ g9 := by
    rintro rfl
    unfold Blk at X
    rw [hB] at X
    simp at X
  have hfr : ∀ o, w.frozen? ⟨gB, o, none⟩ = false := fun o => Blk.frozen (T := 48) (cs := cs) hB o
  have hlow : base ≤ gB := Nat.le_trans hl2 M.base
  have p1 : 1 ≤ V * D ∧ V * D ≤ 4096 := ⟨Nat.mul_pos (by omega) (by omega), Nat.le_trans (Nat.mul_le_mul (show V ≤ 64 by omega) (show D ≤ 32 by omega)) (by omega)⟩
  have p2 : 1 ≤ D * D ∧ D * D ≤ 4096 := ⟨Nat.mul_pos (by omega) (by omega), Nat.le_trans (Nat.mul_le_mul (show D ≤ 32 by omega) (show D ≤ 32 by omega)) (by omega)⟩
  have p3 : 1 ≤ H * D ∧ H * D ≤ 4096 := ⟨Nat.mul_pos (by omega) (by omega), Nat.le_trans (Nat.mul_le_mul (show H ≤ 64 by omega) (show D ≤ 32 by omega)) (by omega)⟩
  have p4 : 1 ≤ D * H ∧ D * H ≤ 4096 := ⟨Nat.mul_pos (by omega) (by omega), Nat.le_trans (Nat.mul_le_mul (show D ≤ 32 by omega) (show H ≤ 64 by omega)) (by omega)⟩
  have p5 : 1 ≤ D ∧ D ≤ 4096 := by omega
  have iV : I64 (V : Int) := i64_nat (by omega)
  have iD : I64 (D : Int) := i64_nat (by omega)
  have iH : I64 (H : Int) := i64_nat (by omega)
  have hD : D ≤ 9223372036854775807 := by omega
  obtain ⟨x, hx⟩ : ∃ x, bs[L - 1]? = some x := ⟨_, List.getElem?_eq_getElem (by rw [h.len]; omega)⟩
  obtain ⟨_, f, q, k, v, o, s, u, d, rfl, MB⟩ := h.at_ (L - 1) x hx
  have top := wanted_top (base := base) h X hne hgB hl1 e1 e2 e4 e5 hs
  have deep := wanted_deep (base := base) h X hne hgB hfr hlow e1 e2 e4 e5 hs _ hx
  have hor : i = 0 ∨ i = 1 ∨ i = 2 ∨ i = 3 ∨ i = 4 ∨ i = 5 ∨ i = 6 ∨ i = 7 ∨ i = 8 ∨ i = 9 ∨ i = 10 := by omega
  rcases hor with rfl | rfl | rfl | rfl | rfl | rfl | rfl | rfl | rfl | rfl | rfl
  · refine ⟨ge, V * D, top 2 ge (V * D) rfl ⟨_, _, M.e⟩ p1 (fun t h1 h2 => ⟨⟨⟨V, D, t⟩, rs gB L, rs gl D, ⟨V, D, rs go (V * D)⟩⟩, rfl, ⟨⟨iV, iD⟩, hD, ⟨iV, iD⟩⟩, rfl, ?_⟩)⟩
    unfold fitsB; simp only; rw [sides_no t _ _ h1]; simp
  · refine ⟨gl, D, top 4 gl D rfl ⟨_, _, M.l⟩ p5 (fun t h1 h2 => ⟨⟨⟨V, D, rs ge (V * D)⟩, rs gB L, t, ⟨V, D, rs go (V * D)⟩⟩, rfl, ⟨⟨iV, iD⟩, h2, ⟨iV, iD⟩⟩, rfl, ?_⟩)⟩
    unfold fitsB; simp only; rw [decide_eq_false (show ¬ ((t.n : Int) = D) by omega)]; simp
  · refine ⟨go, V * D, top 7 go (V * D) rfl ⟨_, _, M.o⟩ p1 (fun t h1 h2 => ⟨⟨⟨V, D, rs ge (V * D)⟩, rs gB L, rs gl D, ⟨V, D, t⟩⟩, rfl, ⟨⟨iV, iD⟩, hD, ⟨iV, iD⟩⟩, rfl, ?_⟩)⟩
    unfold fitsB; simp only; rw [sides_no t _ _ h1]; simp
  · refine ⟨f, D, deep 0 f (D) (by omega) rfl ⟨_, _, MB.f⟩ p5 (fun t h1 h2 => ⟨⟨t, ⟨D, D, rs q (D * D)⟩, ⟨D, D, rs k (D * D)⟩, ⟨D, D, rs v (D * D)⟩, ⟨D, D, rs o (D * D)⟩, rs s D, ⟨H, D, rs u (H * D)⟩, ⟨D, H, rs d (D * H)⟩⟩, rfl, ⟨h2, ⟨iD, iD⟩, ⟨iD, iD⟩, ⟨iD, iD⟩, ⟨iD, iD⟩, hD, ⟨iH, iD⟩, ⟨iD, iH⟩⟩, ?_⟩)⟩
    unfold bkB; simp only; rw [decide_eq_false (show ¬ ((t.n : Int) = D) by omega)]; simp
  · refine ⟨q, D * D, deep 3 q (D * D) (by omega) rfl ⟨_, _, MB.q⟩ p2 (fun t h1 h2 => ⟨⟨rs f D, ⟨D, D, t⟩, ⟨D, D, rs k (D * D)⟩, ⟨D, D, rs v (D * D)⟩, ⟨D, D, rs o (D * D)⟩, rs s D, ⟨H, D, rs u (H * D)⟩, ⟨D, H, rs d (D * H)⟩⟩, rfl, ⟨hD, ⟨iD, iD⟩, ⟨iD, iD⟩, ⟨iD, iD⟩, ⟨iD, iD⟩, hD, ⟨iH, iD⟩, ⟨iD, iH⟩⟩, ?_⟩)⟩
    unfold bkB; simp only; rw [sides_no t _ _ h1]; simp
  · refine ⟨k, D * D, deep 6 k (D * D) (by omega) rfl ⟨_, _, MB.k⟩ p2 (fun t h1 h2 => ⟨⟨rs f D, ⟨D, D, rs q (D * D)⟩, ⟨D, D, t⟩, ⟨D, D, rs v (D * D)⟩, ⟨D, D, rs o (D * D)⟩, rs s D, ⟨H, D, rs u (H * D)⟩, ⟨D, H, rs d (D * H)⟩⟩, rfl, ⟨hD, ⟨iD, iD⟩, ⟨iD, iD⟩, ⟨iD, iD⟩, ⟨iD, iD⟩, hD, ⟨iH, iD⟩, ⟨iD, iH⟩⟩, ?_⟩)⟩
    unfold bkB; simp only; rw [sides_no t _ _ h1]; simp
  · refine ⟨v, D * D, deep 9 v (D * D) (by omega) rfl ⟨_, _, MB.v⟩ p2 (fun t h1 h2 => ⟨⟨rs f D, ⟨D, D, rs q (D * D)⟩, ⟨D, D, rs k (D * D)⟩, ⟨D, D, t⟩, ⟨D, D, rs o (D * D)⟩, rs s D, ⟨H, D, rs u (H * D)⟩, ⟨D, H, rs d (D * H)⟩⟩, rfl, ⟨hD, ⟨iD, iD⟩, ⟨iD, iD⟩, ⟨iD, iD⟩, ⟨iD, iD⟩, hD, ⟨iH, iD⟩, ⟨iD, iH⟩⟩, ?_⟩)⟩
    unfold bkB; simp only; rw [sides_no t _ _ h1]; simp
  · refine ⟨o, D * D, deep 12 o (D * D) (by omega) rfl ⟨_, _, MB.o⟩ p2 (fun t h1 h2 => ⟨⟨rs f D, ⟨D, D, rs q (D * D)⟩, ⟨D, D, rs k (D * D)⟩, ⟨D, D, rs v (D * D)⟩, ⟨D, D, t⟩, rs s D, ⟨H, D, rs u (H * D)⟩, ⟨D, H, rs d (D * H)⟩⟩, rfl, ⟨hD, ⟨iD, iD⟩, ⟨iD, iD⟩, ⟨iD, iD⟩, ⟨iD, iD⟩, hD, ⟨iH, iD⟩, ⟨iD, iH⟩⟩, ?_⟩)⟩
    unfold bkB; simp only; rw [sides_no t _ _ h1]; simp
  · refine ⟨s, D, deep 13 s (D) (by omega) rfl ⟨_, _, MB.s⟩ p5 (fun t h1 h2 => ⟨⟨rs f D, ⟨D, D, rs q (D * D)⟩, ⟨D, D, rs k (D * D)⟩, ⟨D, D, rs v (D * D)⟩, ⟨D, D, rs o (D * D)⟩, t, ⟨H, D, rs u (H * D)⟩, ⟨D, H, rs d (D * H)⟩⟩, rfl, ⟨hD, ⟨iD, iD⟩, ⟨iD, iD⟩, ⟨iD, iD⟩, ⟨iD, iD⟩, h2, ⟨iH, iD⟩, ⟨iD, iH⟩⟩, ?_⟩)⟩
    unfold bkB; simp only; rw [decide_eq_false (show ¬ ((t.n : Int) = D) by omega)]; simp
  · refine ⟨u, H * D, deep 16 u (H * D) (by omega) rfl ⟨_, _, MB.u⟩ p3 (fun t h1 h2 => ⟨⟨rs f D, ⟨D, D, rs q (D * D)⟩, ⟨D, D, rs k (D * D)⟩, ⟨D, D, rs v (D * D)⟩, ⟨D, D, rs o (D * D)⟩, rs s D, ⟨H, D, t⟩, ⟨D, H, rs d (D * H)⟩⟩, rfl, ⟨hD, ⟨iD, iD⟩, ⟨iD, iD⟩, ⟨iD, iD⟩, ⟨iD, iD⟩, hD, ⟨iH, iD⟩, ⟨iD, iH⟩⟩, ?_⟩)⟩
    unfold bkB; simp only; rw [sides_no t _ _ h1]; simp
  · refine ⟨d, D * H, deep 19 d (D * H) (by omega) rfl ⟨_, _, MB.d⟩ p4 (fun t h1 h2 => ⟨⟨rs f D, ⟨D, D, rs q (D * D)⟩, ⟨D, D, rs k (D * D)⟩, ⟨D, D, rs v (D * D)⟩, ⟨D, D, rs o (D * D)⟩, rs s D, ⟨H, D, rs u (H * D)⟩, ⟨D, H, t⟩⟩, rfl, ⟨hD, ⟨iD, iD⟩, ⟨iD, iD⟩, ⟨iD, iD⟩, ⟨iD, iD⟩, hD, ⟨iH, iD⟩, ⟨iD, iH⟩⟩, ?_⟩)⟩
    unfold bkB; simp only; rw [sides_no t _ _ h1]; simp
end
end Go.Proofs.YtddcdfghanabmaaDoor

/- Package step: Feed: a token more. -/
namespace Go.Proofs.YtddcdfghanabmaaDoor
open Go.ChangeShapes Go.WideShapes Go.ChangeAt Go.RowKit
/-- A model's numbers that fit their configuration. -/
structure Good (w : World) (V D Hd H L : Nat) (W : Wt) (bs : List Bk) (M : Mdl) : Prop where
  wt : WtAt w V D H W bs M
  ok : W.Ok
  len : bs.length = L
  shape : shapeN V D Hd H L = 0
  chk : checkN V D Hd H L W bs = 0
theorem Good.below {w w' : World} {V D Hd H L : Nat} {W : Wt} {bs : List Bk} {M : Mdl} (h : Good w V D Hd H L W bs M) (hb : Below w.heap.size w w') : Good w' V D Hd H L W bs M := ⟨h.wt.below hb, h.ok, h.len, h.shape, h.chk⟩
theorem shape_mod {V D Hd H L : Nat} (h : shapeN V D Hd H L = 0) : D % Hd = 0 := by
  have hk := shape_ok h
  unfold shapeN at h
  rw [if_neg (by omega), if_neg (by omega)] at h
  have h9 : (D : Int).tmod (Hd : Int) = 0 := by simpa using h
  have h8 := Int.ofNat_tmod D Hd
  omega
theorem check_good {w : World} {V D Hd H L : Nat} {W : Wt} {bs : List Bk} {M : Mdl} (h : Good w V D Hd H L W bs M) :
   Calls Tryd.prog 25 #[.agg (cfgC V D Hd H L), .agg W.cells] w fun e w' => e = .returned (.int .i64 0) ∧ Below w.heap.size w w' := by
  have hk := shape_ok h.shape
  have := mcheck_any ⟨V, D, Hd, H, L⟩ ⟨i64_nat (by omega), i64_nat (by omega), i64_nat (by omega), i64_nat (by omega), i64_nat (by omega)⟩ W bs w h.ok h.wt.b
  rw [h.chk] at this
  exact this
theorem fit_feed {M : Mdl} {V D H Hd L : Nat} {X : Vw} {tok : Nat} (hf : VwFit V D L X) (ht : tok < V) (hl : X.T.length ≤ 127) : VwFit V D L (feedV M D H Hd L X tok) := by
  have kl : ∀ l, l < L → (X.K.getD l []).length = X.T.length ∧ ∀ t, t < X.T.length → (rowOf (X.K.getD l []) t).length = D := fun l h => fit_list hf.k hf.ks h
  have vl : ∀ l, l < L → (X.V.getD l []).length = X.T.length ∧ ∀ t, t < X.T.length → (rowOf (X.V.getD l []) t).length = D := fun l h => fit_list hf.v hf.vs h
  have tl : (feedV M D H Hd L X tok).T.length = X.T.length + 1 := by unfold feedV; simp
  refine ⟨by rw [tl]; omega, ?_, ?_, ?_, ?_, ?_⟩
  · unfold feedV
    simp only [List.all_append, hf.toks, Bool.true_and, List.all_cons, List.all_nil, Bool.and_true]
    unfold tokB
    exact decide_eq_true (by omega)
  · rw [tl, if_neg (by omega)]; unfold feedV newK; simp
  · rw [tl, if_neg (by omega)]; unfold feedV newV; simp
  · intro R hR
    rw [tl]
    unfold feedV newK at hR
    simp only [List.mem_map, List.mem_range] at hR
    obtain ⟨l, h1, rfl⟩ := hR
    obtain ⟨q1, q2⟩ := kl l h1
    exact ⟨by rw [List.length_append, q1]; rfl, rowOf_snoc_len q1 q2 (apl_len _ _ _ _)⟩
  · intro R hR
    rw [tl]
    unfold feedV newV at hR
    simp only [List.mem_map, List.mem_range] at hR
    obtain ⟨l, h1, rfl⟩ := hR
    obtain ⟨q1, q2⟩ := vl l h1
    exact ⟨by rw [List.length_append, q1]; rfl, rowOf_snoc_len q1 q2 (apl_len _ _ _ _)⟩
theorem results_blk3 {fn : Func} {p u v : Tmp} {ty : TypeId} (h : fn.results = #[.cell p ty, .tmp u, .tmp v]) (tmps : Array Value) (w : World) (g : Nat) (cs : Array Value)
    (hp : tmps.getD p undef = .pointer (some ⟨g, 0, none⟩)) (hl : (loadVar ty ⟨g, 0, none⟩).run Tryd.prog w = .ok (.agg cs) w) :
    (results fn tmps).run Tryd.prog w = .ok (.tuple #[.agg cs, tmps.getD u undef, tmps.getD v undef]) w := by
  have hp' : tmps[p]?.getD undef = .pointer (some ⟨g, 0, none⟩) := by simpa using hp
  simp [results, h, hp', asAddr, hl]
/-- The cells of no view. -/
def noV : Array Value := #[.slice none 0 0, .slice none 0 0, .slice none 0 0]
end Go.Proofs.YtddcdfghanabmaaDoor

/- Package step: All: several tokens more. -/
namespace Go.Proofs.YtddcdfghanabmaaDoor
open Go.ChangeShapes Go.WideShapes Go.ChangeAt Go.RowKit
/-- The view behind several tokens more, and what is liked behind the last one. -/
def feedAll (M : Mdl) (D H Hd L : Nat) (X : Vw) (A : List Int) : Vw := A.foldl (fun X t => feedV M D H Hd L X t.toNat) X
def likAt (M : Mdl) (V D H Hd L : Nat) (X : Vw) (A : List Int) : Nat → List Int
  | 0 => []
  | k + 1 => likR M V D (feedX M D H Hd L (feedAll M D H Hd L X (A.take k)) (el A k).toNat)
theorem feedAll_step (M : Mdl) (D H Hd L : Nat) (X : Vw) {A : List Int} {k : Nat} (h : k < A.length) : feedAll M D H Hd L X (A.take (k + 1)) = feedV M D H Hd L (feedAll M D H Hd L X (A.take k)) (el A k).toNat := by
  have e : A[k]? = some (el A k) := by unfold el; simp [List.getD_eq_getElem?_getD, List.getElem?_eq_getElem h]
  unfold feedAll
  rw [List.take_add_one, e, List.foldl_append]
  rfl
theorem feedAll_len (M : Mdl) (D H Hd L : Nat) (A : List Int) : ∀ X : Vw, (feedAll M D H Hd L X A).T.length = X.T.length + A.length := by
  induction A with
  | nil => intro X; rfl
  | cons a A ih =>
    intro X
    show (feedAll M D H Hd L (feedV M D H Hd L X a.toNat) A).T.length = _
    rw [ih]
    unfold feedV
    simp
    omega
theorem feedAll_fit {M : Mdl} {V D H Hd L : Nat} {A : List Int} : ∀ {X : Vw}, VwFit V D L X → A.all (tokB V) = true → X.T.length + A.length ≤ 128 → VwFit V D L (feedAll M D H Hd L X A) := by
  induction A with
  | nil => intro X hf _ _; exact hf
  | cons a A ih =>
    intro X hf ha hl
    simp only [List.all_cons, Bool.and_eq_true] at ha
    simp only [List.length_cons] at hl
    have ht : 0 ≤ a ∧ a < V := by have := ha.1; unfold tokB at this; simpa using this
    show VwFit V D L (feedAll M D H Hd L (feedV M D H Hd L X a.toNat) A)
    exact ih (fit_feed hf (by omega) (by omega)) ha.2 (by unfold feedV; simp; omega)
theorem vwv_one (v : VwV) : v.cells.all (·.oneCell') = true := by simp [VwV.cells, Sl.v, Value.oneCell']
theorem vwv_size (v : VwV) : v.cells.size = 3 := rfl
theorem prompt_ok {V : Int} {A : List Int} (h : promptN V A = 0) : 1 ≤ A.length ∧ A.length ≤ 128 ∧ A.all (tokB V) = true := by
  unfold promptN at h
  split at h
  · omega
  · split at h
    · omega
    · split at h
      · rename_i h1 h2 h3; exact ⟨by omega, by omega, h3⟩
      · omega
end Go.Proofs.YtddcdfghanabmaaDoor

/- A model that was made fits, and reads as its seed's numbers. -/
namespace Go.Proofs.YtddcdfghanabmaaDoor
open Go.ChangeShapes Go.WideShapes Go.ChangeAt Go.RowKit
def layS (seed i D H : Nat) : Lay := ⟨gainR seed i D, numR seed (i + D) (D * D) 65536, numR seed (i + D + D * D) (D * D) 65536, numR seed (i + D + D * D + D * D) (D * D) 65536, numR seed (i + D + D * D + D * D + D * D) (D * D) 65536, gainR seed (i + D + D * D + D * D + D * D + D * D) D, numR seed (i + D + D * D + D * D + D * D + D * D + D) (H * D) 65536, numR seed (i + D + D * D + D * D + D * D + D * D + D + H * D) (D * H) 65536⟩
/-- The numbers of a seed. -/
def mdlS (seed V D H L : Nat) : Mdl := ⟨numR seed 0 (V * D) 131072, (List.range L).map fun t => layS seed (V * D + t * lenB D H) D H, gainR seed (V * D + L * lenB D H) D, numR seed (V * D + L * lenB D H + D) (V * D) 65536⟩
theorem Fresh.slAt {w : World} {B g n : Nat} {A : List Int} (h : Fresh w B g n n A) : SlAt w (rs g n) n A := ⟨rfl, h.arg⟩
theorem Fresh.mtAt {w : World} {B g r c : Nat} {A : List Int} (h : Fresh w B g (r * c) (r * c) A) (h1 : 1 ≤ r) (h2 : r ≤ 128) (h3 : 1 ≤ c) (h4 : c ≤ 128) : MtAt w ⟨r, c, rs g (r * c)⟩ r c A :=
  ⟨g, 0, r * c, r * c, rfl, h1, h2, h3, h4, rfl, Nat.le_refl _, h.max, h.rowAt⟩
theorem MadeB.bkAt {w : World} {B seed i D H f q k v o s u d : Nat} (h : MadeB w B seed i D H f q k v o s u d) (h1 : 1 ≤ D) (h2 : D ≤ 128) (h3 : 1 ≤ H) (h4 : H ≤ 128) : BkAt w D H (mkB D H f q k v o s u d) (layS seed i D H) :=
  ⟨h.f.slAt, h.q.mtAt h1 h2 h1 h2, h.k.mtAt h1 h2 h1 h2, h.v.mtAt h1 h2 h1 h2, h.o.mtAt h1 h2 h1 h2, h.s.slAt, h.u.mtAt h3 h4 h1 h2, h.d.mtAt h1 h2 h3 h4⟩
theorem made_good {w : World} {B seed V D Hd H L ge gB gl go : Nat} (h : MadeW w B seed V D H L ge gB gl go) (hs : shapeN V D Hd H L = 0) : ∃ bs, Good w V D Hd H L (mkW V D L ge gB gl go) bs (mdlS seed V D H L) := by
  have hk := shape_ok hs
  obtain ⟨bs, ML⟩ := madeL_of L h.bs
  have BL := ML.blocks (by omega) (by omega) (by omega)
  have hl : bs.length = L := ML.len
  refine ⟨bs, ⟨⟨?_, BL, by unfold mdlS; simp [hl], fun t x hx => ?_, ?_, ?_⟩, mkW_ok (by omega) (by omega), hl, hs, ?_⟩⟩
  · exact h.e.mtAt (by omega) (by omega) (by omega) (by omega)
  · obtain ⟨_, f, q, k, v, o, s, u, d, rfl, m⟩ := ML.at_ t x hx
    have ht : t < L := by rw [← hl]; exact (List.getElem?_eq_some_iff.1 hx).1
    refine ⟨layS seed (V * D + t * lenB D H) D H, ?_, m.bkAt (by omega) (by omega) (by omega) (by omega)⟩
    unfold mdlS
    simp only [List.getElem?_map, List.getElem?_range ht]
    rfl
  · exact h.l.slAt
  · exact h.o.mtAt (by omega) (by omega) (by omega) (by omega)
  · exact made_fits (C := ⟨V, D, Hd, H, L⟩) ML rfl rfl rfl rfl hs
end Go.Proofs.YtddcdfghanabmaaDoor

/- At most so many tokens, in memory of one's own. -/
namespace Go.Proofs.YtddcdfghanabmaaDoor
open Go.ChangeShapes Go.WideShapes Go.ChangeAt Go.RowKit
theorem IArg.take {w : World} {ao : Option Addr} {n ca : Nat} {A : List Int} (h : IArg w ao n ca A) {m : Nat} (hm : m ≤ n) : IArg w ao m ca (A.take m) := by
  have hl := h.row.len
  have hf := h.fit
  refine ⟨⟨by rw [List.length_take]; omega, by have := h.row.max; omega, fun k => ?_, fun hn => ?_⟩, by omega, h.max, h.nil⟩
  · rcases Nat.lt_or_ge k m with hk | hk
    · rw [el_take hk]; exact h.row.small k
    · rw [el_over (by rw [List.length_take]; omega)]; omega
  · obtain ⟨b, o, e, hc⟩ := h.row.cells (by omega)
    refine ⟨b, o, e, fun t ht => ?_⟩
    rw [el_take ht]
    exact hc t (by omega)
theorem few8_gen (ao : Option Addr) (n ca : Nat) (A Z : List Int) (lim : Nat) (w : World) (hA : IArg w ao n ca A) (hlim : lim ≤ 4096) (hZ : Z = A.take lim) :
   Calls Tryd.prog 4 #[.slice ao n ca, .int .i64 (lim : Int)] w fun e w' => ∃ b c, e = .returned (.slice (some ⟨b, 0, none⟩) Z.length c) ∧ IOwn w' w.heap.size (.slice (some ⟨b, 0, none⟩) Z.length c) Z.length Z ∧ Below w.heap.size w w' := by
  obtain ⟨i0, hi, hz0, hz1, hz2⟩ := info_parts Tryd.infoInt
  have hl := hA.row.len
  have hf := hA.fit
  have hmx := hA.max
  have B0 : Below w.heap.size w (w.alloc (.cells #[] 3)) := (Below.refl _ _).alloc (Nat.le_refl _) _
  have O0 : (w.alloc (.cells #[] 3)).ownsRow w.heap.size 3 1 (.slice (some ⟨w.heap.size, 0, none⟩) 0 0) 0 [] := World.ownsRow_made w #[] 0 (Nat.le_refl _) (by decide) rfl
  have key : ∀ (ao : Option Addr) (m : Nat) (Z' : List Int), IArg w ao m ca Z' → Z' = Z → m ≤ 4096 → ∀ (ops : Array Oper) (rest : List Oper) (o : Oper) (a : Act) (Q : Exit → Act → World → Prop) (s x : Operand), o.guard = none → o.op = .call { callee := .builtin .append, args := #[s, x], argTypes := #[25, 25] } → a.eval s = .slice (some ⟨w.heap.size, 0, none⟩) 0 0 → a.eval x = .slice ao m ca →
      (∀ b c w', IOwn w' w.heap.size (.slice (some ⟨b, 0, none⟩) Z.length c) Z.length Z → Below w.heap.size w w' → wpList Tryd.prog ops Q rest (a.put o.dst (.slice (some ⟨b, 0, none⟩) Z.length c)) w') → wpList Tryd.prog ops Q (o :: rest) a (w.alloc (.cells #[] 3)) := by
    intro ao m Z' hZ' eZ hm ops rest o a Q s x hg ho hs hx hK
    have hlz : Z'.length = m := hZ'.row.len
    cases ao with
    | none =>
      have hc0 := hZ'.nil rfl
      have hm0 : m = 0 := by have := hZ'.fit; omega
      subst hm0
      obtain rfl : Z' = [] := List.length_eq_zero_iff.1 hlz
      rw [hc0] at hx
      refine wpList_append_own_none hg s x 25 ho w.heap.size 3 i0 1 Tryd.underlying25 hi _ 0 [] hs O0 hx ?_
      have := hK w.heap.size 0 _ (by rw [← eZ]; exact O0) B0
      rw [← eZ] at this
      exact this
    | some ad =>
      refine wpList_append_own _ hg s x 25 ho w.heap.size 3 i0 (.int .i64 0) 1 8 Tryd.underlying25 hi hz0 hz1 hz2 rfl (by decide) _ 0 [] hs O0 ad m ca (Z'.map (Value.int .i64)) hx (by simp [hlz]) ((hZ'.row.below B0).vals) (ints_oneCell _ _) (by unfold maxLen; omega) (by omega) (by simp) ?_
      intro v' w' O1 G1 N1
      have hb : Below w.heap.size (w.alloc (.cells #[] 3)) w' := (Below.refl _ _).grown G1 (by simp) (fun k hk => (O0.lt k hk).1)
      rw [Nat.zero_add, List.nil_append] at O1
      have hv : ∃ b c, v' = .slice (some ⟨b, 0, none⟩) m c := by
        rcases O1.2 with ⟨h3, _⟩ | ⟨g, cap, cur, hv, _⟩
        · have := (N1.1 h3).1; cases this
        · exact ⟨_, _, hv⟩
      obtain ⟨b, c, rfl⟩ := hv
      have e : Z.length = m := by rw [← eZ, hlz]
      have := hK b c w' (by rw [e, ← eZ]; exact O1) (B0.trans hb)
      rw [e] at this
      exact this
  have hZl : Z.length ≤ lim := by rw [hZ, List.length_take]; omega
  by_cases h0 : lim < n
  · have hle : (lim : Int) ≤ (ca : Int) := by omega
    have KT := hA.take (m := lim) (by omega)
    rw [← hZ] at KT
    clear hl hA hZ
    go_enter Tryd.func4, Tryd.ntmps4
    go_wp2_with (at_builtin; refine key _ _ _ KT rfl (by omega) _ _ _ _ _ _ _ rfl rfl rfl rfl ?_; intro b c w' O1 B1)
    go_ret
    exact ⟨b, c, rfl, O1, B1⟩
  · have e1 : Hid (A = Z) := by show _ = _; rw [hZ, List.take_of_length_le (by omega)]
    have hn : n ≤ 4096 := by omega
    clear hl hZ
    go_enter Tryd.func4, Tryd.ntmps4
    go_wp2_with (at_builtin; refine key _ _ _ hA e1.out hn _ _ _ _ _ _ _ rfl rfl rfl rfl ?_; intro b c w' O1 B1)
    go_ret
    exact ⟨b, c, rfl, O1, B1⟩
theorem few8_any (ao : Option Addr) (n ca : Nat) (A : List Int) (lim : Nat) (w : World) (hA : IArg w ao n ca A) (hlim : lim ≤ 4096) :
   Calls Tryd.prog 4 #[.slice ao n ca, .int .i64 (lim : Int)] w fun e w' => ∃ b c, e = .returned (.slice (some ⟨b, 0, none⟩) (A.take lim).length c) ∧ IOwn w' w.heap.size (.slice (some ⟨b, 0, none⟩) (A.take lim).length c) (A.take lim).length (A.take lim) ∧ Below w.heap.size w w' := few8_gen ao n ca A _ lim w hA hlim rfl
end Go.Proofs.YtddcdfghanabmaaDoor

/- append onto a row of the call's own: the row stays in its block, or goes into a new one; all other blocks stay. -/
namespace Go.Proofs.YtddcdfghanabmaaDoor
open Go.ChangeShapes Go.WideShapes Go.ChangeAt Go.RowKit
section
variable {P : Program} (w : World)
theorem run_append_own2 (base : Nat) (t ty e : TypeId) (i : TypeInfo) (z : Value) (size bytes : Nat) (ht : P.underlying t = some (.slice e)) (hi : P.info? e = some i) (hz : i.zero = some z)
    (hsize : i.size = size) (hby : i.bytes = bytes) (hzs : z.cells.size = size) (hsz : 0 < size)
    (v : Value) (n : Nat) (xs : List Value) (hown : w.ownsRow base e size v n xs)
    (a : Addr) (m c : Nat) (news : List Value) (hl : news.length = m * size) (hnews : ∀ j u, news[j]? = some u → w.cell? (a.add j) = some u) (h1 : ∀ u ∈ news, u.oneCell' = true)
    (h63 : n + m ≤ maxLen) (hbytes : (n + m) * bytes ≤ 140737488355328) (hbase : base ≤ w.heap.size) :
    ∃ v' w', (Builtin.append_ #[t, t] ty #[v, .slice (some a) m c]).run P w = .ok v' w' ∧ w'.ownsRow base e size v' (n + m) (xs ++ news) ∧ w.grownBy w' v.ownBlock ∧
      (v' = .slice none 0 0 ↔ v = .slice none 0 0 ∧ m = 0) ∧ ∀ g', v'.ownBlock = some g' → v.ownBlock = some g' ∨ g' = w.heap.size := by
  obtain ⟨v', w', hr, h2, h3, h4⟩ := run_append_own (P := P) w base t ty e i z size bytes ht hi hz hsize hby hzs hsz v n xs hown a m c news hl hnews h1 h63 hbytes hbase
  refine ⟨v', w', hr, h2, h3, h4, ?_⟩
  subst hsize
  subst hby
  have hsmall : n + m ≤ 9223372036854775807 := by simp only [maxLen] at h63; omega
  rcases hown.2 with ⟨rfl, rfl⟩ | ⟨g, cap, cur, rfl, hbg, hg, hnc, hcm, hcs, htake⟩
  · by_cases hm : m = 0
    · have := h4.2 ⟨rfl, hm⟩
      subst this
      intro g' hg'
      cases hg'
    · have hr2 := run_append_nil (P := P) w t ty e i z ht hi hz a m c news hl hnews (by omega) (by omega) (by have hb := hbytes; simp only [Nat.zero_add] at hb; omega)
      rw [hr] at hr2
      injection hr2 with e1 e2
      subst e1
      intro g' hg'
      exact Or.inr (Option.some.inj hg').symm
  · by_cases hroom : n + m ≤ cap
    · have hfit : n * i.size + news.length ≤ cur.size := by rw [hl, hcs, ← Nat.add_mul]; exact Nat.mul_le_mul_right _ hroom
      have hr2 := run_append_room (P := P) w t ty e i ht hi g n cap cur hg a m c news hl hnews h1 hroom hfit
      rw [hr] at hr2
      injection hr2 with e1 e2
      subst e1
      intro g' hg'
      exact Or.inl hg'
    · have holds : ∀ j u, xs[j]? = some u → w.cell? ((⟨g, 0, none⟩ : Addr).add j) = some u := hown.cells (g := g) rfl
      have hr2 := run_append_grow (P := P) w t ty e i z ht hi hz ⟨g, 0, none⟩ n cap xs hown.1 holds a m c news hl hnews (by omega) (by omega) (growslice_fits (by omega) hbytes)
      rw [hr] at hr2
      injection hr2 with e1 e2
      subst e1
      intro g' hg'
      exact Or.inr (Option.some.inj hg').symm
theorem wp_append_own2 {o : Oper} {a : Act} {K : Act → World → Prop} {Q : Exit → Act → World → Prop} (s x : Operand) (t : TypeId)
    (ho : o.op = .call { callee := .builtin .append, args := #[s, x], argTypes := #[t, t] })
    (base : Nat) (e : TypeId) (i : TypeInfo) (z : Value) (size bytes : Nat) (ht : P.underlying t = some (.slice e)) (hi : P.info? e = some i) (hz : i.zero = some z)
    (hsize : i.size = size) (hby : i.bytes = bytes) (hzs : z.cells.size = size) (hsz : 0 < size)
    (v : Value) (n : Nat) (xs : List Value) (hs : a.eval s = v) (hown : w.ownsRow base e size v n xs)
    (ad : Addr) (m c : Nat) (news : List Value) (hx : a.eval x = .slice (some ad) m c) (hl : news.length = m * size) (hnews : ∀ j u, news[j]? = some u → w.cell? (ad.add j) = some u) (h1 : ∀ u ∈ news, u.oneCell' = true)
    (h63 : n + m ≤ maxLen) (hbytes : (n + m) * bytes ≤ 140737488355328) (hbase : base ≤ w.heap.size)
    (h : ∀ v' w', w'.ownsRow base e size v' (n + m) (xs ++ news) → w.grownBy w' v.ownBlock → (v' = .slice none 0 0 ↔ v = .slice none 0 0 ∧ m = 0) → (∀ g', v'.ownBlock = some g' → v.ownBlock = some g' ∨ g' = w.heap.size) → K (a.put o.dst v') w') : o.wp P a w K Q := by
  obtain ⟨v', w', hr, h2, h3, h4, h5⟩ := run_append_own2 (P := P) w base t o.type e i z size bytes ht hi hz hsize hby hzs hsz v n xs hown ad m c news hl hnews h1 h63 hbytes hbase
  unfold Oper.wp execOp
  simp only [ho, resolve, invoke, builtin, Sem.run_bind, Sem.run_pure, Result.andThen_ok, List.map_toArray, List.map_cons, List.map_nil, hs, hx, hr]
  exact h v' w' h2 h3 h4 h5
end
/-- append(out, x), out a row of the call's own, x one number: all other blocks stay. -/
theorem wpList_append_one2 {w : World} {ops : Array Oper} {rest : List Oper} {o : Oper} {a : Act} {Q : Exit → Act → World → Prop} (hgd : o.guard = none) (s x : Operand)
    (ho : o.op = .call { callee := .builtin .append, args := #[s, x], argTypes := #[27, 27] })
    (B g n cap : Nat) (A : List Int) (hs : a.eval s = .slice (some ⟨g, 0, none⟩) n cap) (hF : Fresh w B g n cap A)
    (bo : Nat) (y : Int) (hx : a.eval x = .slice (some ⟨bo, 0, none⟩) 1 1) (hX : RowAt w (some ⟨bo, 0, none⟩) 1 [y])
    (hlen : n + 1 ≤ 1048576) (hB : B ≤ w.heap.size)
    (h : ∀ g' cap' w', Fresh w' B g' (n + 1) cap' (A ++ [y]) → Below B w w' → (∀ b, b < w.heap.size → b ≠ g → w'.heap[b]? = w.heap[b]?) → (g' = g ∨ g' = w.heap.size) → wpList Tryd.prog ops Q rest (a.put o.dst (.slice (some ⟨g', 0, none⟩) (n + 1) cap')) w') : wpList Tryd.prog ops Q (o :: rest) a w := by
  obtain ⟨i0, hi, hz0, hz1, hz2⟩ := info_parts Tryd.infoNum
  refine wpList_plain hgd fun _ hK => wp_append_own2 w s x 27 ho B 31 i0 (.int .i32 0) 1 4 Tryd.underlying27 hi hz0 hz1 hz2 rfl (by decide) _ n _ hs hF.owns ⟨bo, 0, none⟩ 1 1 [.int .i32 y] hx rfl ?_ (ints_oneCell .i32 [y]) (by unfold maxLen; omega) (by omega) hB ?_
  · intro j u hj
    obtain ⟨b, o', e, hcell⟩ := hX.cells (by omega)
    simp only [Option.some.injEq, Addr.mk.injEq, and_true] at e
    obtain ⟨rfl, rfl⟩ := e
    match j, hj with
    | 0, hj =>
      have h0 := hcell 0 (by omega)
      simp at hj
      subst hj
      have e2 : (Addr.mk bo 0 none).add 0 = ⟨bo, 0 + 0, none⟩ := by simp [Addr.add]
      rw [e2, h0]
      rfl
  · intro v' w' hown hg hnil hwh
    have hb : Below B w w' := (Below.refl _ _).grown hg hB (fun k hk => by simp [Value.ownBlock] at hk; subst hk; exact hF.base)
    obtain ⟨h1, h2⟩ := hown
    rcases h2 with ⟨h3, h4⟩ | ⟨g', c', cur, hv, hr⟩
    · omega
    · subst hv
      have e : A.map (Value.int .i32) ++ [.int .i32 y] = (A ++ [y]).map (Value.int .i32) := by simp
      rw [e] at h1 hr
      obtain ⟨g2, e2, F⟩ := fresh_of_owns (w := w') (B := B) (n := n + 1) (cap := c') (ao := some ⟨g', 0, none⟩) (A := A ++ [y]) ⟨h1, Or.inr ⟨g', c', cur, rfl, hr⟩⟩ (hF.small.append hX.small) (by simp)
      simp only [Option.some.injEq, Addr.mk.injEq, and_true] at e2
      subst e2
      refine hK _ _ (h g' c' w' F hb (fun b hb2 hne => hg.block b hb2 (fun e => hne (Option.some.inj e))) ?_)
      rcases hwh g' rfl with hq | hq
      · exact Or.inl (Option.some.inj hq).symm
      · exact Or.inr hq
end Go.Proofs.YtddcdfghanabmaaDoor

/- append onto a row of the call's own: the row that was there stays as it was. -/
namespace Go.Proofs.YtddcdfghanabmaaDoor
open Go.ChangeShapes Go.WideShapes Go.ChangeAt Go.RowKit
section
variable {P : Program} (w : World)
theorem run_append_own3 (base : Nat) (t ty e : TypeId) (i : TypeInfo) (z : Value) (bytes : Nat) (ht : P.underlying t = some (.slice e)) (hi : P.info? e = some i) (hz : i.zero = some z)
    (hsize : i.size = 1) (hby : i.bytes = bytes) (hzs : z.cells.size = 1)
    (v : Value) (n : Nat) (xs : List Value) (hown : w.ownsRow base e 1 v n xs)
    (a : Addr) (m c : Nat) (news : List Value) (hl : news.length = m) (hnews : ∀ j u, news[j]? = some u → w.cell? (a.add j) = some u) (h1 : ∀ u ∈ news, u.oneCell' = true)
    (h63 : n + m ≤ maxLen) (hbytes : (n + m) * bytes ≤ 140737488355328) (hbase : base ≤ w.heap.size) :
    ∃ v' w', (Builtin.append_ #[t, t] ty #[v, .slice (some a) m c]).run P w = .ok v' w' ∧ w'.ownsRow base e 1 v' (n + m) (xs ++ news) ∧ w.grownBy w' v.ownBlock ∧ w'.ownsRow base e 1 v n xs := by
  obtain ⟨v', w', hr, h2, h3, h4⟩ := run_append_own (P := P) w base t ty e i z 1 bytes ht hi hz hsize hby hzs (by decide) v n xs hown a m c news (by omega) hnews h1 h63 hbytes hbase
  refine ⟨v', w', hr, h2, h3, ?_⟩
  have hl1 : news.length = m * i.size := by rw [hsize]; omega
  subst hby
  have hsmall : n + m ≤ 9223372036854775807 := by simp only [maxLen] at h63; omega
  rcases hown.2 with ⟨rfl, rfl⟩ | ⟨g, cap, cur, rfl, hbg, hg, hnc, hcm, hcs, htake⟩
  · have hx : xs = [] := List.eq_nil_of_length_eq_zero (by simpa using hown.1)
    subst hx
    exact World.ownsRow_nil _ _ _ _
  · have hxl : xs.length = n := by have := hown.1; omega
    by_cases hroom : n + m ≤ cap
    · have hfit : n * i.size + news.length ≤ cur.size := by rw [hl, hcs, hsize]; omega
      have hr2 := run_append_room (P := P) w t ty e i ht hi g n cap cur hg a m c news hl1 hnews h1 hroom hfit
      rw [hr] at hr2
      injection hr2 with e1 e2
      subst e2
      refine ⟨hown.1, .inr ⟨g, cap, _, rfl, hbg, setRow_heap w g cur _ e _ hg, hnc, hcm, ?_, ?_⟩⟩
      · simp only [List.size_toArray, List.length_append, List.length_take, List.length_drop, Array.length_toList, hsize]
        omega
      · rw [hsize]
        rw [htake, List.append_assoc, ← hown.1]
        exact List.take_left
    · have holds : ∀ j u, xs[j]? = some u → w.cell? ((⟨g, 0, none⟩ : Addr).add j) = some u := hown.cells (g := g) rfl
      have hr2 := run_append_grow (P := P) w t ty e i z ht hi hz ⟨g, 0, none⟩ n cap xs (by rw [hsize]; omega) holds a m c news hl1 hnews (by omega) (by omega) (growslice_fits (by omega) hbytes)
      rw [hr] at hr2
      injection hr2 with e1 e2
      subst e2
      have hlt : g < w.heap.size := (Array.getElem?_eq_some_iff.1 hg).1
      exact ⟨hown.1, .inr ⟨g, cap, cur, rfl, hbg, (heap_alloc_old w.drew _ hlt).trans hg, hnc, hcm, hcs, htake⟩⟩
end
/-- append(out, x), out a row of whole numbers of the call's own, as one operation. -/
theorem wp_append_int {w : World} {o : Oper} {a : Act} {K : Act → World → Prop} {Q : Exit → Act → World → Prop} (s x : Operand) (ho : o.op = .call { callee := .builtin .append, args := #[s, x], argTypes := #[25, 25] })
    (B : Nat) (v : Value) (n : Nat) (A : List Int) (hs : a.eval s = v) (hown : IOwn w B v n A) (bo : Nat) (y : Int) (hx : a.eval x = .slice (some ⟨bo, 0, none⟩) 1 1) (hX : w.cell? ⟨bo, 0, none⟩ = some (.int .i64 y)) (hn : n ≤ 4096) (hB : B ≤ w.heap.size)
    (h : ∀ v' w', IOwn w' B v' (n + 1) (A ++ [y]) → IOwn w' B v n A → w.grownBy w' v.ownBlock → Below B w w' → K (a.put o.dst v') w') : o.wp Tryd.prog a w K Q := by
  obtain ⟨i0, hi, hz0, hz1, hz2⟩ := info_parts Tryd.infoInt
  have hnews : ∀ j u, ([y].map (Value.int .i64))[j]? = some u → w.cell? ((Addr.mk bo 0 none).add j) = some u := by
    intro j u hj
    match j, hj with
    | 0, hj =>
      simp at hj
      subst hj
      have e2 : (Addr.mk bo 0 none).add 0 = ⟨bo, 0, none⟩ := by simp [Addr.add]
      rw [e2, hX]
  obtain ⟨v', w', hr, h2, h3, h4⟩ := run_append_own3 (P := Tryd.prog) w B 25 o.type 3 i0 (.int .i64 0) 8 Tryd.underlying25 hi hz0 hz1 hz2 rfl v n _ hown ⟨bo, 0, none⟩ 1 1 ([y].map (Value.int .i64)) rfl hnews (ints_oneCell _ _) (by unfold maxLen; omega) (by omega) hB
  unfold Oper.wp execOp
  simp only [ho, resolve, invoke, builtin, Sem.run_bind, Sem.run_pure, Result.andThen_ok, List.map_toArray, List.map_cons, List.map_nil, hs, hx, hr]
  exact h v' w' (by unfold IOwn; rw [List.map_append]; exact h2) h4 h3 ((Below.refl _ _).grown h3 hB (fun k hk => (hown.lt k hk).1))
/-- An operation that is wanted. -/
theorem wpList_run {w : World} {ops : Array Oper} {rest : List Oper} {o : Oper} {a : Act} {Q : Exit → Act → World → Prop} (hw : Region.wanted o (yielded ops a.tmps) = true) (h : ∀ K, (∀ a w, wpList Tryd.prog ops Q rest a w → K a w) → Oper.wp Tryd.prog o a w K Q) : wpList Tryd.prog ops Q (o :: rest) a w := by
  simp only [wpList, hw, if_true]
  exact Or.inl (h _ fun a w h => h)
end Go.Proofs.YtddcdfghanabmaaDoor

/- The table of steps lies in its block, wherever the row's listed variable reads as listed. -/
namespace Go.Proofs.YtddcdfghanabmaaDoor
open Go.ChangeShapes Go.WideShapes Go.ChangeAt Go.RowKit
theorem gSteps : Tryd.prog.globalNamed "tiller/curve.steps" = some 0 := by kernel_rfl
theorem tSteps : (Tryd.prog.globals[0]?).map (·.type) = some 103 := by kernel_rfl
theorem cSteps : Tryd.prog.cellsOf 103 = 65 := by kernel_rfl
theorem cNum : Tryd.prog.cellsOf 31 = 1 := by kernel_rfl
theorem tab_of_laid {W : World} (h : laidMetH Tryd.prog [("tiller/curve.steps", Rows.laid_tiller_curve_steps)] W) : Tab W := by
  rw [MakeChecks.laidMetH_plain _ _ _ (by kernel_rfl)] at h
  have h' : laidMet Tryd.prog [("tiller/curve.steps", Lib.tabData .i32 (stp.map fun (n : Nat) => (n : Int)))] W := h
  have ht := Lib.tabIs_of_head gSteps tSteps Tryd.underlying103 Tryd.underlying31 cNum cSteps h'
  unfold Lib.TabIs World.var? at ht
  rw [gSteps] at ht
  simp only [Option.bind_some] at ht
  split at ht
  · rename_i cs t fr hc
    refine ⟨t, fr, ?_⟩
    rw [hc]
    simp only [Option.some.injEq] at ht
    rw [ht]
    simp [tabCells]
  · cases ht
end Go.Proofs.YtddcdfghanabmaaDoor

/- An argument that is a row of whole numbers, opened once: nil, empty or not. -/
namespace Go.Proofs.YtddcdfghanabmaaDoor
open Go.ChangeShapes Go.WideShapes Go.ChangeAt Go.RowKit
theorem Tryd.cellsInt : Tryd.prog.cellsOf 3 = 1 := by kernel_rfl
theorem viewI_cells {H : Type} {enc : TypeId × Value → H} {W : World} {fuel : Nat} {cs : List Value} {x : DataW H × List MemPlace}
    (hf : DataW.trod enc Tryd.prog W 0 (fun _ => true) true fuel 25 cs = some x) :
    ∃ (a0 : Option Addr) (len cap : Nat) (Z : List Int), cs = [.slice a0 len cap] ∧ IArg W a0 len cap Z := by
  rcases open_ints Tryd.underlying25 Tryd.underlying3 Tryd.cellsInt hf with ⟨hcs, hx⟩ | ⟨a, len', cap', zs, hcs, _, hl, hm, hz, hx, hcell, hwz⟩
  · exact ⟨none, 0, 0, [], hcs, iarg_nil _⟩
  · simp only [if_true] at hz
    unfold maxLen at hm
    refine ⟨some a, len', cap', zs.take len', hcs, ⟨by simp; omega, by omega, fun k => ?_, fun hn => ?_⟩, hl, by omega, fun h => by cases h⟩
    · rcases Nat.lt_or_ge k (zs.take len').length with hk | hk
      · exact bounds_i64 (hwz _ (List.mem_of_mem_take (el_mem hk)))
      · rw [el_over hk]; omega
    · obtain ⟨b, o, s⟩ := a
      have h0 := hcell 0 (by omega)
      have hs : s = none := by simpa [Addr.add] using World.cell?_spot h0
      subst hs
      refine ⟨b, o, rfl, fun t ht => ?_⟩
      have e : (Addr.mk b o none).add t = ⟨b, o + t, none⟩ := by simp [Addr.add]
      rw [← e, hcell t (by omega), el_take ht]
      rfl
set_option maxRecDepth 100000 in
theorem viewI {H : Type} {enc : TypeId × Value → H} {W : World} {b0 : Nat} {v : Value} {d : DataW H} {p : List MemPlace} (hv : Value.okWide Tryd.prog W .any b0 25 v)
    (h : DataW.Trod enc Tryd.prog W 0 (fun _ => true) true 25 v d p) : ∃ (a0 : Option Addr) (len cap : Nat) (Z : List Int), v = .slice a0 len cap ∧ IArg W a0 len cap Z := by
  obtain ⟨a0, la, ca, rfl⟩ := okWide_slice Tryd.underlying25 hv
  obtain ⟨f, hf⟩ := h
  obtain ⟨a1, l1, c1, Z, e, hA⟩ := viewI_cells hf
  simp [Value.cells] at e
  obtain ⟨rfl, rfl, rfl⟩ := e
  exact ⟨_, _, _, Z, rfl, hA⟩
end Go.Proofs.YtddcdfghanabmaaDoor
