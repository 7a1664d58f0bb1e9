/- Contracts of the program's functions, part 7 of 14: what each call returns and leaves of memory. -/
import Derived.Deep.RegionHeld3
import Derived.Test.YtoofbjpekdlfiaaDoorPk6
import Derived.Test.YtoofbjpekdlfiaaDoorPk4
/- A region that draws its order: what a store waits for may be taken first, though the store turns what was read. -/
namespace Go.Proofs.YtoofbjpekdlfiaaDoor
section
variable {P : Program} {ops : Array Oper} {Q : Exit → Act → World → Prop} {S : World → Prop} {z : Nat}
/-- Whatever comes up next; S holds as long as operation z hasn't come up. -/
def wpLate (P : Program) (ops : Array Oper) (Q : Exit → Act → World → Prop) (S : World → Prop) (z : Nat) : Nat → Array Bool → Act → World → Prop
  | 0, listed, a, w => Region.ready .any ops listed = [] ∧ Q .normal a w
  | fuel + 1, listed, a, w =>
    (Region.ready .any ops listed = [] → Q .normal a w) ∧
    ∀ i ∈ Region.ready .any ops listed, wpOp P ops Q i (fun a' w' => (i ≠ z → listed.getD z true = false → S w') ∧ wpLate P ops Q S z fuel (listed.setIfInBounds i true) a' w') a w
theorem wpAny_of_late : ∀ (fuel : Nat) (listed : Array Bool) (a : Act) (w : World), wpLate P ops Q S z fuel listed a w → wpAny P .any ops Q fuel listed a w
  | 0, _, _, _, h => h
  | fuel + 1, _, _, _, h => ⟨h.1, fun i hi => wpOp_mono (fun a' w' h' => wpAny_of_late fuel _ a' w' h'.2) (h.2 i hi)⟩
theorem wpLate_first {i : Nat} {oi oz : Oper} {v : Value} (hi : ops[i]? = some oi) (hz : ops[z]? = some oz) (hzi : ∃ e ∈ oz.after, Region.binds .any e = true ∧ e.on = i)
    (hsel : ∀ (j : Nat) (o : Oper) cs b, ops[j]? = some o → o.op ≠ .select cs b) (hQ : ∀ c a w, Q (.panic c) (a.put oi.dst v) w → Q (.panic c) a w) :
    ∀ (fuel : Nat) (listed : Array Bool) (a : Act) (w : World),
      (∀ j oj, ops[j]? = some oj → j ≠ i → listed.getD j true = false → (∀ e ∈ oj.after, Region.binds .any e = true → e.on ≠ i) → oi.apart ops oj = true) →
      i ∈ Region.ready .any ops listed → listed.getD z true = false → YieldsIf P ops S oi v a → S w →
      wpLate P ops Q S z fuel (listed.setIfInBounds i true) (a.put oi.dst v) w → wpLate P ops Q S z (fuel + 1) listed a w := by
  intro fuel
  induction fuel with
  | zero =>
    intro listed a w _ hr _ hy hS H
    refine ⟨fun h => (by rw [h] at hr; cases hr), fun j hj => ?_⟩
    by_cases hji : j = i
    · subst hji
      exact hy.wpOp hi hS ⟨fun _ _ => hS, H⟩
    · have hc := ready_mono hj hji
      rw [H.1] at hc
      cases hc
  | succ fuel ih =>
    intro listed a w hfree hr hu hy hS H
    refine ⟨fun h => (by rw [h] at hr; cases hr), fun j hj => ?_⟩
    by_cases hji : j = i
    · subst hji
      exact hy.wpOp hi hS ⟨fun _ _ => hS, H⟩
    · obtain ⟨hjun, oj, hoj, hall⟩ := mem_ready.1 hj
      have hnot : ∀ e ∈ oj.after, Region.binds .any e = true → e.on ≠ i := fun e he hb heq => by
        have h1 := hall e he hb
        have h0 := (mem_ready.1 hr).1
        rw [heq] at h1
        rcases Nat.lt_or_ge i listed.size with h' | h'
        · simp [h'] at h0 h1; rw [h0] at h1; cases h1
        · simp [Array.getElem?_eq_none h'] at h1
      have hjz : j ≠ z := by
        rintro rfl
        rw [hz] at hoj
        simp only [Option.some.injEq] at hoj
        subst hoj
        obtain ⟨e, h1, h2, h3⟩ := hzi
        exact hnot e h1 h2 h3
      have hiz : i ≠ z := by
        rintro rfl
        rw [hi] at hz
        simp only [Option.some.injEq] at hz
        subst hz
        obtain ⟨e, h1, h2, h3⟩ := hzi
        obtain ⟨hun, o', ho', hall'⟩ := mem_ready.1 hr
        rw [hi] at ho'
        simp only [Option.some.injEq] at ho'
        subst ho'
        have h4 := hall' e h1 h2
        rw [h3] at h4
        rcases Nat.lt_or_ge i listed.size with h' | h'
        · simp [h'] at hun h4; rw [hun] at h4; cases h4
        · simp [Array.getElem?_eq_none h'] at h4
      have h2 := wpOp_putIf hoj (hfree j oj hoj hji hjun hnot) (fun cs b => hsel i oi cs b hi) (fun cs b => hsel j oj cs b hoj) hQ hy (H.2 j (ready_mono hj hji))
      have hfree' : ∀ k ok, ops[k]? = some ok → k ≠ i → (listed.setIfInBounds j true).getD k true = false →
          (∀ e ∈ ok.after, Region.binds .any e = true → e.on ≠ i) → oi.apart ops ok = true := fun k ok hk hki hun hno => by
        refine hfree k ok hk hki ?_ hno
        by_cases hjk : j = k
        · subst hjk; exact hjun
        · rw [getD_set_ne true hjk] at hun; exact hun
      refine wpOp_mono (fun a' w' h3 => ?_) h2
      have hS' : S w' := h3.2.1 hjz (by rw [getD_set_ne true hiz]; exact hu)
      refine ⟨fun _ _ => hS', ih (listed.setIfInBounds j true) a' w' hfree' (ready_mono hr (Ne.symm hji)) (by rw [getD_set_ne true hjz]; exact hu) h3.1 hS' ?_⟩
      rw [Array.setIfInBounds_comm _ _ hji]
      exact h3.2.2
/-- The same of an operation that yields its value in whatever world: z needn't wait for it. -/
theorem wpLate_plain {i : Nat} {oi : Oper} {v : Value} (hi : ops[i]? = some oi) (hiz : i ≠ z)
    (hsel : ∀ (j : Nat) (o : Oper) cs b, ops[j]? = some o → o.op ≠ .select cs b) (hQ : ∀ c a w, Q (.panic c) (a.put oi.dst v) w → Q (.panic c) a w) :
    ∀ (fuel : Nat) (listed : Array Bool) (a : Act) (w : World),
      (∀ j oj, ops[j]? = some oj → j ≠ i → listed.getD j true = false → (∀ e ∈ oj.after, Region.binds .any e = true → e.on ≠ i) → oi.apart ops oj = true) →
      i ∈ Region.ready .any ops listed → (listed.getD z true = false → S w) → YieldsIf P ops (fun _ => True) oi v a →
      wpLate P ops Q S z fuel (listed.setIfInBounds i true) (a.put oi.dst v) w → wpLate P ops Q S z (fuel + 1) listed a w := by
  intro fuel
  induction fuel with
  | zero =>
    intro listed a w _ hr hS hy H
    refine ⟨fun h => (by rw [h] at hr; cases hr), fun j hj => ?_⟩
    by_cases hji : j = i
    · subst hji
      exact hy.wpOp hi trivial ⟨fun _ => hS, H⟩
    · have hc := ready_mono hj hji
      rw [H.1] at hc
      cases hc
  | succ fuel ih =>
    intro listed a w hfree hr hS hy H
    refine ⟨fun h => (by rw [h] at hr; cases hr), fun j hj => ?_⟩
    by_cases hji : j = i
    · subst hji
      exact hy.wpOp hi trivial ⟨fun _ => hS, H⟩
    · obtain ⟨hjun, oj, hoj, hall⟩ := mem_ready.1 hj
      have hnot : ∀ e ∈ oj.after, Region.binds .any e = true → e.on ≠ i := fun e he hb heq => by
        have h1 := hall e he hb
        have h0 := (mem_ready.1 hr).1
        rw [heq] at h1
        rcases Nat.lt_or_ge i listed.size with h' | h'
        · simp [h'] at h0 h1; rw [h0] at h1; cases h1
        · simp [Array.getElem?_eq_none h'] at h1
      have h2 := wpOp_putIf hoj (hfree j oj hoj hji hjun hnot) (fun cs b => hsel i oi cs b hi) (fun cs b => hsel j oj cs b hoj) hQ hy (H.2 j (ready_mono hj hji))
      have hfree' : ∀ k ok, ops[k]? = some ok → k ≠ i → (listed.setIfInBounds j true).getD k true = false →
          (∀ e ∈ ok.after, Region.binds .any e = true → e.on ≠ i) → oi.apart ops ok = true := fun k ok hk hki hun hno => by
        refine hfree k ok hk hki ?_ hno
        by_cases hjk : j = k
        · subst hjk; exact hjun
        · rw [getD_set_ne true hjk] at hun; exact hun
      refine wpOp_mono (fun a' w' h3 => ?_) h2
      have hS' : j ≠ z → listed.getD z true = false → S w' := fun hjz hu => h3.2.1 hjz (by rw [getD_set_ne true hiz]; exact hu)
      refine ⟨hS', ih (listed.setIfInBounds j true) a' w' hfree' (ready_mono hr (Ne.symm hji)) (fun hu => ?_) h3.1 ?_⟩
      · by_cases hjz : j = z
        · subst hjz
          have hlt : j < listed.size := by
            rcases Nat.lt_or_ge j listed.size with h' | h'
            · exact h'
            · simp [h'] at hjun
          simp [hlt] at hu
        · exact hS' hjz (by rw [getD_set_ne true hjz] at hu; exact hu)
      · rw [Array.setIfInBounds_comm _ _ hji]
        exact h3.2.2
/-- Does operation z wait for i? -/
def waitsOn (ops : Array Oper) (z i : Nat) : Bool := ((ops[z]?).map fun o => o.after.any fun e => Region.binds .any e && (e.on == i)).getD false
theorem waitsOn_spec {i : Nat} (h : waitsOn ops z i = true) : ∃ oz, ops[z]? = some oz ∧ ∃ e ∈ oz.after, Region.binds .any e = true ∧ e.on = i := by
  unfold waitsOn at h
  cases e : ops[z]? with
  | none => rw [e] at h; simp at h
  | some oz =>
    rw [e] at h
    simp only [Option.map_some, Option.getD_some, Array.any_eq_true, Bool.and_eq_true, beq_iff_eq] at h
    obtain ⟨k, hk, h1, h2⟩ := h
    exact ⟨oz, rfl, _, Array.getElem_mem hk, h1, h2⟩
/-- Take number i first. -/
theorem wpLate_take {i : Nat} {oi : Oper} {v : Value} {fuel : Nat} {listed : Array Bool} {a : Act} {w : World} (hi : ops[i]? = some oi) (hz : waitsOn ops z i = true) (hu : listed.getD z true = false)
    (hs : Region.noSelect ops = true) (hf : Region.free .any ops listed i = true) (hr : (Region.ready .any ops listed).contains i = true)
    (hQ : ∀ c a w, Q (.panic c) (a.put oi.dst v) w → Q (.panic c) a w) (hy : YieldsIf P ops S oi v a) (hS : S w)
    (h : wpLate P ops Q S z fuel (listed.setIfInBounds i true) (a.put oi.dst v) w) : wpLate P ops Q S z (fuel + 1) listed a w := by
  obtain ⟨oz, h1, h2⟩ := waitsOn_spec hz
  exact wpLate_first hi h1 h2 (Region.noSelect_spec hs) hQ fuel listed a w (Region.free_spec hi hf) (by simpa using hr) hu hy hS h
/-- Take number i first: it yields its value in whatever world. -/
theorem wpLate_pure {i : Nat} {oi : Oper} {v : Value} {fuel : Nat} {listed : Array Bool} {a : Act} {w : World} (hi : ops[i]? = some oi) (hiz : i ≠ z)
    (hs : Region.noSelect ops = true) (hf : Region.free .any ops listed i = true) (hr : (Region.ready .any ops listed).contains i = true)
    (hQ : ∀ c a w, Q (.panic c) (a.put oi.dst v) w → Q (.panic c) a w) (hy : YieldsIf P ops (fun _ => True) oi v a) (hS : listed.getD z true = false → S w)
    (h : wpLate P ops Q S z fuel (listed.setIfInBounds i true) (a.put oi.dst v) w) : wpLate P ops Q S z (fuel + 1) listed a w :=
  wpLate_plain hi hiz (Region.noSelect_spec hs) hQ fuel listed a w (Region.free_spec hi hf) (by simpa using hr) hS hy h
/-- One of those that may come up. -/
theorem wpLate_nil {fuel : Nat} {listed : Array Bool} {a : Act} {w : World} : ∀ i ∈ ([] : List Nat), wpOp P ops Q i (fun a' w' => (i ≠ z → listed.getD z true = false → S w') ∧ wpLate P ops Q S z fuel (listed.setIfInBounds i true) a' w') a w := fun _ h => by cases h
theorem wpLate_cons {fuel : Nat} {listed : Array Bool} {a : Act} {w : World} {i : Nat} {o : Oper} {rs : List Nat} (ho : ops[i]? = some o)
    (h : ∀ K' : Act → World → Prop, Shut (∀ a w, (i ≠ z → listed.getD z true = false → S w) → wpLate P ops Q S z fuel (listed.setIfInBounds i true) a w → K' a w) → if Region.wanted o (yielded ops a.tmps) = true then Oper.wp P o a w K' Q else K' (a.put o.dst undef) w)
    (hs : ∀ j ∈ rs, wpOp P ops Q j (fun a' w' => (j ≠ z → listed.getD z true = false → S w') ∧ wpLate P ops Q S z fuel (listed.setIfInBounds j true) a' w') a w) :
    ∀ j ∈ i :: rs, wpOp P ops Q j (fun a' w' => (j ≠ z → listed.getD z true = false → S w') ∧ wpLate P ops Q S z fuel (listed.setIfInBounds j true) a' w') a w := fun j hj => by
  rcases List.mem_cons.1 hj with rfl | hj
  · exact wpOp_step ho (fun K' hK => h K' (fun a w hS hW => hK a w ⟨hS, hW⟩))
  · exact hs j hj
theorem wpLate_ready {rs : List Nat} {fuel : Nat} {listed : Array Bool} {a : Act} {w : World} (hr : Region.ready .any ops listed = rs) (hne : rs ≠ [])
    (h : ∀ i ∈ rs, wpOp P ops Q i (fun a' w' => (i ≠ z → listed.getD z true = false → S w') ∧ wpLate P ops Q S z fuel (listed.setIfInBounds i true) a' w') a w) : wpLate P ops Q S z (fuel + 1) listed a w :=
  ⟨fun h0 => absurd (hr ▸ h0) hne, hr ▸ h⟩
theorem wpLate_done {listed : Array Bool} {a : Act} {w : World} (hr : Region.ready .any ops listed = []) (h : Q .normal a w) : ∀ fuel, wpLate P ops Q S z fuel listed a w
  | 0 => ⟨hr, h⟩
  | _ + 1 => ⟨fun _ => h, by rw [hr]; simp⟩
theorem wp_region_late {id : Nat} {a : Act} {w : World} (z : Nat) (hm : P.follows .mixedOrders = true) (hS : S w.drew)
    (h : S w.drew → wpLate P ops Q S z ops.size (Array.replicate ops.size false) a w.drew) : (Code.region id ops true).wp P Q a w :=
  wp_region_any hm (wpAny_of_late _ _ _ _ (h hS))
end
end Go.Proofs.YtoofbjpekdlfiaaDoor

/- Package step: append of a row to a full list of rows; what a token more makes of a view. -/
namespace Go.Proofs.YtoofbjpekdlfiaaDoor
open Go.ChangeShapes Go.WideShapes Go.ChangeAt Go.RowKit
theorem front_get (l : List Value) (z : Array Value) {j : Nat} {u : Value} (h : l[j]? = some u) : (l.toArray ++ z)[j]? = some u := by
  have hj := (List.getElem?_eq_some_iff.1 h).1
  rw [Array.getElem?_append_left (by simpa using hj)]
  simpa using h
/-- append(rows, row), rows a full list. -/
theorem wp_append_full {o : Oper} {a : Act} {w : World} {K : Act → World → Prop} {Q : Exit → Act → World → Prop} (s x : Operand) (hop : o.op = .call { callee := .builtin .append, args := #[s, x], argTypes := #[55, 55] })
    (p : Nat → Prop) (ro : Option Addr) (n : Nat) (vs : List Value) (R : List (List Int)) (hs : a.eval s = .slice ro n n) (hnil : ro = none → n = 0) (hG : Hangs p w (fun w => GridV w ro n vs R))
    (bo g1 m1 c1 : Nat) (Y : List Int) (hx : a.eval x = .slice (some ⟨bo, 0, none⟩) 1 1) (hX : w.cell? ⟨bo, 0, none⟩ = some (.slice (some ⟨g1, 0, none⟩) m1 c1)) (hY : Hangs p w (fun w => Arg w (some ⟨g1, 0, none⟩) m1 c1 Y)) (hn : n ≤ 4096) (hp : p w.heap.size)
    (h : ∀ cap w', n + 1 ≤ cap → cap ≤ 9223372036854775807 → Hangs p w' (fun wv => GridV wv (some ⟨w.heap.size, 0, none⟩) (n + 1) (vs ++ [.slice (some ⟨g1, 0, none⟩) m1 c1]) (R ++ [Y])) → Below w.heap.size w w' → K (a.put o.dst (.slice (some ⟨w.heap.size, 0, none⟩) (n + 1) cap)) w') : Oper.wp Tryd.prog o a w K Q := by
  obtain ⟨i0, hi, hz0, hz1, hz2⟩ := info_parts Tryd.infoRow
  have hnews : ∀ j u, [Value.slice (some ⟨g1, 0, none⟩) m1 c1][j]? = some u → w.cell? ((Addr.mk bo 0 none).add j) = some u := by
    intro j u hj
    match j, hj with
    | 0, hj =>
      simp at hj
      subst hj
      have e2 : (Addr.mk bo 0 none).add 0 = ⟨bo, 0, none⟩ := by simp [Addr.add]
      rw [e2, hX]
  have hgo : ∀ (cs : Array Value) (cap : Nat), (∀ (j : Nat) (u : Value), (vs ++ [.slice (some ⟨g1, 0, none⟩) m1 c1])[j]? = some u → cs[j]? = some u) → n + 1 ≤ cap → cap ≤ 9223372036854775807 → K (a.put o.dst (.slice (some ⟨w.heap.size, 0, none⟩) (n + 1) cap)) (w.drew.alloc (.cells cs 24)) := by
    intro cs cap hcs h1 h2
    have hb : Below w.heap.size w (w.drew.alloc (.cells cs 24)) := ((Below.refl _ _).drew).alloc (Nat.le_refl _) _
    refine h cap _ h1 h2 (fun w2 h3 => ?_) hb
    have hnew := heap_alloc_new w.drew (.cells cs 24)
    have hg : w2.heap[w.heap.size]? = some (.cells cs 24 (0, 0)) := (h3 w.heap.size hp (by simp)).trans hnew
    have ho : ∀ b, p b → b < w.heap.size → w2.heap[b]? = w.heap[b]? := fun b hb1 hb2 => (h3 b hb1 (Nat.lt_of_lt_of_le hb2 hb.size)).trans (hb.block b hb2)
    have V := hG w2 ho
    have A := hY w2 ho
    refine ⟨V.rows.snoc A, by simp [V.len], by omega, fun _ => ⟨w.heap.size, 0, rfl, fun j u hj => ?_⟩⟩
    rw [Nat.zero_add]
    unfold World.cell?
    simp only [hg]
    exact hcs j u hj
  have V0 := hG.now
  have hmx := fun (nd od : Nat) (hh : nd ≤ maxLen) => grownCap_le_maxLen w nd od 24 hh
  have hge := fun (nd od : Nat) => grownCap_ge w nd od 24
  cases ro with
  | none =>
    obtain rfl : n = 0 := hnil rfl
    obtain rfl : vs = [] := List.length_eq_zero_iff.1 V0.len
    have hrun := run_append_nil (P := Tryd.prog) w 55 o.type 24 i0 (.slice none 0 0) Tryd.underlying55 hi hz0 ⟨bo, 0, none⟩ 1 1 [.slice (some ⟨g1, 0, none⟩) m1 c1] (by simp [hz1]) hnews (by omega) (by omega) (by rw [hz2]; omega)
    unfold Oper.wp
    simp [execOp, hop, resolve, invoke, builtin, hs, hx, hrun, Result.andThen]
    refine hgo _ _ (fun j u hj => ?_) (hge 1 0) (by have := hmx 1 0 (by decide); unfold maxLen at this; omega)
    exact front_get [.slice (some ⟨g1, 0, none⟩) m1 c1] _ hj
  | some ad =>
    have holds : ∀ j v, vs[j]? = some v → w.cell? (ad.add j) = some v := fun j v hj => by
      have hjn : j < n := by rw [← V0.len]; exact (List.getElem?_eq_some_iff.1 hj).1
      obtain ⟨b, o', e, hc⟩ := V0.cells (by omega)
      simp only [Option.some.injEq] at e
      subst e
      have e2 : (Addr.mk b o' none).add j = ⟨b, o' + j, none⟩ := by simp [Addr.add]
      rw [e2]
      exact hc j v hj
    have hrun := run_append_grow (P := Tryd.prog) w 55 o.type 24 i0 (.slice none 0 0) Tryd.underlying55 hi hz0 ad n n vs (by rw [hz1, V0.len]; omega) holds ⟨bo, 0, none⟩ 1 1 [.slice (some ⟨g1, 0, none⟩) m1 c1] (by simp [hz1]) hnews (by omega) (by omega) (growslice_fits (by omega) (by rw [hz2]; omega))
    unfold Oper.wp
    simp [execOp, hop, resolve, invoke, builtin, hs, hx, hrun, Result.andThen]
    refine hgo _ _ (fun j u hj => ?_) (hge (n + 1) n) (by have := hmx (n + 1) n (by unfold maxLen; omega); unfold maxLen at this; omega)
    exact front_get (vs ++ [.slice (some ⟨g1, 0, none⟩) m1 c1]) _ hj
end Go.Proofs.YtoofbjpekdlfiaaDoor

/- Package step: goOn: the view behind one token more. -/
namespace Go.Proofs.YtoofbjpekdlfiaaDoor
open Go.ChangeShapes Go.WideShapes Go.ChangeAt Go.RowKit
def layD : Lay := ⟨[], [], [], [], [], [], [], []⟩
def layAt (M : Mdl) (l : Nat) : Lay := M.Ls.getD l layD
/-- The row that l layers make of a first one, behind the lists K and V of n rows each. -/
def xRow (M : Mdl) (D H Hd n : Nat) (K V : List (List (List Int))) (x : List Int) : Nat → List Int
  | 0 => x
  | l + 1 => oneR (layAt M l) D H Hd (xRow M D H Hd n K V x l) (K.getD l []) (V.getD l []) n
def newK (M : Mdl) (D H Hd n L : Nat) (K V : List (List (List Int))) (x : List Int) : List (List (List Int)) := (List.range L).map fun l => K.getD l [] ++ [keyR (layAt M l) D (xRow M D H Hd n K V x l)]
def newV (M : Mdl) (D H Hd n L : Nat) (K V : List (List (List Int))) (x : List Int) : List (List (List Int)) := (List.range L).map fun l => V.getD l [] ++ [valR (layAt M l) D (xRow M D H Hd n K V x l)]
theorem newK_at (M : Mdl) (D H Hd n L : Nat) (K V : List (List (List Int))) (x : List Int) {l : Nat} (h : l < L) : (newK M D H Hd n L K V x).getD l [] = K.getD l [] ++ [keyR (layAt M l) D (xRow M D H Hd n K V x l)] := by
  unfold newK
  rw [List.getD_eq_getElem?_getD, List.getElem?_map, List.getElem?_range h]
  rfl
theorem newV_at (M : Mdl) (D H Hd n L : Nat) (K V : List (List (List Int))) (x : List Int) {l : Nat} (h : l < L) : (newV M D H Hd n L K V x).getD l [] = V.getD l [] ++ [valR (layAt M l) D (xRow M D H Hd n K V x l)] := by
  unfold newV
  rw [List.getD_eq_getElem?_getD, List.getElem?_map, List.getElem?_range h]
  rfl
/-- The view behind one token more, and the row that the last layer makes of it. -/
def feedV (M : Mdl) (D H Hd L : Nat) (X : Vw) (tok : Nat) : Vw := ⟨X.T ++ [(tok : Int)], newK M D H Hd X.T.length L X.K X.V (begR M.E D tok X.T.length), newV M D H Hd X.T.length L X.K X.V (begR M.E D tok X.T.length)⟩
def feedX (M : Mdl) (D H Hd L : Nat) (X : Vw) (tok : Nat) : List Int := xRow M D H Hd X.T.length X.K X.V (begR M.E D tok X.T.length) L
/-- The blocks that a new view's lists may hang on. -/
def offB (w : World) (gk gv gN : Nat) (tv : Value) (b : Nat) : Prop := w.heap.size + 3 < b ∧ b ≠ gk ∧ b ≠ gv ∧ b ≠ gN ∧ tv.ownBlock ≠ some b
theorem load_b {w : World} {g : Nat} {cs : Array Value} (h : Blk w g 59 cs) (hs : cs.size = 20) : (loadVar 59 ⟨g, 0, none⟩).run Tryd.prog w = .ok (.agg cs) w :=
  run_loadVar_row w g _ _ cs _ _ h Tryd.underlying59 rfl (by rw [hs]; exact Tryd.infoB)
theorem yield_row {w : World} {a : Act} {o : Oper} (ty : TypeId) (x : Operand) (ho : o.op = .load ty x) (g : Nat) (hx : a.eval x = .pointer (some ⟨g, 0, none⟩)) (cs : Array Value) (hl : (loadVar ty ⟨g, 0, none⟩).run Tryd.prog w = .ok (.agg cs) w) : (execOp a.eval o).run Tryd.prog w = .ok (.value (.agg cs)) w := by
  unfold execOp
  simp only [ho, hx, Instr.loadAt, Instr.sureAddr, Sem.run_bind, Sem.run_pure, Result.andThen_ok, hl]
theorem Fresh.arg_off {wr w : World} {B g n c : Nat} {A : List Int} {gk gv gN : Nat} {tv : Value} (h : Fresh wr B g n c A) (hB : w.heap.size + 3 < B) (h1 : g ≠ gk) (h2 : g ≠ gv) (h3 : g ≠ gN) (h4 : tv.ownBlock ≠ some g) : Hangs (offB w gk gv gN tv) wr fun w => Arg w (some ⟨g, 0, none⟩) n c A :=
  (h.hangs.mono fun b _ e => by subst e; have := h.base; exact ⟨by omega, h1, h2, h3, h4⟩).imp fun _ h => h.arg
theorem kv_made (w : World) (L : Nat) (p : Nat → Prop) (A C : List (List (List Int))) (hC : C = []) : KV (w.alloc (.cells (madeCells #[.slice none 0 0] L) 55)) w.heap.size L 0 p A C := by
  subst hC
  refine ⟨_, heap_alloc_new _ _, by simp [madeCells], fun t ht => by omega, fun t _ ht => ⟨none, 0, [], ?_, fun _ => rfl, fun _ _ => gridV_nil _ _⟩⟩
  simp [madeCells, ht, Nat.mod_one]
theorem getD_set_true (l : Array Bool) (z : Nat) : (l.setIfInBounds z true).getD z true = true := by
  rcases Nat.lt_or_ge z l.size with h | h
  · simp [h]
  · simp [h]
theorem cell_keep {w w' : World} {a : Addr} {v : Value} (h : w.cell? a = some v) (hb : Below w.heap.size w w') : w'.cell? a = some v := by
  rw [World.cell?_of_block (hb.block _ (World.block_lt_of_cell? w _ h))]
  exact h
theorem Hangs.grown {p : Nat → Prop} {w w' : World} {Φ : World → Prop} (h : Hangs p w Φ) {r : Option Nat} (hg : w.grownBy w' r) (hr : ∀ b, p b → some b ≠ r) : Hangs p w' Φ := fun w2 h2 =>
  h w2 fun b h3 h4 => (h2 b h3 (Nat.lt_of_lt_of_le h4 hg.size)).trans (hg.block b h4 (hr b h3))
theorem KV.grown {w w' : World} {g m i : Nat} {p : Nat → Prop} {A C : List (List (List Int))} (h : KV w g m i p A C) {r : Option Nat} (hg : w.grownBy w' r) (hr : ∀ b, p b → some b ≠ r) (hgr : some g ≠ r) : KV w' g m i p A C := by
  have hl := h.lt
  obtain ⟨cs, h1, h2, h3, h4⟩ := h.row
  exact ⟨cs, (hg.block g hl hgr).trans h1, h2, fun t ht => let ⟨ro, n, c, vs, e, q1, q2, q3, N⟩ := h3 t ht; ⟨ro, n, c, vs, e, q1, q2, q3, N.grown hg hr⟩, fun t ht h5 => let ⟨ro, n, vs, e, q1, N⟩ := h4 t ht h5; ⟨ro, n, vs, e, q1, N.grown hg hr⟩⟩
/-- Lists that were all told anew, as they read. -/
theorem KV.cube {w : World} {g m : Nat} {p : Nat → Prop} {A C : List (List (List Int))} (h : KV w g m m p A C) (hl : A.length = m) (hm : m ≤ 9223372036854775807) {B : Nat} (hp : ∀ b, p b → B ≤ b) (hB : B ≤ g) : New B w fun w => CubeAt w (some ⟨g, 0, none⟩) m A := by
  intro w2 h2
  have hlt := h.lt
  obtain ⟨cs, h1, hs, h3, _⟩ := h.row
  have hg := (h2 g hB hlt).trans h1
  refine ⟨hl, hm, fun _ => ⟨g, 0, rfl, fun t R hR => ?_⟩⟩
  have ht : t < m := by rw [← hl]; exact (List.getElem?_eq_some_iff.1 hR).1
  obtain ⟨ro, n, c, vs, e, q1, q2, q3, N⟩ := h3 t ht
  have eR : A.getD t [] = R := by rw [List.getD_eq_getElem?_getD, hR]; rfl
  rw [eR] at N
  refine ⟨ro, n, c, ?_, q1, q2, q3, (N w2 fun b hb hb2 => h2 b (hp b hb) hb2).grid⟩
  rw [Nat.zero_add]
  unfold World.cell?
  simp only [hg]
  exact e
theorem owns_slice {w : World} {B n : Nat} {e : TypeId} {v : Value} {xs : List Value} (h : w.ownsRow B e 1 v n xs) : ∃ a c, v = .slice a n c := by
  rcases h.2 with ⟨h3, h4⟩ | ⟨g, cap, cur, hv, _⟩
  · exact ⟨none, 0, by rw [h3, h4]⟩
  · exact ⟨_, _, hv⟩
/-- What lists of a view that fits are like. -/
theorem fit_list {D L n : Nat} {K : List (List (List Int))} (hk : K.length = if n = 0 then 0 else L) (ks : ∀ R ∈ K, R.length = n ∧ ∀ t, t < n → (rowOf R t).length = D) {l : Nat} (hl : l < L) : (K.getD l []).length = n ∧ ∀ t, t < n → (rowOf (K.getD l []) t).length = D := by
  by_cases h0 : n = 0
  · rw [if_pos h0] at hk
    obtain rfl : K = [] := List.length_eq_zero_iff.1 hk
    subst h0
    exact ⟨rfl, fun t ht => by omega⟩
  · rw [if_neg h0] at hk
    have e : K.getD l [] = K[l]'(by omega) := by rw [List.getD_eq_getElem?_getD, List.getElem?_eq_getElem (by omega)]; rfl
    rw [e]
    exact ks _ (List.getElem_mem _)
end Go.Proofs.YtoofbjpekdlfiaaDoor

/- lists: a copy of lists of rows, of the call's own. -/
namespace Go.Proofs.YtoofbjpekdlfiaaDoor
open Go.ChangeShapes Go.WideShapes Go.ChangeAt Go.RowKit
theorem OwnGrid.hangs {w : World} {B g k cap : Nat} {R : List (List Int)} (h : OwnGrid w B g k cap R) (hk : k ≤ 9223372036854775807) : Hangs (fun b => B ≤ b) w (fun w => GridAt w (some ⟨g, 0, none⟩) k R) := by
  intro w2 h2
  obtain ⟨vs, h1, gs, h3, h4⟩ := h.own
  have hl : g < w.heap.size := by obtain ⟨_, cur, hc⟩ := own_block h1; exact (Array.getElem?_eq_some_iff.1 hc).1
  refine OwnGrid.grid (B := B) (cap := cap) ⟨h.base, h.len, vs, owns_mono h1 (Nat.le_refl _) (fun b hb => ?_), gs, fun t ht => ?_, h4⟩ hk
  · simp [Value.ownBlock] at hb
    subst hb
    exact h2 _ h.base hl
  · obtain ⟨m, c, e, F⟩ := h3 t ht
    exact ⟨m, c, e, F.of_block (h2 _ F.base F.lt)⟩
theorem own_caps {w : World} {B e g k cap : Nat} {vs : List Value} (h : w.ownsRow B e 1 (.slice (some ⟨g, 0, none⟩) k cap) k vs) : k ≤ cap ∧ cap ≤ 9223372036854775807 := by
  rcases h.2 with ⟨h3, _⟩ | ⟨g', c', cur, hv, hg, hh, hnc, hcm, _⟩
  · cases h3
  · simp only [Value.slice.injEq, Option.some.injEq, Addr.mk.injEq, and_true] at hv
    obtain ⟨-, -, rfl⟩ := hv
    exact ⟨hnc, hcm⟩
/-- Block g is a list of lists, of the call's own. -/
structure OwnCube (w : World) (B g k cap : Nat) (C : List (List (List Int))) : Prop where
  base : B ≤ g
  len : C.length = k
  own : ∃ vs, w.ownsRow B 55 1 (.slice (some ⟨g, 0, none⟩) k cap) k vs ∧ ∀ (t : Nat) (R : List (List Int)), C[t]? = some R → ∃ ro m c, vs[t]? = some (.slice ro m c) ∧ (ro = none → c = 0) ∧ m ≤ c ∧ c ≤ 9223372036854775807 ∧ Hangs (fun b => B ≤ b ∧ b ≠ g) w (fun w => GridAt w ro m R)
theorem OwnCube.below {w w' : World} {B g k cap : Nat} {C : List (List (List Int))} (h : OwnCube w B g k cap C) (hb : Below w.heap.size w w') : OwnCube w' B g k cap C := by
  obtain ⟨vs, h1, h2⟩ := h.own
  exact ⟨h.base, h.len, vs, owns_below h1 hb, fun t R hR => let ⟨ro, m, c, e, h3, h4, h5, h6⟩ := h2 t R hR; ⟨ro, m, c, e, h3, h4, h5, h6.below hb⟩⟩
theorem OwnCube.lt {w : World} {B g k cap : Nat} {C : List (List (List Int))} (h : OwnCube w B g k cap C) : g < w.heap.size := by
  obtain ⟨vs, h1, _⟩ := h.own
  obtain ⟨_, cur, hc⟩ := own_block h1
  exact (Array.getElem?_eq_some_iff.1 hc).1
theorem OwnCube.cube {w : World} {B g k cap : Nat} {C : List (List (List Int))} (h : OwnCube w B g k cap C) (hk : k ≤ 9223372036854775807) : CubeAt w (some ⟨g, 0, none⟩) k C := by
  obtain ⟨vs, h1, h2⟩ := h.own
  refine ⟨h.len, hk, fun _ => ⟨g, 0, rfl, fun t R hR => ?_⟩⟩
  obtain ⟨ro, m, c, e, h3, h4, h5, h6⟩ := h2 t R hR
  have hc := h1.cells (g := g) rfl t _ e
  have e2 : (Addr.mk g 0 none).add t = ⟨g, t, none⟩ := by simp [Addr.add]; intro h; exact h.symm
  rw [e2] at hc
  exact ⟨ro, m, c, by rw [Nat.zero_add]; exact hc, h3, h4, h5, h6.now⟩
theorem OwnCube.hangs {w : World} {B g k cap : Nat} {C : List (List (List Int))} (h : OwnCube w B g k cap C) (hk : k ≤ 9223372036854775807) : New B w (fun w => CubeAt w (some ⟨g, 0, none⟩) k C) := by
  intro w2 h2
  obtain ⟨vs, h1, h3⟩ := h.own
  refine OwnCube.cube (B := B) (cap := cap) ⟨h.base, h.len, vs, owns_mono h1 (Nat.le_refl _) (fun b hb => ?_), fun t R hR => ?_⟩ hk
  · simp [Value.ownBlock] at hb
    subst hb
    exact h2 _ h.base h.lt
  · obtain ⟨ro, m, c, e, h4, h5, h6, h7⟩ := h3 t R hR
    have hs : w.heap.size ≤ w.heap.size := Nat.le_refl _
    exact ⟨ro, m, c, e, h4, h5, h6, fun w3 h8 => h7 w3 fun b hb hlt => (h8 b hb (Nat.lt_of_not_le fun hge => by
      have e1 := h2 b hb.1 hlt
      rw [Array.getElem?_eq_none hge, Array.getElem?_eq_getElem hlt] at e1
      cases e1)).trans (h2 b hb.1 hlt)⟩
theorem ownCube_empty (w : World) : OwnCube (w.alloc (.cells #[] 55)) w.heap.size w.heap.size 0 0 [] :=
  ⟨Nat.le_refl _, rfl, [], ⟨rfl, Or.inr ⟨w.heap.size, 0, #[], rfl, Nat.le_refl _, heap_alloc_new _ _, Nat.le_refl _, by decide, rfl, rfl⟩⟩, fun t R hR => by simp at hR⟩
theorem wpList_append_cube {w : World} {ops : Array Oper} {rest : List Oper} {o : Oper} {a : Act} {Q : Exit → Act → World → Prop} (hgd : o.guard = none) (s x : Operand)
    (ho : o.op = .call { callee := .builtin .append, args := #[s, x], argTypes := #[38, 38] })
    (B g k cap : Nat) (C : List (List (List Int))) (hs : a.eval s = .slice (some ⟨g, 0, none⟩) k cap) (hF : OwnCube w B g k cap C)
    (bo g1 m1 c1 : Nat) (R : List (List Int)) (hx : a.eval x = .slice (some ⟨bo, 0, none⟩) 1 1) (hX : w.cell? ⟨bo, 0, none⟩ = some (.slice (some ⟨g1, 0, none⟩) m1 c1)) (hm1 : m1 ≤ c1) (hc1 : c1 ≤ 9223372036854775807) (hY : Hangs (fun b => B ≤ b ∧ b ≠ g) w (fun w => GridAt w (some ⟨g1, 0, none⟩) m1 R))
    (hlen : k + 1 ≤ 1048576) (hB : B ≤ w.heap.size)
    (h : ∀ g' cap' w', OwnCube w' B g' (k + 1) cap' (C ++ [R]) → Below B w w' → wpList Tryd.prog ops Q rest (a.put o.dst (.slice (some ⟨g', 0, none⟩) (k + 1) cap')) w') : wpList Tryd.prog ops Q (o :: rest) a w := by
  obtain ⟨i0, hi, hz0, hz1, hz2⟩ := info_parts Tryd.infoList
  obtain ⟨vs, h1, h2⟩ := hF.own
  refine wpList_plain hgd fun _ hK => wp_append_own2 w s x 38 ho B 55 i0 (.slice none 0 0) 1 24 Tryd.underlying38 hi hz0 hz1 hz2 rfl (by decide) _ k _ hs h1 ⟨bo, 0, none⟩ 1 1 [.slice (some ⟨g1, 0, none⟩) m1 c1] hx rfl ?_ (by intro u hu; simp at hu; subst hu; rfl) (by unfold maxLen; omega) (by omega) hB ?_
  · intro j u hj
    match j, hj with
    | 0, hj =>
      simp at hj
      subst hj
      have e2 : (Addr.mk bo 0 none).add 0 = ⟨bo, 0, none⟩ := by simp [Addr.add]
      rw [e2, hX]
  · intro v' w' hown hg hnil hwh
    have hb : Below B w w' := (Below.refl _ _).grown hg hB (fun k hk => by simp [Value.ownBlock] at hk; subst hk; exact hF.base)
    have hlv : vs.length = k := by have := h1.1; omega
    have hown2 := hown
    obtain ⟨_, h4⟩ := hown2
    rcases h4 with ⟨_, h5⟩ | ⟨g', c', cur', hv, hg2, hr⟩
    · omega
    · subst hv
      have hw := hwh g' rfl
      have tr : ∀ {Φ : World → Prop}, Hangs (fun b => B ≤ b ∧ b ≠ g) w Φ → Hangs (fun b => B ≤ b ∧ b ≠ g') w' Φ := fun {Φ} hh w2 hh2 => hh w2 fun b hb1 hlt => by
        have hne : b ≠ g' := by
          rcases hw with e | e
          · simp [Value.ownBlock] at e; omega
          · omega
        exact (hh2 b ⟨hb1.1, hne⟩ (Nat.lt_of_lt_of_le hlt hg.size)).trans (hg.block b hlt (by simp [Value.ownBlock]; omega))
      refine hK _ _ (h g' c' w' ⟨hg2, by simp [hF.len], _, hown, fun t R' hR' => ?_⟩ hb)
      by_cases htk : t < k
      · rw [List.getElem?_append_left (by rw [hF.len]; exact htk)] at hR'
        obtain ⟨ro, m3, c3, e3, q1, q2, q3, q4⟩ := h2 t R' hR'
        exact ⟨ro, m3, c3, by rw [List.getElem?_append_left (by omega)]; exact e3, q1, q2, q3, tr q4⟩
      · rw [List.getElem?_append_right (by rw [hF.len]; omega), hF.len] at hR'
        have e0 : t - k = 0 := by
          rcases Nat.eq_zero_or_pos (t - k) with e | e
          · exact e
          · rw [List.getElem?_eq_none (by simp; omega)] at hR'; cases hR'
        rw [e0] at hR'
        simp at hR'
        subst hR'
        exact ⟨some ⟨g1, 0, none⟩, m1, c1, by rw [List.getElem?_append_right (by omega), hlv, e0]; rfl, (fun h => by cases h), hm1, hc1, tr hY⟩
theorem cellList_new (w : World) (v : Value) : (w.alloc (.cells #[v] 55)).cell? ⟨w.heap.size, 0, none⟩ = some v := by
  have e := heap_alloc_new w (.cells #[v] 55)
  unfold World.cell?
  simp only [e]
  rfl
end Go.Proofs.YtoofbjpekdlfiaaDoor

/- Told: a view as the document's, of the call's own. -/
namespace Go.Proofs.YtoofbjpekdlfiaaDoor
open Go.ChangeShapes Go.WideShapes Go.ChangeAt Go.RowKit
theorem take_one {C : List (List (List Int))} {k : Nat} {R : List (List Int)} (h : C[k]? = some R) : C.take (k + 1) = C.take k ++ [R] := by
  rw [List.take_add_one, h]; rfl
end Go.Proofs.YtoofbjpekdlfiaaDoor

/- Rows, rows of rows and lists of them that came in: as they read, nothing said of what is frozen; copies of them, of the call's own. -/
namespace Go.Proofs.YtoofbjpekdlfiaaDoor
open Go.ChangeShapes Go.WideShapes Go.ChangeAt Go.RowKit
structure ArgR (w : World) (ao : Option Addr) (n ca : Nat) (A : List Int) : Prop where
  row : RowAt w ao n A
  fit : n ≤ ca
  max : ca ≤ 9223372036854775807
  nil : ao = none → ca = 0
theorem ArgR.below {w w' : World} {ao : Option Addr} {n ca : Nat} {A : List Int} (h : ArgR w ao n ca A) (hb : Below w.heap.size w w') : ArgR w' ao n ca A := ⟨h.row.below hb, h.fit, h.max, h.nil⟩
theorem Arg.raw {w : World} {ao : Option Addr} {n ca : Nat} {A : List Int} (h : Arg w ao n ca A) : ArgR w ao n ca A := ⟨h.row, h.fit, h.max, h.nil⟩
structure GridR (w : World) (ao : Option Addr) (n : Nat) (R : List (List Int)) : Prop where
  len : R.length = n
  max : n ≤ 9223372036854775807
  cells : 0 < n → ∃ b o, ao = some ⟨b, o, none⟩ ∧ ∀ t, t < n → ∃ ro m c, w.cell? ⟨b, o + t, none⟩ = some (.slice ro m c) ∧ ArgR w ro m c (rowOf R t)
theorem GridR.nil (w : World) (ao : Option Addr) : GridR w ao 0 [] := ⟨rfl, by omega, fun h => by omega⟩
theorem GridR.below {w w' : World} {ao : Option Addr} {n : Nat} {R : List (List Int)} (h : GridR w ao n R) (hb : Below w.heap.size w w') : GridR w' ao n R := by
  refine ⟨h.len, h.max, fun hn => ?_⟩
  obtain ⟨b, o, e, hc⟩ := h.cells hn
  refine ⟨b, o, e, fun t ht => ?_⟩
  obtain ⟨ro, m, c, h1, h2⟩ := hc t ht
  have hlt : b < w.heap.size := by simpa using World.block_lt_of_cell? w _ h1
  exact ⟨ro, m, c, by rw [hb.cell (by exact hlt)]; exact h1, h2.below hb⟩
theorem GridAt.raw {w : World} {ao : Option Addr} {n : Nat} {R : List (List Int)} (h : GridAt w ao n R) : GridR w ao n R := ⟨h.len, h.max, fun hn => by
  obtain ⟨b, o, e, hc⟩ := h.cells hn
  exact ⟨b, o, e, fun t ht => let ⟨ro, m, c, h1, h2⟩ := hc t ht; ⟨ro, m, c, h1, h2.raw⟩⟩⟩
structure CubeR (w : World) (ao : Option Addr) (m : Nat) (C : List (List (List Int))) : Prop where
  len : C.length = m
  max : m ≤ 9223372036854775807
  cells : 0 < m → ∃ b o, ao = some ⟨b, o, none⟩ ∧ ∀ (t : Nat) (R : List (List Int)), C[t]? = some R → ∃ ro n c, w.cell? ⟨b, o + t, none⟩ = some (.slice ro n c) ∧ (ro = none → c = 0) ∧ n ≤ c ∧ c ≤ 9223372036854775807 ∧ GridR w ro n R
theorem CubeR.nil (w : World) (ao : Option Addr) : CubeR w ao 0 [] := ⟨rfl, by omega, fun h => by omega⟩
theorem CubeR.below {w w' : World} {ao : Option Addr} {m : Nat} {C : List (List (List Int))} (h : CubeR w ao m C) (hb : Below w.heap.size w w') : CubeR w' ao m C := by
  refine ⟨h.len, h.max, fun hn => ?_⟩
  obtain ⟨b, o, e, hc⟩ := h.cells hn
  refine ⟨b, o, e, fun t R hR => ?_⟩
  obtain ⟨ro, n, c, h1, h2, h3, h4, h5⟩ := hc t R hR
  have hlt : b < w.heap.size := by simpa using World.block_lt_of_cell? w _ h1
  exact ⟨ro, n, c, by rw [hb.cell (by exact hlt)]; exact h1, h2, h3, h4, h5.below hb⟩
theorem CubeAt.raw {w : World} {ao : Option Addr} {m : Nat} {C : List (List (List Int))} (h : CubeAt w ao m C) : CubeR w ao m C := ⟨h.len, h.max, fun hn => by
  obtain ⟨b, o, e, hc⟩ := h.cells hn
  exact ⟨b, o, e, fun t R hR => let ⟨ro, n, c, h1, h2, h3, h4, h5⟩ := hc t R hR; ⟨ro, n, c, h1, h2, h3, h4, h5.raw⟩⟩⟩
set_option maxHeartbeats 800000 in
theorem fewR_any (ao : Option Addr) (n ca : Nat) (A : List Int) (lim : Nat) (li : Int) (w : World) (hli : li = lim) (hA : ArgR w ao n ca A) (hl : lim ≤ 5000) :
   Calls Tryd.prog 18 #[.slice ao n ca, .int .i64 li] w fun e w' => ∃ g n' cap, e = .returned (.slice (some ⟨g, 0, none⟩) n' cap) ∧ n' ≤ lim ∧ Fresh w' w.heap.size g n' cap (A.take lim) ∧ Below w.heap.size w w' := by
  subst hli
  have hm := hA.max
  have hf := hA.fit
  have hlen := hA.row.len
  have F0 := fresh_empty w
  have B0 : Below w.heap.size w (w.alloc (.cells #[] 54)) := (Below.refl _ _).alloc (Nat.le_refl _) _
  by_cases hgt : lim < n
  · obtain ⟨b, o, rfl, hc⟩ := hA.row.cells (by omega)
    have R := (hA.row.part 0 lim (by omega)).below B0
    rw [Nat.add_zero, List.drop_zero] at R
    clear hA hc hlen
    go_enter Tryd.func18, Tryd.ntmps18
    go_wp2_with (at_builtin; refine wpList_append_row rfl _ _ rfl w.heap.size w.heap.size 0 0 [] rfl F0 (some ⟨b, o, none⟩) lim ca (A.take lim) rfl R (fun h => by cases h) (by omega) (by simp) ?_; intro g' cap' w' F1 B1)
    rw [Nat.zero_add, List.nil_append] at *
    go_ret
    exact ⟨_, _, _, rfl, Nat.le_refl _, F1, B0.trans B1⟩
  · have R := hA.row.below B0
    have ht : A.take lim = A := List.take_of_length_le (by omega)
    rw [ht]
    have hnil := hA.nil
    clear hA ht hlen
    go_enter Tryd.func18, Tryd.ntmps18
    go_wp2_with (at_builtin; refine wpList_append_row rfl _ _ rfl w.heap.size w.heap.size 0 0 [] rfl F0 ao n ca A rfl R hnil (by omega) (by simp) ?_; intro g' cap' w' F1 B1)
    rw [Nat.zero_add, List.nil_append] at *
    go_ret
    exact ⟨_, _, _, rfl, by omega, F1, B0.trans B1⟩
/-- At most five lists of at most lim rows of at most 40 numbers. -/
def cutC (C : List (List (List Int))) (lim : Nat) : List (List (List Int)) := (C.take 5).map fun R => rowsN R lim
theorem cutC_len (C : List (List (List Int))) (lim : Nat) : (cutC C lim).length = min 5 C.length := by unfold cutC; simp
theorem cutC_snoc {C : List (List (List Int))} {k : Nat} {R : List (List Int)} (lim : Nat) (_hk : k < 5) (h : C[k]? = some R) : ((C.take (k + 1)).map fun R => rowsN R lim) = ((C.take k).map fun R => rowsN R lim) ++ [rowsN R lim] := by
  rw [take_one h]; simp
end Go.Proofs.YtoofbjpekdlfiaaDoor

/- Numbers of a model that came in, as they read; what is told of a layer. -/
namespace Go.Proofs.YtoofbjpekdlfiaaDoor
open Go.ChangeShapes Go.WideShapes Go.ChangeAt Go.RowKit
set_option maxHeartbeats 1600000 in
theorem mfewR_any (r c : Int) (ao : Option Addr) (n ca : Nat) (D : List Int) (w : World) (hD : ArgR w ao n ca D) :
   Calls Tryd.prog 17 #[matV r c ao n ca] w fun e w' => ∃ g n' cap, e = .returned (matV r c (some ⟨g, 0, none⟩) n' cap) ∧ n' ≤ 2000 ∧ Fresh w' w.heap.size g n' cap (D.take 2000) ∧ Below w.heap.size w w' := by
  have X0 := box_new w r c ao n ca
  have B0 : Below w.heap.size w (w.alloc (.cells #[.int .i64 r, .int .i64 c, .slice ao n ca] 26)) := (Below.refl _ _).alloc (Nat.le_refl _) _
  generalize hw0 : w.alloc (.cells #[.int .i64 r, .int .i64 c, .slice ao n ca] 26) = w0 at X0 B0
  have hs0 : w0.heap.size = w.heap.size + 1 := by rw [← hw0]; simp
  have X1 := box_new w0 0 0 none 0 0
  have B1 : Below w0.heap.size w0 (w0.alloc (.cells #[.int .i64 0, .int .i64 0, .slice none 0 0] 26)) := (Below.refl _ _).alloc (Nat.le_refl _) _
  generalize hw1 : w0.alloc (.cells #[.int .i64 0, .int .i64 0, .slice none 0 0] 26) = w1 at X1 B1
  replace X0 := X0.below B1
  replace B1 := below_then B0 B1
  rw [hs0] at X1
  have q2 := X0.c2
  go_enter Tryd.func17, Tryd.ntmps17
  unfold matV at *
  go_wp2_with fail
  refine (fewR_any ao n ca D 2000 2000 _ rfl (by exact hD.below B1) (by omega)).mono ?_
  rintro e w2 ⟨g2, n2, c2, rfl, l2, F2, B2⟩
  have i2 := F2.base
  have i0 := X0.lt
  have i1 := X1.lt
  replace X0 := X0.below B2
  replace X1 := X1.below B2
  replace B2 := below_then B1 B2
  clear hw0 hw1 q2
  have q0 := X0.c0
  have q1 := X0.c1
  have q2 := X0.c2
  have f2 := X0.frozen 2
  have u0 := X1.c0
  have u1 := X1.c1
  have u2 := X1.c2
  have v0 := X1.frozen 0
  have v1 := X1.frozen 1
  have v2 := X1.frozen 2
  go_wp2
  have X2 := X1.block (w' := w2.setCell ⟨w.heap.size, 2, none⟩ (.slice (some ⟨g2, 0, none⟩) n2 c2)) (Below.heap_setCell _ _ _ _ (by show w.heap.size + 1 ≠ w.heap.size; omega))
  have F3 := F2.setOther (a := ⟨w.heap.size, 2, none⟩) (by show g2 ≠ w.heap.size; omega) (.slice (some ⟨g2, 0, none⟩) n2 c2)
  have B3 := B2.setCell (p := ⟨w.heap.size, 2, none⟩) (Nat.le_refl _) (.slice (some ⟨g2, 0, none⟩) n2 c2)
  generalize w2.setCell ⟨w.heap.size, 2, none⟩ (.slice (some ⟨g2, 0, none⟩) n2 c2) = w3 at *
  refine bodyPost_ret (results_cell_row rfl _ _ (w.heap.size + 1) _ _ _ _ rfl (X2.put _ _ _ _ _) Tryd.underlying26 rfl (by kernel_rfl)) rfl ?_
  exact ⟨g2, n2, c2, rfl, l2, (F3.mono (by omega)).put (by omega) _ _ _, Below.put B3 (by omega) _ _ _⟩
/-- A layer that came in. -/
structure LyR (w : World) (x : Bk) (y : Lay) : Prop where
  f : ArgR w x.f.ao x.f.n x.f.c y.F
  q : ArgR w x.q.d.ao x.q.d.n x.q.d.c y.Q
  k : ArgR w x.k.d.ao x.k.d.n x.k.d.c y.K
  v : ArgR w x.v.d.ao x.v.d.n x.v.d.c y.V
  o : ArgR w x.o.d.ao x.o.d.n x.o.d.c y.O
  s : ArgR w x.s.ao x.s.n x.s.c y.S
  u : ArgR w x.u.d.ao x.u.d.n x.u.d.c y.U
  d : ArgR w x.d.d.ao x.d.d.n x.d.d.c y.N
theorem LyR.below {w w' : World} {x : Bk} {y : Lay} (h : LyR w x y) (hb : Below w.heap.size w w') : LyR w' x y := ⟨h.f.below hb, h.q.below hb, h.k.below hb, h.v.below hb, h.o.below hb, h.s.below hb, h.u.below hb, h.d.below hb⟩
/-- A model's numbers that came in. -/
structure WtR (w : World) (W : Wt) (bs : List Bk) (M : Mdl) : Prop where
  ok : W.Ok
  e : ArgR w W.e.d.ao W.e.d.n W.e.d.c M.E
  b : BlocksAt w W.b bs
  len : bs.length = M.Ls.length
  ls : ∀ (t : Nat) (x : Bk), bs[t]? = some x → ∃ y, M.Ls[t]? = some y ∧ LyR w x y
  l : ArgR w W.l.ao W.l.n W.l.c M.G
  o : ArgR w W.o.d.ao W.o.d.n W.o.d.c M.O
theorem WtR.below {w w' : World} {W : Wt} {bs : List Bk} {M : Mdl} (h : WtR w W bs M) (hb : Below w.heap.size w w') : WtR w' W bs M :=
  ⟨h.ok, h.e.below hb, h.b.below hb, h.len, fun t x hx => let ⟨y, h1, h2⟩ := h.ls t x hx; ⟨y, h1, h2.below hb⟩, h.l.below hb, h.o.below hb⟩
def cutL (n : Nat) (y : Lay) : Lay := ⟨y.F.take n, y.Q.take 2000, y.K.take 2000, y.V.take 2000, y.O.take 2000, y.S.take n, y.U.take 2000, y.N.take 2000⟩
/-- A layer that was told: rows of the call's own, the sides as they were. -/
structure BT (w : World) (B : Nat) (x x' : Bk) (y : Lay) : Prop where
  f : FR w B x'.f x'.f.n y.F
  q : FR w B x'.q.d x'.q.d.n y.Q
  k : FR w B x'.k.d x'.k.d.n y.K
  v : FR w B x'.v.d x'.v.d.n y.V
  o : FR w B x'.o.d x'.o.d.n y.O
  s : FR w B x'.s x'.s.n y.S
  u : FR w B x'.u.d x'.u.d.n y.U
  d : FR w B x'.d.d x'.d.d.n y.N
  qs : x'.q.r = x.q.r ∧ x'.q.c = x.q.c
  ks : x'.k.r = x.k.r ∧ x'.k.c = x.k.c
  vs : x'.v.r = x.v.r ∧ x'.v.c = x.v.c
  os : x'.o.r = x.o.r ∧ x'.o.c = x.o.c
  us : x'.u.r = x.u.r ∧ x'.u.c = x.u.c
  ds : x'.d.r = x.d.r ∧ x'.d.c = x.d.c
theorem BT.below {w w' : World} {B : Nat} {x x' : Bk} {y : Lay} (h : BT w B x x' y) (hb : Below w.heap.size w w') : BT w' B x x' y := ⟨h.f.below hb, h.q.below hb, h.k.below hb, h.v.below hb, h.o.below hb, h.s.below hb, h.u.below hb, h.d.below hb, h.qs, h.ks, h.vs, h.os, h.us, h.ds⟩
theorem BT.keep {w w' : World} {B b : Nat} {T : TypeId} {cs : Array Value} {x x' : Bk} {y : Lay} (h : BT w B x x' y) (hb : Blk w b T cs) (hT : T ≠ 54) (so : ∀ k, k ≠ b → w'.heap[k]? = w.heap[k]?) : BT w' B x x' y := ⟨h.f.keep hb hT so, h.q.keep hb hT so, h.k.keep hb hT so, h.v.keep hb hT so, h.o.keep hb hT so, h.s.keep hb hT so, h.u.keep hb hT so, h.d.keep hb hT so, h.qs, h.ks, h.vs, h.os, h.us, h.ds⟩
theorem BT.typeR {w w' : World} {B : Nat} {x x' : Bk} {y : Lay} (h : BT w B x x' y) (hk : ∀ (k : Nat) (T : TypeId) (cs : Array Value), w.heap[k]? = some (.cells cs T (0, 0)) → T ≠ 60 → w'.heap[k]? = w.heap[k]?) : BT w' B x x' y := ⟨h.f.type hk, h.q.type hk, h.k.type hk, h.v.type hk, h.o.type hk, h.s.type hk, h.u.type hk, h.d.type hk, h.qs, h.ks, h.vs, h.os, h.us, h.ds⟩
theorem BT.typeM {w w' : World} {B : Nat} {x x' : Bk} {y : Lay} (h : BT w B x x' y) (hk : ∀ (k : Nat) (T : TypeId) (cs : Array Value), w.heap[k]? = some (.cells cs T (0, 0)) → T ≠ 59 → w'.heap[k]? = w.heap[k]?) : BT w' B x x' y := ⟨h.f.typeM hk, h.q.typeM hk, h.k.typeM hk, h.v.typeM hk, h.o.typeM hk, h.s.typeM hk, h.u.typeM hk, h.d.typeM hk, h.qs, h.ks, h.vs, h.os, h.us, h.ds⟩
theorem BT.mono {w : World} {B B' : Nat} {x x' : Bk} {y : Lay} (h : BT w B x x' y) (hB : B' ≤ B) : BT w B' x x' y := ⟨h.f.mono hB, h.q.mono hB, h.k.mono hB, h.v.mono hB, h.o.mono hB, h.s.mono hB, h.u.mono hB, h.d.mono hB, h.qs, h.ks, h.vs, h.os, h.us, h.ds⟩
/-- Layers that were told, one by one. -/
structure BTs (w : World) (B n k : Nat) (bs xs : List Bk) (Ls : List Lay) : Prop where
  len : xs.length = k
  at_ : ∀ (t : Nat) (x' : Bk), xs[t]? = some x' → ∃ x y, bs[t]? = some x ∧ Ls[t]? = some y ∧ BT w B x x' (cutL n y)
theorem BTs.map {w w' : World} {B n k : Nat} {bs xs : List Bk} {Ls : List Lay} (h : BTs w B n k bs xs Ls) (f : ∀ {x x' : Bk} {y : Lay}, BT w B x x' y → BT w' B x x' y) : BTs w' B n k bs xs Ls := ⟨h.len, fun t x' hx => let ⟨x, y, h1, h2, h3⟩ := h.at_ t x' hx; ⟨x, y, h1, h2, f h3⟩⟩
theorem bts_nil (w : World) (B n : Nat) (bs : List Bk) (Ls : List Lay) : BTs w B n 0 bs [] Ls := ⟨rfl, fun t x' hx => by simp at hx⟩
theorem BTs.snoc {w : World} {B n k : Nat} {bs xs : List Bk} {Ls : List Lay} (h : BTs w B n k bs xs Ls) {x x' : Bk} {y : Lay} (h1 : bs[k]? = some x) (h2 : Ls[k]? = some y) (h3 : BT w B x x' (cutL n y)) : BTs w B n (k + 1) bs (xs ++ [x']) Ls := by
  have hl := h.len
  refine ⟨by simp [hl], fun t z hz => ?_⟩
  rcases Nat.lt_or_ge t k with ht | ht
  · rw [List.getElem?_append_left (by omega)] at hz
    exact h.at_ t z hz
  · rw [List.getElem?_append_right (by omega), hl] at hz
    have ht2 : t < k + 1 := by
      rcases Nat.lt_or_ge (t - k) 1 with q | q
      · omega
      · rw [List.getElem?_eq_none (by simpa using q)] at hz; cases hz
    obtain rfl : t = k := by omega
    simp at hz
    subst hz
    exact ⟨x, y, h1, h2, h3⟩
/-- What Told (n = 100) and Of (n = 5000) hand out. -/
structure WTold (w : World) (B n k : Nat) (W W' : Wt) (bs xs : List Bk) (M : Mdl) : Prop where
  e : FR w B W'.e.d W'.e.d.n (M.E.take 2000)
  es : W'.e.r = W.e.r ∧ W'.e.c = W.e.c
  l : FR w B W'.l W'.l.n (M.G.take n)
  o : FR w B W'.o.d W'.o.d.n (M.O.take 2000)
  os : W'.o.r = W.o.r ∧ W'.o.c = W.o.c
  b : BlocksAt w W'.b xs
  ls : BTs w B n k bs xs M.Ls
end Go.Proofs.YtoofbjpekdlfiaaDoor

/- What was told of a model reads as a model again, and its check is the same. -/
namespace Go.Proofs.YtoofbjpekdlfiaaDoor
open Go.ChangeShapes Go.WideShapes Go.ChangeAt Go.RowKit
def cutM (n k : Nat) (M : Mdl) : Mdl := ⟨M.E.take 2000, (M.Ls.take k).map (cutL n), M.G.take n, M.O.take 2000⟩
theorem FR.raw {w : World} {B : Nat} {s : Sl} {n : Nat} {A : List Int} (h : FR w B s n A) : ArgR w s.ao s.n s.c A := by
  obtain ⟨g, e1, e2, F⟩ := h
  exact ⟨by rw [e1, e2]; exact F.rowAt, by rw [e2]; exact F.fit, F.max, fun h => by rw [e1] at h; cases h⟩
theorem BT.raw {w : World} {B : Nat} {x x' : Bk} {y : Lay} (h : BT w B x x' y) : LyR w x' y :=
  ⟨h.f.raw, h.q.raw, h.k.raw, h.v.raw, h.o.raw, h.s.raw, h.u.raw, h.d.raw⟩
theorem BTs.le {w : World} {B n k : Nat} {bs xs : List Bk} {Ls : List Lay} (h : BTs w B n k bs xs Ls) : k ≤ Ls.length := by
  have hl := h.len
  by_cases h0 : k = 0
  · omega
  · obtain ⟨x, y, _, h2, _⟩ := h.at_ (k - 1) (xs[k - 1]'(by omega)) (List.getElem?_eq_getElem (by omega))
    have := (List.getElem?_eq_some_iff.1 h2).1
    omega
theorem cutLs_at {n k t : Nat} {Ls : List Lay} {y : Lay} (ht : t < k) (h : Ls[t]? = some y) : ((Ls.take k).map (cutL n))[t]? = some (cutL n y) := by
  rw [List.getElem?_map, List.getElem?_take_of_lt ht, h]; rfl
theorem mt_ok_of {m m' : Mt} (h : m.Ok) (e : m'.r = m.r ∧ m'.c = m.c) : m'.Ok := ⟨by rw [e.1]; exact h.r, by rw [e.2]; exact h.c⟩
theorem WTold.raw {w : World} {B n k : Nat} {W W' : Wt} {bs xs : List Bk} {M : Mdl} (h : WTold w B n k W W' bs xs M) (hW : W.Ok) : WtR w W' xs (cutM n k M) := by
  have hle := h.ls.le
  have hl := h.ls.len
  refine ⟨⟨mt_ok_of hW.e h.es, by have := h.l.row.max; omega, mt_ok_of hW.o h.os⟩, h.e.raw, h.b, ?_, ?_, h.l.raw, h.o.raw⟩
  · show xs.length = ((M.Ls.take k).map (cutL n)).length
    simp; omega
  · intro t x' hx
    have ht : t < k := by have := (List.getElem?_eq_some_iff.1 hx).1; omega
    obtain ⟨x, y, _, h2, h3⟩ := h.ls.at_ t x' hx
    exact ⟨cutL n y, cutLs_at ht h2, h3.raw⟩
theorem sides_congr {m m' : Mt} (e : m'.r = m.r ∧ m'.c = m.c) (h : m'.d.n = m.d.n) (R K : Int) : sidesB m' R K = sidesB m R K := by
  unfold sidesB; rw [e.1, e.2, h]
theorem fr_len {w : World} {B n : Nat} {s : Sl} {A : List Int} (h : FR w B s n A) : A.length = n := h.row.len
theorem bk_again {w1 w2 : World} {B1 B2 : Nat} {x x' x'' : Bk} {y : Lay} (h1 : BT w1 B1 x x' (cutL 100 y)) (h2 : BT w2 B2 x' x'' (cutL 5000 (cutL 100 y))) (D H : Int) : bkB D H x'' = bkB D H x' := by
  have t2 : ∀ A : List Int, ((A.take 2000).take 2000).length = (A.take 2000).length := fun A => by rw [List.take_take]; rfl
  have t1 : ∀ A : List Int, ((A.take 100).take 5000).length = (A.take 100).length := fun A => by rw [List.take_take]; rfl
  have f : x''.f.n = x'.f.n := by rw [← fr_len h2.f, ← fr_len h1.f]; exact t1 _
  have s : x''.s.n = x'.s.n := by rw [← fr_len h2.s, ← fr_len h1.s]; exact t1 _
  have q : x''.q.d.n = x'.q.d.n := by rw [← fr_len h2.q, ← fr_len h1.q]; exact t2 _
  have k : x''.k.d.n = x'.k.d.n := by rw [← fr_len h2.k, ← fr_len h1.k]; exact t2 _
  have v : x''.v.d.n = x'.v.d.n := by rw [← fr_len h2.v, ← fr_len h1.v]; exact t2 _
  have o : x''.o.d.n = x'.o.d.n := by rw [← fr_len h2.o, ← fr_len h1.o]; exact t2 _
  have u : x''.u.d.n = x'.u.d.n := by rw [← fr_len h2.u, ← fr_len h1.u]; exact t2 _
  have d : x''.d.d.n = x'.d.d.n := by rw [← fr_len h2.d, ← fr_len h1.d]; exact t2 _
  unfold bkB
  rw [f, s, sides_congr h2.qs q, sides_congr h2.ks k, sides_congr h2.vs v, sides_congr h2.os o, sides_congr h2.us u, sides_congr h2.ds d]
theorem all_of_map {α : Type} {p : α → Bool} {A B : List α} (h : A.map p = B.map p) : A.all p = B.all p := by
  have e : ∀ L : List α, L.all p = (L.map p).all id := fun L => by rw [List.all_map]; rfl
  rw [e, e, h]
theorem check_again {w1 w2 : World} {B1 B2 k : Nat} {W W' W'' : Wt} {bs xs ys : List Bk} {M : Mdl} (h1 : WTold w1 B1 100 k W W' bs xs M) (h2 : WTold w2 B2 5000 W'.b.n W' W'' xs ys (cutM 100 k M)) (V D Hd H L : Int) :
    checkN V D Hd H L W'' ys = checkN V D Hd H L W' xs := by
  have t2 : ∀ A : List Int, ((A.take 2000).take 2000).length = (A.take 2000).length := fun A => by rw [List.take_take]; rfl
  have t1 : ∀ A : List Int, ((A.take 100).take 5000).length = (A.take 100).length := fun A => by rw [List.take_take]; rfl
  have e : W''.e.d.n = W'.e.d.n := by rw [← fr_len h2.e, ← fr_len h1.e]; exact t2 _
  have o : W''.o.d.n = W'.o.d.n := by rw [← fr_len h2.o, ← fr_len h1.o]; exact t2 _
  have l : W''.l.n = W'.l.n := by rw [← fr_len h2.l, ← fr_len h1.l]; exact t1 _
  have l1 := h1.ls.len
  have l2 := h2.ls.len
  have l3 := h2.b.len
  have l4 := h1.b.len
  have b : W''.b.n = W'.b.n := by omega
  have hm : ys.map (bkB D H) = xs.map (bkB D H) := by
    apply List.ext_getElem (by simp; omega)
    intro t ht1 ht2
    have hy : ys[t]? = some (ys[t]'(by simpa using ht1)) := List.getElem?_eq_getElem _
    have hx : xs[t]? = some (xs[t]'(by simpa using ht2)) := List.getElem?_eq_getElem _
    obtain ⟨x', y2, g1, g2, g3⟩ := h2.ls.at_ t _ hy
    obtain ⟨x, y, g4, g5, g6⟩ := h1.ls.at_ t _ hx
    rw [hx] at g1
    obtain rfl := Option.some.inj g1
    have htk : t < k := by have : t < xs.length := by simpa using ht2
                           omega
    have g7 : (cutM 100 k M).Ls[t]? = some (cutL 100 y) := cutLs_at htk g5
    rw [g7] at g2
    obtain rfl := Option.some.inj g2
    rw [List.getElem_map, List.getElem_map]
    exact bk_again g6 g3 D H
  unfold checkN fitsB
  rw [sides_congr h2.es e, sides_congr h2.os o, l, b, all_of_map hm]
end Go.Proofs.YtoofbjpekdlfiaaDoor
