/- The statements' told: the program's rows as the document's. -/
import Derived.Test.YtomfkdaaimhmkaaTAll2
namespace Go.Proofs.Ytomfkdaaimhmkaa
open Go.ChangeShapes Go.WideShapes Go.ChangeAt Go.RowKit Go.Maps
/-- v is a row of entries of type T, with rows of its own. -/
structure EO (T : TypeId) (w : World) (B : Nat) (v : Value) (E : List RE) : Prop where
  row : w.ownsRow B T 2 v E.length (flatE E)
  own : ∀ e ∈ E, IOwn w B e.1 e.2.1.length e.2.1
  sm : ∀ e ∈ E, Sm e.2.1
theorem EO.below {T : TypeId} {w w' : World} {B : Nat} {v : Value} {E : List RE} (h : EO T w B v E) (hb : Below w.heap.size w w') : EO T w' B v E :=
  ⟨ownsRow_keep h.row (fun x hx => hb.block x (World.ownsRow.lt h.row x hx).2), fun e he => (h.own e he).keep (fun x hx => hb.block x (World.ownsRow.lt (h.own e he) x hx).2), h.sm⟩
theorem EOwn.eo {w : World} {B : Nat} {v : Value} {E : List RE} (h : EOwn w B v E) : EO 59 w B v E := ⟨h.row, h.own, h.sm⟩
theorem flatE_at : ∀ (E : List RE) (t : Nat) (h : t < E.length), (flatE E)[t * 2]? = some E[t].1 ∧ (flatE E)[t * 2 + 1]? = some (.int .i64 E[t].2.2)
  | [], t, h => absurd h (by simp)
  | e :: E, 0, _ => ⟨rfl, rfl⟩
  | e :: E, t + 1, h => by
    have := flatE_at E t (by simpa using h)
    have e1 : flatE (e :: E) = e.1 :: .int .i64 e.2.2 :: flatE E := rfl
    rw [e1, show (t + 1) * 2 = t * 2 + 1 + 1 by omega]
    exact this
theorem EO.cells {T : TypeId} {w : World} {B : Nat} {ao : Option Addr} {c : Nat} {E : List RE} (h : EO T w B (.slice ao E.length c) E) (hn : 0 < E.length) : ∃ g, ao = some ⟨g, 0, none⟩ ∧ g < w.heap.size ∧ ∀ t (ht : t < E.length), w.cell? ⟨g, t * 2, none⟩ = some E[t].1 ∧ w.cell? ⟨g, t * 2 + 1, none⟩ = some (.int .i64 E[t].2.2) := by
  rcases h.row.2 with ⟨_, e⟩ | ⟨g, cap, cur, hv, r⟩
  · omega
  · injection hv with e1 e2 e3
    subst e1
    refine ⟨g, rfl, (World.ownsRow.lt h.row g rfl).2, fun t ht => ?_⟩
    have hf := flatE_at E t ht
    have c0 := World.ownsRow.cells h.row (g := g) rfl (t * 2) _ hf.1
    have c1 := World.ownsRow.cells h.row (g := g) rfl (t * 2 + 1) _ hf.2
    have e2 : (Addr.mk g 0 none).add (t * 2) = ⟨g, t * 2, none⟩ := by simp [Addr.add]; intro h; exact h.symm
    have e3 : (Addr.mk g 0 none).add (t * 2 + 1) = ⟨g, t * 2 + 1, none⟩ := by simp [Addr.add]
    rw [e2] at c0
    rw [e3] at c1
    exact ⟨c0, c1⟩
theorem EO.slice {T : TypeId} {w : World} {B : Nat} {v : Value} {E : List RE} (h : EO T w B v E) {t : Nat} (ht : t < E.length) : ∃ a c, E[t].1 = .slice a E[t].2.1.length c ∧ IArg w a E[t].2.1.length c E[t].2.1 := (h.own _ (List.getElem_mem ht)).arg (h.sm _ (List.getElem_mem ht))
theorem Try.infoEnt2 : (Try.prog.info? 54).map (fun i => (i.zero, i.size, i.bytes)) = some (some (.agg #[.slice none 0 0, .int .i64 0]), 2, 32) := by kernel_rfl
set_option maxRecDepth 100000 in
set_option maxHeartbeats 2000000 in
theorem told_any (w : World) (B c : Nat) (ao : Option Addr) (E : List RE) (h : EO 59 w B (.slice ao E.length c) E) (hl : E.length ≤ 1000) (hB : B ≤ w.heap.size) :
   Calls Try.prog 19 #[.slice ao E.length c] w fun e w' => ∃ a c', e = .returned (.slice a E.length c') ∧ EO 54 w' B (.slice a E.length c') E ∧ Below w.heap.size w w' := by
  obtain ⟨i0, hi0, hz0, hz1, hz2⟩ := info_parts Try.infoEnt2
  have HH : Hid (EO 59 w B (.slice ao E.length c) E) := h
  have B0 : Below w.heap.size w (w.alloc (.cells #[] 54)) := below_alloc _ _
  have O0 : (w.alloc (.cells #[] 54)).ownsRow w.heap.size 54 2 (.slice (some ⟨w.heap.size, 0, none⟩) 0 0) 0 [] := World.ownsRow_made w #[] 0 (Nat.le_refl _) (by decide) rfl
  clear h
  go_enter Try.func19, Try.ntmps19
  go_wp2_with fail
  go_loopg [3, 9] E.length (fun r s3 s9 wr => ∃ (i g cc : Nat), i ≤ E.length ∧ r = E.length - i ∧ s9 = .int .i64 (i : Int) ∧ s3 = .slice (some ⟨g, 0, none⟩) i cc ∧ wr.ownsRow w.heap.size 54 2 (.slice (some ⟨g, 0, none⟩) i cc) i (flatE (E.take i)) ∧ Below w.heap.size w wr)
  case atStart => exact ⟨0, w.heap.size, 0, by omega, by omega, rfl, rfl, O0, B0⟩
  case round =>
    obtain ⟨i, g, cc, hi, rfl, rfl, rfl, O1, B1⟩ := hrel
    by_cases hlt : i < E.length
    · obtain ⟨g1, rfl, hg1, hc⟩ := HH.out.cells (by omega)
      obtain ⟨k0, k1⟩ := hc i hlt
      obtain ⟨sa, sc, es, _⟩ := HH.out.slice hlt
      rw [es] at k0
      have kk0 : wr.cell? ⟨g1, i * 2, none⟩ = some (.slice sa E[i].2.1.length sc) := by rw [B1.cell (by exact hg1)]; exact k0
      have kk1 : wr.cell? ⟨g1, i * 2 + 1, none⟩ = some (.int .i64 E[i].2.2) := by rw [B1.cell (by exact hg1)]; exact k1
      clear hc k0 k1
      obtain ⟨WA, hWA⟩ : ∃ WA, WA = (wr.alloc (.cells #[.slice sa E[i].2.1.length sc, .int .i64 E[i].2.2] 59)).alloc (.cells #[.slice sa E[i].2.1.length sc, .int .i64 E[i].2.2] 54) := ⟨_, rfl⟩
      have BA : Below wr.heap.size wr WA := by rw [hWA]; exact (below_alloc wr _).alloc (by simp) _
      have OA := ownsRow_keep O1 (fun x hx => BA.block x (World.ownsRow.lt O1 x hx).2)
      have hx : ∀ j u, ([.slice sa E[i].2.1.length sc, .int .i64 E[i].2.2] : List Value)[j]? = some u → WA.cell? ((⟨wr.heap.size + 1, 0, none⟩ : Addr).add j) = some u := fun j u hj => by
        rw [hWA]
        match j, hj with
        | 0, hj =>
          simp at hj; subst hj
          have e2 : (Addr.mk (wr.heap.size + 1) 0 none).add 0 = ⟨wr.heap.size + 1, 0, none⟩ := by simp [Addr.add]
          rw [e2, World.cell?_alloc_at _ _ _ _ (by simp)]; rfl
        | 1, hj =>
          simp at hj; subst hj
          have e2 : (Addr.mk (wr.heap.size + 1) 0 none).add 1 = ⟨wr.heap.size + 1, 1, none⟩ := by simp [Addr.add]
          rw [e2, World.cell?_alloc_at _ _ _ _ (by simp)]; rfl
      have hbw := BA.size
      have hww := B1.size
      rw [hWA] at OA hx hbw
      have BA' : Hid (Below wr.heap.size wr ((wr.alloc (.cells #[.slice sa E[i].2.1.length sc, .int .i64 E[i].2.2] 59)).alloc (.cells #[.slice sa E[i].2.1.length sc, .int .i64 E[i].2.2] 54))) := hWA ▸ BA
      have es' : Hid (E[i].1 = .slice sa E[i].2.1.length sc) := es
      clear hWA BA O1 es
      go_wp2_with (at_builtin; refine wpList_append_own _ rfl _ _ 29 rfl w.heap.size 54 i0 (.agg #[.slice none 0 0, .int .i64 0]) 2 32 Try.underlying29 hi0 hz0 hz1 hz2 rfl (by decide) _ i _ rfl OA ⟨wr.heap.size + 1, 0, none⟩ 1 1 [.slice sa E[i].2.1.length sc, .int .i64 E[i].2.2] rfl rfl hx (fun u hu => by simp only [List.mem_cons, List.not_mem_nil, or_false] at hu; rcases hu with rfl | rfl <;> rfl) (by unfold maxLen; omega) (by omega) (by omega) ?_; intro v' w' O2 G2 N2)
      obtain ⟨g', c', rfl⟩ : ∃ g' c', v' = .slice (some ⟨g', 0, none⟩) (i + 1) c' := by
        rcases O2.2 with ⟨_, h3⟩ | ⟨g, cap, cur, hv, _⟩
        · omega
        · exact ⟨_, _, hv⟩
      have et : flatE (E.take (i + 1)) = flatE (E.take i) ++ [.slice sa E[i].2.1.length sc, .int .i64 E[i].2.2] := by
        rw [List.take_succ_eq_append_getElem hlt, flatE_snoc, es'.out]
      have B2 : Below w.heap.size w w' := (B1.trans (BA'.out.mono (by omega))).grown G2 (by omega) (fun k hk => (World.ownsRow.lt OA k hk).1)
      go_roundg (E.length - (i + 1))
      case measure => omega
      case rel => exact ⟨i + 1, g', c', by omega, rfl, by go_num, rfl, by rw [et]; exact O2, B2⟩
    · obtain rfl : i = E.length := by omega
      go_wp2_with fail
      go_ret
      rw [List.take_length] at O1
      have hk : ∀ e ∈ E, IOwn wr B e.1 e.2.1.length e.2.1 := fun e he => (HH.out.own e he).keep (fun x hx => B1.block x (World.ownsRow.lt (HH.out.own e he) x hx).2)
      exact ⟨_, _, rfl, ⟨ownsRow_mono O1 hB, hk, HH.out.sm⟩, B1⟩
end Go.Proofs.Ytomfkdaaimhmkaa
