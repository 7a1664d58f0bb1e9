/- The document's Put of a row that is there: its value is the new one. -/
import Derived.Test.YtomfkdaaimhmkaaTRef6
namespace Go.Proofs.Ytomfkdaaimhmkaa
open Go.ChangeShapes Go.WideShapes Go.ChangeAt Go.RowKit Go.Maps
set_option maxRecDepth 100000 in
set_option maxHeartbeats 4000000 in
theorem put13_there (w : World) (B c n ca k : Nat) (ao at' : Option Addr) (E : List RE) (A : List Int) (v : Int) (h : EO 54 w B (.slice ao E.length c) E) (hA : IArg w at' n ca A) (hl : E.length ≤ 1000) (hB : B ≤ w.heap.size) (hq : ∀ e ∈ E, e.2.1.length ≤ 1000) (h1 : 1 ≤ n) (h2 : n ≤ 128) (hk : k < E.length) (he : E[k].2.1 = A) (hd : ∀ j k (hj : j < E.length) (hk : k < E.length), E[j].2.1 = E[k].2.1 → j = k) :
   Calls Try.prog 10 #[.slice ao E.length c, .slice at' n ca, .int .i64 v] w fun e w' => ∃ a' c' cv, e = .returned (.tuple #[.slice a' E.length c', .bool false, .int .i64 0]) ∧ EO 54 w' B (.slice a' E.length c') (E.set k (cv, A, v)) ∧ (∀ x, (Value.slice a' E.length c').ownBlock = some x ∨ cv.ownBlock = some x → w.heap.size ≤ x) ∧ Below w.heap.size w w' := by
  obtain ⟨i0, hi0, hz0, hz1, hz2⟩ := info_parts Try.infoInt
  obtain ⟨j0, hj0, hy0, hy1, hy2⟩ := info_parts Try.infoEnt2
  obtain ⟨b, o, rfl, _⟩ := hA.row.cells (by omega)
  have hfit := hA.fit
  have hcm := hA.max
  have HH : Hid (EO 54 w B (.slice ao E.length c) E) := h
  have HA : Hid (IArg w (some ⟨b, o, none⟩) n ca A) := hA
  have hsm : Hid (Sm A) := hA.row.small
  have O0 : (w.alloc (.cells #[] 3)).ownsRow w.heap.size 3 1 (.slice (some ⟨w.heap.size, 0, none⟩) 0 0) 0 [] := World.ownsRow_made w #[] 0 (Nat.le_refl _) (by decide) rfl
  have hvals := (hA.row.below (below_alloc w (.cells #[] 3))).vals
  have hlm : (A.map (Value.int .i64)).length = n * 1 := by rw [List.length_map, hA.row.len, Nat.mul_one]
  have HP1 : Hid (∀ v1 w6, w6.ownsRow w.heap.size 3 1 v1 (0 + n) ([] ++ A.map (Value.int .i64)) → (w.alloc (.cells #[] 3)).grownBy w6 (some w.heap.size) → ∃ g1 c1, IOwn w6 w.heap.size (.slice (some ⟨g1, 0, none⟩) n c1) n A ∧ Below w.heap.size w w6 ∧ v1 = .slice (some ⟨g1, 0, none⟩) n c1) := fun v1 w6 O1 G1 => by
    rw [Nat.zero_add, List.nil_append] at O1
    obtain ⟨g1, c1, rfl⟩ : ∃ g1 c1, v1 = .slice (some ⟨g1, 0, none⟩) n c1 := by
      rcases O1.2 with ⟨_, h3⟩ | ⟨g, cap, cur, hv, _⟩
      · omega
      · exact ⟨_, _, hv⟩
    exact ⟨g1, c1, O1, (below_alloc w (.cells #[] 3)).trans ((Below.refl _ _).grown G1 (by simp) (fun k hk => (World.ownsRow.lt O0 k hk).1)), rfl⟩
  obtain ⟨g0, hg0, hgl, hcl⟩ := h.cells (by omega)
  subst hg0
  have HPE : Hid (∀ W, Below w.heap.size w W → ∀ j u, (flatE E)[j]? = some u → (W.alloc (.cells #[] 54)).cell? ((⟨g0, 0, none⟩ : Addr).add j) = some u) := fun W hW j u hj => by
    have hc := World.ownsRow.cells (HH.out.below hW).row (g := g0) rfl j u hj
    have e2 : (Addr.mk g0 0 none).add j = ⟨g0, j, none⟩ := by simp [Addr.add]; intro h; exact h.symm
    rw [e2] at hc ⊢
    rw [World.cell?_alloc_lt _ _ ⟨g0, j, none⟩ (by have := hW.size; show g0 < _; omega)]
    exact hc
  have hone : ∀ u ∈ flatE E, u.oneCell' = true := flatE_one E (fun e he => by obtain ⟨a, c, e1, _⟩ := (HH.out.own e he).arg (HH.out.sm e he); rw [e1]; rfl)
  have hfl : (flatE E).length = E.length * 2 := flatE_len E
  have hfk : Hid (∀ r, FindN E A r → r = (k : Int)) := fun r hr => by
    rcases hr with ⟨rfl, hno⟩ | ⟨k', rfl, hk', e'⟩
    · exact absurd he (hno _ (List.getElem_mem hk))
    · have := hd k k' hk hk' (he.trans e'.symm); omega
  have HPC : Hid (∀ W g1 c1, Below w.heap.size w W → IOwn W w.heap.size (.slice (some ⟨g1, 0, none⟩) n c1) n A → Calls Try.prog 12 #[.slice (some ⟨g0, 0, none⟩) E.length c, .slice (some ⟨b, o, none⟩) n ca] (W.alloc (.cells #[.slice (some ⟨g1, 0, none⟩) n c1, .int .i64 v] 54)) fun e w' => ∃ r : Int, e = .returned (.int .i64 r) ∧ FindN E A r ∧ Below (W.alloc (.cells #[.slice (some ⟨g1, 0, none⟩) n c1, .int .i64 v] 54)).heap.size (W.alloc (.cells #[.slice (some ⟨g1, 0, none⟩) n c1, .int .i64 v] 54)) w') := fun W g1 c1 hW _ => find13_any _ B c n ca _ _ E A (HH.out.below (below_then hW (below_alloc W _))) (HA.out.below (below_then hW (below_alloc W _))) hl hq (by omega)
  have HP3 : Hid (∀ w4 v6 w6, w6.ownsRow w4.heap.size 54 2 v6 (0 + E.length) ([] ++ flatE E) → (w4.alloc (.cells #[] 54)).grownBy w6 (some w4.heap.size) → ∃ g6 c6, w6.ownsRow w4.heap.size 54 2 (.slice (some ⟨g6, 0, none⟩) E.length c6) E.length (flatE E) ∧ Below w4.heap.size w4 w6 ∧ w6.cell? ⟨g6, k * 2, none⟩ = some E[k].1 ∧ w6.cell? ⟨g6, k * 2 + 1, none⟩ = some (.int .i64 E[k].2.2) ∧ w6.frozen? ⟨g6, k * 2, none⟩ = false ∧ w6.frozen? ⟨g6, k * 2 + 1, none⟩ = false ∧ v6 = .slice (some ⟨g6, 0, none⟩) E.length c6) := fun w4 v6 w6 O6 G6 => by
    rw [Nat.zero_add, List.nil_append] at O6
    obtain ⟨g6, c6, rfl⟩ : ∃ g6 c6, v6 = .slice (some ⟨g6, 0, none⟩) E.length c6 := by
      rcases O6.2 with ⟨_, h3⟩ | ⟨g, cap, cur, hv, _⟩
      · omega
      · exact ⟨_, _, hv⟩
    have hf := flatE_at E k hk
    have c0 := World.ownsRow.cells O6 (g := g6) rfl (k * 2) _ hf.1
    have c1 := World.ownsRow.cells O6 (g := g6) rfl (k * 2 + 1) _ hf.2
    have e2 : (Addr.mk g6 0 none).add (k * 2) = ⟨g6, k * 2, none⟩ := by simp [Addr.add]; intro h; exact h.symm
    have e3 : (Addr.mk g6 0 none).add (k * 2 + 1) = ⟨g6, k * 2 + 1, none⟩ := by simp [Addr.add]
    rw [e2] at c0
    rw [e3] at c1
    have fz : ∀ j, w6.frozen? ⟨g6, j, none⟩ = false := fun j => by
      rcases O6.2 with ⟨h0, _⟩ | ⟨g', cap, cur, hv, hb, hh, _⟩
      · cases h0
      · injection hv with e1 _ _
        injection e1 with e1
        injection e1 with e1 _ _
        subst e1
        simp [World.frozen?, hh]
    exact ⟨g6, c6, O6, (below_alloc w4 (.cells #[] 54)).trans ((Below.refl _ _).grown G6 (by simp) (fun k hk => by injection hk with hk; rw [← hk]; exact Nat.le_refl _)), c0, c1, fz _, fz _, rfl⟩
  clear h hA hcl he hd
  go_enter Try.func10, Try.ntmps10
  go_wp2_with (first
    | (at_builtin; refine wpList_append_own _ rfl _ _ 23 rfl w.heap.size 3 i0 (.int .i64 0) 1 8 Try.underlying23 hi0 hz0 hz1 hz2 rfl (by decide) _ 0 [] rfl O0 ⟨b, o, none⟩ n ca (A.map (Value.int .i64)) rfl hlm hvals (ints_oneCell _ _) (by unfold maxLen; omega) (by omega) (by simp) ?_; intro v1 w2 O1 G1 N1; obtain ⟨g1, c1, O2, B2, rfl⟩ := HP1.out v1 w2 O1 G1; clear O1 G1 N1; have CF := HPC.out w2 g1 c1 B2 O2; have BV := below_alloc w2 (.cells #[.slice (some ⟨g1, 0, none⟩) n c1, .int .i64 v] 54); have cm0 : (w2.alloc (.cells #[.slice (some ⟨g1, 0, none⟩) n c1, .int .i64 v] 54)).cell? ⟨w2.heap.size, 0, none⟩ = some (.slice (some ⟨g1, 0, none⟩) n c1) := (by rw [World.cell?_alloc_at _ _ _ _ (by simp)]; rfl); have cm1 : (w2.alloc (.cells #[.slice (some ⟨g1, 0, none⟩) n c1, .int .i64 v] 54)).cell? ⟨w2.heap.size, 1, none⟩ = some (.int .i64 v) := (by rw [World.cell?_alloc_at _ _ _ _ (by simp)]; rfl))
    | (go_at_call 12; refine CF.mono ?_; clear CF; rintro e w4 ⟨r, rfl, hr, B4⟩; have hrk := hfk.out r hr; subst hrk; clear hr; have B24 := below_then BV B4; have BW4 := below_then B2 B24; have hv4 := HPE.out w4 BW4; have z24 : w2.heap.size + 1 ≤ w4.heap.size := (by have := B4.size; simpa using this); have hz2 : w2.heap.size < (w2.alloc (.cells #[.slice (some ⟨g1, 0, none⟩) n c1, .int .i64 v] 54)).heap.size := (by simp); have cn0 : w4.cell? ⟨w2.heap.size, 0, none⟩ = some (.slice (some ⟨g1, 0, none⟩) n c1) := (by rw [B4.cell (by exact hz2)]; exact cm0); have cn1 : w4.cell? ⟨w2.heap.size, 1, none⟩ = some (.int .i64 v) := (by rw [B4.cell (by exact hz2)]; exact cm1); have O4 : (w4.alloc (.cells #[] 54)).ownsRow w4.heap.size 54 2 (.slice (some ⟨w4.heap.size, 0, none⟩) 0 0) 0 [] := World.ownsRow_made w4 #[] 0 (Nat.le_refl _) (by decide) rfl; clear cm0 cm1)
    | (at_builtin; refine wpList_append_own _ rfl _ _ 29 rfl w4.heap.size 54 j0 (.agg #[.slice none 0 0, .int .i64 0]) 2 32 Try.underlying29 hj0 hy0 hy1 hy2 rfl (by decide) _ 0 [] rfl O4 ⟨g0, 0, none⟩ E.length c (flatE E) rfl hfl hv4 hone (by unfold maxLen; omega) (by omega) (by simp) ?_; intro v6 w6 O6 G6 N6; obtain ⟨g6, c6, P6, B6, d0, d1, d2, d3, rfl⟩ := HP3.out w4 v6 w6 O6 G6; clear O6 G6 N6; have cp0 : w6.cell? ⟨w2.heap.size, 0, none⟩ = some (.slice (some ⟨g1, 0, none⟩) n c1) := (by rw [B6.cell (show w2.heap.size < w4.heap.size by omega)]; exact cn0); have cp1 : w6.cell? ⟨w2.heap.size, 1, none⟩ = some (.int .i64 v) := (by rw [B6.cell (show w2.heap.size < w4.heap.size by omega)]; exact cn1)))
  go_ret3
  have hg1 : w.heap.size ≤ g1 ∧ g1 < w2.heap.size := World.ownsRow.lt O2 g1 rfl
  have hg6 : w4.heap.size ≤ g6 := (World.ownsRow.lt P6 g6 rfl).1
  have hzw := BW4.size
  have BF : Below w.heap.size w6 ((w6.setCell ⟨g6, k * 2, none⟩ (.slice (some ⟨g1, 0, none⟩) n c1)).setCell ⟨g6, k * 2 + 1, none⟩ (.int .i64 v)) := ((Below.refl _ _).setCell (by show w.heap.size ≤ g6; omega) _).setCell (by show w.heap.size ≤ g6; omega) _
  have BT := (BW4.trans (B6.mono hzw)).trans BF
  have kp : ∀ x, x < w4.heap.size → ((w6.setCell ⟨g6, k * 2, none⟩ (.slice (some ⟨g1, 0, none⟩) n c1)).setCell ⟨g6, k * 2 + 1, none⟩ (.int .i64 v)).heap[x]? = w4.heap[x]? := fun x hx => by
    rw [Below.heap_setCell _ _ _ x (show x ≠ g6 by omega), Below.heap_setCell _ _ _ x (show x ≠ g6 by omega)]
    exact B6.block x hx
  have hal := HA.out.row.len
  refine ⟨some ⟨g6, 0, none⟩, c6, .slice (some ⟨g1, 0, none⟩) n c1, rfl, ⟨?_, fun e hem => ?_, fun e hem => ?_⟩, fun x hx => ?_, BT⟩
  · rw [List.length_set]
    exact ownsRow_mono (ownsRow_set2 P6 hk (.slice (some ⟨g1, 0, none⟩) n c1, A, v)) (by omega)
  · rcases List.mem_or_eq_of_mem_set hem with a | a
    · exact (HH.out.own e a).keep (fun x hx => BT.block x (World.ownsRow.lt (HH.out.own e a) x hx).2)
    · rw [a]
      show IOwn _ B (.slice (some ⟨g1, 0, none⟩) n c1) A.length A
      rw [hal]
      exact ownsRow_mono (O2.keep (fun x hx => (kp x (by have := (World.ownsRow.lt O2 x hx).2; omega)).trans (B24.block x (World.ownsRow.lt O2 x hx).2))) hB
  · rcases List.mem_or_eq_of_mem_set hem with a | a
    · exact HH.out.sm e a
    · rw [a]; exact hsm.out
  · rcases hx with a | a
    · have e : g6 = x := Option.some.inj a; omega
    · have e : g1 = x := Option.some.inj a; omega
end Go.Proofs.Ytomfkdaaimhmkaa
