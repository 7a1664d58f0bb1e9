/- The document's Without, by a row. -/
import Derived.Test.YtomfkdaaimhmkaaTApp54
import Derived.Test.YtomfkdaaimhmkaaTRef2
namespace Go.Proofs.Ytomfkdaaimhmkaa
open Go.ChangeShapes Go.WideShapes Go.ChangeAt Go.RowKit Go.Maps
set_option maxRecDepth 100000 in
set_option maxHeartbeats 4000000 in
theorem without_row (w : World) (B c : Nat) (ao : Option Addr) (E : List RE) (n ca : Nat) (at' : Option Addr) (A : List Int) (h : EO 54 w B (.slice ao E.length c) E) (hl : E.length ≤ 1000) (hB : B ≤ w.heap.size) (hA : IArg w at' n ca A) (hq : ∀ e ∈ E, e.2.1.length ≤ 1000) (hn : n ≤ 1000) (hd : ∀ j k (hj : j < E.length) (hk : k < E.length), E[j].2.1 = E[k].2.1 → j = k) :
   Calls Try.prog 13 #[.slice ao E.length c, .slice at' n ca, .bool false, .int .i64 0] w fun e w' => ∃ a' c', e = .returned (.slice a' (E.filter (fun e => decide (e.2.1 ≠ A))).length c') ∧ EO 54 w' B (.slice a' (E.filter (fun e => decide (e.2.1 ≠ A))).length c') (E.filter (fun e => decide (e.2.1 ≠ A))) ∧ (∀ x, (Value.slice a' (E.filter (fun e => decide (e.2.1 ≠ A))).length c').ownBlock = some x → w.heap.size ≤ x) ∧ Below w.heap.size w w' := by
  have HH : Hid (EO 54 w B (.slice ao E.length c) E) := h
  have HA : Hid (IArg w at' n ca A) := hA
  have B0 : Below w.heap.size w (w.alloc (.cells #[] 54)) := below_alloc _ _
  have O0 : (w.alloc (.cells #[] 54)).ownsRow w.heap.size 54 2 (.slice (some ⟨w.heap.size, 0, none⟩) 0 0) 0 [] := World.ownsRow_made w #[] 0 (Nat.le_refl _) (by decide) rfl
  clear h hA
  go_enter Try.func13, Try.ntmps13
  go_wp2_with fail
  go_loopg [9, 15] E.length (fun r s9 s15 wr => ∃ (i g cc : Nat) (F : List RE), i ≤ E.length ∧ r = E.length - i ∧ s15 = .int .i64 (i : Int) ∧ F.length ≤ i ∧ s9 = .slice (some ⟨g, 0, none⟩) F.length cc ∧ Hid (F = (E.take i).filter (fun e => decide (e.2.1 ≠ A))) ∧ wr.ownsRow w.heap.size 54 2 (.slice (some ⟨g, 0, none⟩) F.length cc) F.length (flatE F) ∧ Below w.heap.size w wr)
  case atStart => exact ⟨0, w.heap.size, 0, [], by omega, by omega, rfl, Nat.le_refl _, rfl, rfl, O0, B0⟩
  case round =>
    clear O0 B0
    obtain ⟨i, g, cc, F, hi, rfl, rfl, hFl, rfl, hF, O1, BB⟩ := hrel
    by_cases hlt : i < E.length
    case neg =>
      obtain rfl : i = E.length := by omega
      have hFF : Hid (F = E.filter (fun e => decide (e.2.1 ≠ A))) := by show F = _; rw [hF.out, List.take_length]
      clear hFl
      have hmF : ∀ e ∈ F, e ∈ E := fun e he => (by rw [hFF.out] at he; exact (List.mem_filter.1 he).1)
      have hk : ∀ e ∈ F, IOwn wr B e.1 e.2.1.length e.2.1 := fun e he => (HH.out.own e ((hmF e he))).keep (fun x hx => BB.block x (World.ownsRow.lt (HH.out.own e ((hmF e he))) x hx).2)
      have HE : Hid (EO 54 wr B (.slice (some ⟨g, 0, none⟩) F.length cc) F) := ⟨ownsRow_mono O1 hB, hk, fun e he => HH.out.sm e ((hmF e he))⟩
      have HG : Hid (w.heap.size ≤ g) := (World.ownsRow.lt O1 g rfl).1
      clear O1 hk hF hmF
      go_wp2_with fail
      go_ret
      have hFE := hFF.out
      subst hFE
      exact ⟨some ⟨g, 0, none⟩, cc, rfl, HE.out, fun x hx => (by have e : g = x := Option.some.inj hx; have := HG.out; omega), BB⟩
    case pos =>
      obtain ⟨g1, rfl, hg1, hc⟩ := HH.out.cells (by omega)
      obtain ⟨k0, k1⟩ := hc i hlt
      obtain ⟨sa, sc, es, hR⟩ := HH.out.slice hlt
      rw [es] at k0
      have kk0 : wr.cell? ⟨g1, i * 2, none⟩ = some (.slice sa E[i].2.1.length sc) := by rw [BB.cell (by exact hg1)]; exact k0
      have kk1 : wr.cell? ⟨g1, i * 2 + 1, none⟩ = some (.int .i64 E[i].2.2) := by rw [BB.cell (by exact hg1)]; exact k1
      have BV : Below wr.heap.size wr (wr.alloc (.cells #[.slice sa E[i].2.1.length sc, .int .i64 E[i].2.2] 54)) := below_alloc _ _
      have BW := below_then BB BV
      have ce0 : (wr.alloc (.cells #[.slice sa E[i].2.1.length sc, .int .i64 E[i].2.2] 54)).cell? ⟨wr.heap.size, 0, none⟩ = some (.slice sa E[i].2.1.length sc) := by rw [World.cell?_alloc_at _ _ _ _ (by simp)]; rfl
      have ce1 : (wr.alloc (.cells #[.slice sa E[i].2.1.length sc, .int .i64 E[i].2.2] 54)).cell? ⟨wr.heap.size, 1, none⟩ = some (.int .i64 E[i].2.2) := by rw [World.cell?_alloc_at _ _ _ _ (by simp)]; rfl
      have OV := ownsRow_keep O1 (fun x hx => BV.block x (World.ownsRow.lt O1 x hx).2)
      have hei : Hid (E[i] = ((.slice sa E[i].2.1.length sc : Value), E[i].2.1, E[i].2.2)) := by show E[i] = _; rw [← es]
      have hss : Hid (E[i].2.1 = A → F = (E.take (i + 1)).filter (fun e => decide (e.2.1 ≠ A))) := fun ht => by
        rw [List.take_succ_eq_append_getElem hlt, List.filter_append, ← hF.out]
        simp [ht]
      have hsk : Hid (¬ E[i].2.1 = A → F ++ [((.slice sa E[i].2.1.length sc : Value), E[i].2.1, E[i].2.2)] = (E.take (i + 1)).filter (fun e => decide (e.2.1 ≠ A))) := fun ht => by
        rw [List.take_succ_eq_append_getElem hlt, List.filter_append, ← hF.out, ← hei.out]
        simp [ht]
      have CF := find13_any _ B c n ca _ at' E A (HH.out.below BW) (HA.out.below BW) hl hq hn
      have hfi : Hid (∀ r, FindN E A r → ((i : Int) = r ↔ E[i].2.1 = A)) := fun r hr => by
        rcases hr with ⟨rfl, hno⟩ | ⟨k, rfl, hk, ek⟩
        · exact ⟨fun h => by omega, fun h => absurd h (hno _ (List.getElem_mem hlt))⟩
        · exact ⟨fun h => (by have e : i = k := (by omega); subst e; exact ek), fun h => (by have := hd i k hlt hk (h.trans ek.symm); omega)⟩
      have hzv : (wr.alloc (.cells #[.slice sa E[i].2.1.length sc, .int .i64 E[i].2.2] 54)).heap.size = wr.heap.size + 1 := by simp
      have hF1 : F.length ≤ 100000 := by omega
      clear hc k0 k1 es hR hF hei O1 BV
      generalize E[i].2.1 = q at *
      generalize E[i].2.2 = y at *
      generalize hwv : wr.alloc (.cells #[.slice sa q.length sc, .int .i64 y] 54) = wv at *
      by_cases ht : q = A
      · have HS : Hid (F = (E.take (i + 1)).filter (fun e => decide (e.2.1 ≠ A))) := hss.out ht
        have HT : Hid (q = A) := ht
        clear ht
        clear hss hsk
        go_wp2_with (go_at_call 12; refine CF.mono ?_; clear CF; rintro e w3 ⟨r, rfl, hr, B3⟩; have hir := (hfi.out r hr).2 HT.out; have BX := below_then BW B3; have OX := ownsRow_keep OV (fun x hx => B3.block x (World.ownsRow.lt OV x hx).2); have ce3 : w3.cell? ⟨wr.heap.size, 0, none⟩ = some (.slice sa q.length sc) := (by rw [B3.cell (by rw [hzv]; exact Nat.lt_succ_self _)]; exact ce0); have ce4 : w3.cell? ⟨wr.heap.size, 1, none⟩ = some (.int .i64 y) := (by rw [B3.cell (by rw [hzv]; exact Nat.lt_succ_self _)]; exact ce1); subst hir; clear hr)
        go_roundg (E.length - (i + 1))
        case measure => omega
        case rel => exact ⟨i + 1, g, cc, F, by omega, rfl, by go_num, by omega, rfl, HS, OX, BX⟩
      · have HS : Hid (F ++ [((.slice sa q.length sc : Value), q, y)] = (E.take (i + 1)).filter (fun e => decide (e.2.1 ≠ A))) := hsk.out ht
        have HT : Hid (¬ q = A) := ht
        clear ht
        clear hss hsk
        go_wp2_with (first
          | (go_at_call 12; refine CF.mono ?_; clear CF; rintro e w3 ⟨r, rfl, hr, B3⟩; have hir := (hfi.out r hr).1; have BX := below_then BW B3; have OX := ownsRow_keep OV (fun x hx => B3.block x (World.ownsRow.lt OV x hx).2); have ce3 : w3.cell? ⟨wr.heap.size, 0, none⟩ = some (.slice sa q.length sc) := (by rw [B3.cell (by rw [hzv]; exact Nat.lt_succ_self _)]; exact ce0); have ce4 : w3.cell? ⟨wr.heap.size, 1, none⟩ = some (.int .i64 y) := (by rw [B3.cell (by rw [hzv]; exact Nat.lt_succ_self _)]; exact ce1); replace hir : ¬ (i : Int) = r := fun h => HT.out (hir h); clear hr; have BY := below_alloc w3 (.cells #[.slice sa q.length sc, .int .i64 y] 54); have OY := ownsRow_keep OX (fun x hx => BY.block x (World.ownsRow.lt OX x hx).2); have cy0 : (w3.alloc (.cells #[.slice sa q.length sc, .int .i64 y] 54)).cell? ⟨w3.heap.size, 0, none⟩ = some (.slice sa q.length sc) := (by rw [World.cell?_alloc_at _ _ _ _ (by simp)]; rfl); have cy1 : (w3.alloc (.cells #[.slice sa q.length sc, .int .i64 y] 54)).cell? ⟨w3.heap.size, 1, none⟩ = some (.int .i64 y) := (by rw [World.cell?_alloc_at _ _ _ _ (by simp)]; rfl); have zy : w.heap.size ≤ (w3.alloc (.cells #[.slice sa q.length sc, .int .i64 y] 54)).heap.size := Nat.le_trans BX.size BY.size)
          | (at_builtin; refine wp_app54 rfl _ _ rfl (.slice (some ⟨g, 0, none⟩) F.length cc) F (.slice sa q.length sc, q, y) w.heap.size rfl OY w3.heap.size rfl cy0 cy1 rfl hF1 zy ?_; intro g6 c6 w6 O6 B6 K6))
        have B7 : Below w.heap.size w w6 := (BX.trans (BY.mono BX.size)).trans B6
        have el5 : (F ++ [((.slice sa q.length sc : Value), q, y)]).length = F.length + 1 := by simp
        go_roundg (E.length - (i + 1))
        case measure => omega
        case rel => exact ⟨i + 1, g6, c6, F ++ [(.slice sa q.length sc, q, y)], by omega, rfl, by go_num, by rw [el5]; omega, by rw [el5], HS, by rw [el5]; exact O6, B7⟩
end Go.Proofs.Ytomfkdaaimhmkaa
