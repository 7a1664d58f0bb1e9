/- The document's Put of a row that isn't there: it stands ahead of the first row that it comes ahead of. -/
import Derived.Test.YtomfkdaaimhmkaaTRef6
namespace Go.Proofs.Ytomfkdaaimhmkaa
open Go.ChangeShapes Go.WideShapes Go.ChangeAt Go.RowKit Go.Maps
theorem run_neq_nil13 (w : World) (t e : TypeId) (a : Option Addr) (l c : Nat) (h : Try.prog.underlying t = some (.slice e)) : (binOp .neq t (.slice a l c) (.slice none 0 0)).run Try.prog w = .ok (.bool !a.isNone) w := by
  simp [binOp, run_equal_slice_nil w t e a l c h]
theorem cell2_0 {w : World} {b : Nat} {x y : Value} {T : TypeId} (h : w.heap[b]? = some (.cells #[x, y] T (0, 0))) : w.cell? ⟨b, 0, none⟩ = some x := by simp [World.cell?, h]
theorem cell2_1 {w : World} {b : Nat} {x y : Value} {T : TypeId} (h : w.heap[b]? = some (.cells #[x, y] T (0, 0))) : w.cell? ⟨b, 1, none⟩ = some y := by simp [World.cell?, h]
theorem frz2 {w : World} {b : Nat} {x y : Value} {T : TypeId} (h : w.heap[b]? = some (.cells #[x, y] T (0, 0))) (j : Nat) : w.frozen? ⟨b, j, none⟩ = false := by simp [World.frozen?, h]
theorem set2_same {w : World} {b : Nat} {x y x' y' : Value} {T : TypeId} (h : w.heap[b]? = some (.cells #[x, y] T (0, 0))) : ((w.setCell ⟨b, 0, none⟩ x').setCell ⟨b, 1, none⟩ y').heap[b]? = some (.cells #[x', y'] T (0, 0)) := by simp [World.setCell, Array.getElem?_modify, h]
theorem set2_other {w : World} {b k : Nat} {x' y' : Value} (h : k ≠ b) : ((w.setCell ⟨b, 0, none⟩ x').setCell ⟨b, 1, none⟩ y').heap[k]? = w.heap[k]? := by rw [Below.heap_setCell _ _ _ k h, Below.heap_setCell _ _ _ k h]
/-- How far the new row has come: it waits, or stands at p. -/
def Ins (E F : List RE) (mine : RE) (i : Nat) (p : Option Nat) : Prop := match p with
  | none => F = E.take i ∧ ∀ e ∈ E.take i, lessL mine.2.1 e.2.1 = false
  | some p => ∃ hp : p < i, F = E.take p ++ [mine] ++ (E.take i).drop p ∧ (∀ e ∈ E.take p, lessL mine.2.1 e.2.1 = false) ∧ ∃ h : p < E.length, lessL mine.2.1 E[p].2.1 = true
def mineC (p : Option Nat) (x : Value) : Value := match p with | none => x | some _ => .slice none 0 0
theorem Ins.wait {E : List RE} {F : List RE} {mine : RE} {i : Nat} (h : Ins E F mine i none) (hi : i < E.length) (hn : lessL mine.2.1 E[i].2.1 = false) : Ins E (F ++ [E[i]]) mine (i + 1) none := by
  refine ⟨by rw [List.take_succ_eq_append_getElem hi, h.1], fun e he => ?_⟩
  rw [List.take_succ_eq_append_getElem hi, List.mem_append, List.mem_singleton] at he
  rcases he with a | a
  · exact h.2 e a
  · rw [a]; exact hn
theorem Ins.stand {E : List RE} {F : List RE} {mine : RE} {i : Nat} (h : Ins E F mine i none) (hi : i < E.length) (hn : lessL mine.2.1 E[i].2.1 = true) : Ins E (F ++ [mine] ++ [E[i]]) mine (i + 1) (some i) := by
  refine ⟨Nat.lt_succ_self i, ?_, h.2, hi, hn⟩
  rw [h.1, List.take_succ_eq_append_getElem hi, List.drop_left' (by rw [List.length_take]; omega)]
theorem Ins.on {E : List RE} {F : List RE} {mine : RE} {i p : Nat} (h : Ins E F mine i (some p)) (hi : i < E.length) : Ins E (F ++ [E[i]]) mine (i + 1) (some p) := by
  obtain ⟨h1, h2, h3, h4⟩ := h
  refine ⟨by omega, ?_, h3, h4⟩
  rw [h2, List.take_succ_eq_append_getElem hi, List.drop_append_of_le_length (by rw [List.length_take]; omega), List.append_assoc]
/-- What Put of a new row leaves. -/
def PutNew (w : World) (B : Nat) (E : List RE) (A : List Int) (v : Int) (e : Ending) (w' : World) : Prop := ∃ a' c' cv p, e = .returned (.tuple #[.slice a' (E.length + 1) c', .bool true, .int .i64 0]) ∧ EO 54 w' B (.slice a' (E.length + 1) c') (E.take p ++ [(cv, A, v)] ++ E.drop p) ∧ (∀ e ∈ E.take p, lessL A e.2.1 = false) ∧ (∀ hp : p < E.length, lessL A E[p].2.1 = true) ∧ (∀ x, (Value.slice a' (E.length + 1) c').ownBlock = some x ∨ cv.ownBlock = some x → w.heap.size ≤ x) ∧ Below w.heap.size w w'
set_option maxRecDepth 100000 in
set_option maxHeartbeats 8000000 in
theorem put13_new (w : World) (B c n ca : Nat) (ao at' : Option Addr) (E : List RE) (A : List Int) (v : Int) (h : EO 54 w B (.slice ao E.length c) E) (hA : IArg w at' n ca A) (hl : E.length ≤ 900) (hB : B ≤ w.heap.size) (hq : ∀ e ∈ E, e.2.1.length ≤ 1000) (h1 : 1 ≤ n) (h2 : n ≤ 128) (hno : ∀ e ∈ E, e.2.1 ≠ A) :
   Calls Try.prog 10 #[.slice ao E.length c, .slice at' n ca, .int .i64 v] w fun e w' => PutNew w B E A v e w' := by
  obtain ⟨i0, hi0, hz0, hz1, hz2⟩ := info_parts Try.infoInt
  obtain ⟨b, o, rfl, _⟩ := hA.row.cells (by omega)
  have hfit := hA.fit
  have hcm := hA.max
  have HH : Hid (EO 54 w B (.slice ao E.length c) E) := h
  have HA : Hid (IArg w (some ⟨b, o, none⟩) n ca A) := hA
  have hsm : Hid (Sm A) := hA.row.small
  have O0 : (w.alloc (.cells #[] 3)).ownsRow w.heap.size 3 1 (.slice (some ⟨w.heap.size, 0, none⟩) 0 0) 0 [] := World.ownsRow_made w #[] 0 (Nat.le_refl _) (by decide) rfl
  have hvals := (hA.row.below (below_alloc w (.cells #[] 3))).vals
  have hlm : (A.map (Value.int .i64)).length = n * 1 := by rw [List.length_map, hA.row.len, Nat.mul_one]
  have HP1 : Hid (∀ v1 w6, w6.ownsRow w.heap.size 3 1 v1 (0 + n) ([] ++ A.map (Value.int .i64)) → (w.alloc (.cells #[] 3)).grownBy w6 (some w.heap.size) → ∃ g1 c1, IOwn w6 w.heap.size (.slice (some ⟨g1, 0, none⟩) n c1) n A ∧ Below w.heap.size w w6 ∧ v1 = .slice (some ⟨g1, 0, none⟩) n c1) := fun v1 w6 O1 G1 => by
    rw [Nat.zero_add, List.nil_append] at O1
    obtain ⟨g1, c1, rfl⟩ : ∃ g1 c1, v1 = .slice (some ⟨g1, 0, none⟩) n c1 := by
      rcases O1.2 with ⟨_, h3⟩ | ⟨g, cap, cur, hv, _⟩
      · omega
      · exact ⟨_, _, hv⟩
    exact ⟨g1, c1, O1, (below_alloc w (.cells #[] 3)).trans ((Below.refl _ _).grown G1 (by simp) (fun k hk => (World.ownsRow.lt O0 k hk).1)), rfl⟩
  have hl9 : E.length ≤ 1000 := by omega
  have hfk : Hid (∀ r, FindN E A r → r = -1) := fun r hr => by
    rcases hr with ⟨rfl, _⟩ | ⟨k', rfl, hk', e'⟩
    · rfl
    · exact absurd e' (hno _ (List.getElem_mem hk'))
  have HPC : Hid (∀ W g1 c1, Below w.heap.size w W → IOwn W w.heap.size (.slice (some ⟨g1, 0, none⟩) n c1) n A → Calls Try.prog 12 #[.slice ao E.length c, .slice (some ⟨b, o, none⟩) n ca] (W.alloc (.cells #[.slice (some ⟨g1, 0, none⟩) n c1, .int .i64 v] 54)) fun e w' => ∃ r : Int, e = .returned (.int .i64 r) ∧ FindN E A r ∧ Below (W.alloc (.cells #[.slice (some ⟨g1, 0, none⟩) n c1, .int .i64 v] 54)).heap.size (W.alloc (.cells #[.slice (some ⟨g1, 0, none⟩) n c1, .int .i64 v] 54)) w') := fun W g1 c1 hW _ => find13_any _ B c n ca _ _ E A (HH.out.below (below_then hW (below_alloc W _))) (HA.out.below (below_then hW (below_alloc W _))) hl9 hq (by omega)
  have nq1 : ∀ (W : World) (g : Nat) (k : Nat), (binOp .neq 23 (.slice (some ⟨g, 0, none⟩) n k) (.slice none 0 0)).run Try.prog W = .ok (.bool true) W := fun W g k => run_neq_nil13 W _ 3 _ _ _ Try.underlying23
  have nq0 : ∀ W : World, (binOp .neq 23 (.slice none 0 0) (.slice none 0 0)).run Try.prog W = .ok (.bool false) W := fun W => run_neq_nil13 W _ 3 _ _ _ Try.underlying23
  clear h hA hno
  go_enter Try.func10, Try.ntmps10
  go_wp2_with (first
    | (at_builtin; refine wpList_append_own _ rfl _ _ 23 rfl w.heap.size 3 i0 (.int .i64 0) 1 8 Try.underlying23 hi0 hz0 hz1 hz2 rfl (by decide) _ 0 [] rfl O0 ⟨b, o, none⟩ n ca (A.map (Value.int .i64)) rfl hlm hvals (ints_oneCell _ _) (by unfold maxLen; omega) (by omega) (by simp) ?_; intro v1 w2 O1 G1 N1; obtain ⟨g1, c1, O2, B2, rfl⟩ := HP1.out v1 w2 O1 G1; clear O1 G1 N1; have CF := HPC.out w2 g1 c1 B2 O2; have BV := below_alloc w2 (.cells #[.slice (some ⟨g1, 0, none⟩) n c1, .int .i64 v] 54); have cm0 : (w2.alloc (.cells #[.slice (some ⟨g1, 0, none⟩) n c1, .int .i64 v] 54)).cell? ⟨w2.heap.size, 0, none⟩ = some (.slice (some ⟨g1, 0, none⟩) n c1) := (by rw [World.cell?_alloc_at _ _ _ _ (by simp)]; rfl); have cm1 : (w2.alloc (.cells #[.slice (some ⟨g1, 0, none⟩) n c1, .int .i64 v] 54)).cell? ⟨w2.heap.size, 1, none⟩ = some (.int .i64 v) := (by rw [World.cell?_alloc_at _ _ _ _ (by simp)]; rfl))
    | (go_at_call 12; refine CF.mono ?_; clear CF; rintro e w4 ⟨r, rfl, hr, B4⟩; have hrk := hfk.out r hr; subst hrk; clear hr; have B24 := below_then BV B4; have BW4 := below_then B2 B24; have z24 : w2.heap.size + 1 ≤ w4.heap.size := (by have := B4.size; simpa using this); have hz3 : w2.heap.size < (w2.alloc (.cells #[.slice (some ⟨g1, 0, none⟩) n c1, .int .i64 v] 54)).heap.size := (by simp); have cn0 : w4.cell? ⟨w2.heap.size, 0, none⟩ = some (.slice (some ⟨g1, 0, none⟩) n c1) := (by rw [B4.cell (by exact hz3)]; exact cm0); have cn1 : w4.cell? ⟨w2.heap.size, 1, none⟩ = some (.int .i64 v) := (by rw [B4.cell (by exact hz3)]; exact cm1); clear cm0 cm1))
  have OG : IOwn w4 w.heap.size (.slice (some ⟨g1, 0, none⟩) n c1) n A := O2.keep (fun x hx => B24.block x (World.ownsRow.lt O2 x hx).2)
  have hg1 : w.heap.size ≤ g1 ∧ g1 < w2.heap.size := World.ownsRow.lt O2 g1 rfl
  have hw2 := B2.size
  have MB4 : w4.heap[w2.heap.size]? = some (.cells #[(.slice (some ⟨g1, 0, none⟩) n c1), .int .i64 v] 54 (0, 0)) := (B4.block _ hz3).trans (heap_alloc_new w2 _)
  obtain ⟨mb, hmb⟩ : ∃ mb, mb = w2.heap.size := ⟨_, rfl⟩
  rw [← hmb] at MB4 z24 hg1 hw2 ⊢
  have hmb' : Hid (mb = w2.heap.size) := hmb
  obtain ⟨Bz, hBz⟩ : ∃ Bz, Bz = w4.heap.size := ⟨_, rfl⟩
  have O5 : (w4.alloc (.cells #[] 54)).ownsRow w4.heap.size 54 2 (.slice (some ⟨w4.heap.size, 0, none⟩) 0 0) 0 [] := World.ownsRow_made w4 #[] 0 (Nat.le_refl _) (by decide) rfl
  have B45 := below_alloc w4 (.cells #[] 54)
  have MB5 := (B45.block mb (by omega)).trans MB4
  have B5 := below_then BW4 B45
  have OG5 := OG.keep (fun x hx => B45.block x (World.ownsRow.lt OG x hx).2)
  have z5 := B45.size
  rw [← hBz] at O5 z5 z24 ⊢
  clear cn0 cn1 hz3 hmb O2 B2 B24 B4 BV OG MB4 BW4 B45
  generalize w4.alloc (.cells #[] 54) = w5 at *
  clear hBz
  go_loopg [12, 48] E.length (fun r s12 s48 wr => ∃ (i g cc : Nat) (F : List RE) (p : Option Nat) (y : Int), i ≤ E.length ∧ r = E.length - i ∧ s48 = .int .i64 (i : Int) ∧ F.length ≤ 2 * i ∧ s12 = .slice (some ⟨g, 0, none⟩) F.length cc ∧ Hid (Ins E F ((.slice (some ⟨g1, 0, none⟩) n c1), A, v) i p) ∧ wr.ownsRow Bz 54 2 (.slice (some ⟨g, 0, none⟩) F.length cc) F.length (flatE F) ∧ wr.heap[mb]? = some (.cells #[mineC p (.slice (some ⟨g1, 0, none⟩) n c1), .int .i64 y] 54 (0, 0)) ∧ Hid (p = none → y = v) ∧ Below w.heap.size w wr ∧ IOwn wr w.heap.size (.slice (some ⟨g1, 0, none⟩) n c1) n A ∧ Bz ≤ wr.heap.size)
  case atStart => exact ⟨0, Bz, 0, [], none, v, by omega, by omega, rfl, by simp, rfl, ⟨rfl, fun e he => by rw [List.take_zero] at he; cases he⟩, O5, MB5, fun _ => rfl, B5, OG5, z5⟩
  case round =>
    clear O5 MB5 B5 OG5 z5
    obtain ⟨i, g, cc, F, p, ym, hi, rfl, rfl, hFl, rfl, hIns, OF, MB, hpy, BB, OG, zB⟩ := hrel
    have hgB := (World.ownsRow.lt OF g rfl).1
    by_cases hlt : i < E.length
    case pos =>
      obtain ⟨g0, rfl, hg0, hc⟩ := HH.out.cells (by omega)
      obtain ⟨k0, k1⟩ := hc i hlt
      obtain ⟨sa, sc, es, hR⟩ := HH.out.slice hlt
      have hqi := hq _ (List.getElem_mem hlt)
      rw [es] at k0
      have kk0 : wr.cell? ⟨g0, i * 2, none⟩ = some (.slice sa E[i].2.1.length sc) := by rw [BB.cell (by exact hg0)]; exact k0
      have kk1 : wr.cell? ⟨g0, i * 2 + 1, none⟩ = some (.int .i64 E[i].2.2) := by rw [BB.cell (by exact hg0)]; exact k1
      have BV : Below wr.heap.size wr (wr.alloc (.cells #[.slice sa E[i].2.1.length sc, .int .i64 E[i].2.2] 54)) := below_alloc _ _
      have BW := below_then BB BV
      have hei : Hid (E[i] = ((.slice sa E[i].2.1.length sc : Value), E[i].2.1, E[i].2.2)) := by show E[i] = _; rw [← es]
      have CL := less_any _ (some ⟨b, o, none⟩) sa n E[i].2.1.length ca sc A E[i].2.1 (HA.out.below BW).row (hR.below BW).row (by omega) (by omega)
      have OV := ownsRow_keep OF (fun x hx => BV.block x (World.ownsRow.lt OF x hx).2)
      have OGV := OG.keep (fun x hx => BV.block x (World.ownsRow.lt OG x hx).2)
      have MBV := (BV.block mb (by omega)).trans MB
      have EBV : (wr.alloc (.cells #[.slice sa E[i].2.1.length sc, .int .i64 E[i].2.2] 54)).heap[wr.heap.size]? = some (.cells #[.slice sa E[i].2.1.length sc, .int .i64 E[i].2.2] 54 (0, 0)) := heap_alloc_new wr _
      have zv : wr.heap.size < (wr.alloc (.cells #[.slice sa E[i].2.1.length sc, .int .i64 E[i].2.2] 54)).heap.size := by simp
      have hon : Hid (∀ p', Ins E F ((.slice (some ⟨g1, 0, none⟩) n c1), A, v) i (some p') → Ins E (F ++ [((.slice sa E[i].2.1.length sc : Value), E[i].2.1, E[i].2.2)]) ((.slice (some ⟨g1, 0, none⟩) n c1), A, v) (i + 1) (some p')) := fun p' h => by rw [← hei.out]; exact h.on hlt
      have hwt : Hid (lessL A E[i].2.1 = false → Ins E F ((.slice (some ⟨g1, 0, none⟩) n c1), A, v) i none → Ins E (F ++ [((.slice sa E[i].2.1.length sc : Value), E[i].2.1, E[i].2.2)]) ((.slice (some ⟨g1, 0, none⟩) n c1), A, v) (i + 1) none) := fun h1 h => by rw [← hei.out]; exact h.wait hlt h1
      have hst : Hid (lessL A E[i].2.1 = true → Ins E F ((.slice (some ⟨g1, 0, none⟩) n c1), A, v) i none → Ins E (F ++ [((.slice (some ⟨g1, 0, none⟩) n c1 : Value), A, v)] ++ [((.slice sa E[i].2.1.length sc : Value), E[i].2.1, E[i].2.2)]) ((.slice (some ⟨g1, 0, none⟩) n c1), A, v) (i + 1) (some i)) := fun h1 h => by rw [← hei.out]; exact h.stand hlt h1
      have OFx := OF
      clear hc k0 k1 hei hR es MB OG OF BB BV
      generalize E[i].2.1 = q at *
      generalize E[i].2.2 = ye at *
      generalize hwv : wr.alloc (.cells #[.slice sa q.length sc, .int .i64 ye] 54) = wv at *

      obtain ⟨eb, heb⟩ : ∃ eb, eb = wr.heap.size := ⟨_, rfl⟩
      have hebz : Bz ≤ eb := by omega
      rw [← heb] at EBV zv
      have heb' : wr.heap.size = eb := heb.symm
      clear heb
      have hF1 : F.length ≤ 100000 := by omega
      have me : mb ≠ eb := by omega
      have hge : Hid (g ≠ eb) := (by have := (World.ownsRow.lt OFx g rfl).2; show g ≠ eb; omega)
      rcases p with _ | p'
      · have hym : ym = v := hpy.out rfl
        subst hym
        replace MBV : wv.heap[mb]? = some (.cells #[(.slice (some ⟨g1, 0, none⟩) n c1), .int .i64 ym] 54 (0, 0)) := MBV
        have em0 : wv.cell? ⟨mb, 0, none⟩ = _ := cell2_0 MBV
        have em1 : wv.cell? ⟨mb, 1, none⟩ = _ := cell2_1 MBV
        have fm0 := frz2 MBV 0
        have fm1 := frz2 MBV 1
        have ee0 : wv.cell? ⟨eb, 0, none⟩ = _ := cell2_0 EBV
        have ee1 : wv.cell? ⟨eb, 1, none⟩ = _ := cell2_1 EBV
        rcases hls : lessL A q with _ | _
        · have HI : Hid (Ins E (F ++ [((.slice sa q.length sc : Value), q, ye)]) ((.slice (some ⟨g1, 0, none⟩) n c1), A, ym) (i + 1) none) := hwt.out hls hIns.out
          rw [hls] at CL
          clear hwt hst hon hls
          go_wp2_with (first
            | (go_at_call 22; refine CL.mono ?_; clear CL; rintro e w3 ⟨rfl, m3, h3⟩; have B3 : Below wv.heap.size wv w3 := (by rw [h3]; exact below_drewN (Below.refl _ _) m3); clear h3; have OX := ownsRow_keep OV (fun x hx => B3.block x (World.ownsRow.lt OV x hx).2); have OG3 := OGV.keep (fun x hx => B3.block x (World.ownsRow.lt OGV x hx).2); have MB3 := (B3.block mb (by omega)).trans MBV; have EB3 := (B3.block eb zv).trans EBV; have BX := below_then BW B3; have hza : Bz ≤ w3.heap.size := (by have := B3.size; omega); have em03 : w3.cell? ⟨mb, 0, none⟩ = _ := cell2_0 MB3; have em13 : w3.cell? ⟨mb, 1, none⟩ = _ := cell2_1 MB3; have fm03 := frz2 MB3 0; have fm13 := frz2 MB3 1; have ee03 : w3.cell? ⟨eb, 0, none⟩ = _ := cell2_0 EB3; have ee13 : w3.cell? ⟨eb, 1, none⟩ = _ := cell2_1 EB3; have BYa := below_alloc w3 (.cells #[.slice sa q.length sc, .int .i64 ye] 54); have OYa := ownsRow_keep OX (fun x hx => BYa.block x (World.ownsRow.lt OX x hx).2); have cy0a : (w3.alloc (.cells #[.slice sa q.length sc, .int .i64 ye] 54)).cell? ⟨w3.heap.size, 0, none⟩ = some (.slice sa q.length sc) := (by rw [World.cell?_alloc_at _ _ _ _ (by simp)]; rfl); have cy1a : (w3.alloc (.cells #[.slice sa q.length sc, .int .i64 ye] 54)).cell? ⟨w3.heap.size, 1, none⟩ = some (.int .i64 ye) := (by rw [World.cell?_alloc_at _ _ _ _ (by simp)]; rfl); have zya : Bz ≤ (w3.alloc (.cells #[.slice sa q.length sc, .int .i64 ye] 54)).heap.size := Nat.le_trans hza BYa.size)
            | (at_builtin; refine wp_app54 rfl _ _ rfl (.slice (some ⟨g, 0, none⟩) F.length cc) F (.slice sa q.length sc, q, ye) Bz rfl OYa w3.heap.size rfl cy0a cy1a rfl hF1 zya ?_; intro g6 c6 w6 O6 B6 K6))
          have el5 : (F ++ [((.slice sa q.length sc : Value), q, ye)]).length = F.length + 1 := by simp
          have B7 : Below w.heap.size w w6 := (BX.trans (BYa.mono BX.size)).trans (B6.mono (by omega))
          have hnb : ∀ x, x < Bz → w6.heap[x]? = w3.heap[x]? := fun x hx => (B6.block x hx).trans (BYa.block x (by omega))
          have MB6 := (hnb mb (by omega)).trans MB3
          have OG6 := OG3.keep (fun x hx => hnb x (by have e : g1 = x := Option.some.inj hx; omega))
          have z6 : Bz ≤ w6.heap.size := Nat.le_trans zya B6.size
          go_roundg (E.length - (i + 1))
          case measure => omega
          case rel => exact ⟨i + 1, g6, c6, F ++ [(.slice sa q.length sc, q, ye)], none, ym, by omega, rfl, by go_num, by rw [el5]; omega, by rw [el5], HI, by rw [el5]; exact O6, MB6, fun _ => rfl, B7, OG6, z6⟩
        · have HI : Hid (Ins E (F ++ [((.slice (some ⟨g1, 0, none⟩) n c1 : Value), A, ym)] ++ [((.slice sa q.length sc : Value), q, ye)]) ((.slice (some ⟨g1, 0, none⟩) n c1), A, ym) (i + 1) (some i)) := hst.out hls hIns.out
          rw [hls] at CL
          clear hwt hst hon hls
          go_wp2_with (first
            | (go_at_call 22; refine CL.mono ?_; clear CL; rintro e w3 ⟨rfl, m3, h3⟩; have B3 : Below wv.heap.size wv w3 := (by rw [h3]; exact below_drewN (Below.refl _ _) m3); clear h3; have OX := ownsRow_keep OV (fun x hx => B3.block x (World.ownsRow.lt OV x hx).2); have OG3 := OGV.keep (fun x hx => B3.block x (World.ownsRow.lt OGV x hx).2); have MB3 := (B3.block mb (by omega)).trans MBV; have EB3 := (B3.block eb zv).trans EBV; have BX := below_then BW B3; have hza : Bz ≤ w3.heap.size := (by have := B3.size; omega); have em03 : w3.cell? ⟨mb, 0, none⟩ = _ := cell2_0 MB3; have em13 : w3.cell? ⟨mb, 1, none⟩ = _ := cell2_1 MB3; have fm03 := frz2 MB3 0; have fm13 := frz2 MB3 1; have ee03 : w3.cell? ⟨eb, 0, none⟩ = _ := cell2_0 EB3; have ee13 : w3.cell? ⟨eb, 1, none⟩ = _ := cell2_1 EB3; have BYa := below_alloc w3 (.cells #[.slice (some ⟨g1, 0, none⟩) n c1, .int .i64 ym] 54); have OYa := ownsRow_keep OX (fun x hx => BYa.block x (World.ownsRow.lt OX x hx).2); have cy0a : (w3.alloc (.cells #[.slice (some ⟨g1, 0, none⟩) n c1, .int .i64 ym] 54)).cell? ⟨w3.heap.size, 0, none⟩ = some (.slice (some ⟨g1, 0, none⟩) n c1) := (by rw [World.cell?_alloc_at _ _ _ _ (by simp)]; rfl); have cy1a : (w3.alloc (.cells #[.slice (some ⟨g1, 0, none⟩) n c1, .int .i64 ym] 54)).cell? ⟨w3.heap.size, 1, none⟩ = some (.int .i64 ym) := (by rw [World.cell?_alloc_at _ _ _ _ (by simp)]; rfl); have zya : Bz ≤ (w3.alloc (.cells #[.slice (some ⟨g1, 0, none⟩) n c1, .int .i64 ym] 54)).heap.size := Nat.le_trans hza BYa.size)
            | (at_builtin; refine wp_app54 rfl _ _ rfl (.slice (some ⟨g, 0, none⟩) F.length cc) F ((.slice (some ⟨g1, 0, none⟩) n c1), A, ym) Bz rfl OYa w3.heap.size rfl cy0a cy1a rfl hF1 zya ?_; intro g6 c6 w6 O6 B6 K6; have el6 : (F ++ [((.slice (some ⟨g1, 0, none⟩) n c1 : Value), A, ym)]).length = F.length + 1 := (by simp); have hnb : ∀ x, x < w3.heap.size → x ≠ g → w6.heap[x]? = w3.heap[x]? := (fun x hx hne => (K6 x (Nat.lt_of_lt_of_le hx BYa.size) (fun e => hne (Option.some.inj e).symm)).trans (BYa.block x hx)); have MB6 := (hnb mb (by omega) (by omega)).trans MB3; have EB6 := (hnb eb (by have := B3.size; omega) (fun e => hge.out e.symm)).trans EB3; have hg6 := (World.ownsRow.lt O6 g6 rfl).1; have em06 : w6.cell? ⟨mb, 0, none⟩ = _ := cell2_0 MB6; have em16 : w6.cell? ⟨mb, 1, none⟩ = _ := cell2_1 MB6; have fm06 := frz2 MB6 0; have fm16 := frz2 MB6 1; have ee06 : w6.cell? ⟨eb, 0, none⟩ = _ := cell2_0 EB6; have ee16 : w6.cell? ⟨eb, 1, none⟩ = _ := cell2_1 EB6; have MB7 : ((w6.setCell ⟨mb, 0, none⟩ (.slice none 0 0)).setCell ⟨mb, 1, none⟩ (.int .i64 0)).heap[mb]? = some (.cells #[.slice none 0 0, .int .i64 0] 54 (0, 0)) := set2_same MB6; have EB7 : ((w6.setCell ⟨mb, 0, none⟩ (.slice none 0 0)).setCell ⟨mb, 1, none⟩ (.int .i64 0)).heap[eb]? = _ := (set2_other (by omega)).trans EB6; have O7 : ((w6.setCell ⟨mb, 0, none⟩ (.slice none 0 0)).setCell ⟨mb, 1, none⟩ (.int .i64 0)).ownsRow Bz 54 2 (.slice (some ⟨g6, 0, none⟩) (F.length + 1) c6) (F ++ [((.slice (some ⟨g1, 0, none⟩) n c1 : Value), A, ym)]).length (flatE (F ++ [((.slice (some ⟨g1, 0, none⟩) n c1 : Value), A, ym)])) := (by rw [el6]; exact ownsRow_keep O6 (fun x hx => set2_other (by have e : g6 = x := Option.some.inj hx; omega))); have em07 : ((w6.setCell ⟨mb, 0, none⟩ (.slice none 0 0)).setCell ⟨mb, 1, none⟩ (.int .i64 0)).cell? ⟨mb, 0, none⟩ = _ := cell2_0 MB7; have em17 : ((w6.setCell ⟨mb, 0, none⟩ (.slice none 0 0)).setCell ⟨mb, 1, none⟩ (.int .i64 0)).cell? ⟨mb, 1, none⟩ = _ := cell2_1 MB7; have fm07 := frz2 MB7 0; have fm17 := frz2 MB7 1; have ee07 : ((w6.setCell ⟨mb, 0, none⟩ (.slice none 0 0)).setCell ⟨mb, 1, none⟩ (.int .i64 0)).cell? ⟨eb, 0, none⟩ = _ := cell2_0 EB7; have ee17 : ((w6.setCell ⟨mb, 0, none⟩ (.slice none 0 0)).setCell ⟨mb, 1, none⟩ (.int .i64 0)).cell? ⟨eb, 1, none⟩ = _ := cell2_1 EB7; have hF2 : (F ++ [((.slice (some ⟨g1, 0, none⟩) n c1 : Value), A, ym)]).length ≤ 100000 := (by rw [el6]; omega); have hzb : Bz ≤ ((w6.setCell ⟨mb, 0, none⟩ (.slice none 0 0)).setCell ⟨mb, 1, none⟩ (.int .i64 0)).heap.size := (by have := B6.size; simp; omega); have BYb := below_alloc ((w6.setCell ⟨mb, 0, none⟩ (.slice none 0 0)).setCell ⟨mb, 1, none⟩ (.int .i64 0)) (.cells #[.slice sa q.length sc, .int .i64 ye] 54); have OYb := ownsRow_keep O7 (fun x hx => BYb.block x (World.ownsRow.lt O7 x hx).2); have cy0b : (((w6.setCell ⟨mb, 0, none⟩ (.slice none 0 0)).setCell ⟨mb, 1, none⟩ (.int .i64 0)).alloc (.cells #[.slice sa q.length sc, .int .i64 ye] 54)).cell? ⟨w6.heap.size, 0, none⟩ = some (.slice sa q.length sc) := (by rw [World.cell?_alloc_at _ _ _ _ (by simp)]; rfl); have cy1b : (((w6.setCell ⟨mb, 0, none⟩ (.slice none 0 0)).setCell ⟨mb, 1, none⟩ (.int .i64 0)).alloc (.cells #[.slice sa q.length sc, .int .i64 ye] 54)).cell? ⟨w6.heap.size, 1, none⟩ = some (.int .i64 ye) := (by rw [World.cell?_alloc_at _ _ _ _ (by simp)]; rfl); have zyb : Bz ≤ (((w6.setCell ⟨mb, 0, none⟩ (.slice none 0 0)).setCell ⟨mb, 1, none⟩ (.int .i64 0)).alloc (.cells #[.slice sa q.length sc, .int .i64 ye] 54)).heap.size := Nat.le_trans hzb BYb.size)
            | (at_builtin; refine wp_app54 rfl _ _ rfl (.slice (some ⟨g6, 0, none⟩) (F.length + 1) c6) (F ++ [((.slice (some ⟨g1, 0, none⟩) n c1 : Value), A, ym)]) (.slice sa q.length sc, q, ye) Bz rfl OYb w6.heap.size rfl cy0b cy1b rfl hF2 zyb ?_; intro g8 c8 w8 O8 B8 K8))
          have el8 : (F ++ [((.slice (some ⟨g1, 0, none⟩) n c1 : Value), A, ym)] ++ [((.slice sa q.length sc : Value), q, ye)]).length = (F ++ [((.slice (some ⟨g1, 0, none⟩) n c1 : Value), A, ym)]).length + 1 := by simp
          have hmg : mb ≠ g := by omega
          have B67 : Below w.heap.size w6 ((w6.setCell ⟨mb, 0, none⟩ (.slice none 0 0)).setCell ⟨mb, 1, none⟩ (.int .i64 0)) := ((Below.refl _ _).setCell (show w.heap.size ≤ mb by omega) _).setCell (show w.heap.size ≤ mb by omega) _
          have B7 : Below w.heap.size w w8 := ((((BX.trans (BYa.mono BX.size)).trans (B6.mono (by omega))).trans B67).trans (BYb.mono (by have := B6.size; have := BYa.size; have := BX.size; simp; omega))).trans (B8.mono (by omega))
          have hnb8 : ∀ x, x < Bz → x ≠ mb → w8.heap[x]? = w3.heap[x]? := fun x hx hxm => (B8.block x hx).trans ((BYb.block x (by have := B6.size; have := BYa.size; simp; omega)).trans ((set2_other hxm).trans (hnb x (by omega) (by omega))))
          have MB8 : w8.heap[mb]? = some (.cells #[.slice none 0 0, .int .i64 0] 54 (0, 0)) := (B8.block mb (by omega)).trans ((BYb.block mb (by have := B6.size; have := BYa.size; simp; omega)).trans MB7)
          have OG8 := OG3.keep (fun x hx => hnb8 x (by have e : g1 = x := Option.some.inj hx; omega) (by have e : g1 = x := Option.some.inj hx; omega))
          have z8 : Bz ≤ w8.heap.size := Nat.le_trans zyb B8.size
          go_roundg (E.length - (i + 1))
          case measure => omega
          case rel => exact ⟨i + 1, g8, c8, F ++ [((.slice (some ⟨g1, 0, none⟩) n c1), A, ym)] ++ [(.slice sa q.length sc, q, ye)], some i, 0, by omega, rfl, by go_num, by rw [el8, el6]; omega, congrArg (fun n => Value.slice (some ⟨g8, 0, none⟩) n c8) (by simp), HI, by rw [el8]; exact O8, MB8, fun h => (by cases h), B7, OG8, z8⟩
      · replace MBV : wv.heap[mb]? = some (.cells #[.slice none 0 0, .int .i64 ym] 54 (0, 0)) := MBV
        have em0 : wv.cell? ⟨mb, 0, none⟩ = _ := cell2_0 MBV
        have em1 : wv.cell? ⟨mb, 1, none⟩ = _ := cell2_1 MBV
        have fm0 := frz2 MBV 0
        have fm1 := frz2 MBV 1
        have ee0 : wv.cell? ⟨eb, 0, none⟩ = _ := cell2_0 EBV
        have ee1 : wv.cell? ⟨eb, 1, none⟩ = _ := cell2_1 EBV
        have HI : Hid (Ins E (F ++ [((.slice sa q.length sc : Value), q, ye)]) ((.slice (some ⟨g1, 0, none⟩) n c1), A, v) (i + 1) (some p')) := hon.out p' hIns.out
        clear hwt hst hon CL
        have OX := OV
        have BX := BW
        have hza : Bz ≤ wv.heap.size := by omega
        have BYa := below_alloc wv (.cells #[.slice sa q.length sc, .int .i64 ye] 54)
        have OYa := ownsRow_keep OX (fun x hx => BYa.block x (World.ownsRow.lt OX x hx).2)
        have cy0a : (wv.alloc (.cells #[.slice sa q.length sc, .int .i64 ye] 54)).cell? ⟨wv.heap.size, 0, none⟩ = some (.slice sa q.length sc) := (by rw [World.cell?_alloc_at _ _ _ _ (by simp)]; rfl)
        have cy1a : (wv.alloc (.cells #[.slice sa q.length sc, .int .i64 ye] 54)).cell? ⟨wv.heap.size, 1, none⟩ = some (.int .i64 ye) := (by rw [World.cell?_alloc_at _ _ _ _ (by simp)]; rfl)
        have zya : Bz ≤ (wv.alloc (.cells #[.slice sa q.length sc, .int .i64 ye] 54)).heap.size := Nat.le_trans hza BYa.size
        go_wp2_with (at_builtin; refine wp_app54 rfl _ _ rfl (.slice (some ⟨g, 0, none⟩) F.length cc) F (.slice sa q.length sc, q, ye) Bz rfl OYa wv.heap.size rfl cy0a cy1a rfl hF1 zya ?_; intro g6 c6 w6 O6 B6 K6)
        have el5 : (F ++ [((.slice sa q.length sc : Value), q, ye)]).length = F.length + 1 := by simp
        have B7 : Below w.heap.size w w6 := (BX.trans (BYa.mono BX.size)).trans (B6.mono (by omega))
        have hnb : ∀ x, x < Bz → w6.heap[x]? = wv.heap[x]? := fun x hx => (B6.block x hx).trans (BYa.block x (by omega))
        have MB6 := (hnb mb (by omega)).trans MBV
        have OG6 := OGV.keep (fun x hx => hnb x (by have e : g1 = x := Option.some.inj hx; omega))
        have z6 : Bz ≤ w6.heap.size := Nat.le_trans zya B6.size
        go_roundg (E.length - (i + 1))
        case measure => omega
        case rel => exact ⟨i + 1, g6, c6, F ++ [(.slice sa q.length sc, q, ye)], some p', ym, by omega, rfl, by go_num, by rw [el5]; omega, by rw [el5], HI, by rw [el5]; exact O6, MB6, fun h => (by cases h), B7, OG6, z6⟩
    case neg =>
      obtain rfl : i = E.length := by omega
      have em := cell2_0 MB
      have em1 := cell2_1 MB
      rcases p with _ | p'
      · have hym : ym = v := hpy.out rfl
        subst hym
        obtain ⟨hFe, hall⟩ := hIns.out
        rw [List.take_length] at hFe hall
        have HFE : Hid (F = E) := hFe
        have HALL : Hid (∀ e ∈ E, lessL A e.2.1 = false) := hall
        clear hFe hall hIns
        replace em : wr.cell? ⟨mb, 0, none⟩ = some (.slice (some ⟨g1, 0, none⟩) n c1) := em
        have hF1 : F.length ≤ 100000 := by omega
        have hza := zB
        have BYa := below_alloc wr (.cells #[.slice (some ⟨g1, 0, none⟩) n c1, .int .i64 ym] 54)
        have OYa := ownsRow_keep OF (fun x hx => BYa.block x (World.ownsRow.lt OF x hx).2)
        have cy0a : (wr.alloc (.cells #[.slice (some ⟨g1, 0, none⟩) n c1, .int .i64 ym] 54)).cell? ⟨wr.heap.size, 0, none⟩ = some (.slice (some ⟨g1, 0, none⟩) n c1) := (by rw [World.cell?_alloc_at _ _ _ _ (by simp)]; rfl)
        have cy1a : (wr.alloc (.cells #[.slice (some ⟨g1, 0, none⟩) n c1, .int .i64 ym] 54)).cell? ⟨wr.heap.size, 1, none⟩ = some (.int .i64 ym) := (by rw [World.cell?_alloc_at _ _ _ _ (by simp)]; rfl)
        have zya : Bz ≤ (wr.alloc (.cells #[.slice (some ⟨g1, 0, none⟩) n c1, .int .i64 ym] 54)).heap.size := Nat.le_trans hza BYa.size
        go_wp2_with (at_builtin; refine wp_app54 rfl _ _ rfl (.slice (some ⟨g, 0, none⟩) F.length cc) F ((.slice (some ⟨g1, 0, none⟩) n c1), A, ym) Bz rfl OYa wr.heap.size rfl cy0a cy1a rfl hF1 zya ?_; intro g6 c6 w6 O6 B6 K6)
        go_ret3
        have hRR : F ++ [((.slice (some ⟨g1, 0, none⟩) n c1 : Value), A, ym)] = E.take E.length ++ [((.slice (some ⟨g1, 0, none⟩) n c1 : Value), A, ym)] ++ E.drop E.length := by rw [List.take_length, List.drop_length, List.append_nil, HFE.out]
        have LLN : (F ++ [((.slice (some ⟨g1, 0, none⟩) n c1 : Value), A, ym)]).length = E.length + 1 := by rw [HFE.out]; simp
        have LL : F.length + 1 = E.length + 1 := by rw [HFE.out]
        have hmem : ∀ e ∈ F ++ [((.slice (some ⟨g1, 0, none⟩) n c1 : Value), A, ym)], e ∈ E ∨ e = ((.slice (some ⟨g1, 0, none⟩) n c1 : Value), A, ym) := fun e he => (by rw [HFE.out, List.mem_append, List.mem_singleton] at he; exact he)
        have HQ1 : ∀ e ∈ E.take E.length, lessL A e.2.1 = false := (by rw [List.take_length]; exact HALL.out)
        have HQ2 : ∀ hp : E.length < E.length, lessL A E[E.length].2.1 = true := fun hp => absurd hp (Nat.lt_irrefl _)
        have B7 : Below w.heap.size w w6 := (BB.trans (BYa.mono BB.size)).trans (B6.mono (by omega))
        have hg6 := (World.ownsRow.lt O6 g6 rfl).1
        have OG6 := OG.keep (w' := w6) (fun x hx => (B6.block x (by have e : g1 = x := Option.some.inj hx; omega)).trans (BYa.block x (World.ownsRow.lt OG x hx).2))
        have O6' : w6.ownsRow Bz 54 2 (.slice (some ⟨g6, 0, none⟩) (F ++ [((.slice (some ⟨g1, 0, none⟩) n c1 : Value), A, ym)]).length c6) (F ++ [((.slice (some ⟨g1, 0, none⟩) n c1 : Value), A, ym)]).length (flatE (F ++ [((.slice (some ⟨g1, 0, none⟩) n c1 : Value), A, ym)])) := (by rw [show (F ++ [((.slice (some ⟨g1, 0, none⟩) n c1 : Value), A, ym)]).length = F.length + 1 by simp]; exact O6)
        unfold PutNew
        refine ⟨some ⟨g6, 0, none⟩, c6, (.slice (some ⟨g1, 0, none⟩) n c1), E.length, congrArg (fun n => Ending.returned (.tuple #[.slice (some ⟨g6, 0, none⟩) n c6, .bool true, .int .i64 0])) LL, ⟨?_, fun e he => ?_, fun e he => ?_⟩, HQ1, HQ2, fun x hx => ?_, B7⟩
        · rw [← hRR]
          have h := ownsRow_mono O6' (show B ≤ Bz by omega)
          rw [show (F ++ [((.slice (some ⟨g1, 0, none⟩) n c1 : Value), A, ym)]).length = E.length + 1 from LLN] at h ⊢
          exact h
        · rw [← hRR] at he
          rcases hmem e he with a | a
          · exact (HH.out.own e a).keep (fun x hx => B7.block x (World.ownsRow.lt (HH.out.own e a) x hx).2)
          · rw [a]; show IOwn _ B (.slice (some ⟨g1, 0, none⟩) n c1) A.length A; rw [HA.out.row.len]; exact ownsRow_mono OG6 hB
        · rw [← hRR] at he
          rcases hmem e he with a | a
          · exact HH.out.sm e a
          · rw [a]; exact hsm.out
        · rcases hx with a | a
          · have e : g6 = x := Option.some.inj a; omega
          · have e : g1 = x := Option.some.inj a; omega
      · obtain ⟨hp1, hFe, hall, hp2, hls⟩ := hIns.out
        rw [List.take_length] at hFe
        have HFE : Hid (F = E.take p' ++ [((.slice (some ⟨g1, 0, none⟩) n c1 : Value), A, v)] ++ E.drop p') := hFe
        have HALL : Hid (∀ e ∈ E.take p', lessL A e.2.1 = false) := hall
        have HLS : Hid (lessL A E[p'].2.1 = true) := hls
        clear hFe hall hIns hls
        replace em : wr.cell? ⟨mb, 0, none⟩ = some (.slice none 0 0) := em
        go_wp2_with fail
        go_ret3
        have LLN : F.length = E.length + 1 := by rw [HFE.out]; simp; omega
        have LL := LLN
        have hRR := HFE.out
        have hmem : ∀ e ∈ F, e ∈ E ∨ e = ((.slice (some ⟨g1, 0, none⟩) n c1 : Value), A, v) := fun e he => (by
          rw [HFE.out, List.mem_append, List.mem_append, List.mem_singleton] at he
          rcases he with (a | a) | a
          · exact Or.inl (List.mem_of_mem_take a)
          · exact Or.inr a
          · exact Or.inl (List.mem_of_mem_drop a))
        have HQ1 := HALL.out
        have HQ2 : ∀ hp : p' < E.length, lessL A E[p'].2.1 = true := fun _ => HLS.out
        unfold PutNew
        refine ⟨some ⟨g, 0, none⟩, cc, (.slice (some ⟨g1, 0, none⟩) n c1), p', congrArg (fun n => Ending.returned (.tuple #[.slice (some ⟨g, 0, none⟩) n cc, .bool true, .int .i64 0])) LL, ⟨?_, fun e he => ?_, fun e he => ?_⟩, HQ1, HQ2, fun x hx => ?_, BB⟩
        · rw [← hRR]
          have h := ownsRow_mono OF (show B ≤ Bz by omega)
          rw [show F.length = E.length + 1 from LLN] at h ⊢
          exact h
        · rw [← hRR] at he
          rcases hmem e he with a | a
          · exact (HH.out.own e a).keep (fun x hx => BB.block x (World.ownsRow.lt (HH.out.own e a) x hx).2)
          · rw [a]; show IOwn _ B (.slice (some ⟨g1, 0, none⟩) n c1) A.length A; rw [HA.out.row.len]; exact ownsRow_mono OG hB
        · rw [← hRR] at he
          rcases hmem e he with a | a
          · exact HH.out.sm e a
          · rw [a]; exact hsm.out
        · rcases hx with a | a
          · have e : g = x := Option.some.inj a; omega
          · have e : g1 = x := Option.some.inj a; omega
end Go.Proofs.Ytomfkdaaimhmkaa
