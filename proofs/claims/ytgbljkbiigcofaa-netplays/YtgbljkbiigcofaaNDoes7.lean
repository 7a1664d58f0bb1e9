/- Send on a net and on the document's, where it is taken. -/
import Derived.Test.YtgbljkbiigcofaaNDoes5
import Derived.Deep.CutBlock
import Derived.Deep.CutRange
namespace Go.Proofs.Ytgbljkbiigcofaa
open Go.ChangeShapes Go.WideShapes Go.ChangeAt Go.RowKit
set_option maxHeartbeats 2000000 in
set_option maxRecDepth 100000 in
theorem does_send_ok (b : Nat) (I T X : Int) (ao : Option Addr) (c : Nat) (L : List Pc) (lost : Int) (F : ByteArray) (w : World) (h : PI b w ao c L lost) (hq : 0 ≤ lost) (h1 : 0 ≤ I) (h2 : I < 8) (hl : L.length ≤ 60) :
   Calls Try.prog 9 #[.pointer (some ⟨b, 0, none⟩), .agg #[.slice ao L.length c, .int .i64 lost], .agg #[.int .i64 1, .int .i64 I, .int .i64 T, .string F, .int .u32 X]] w (DR b w L lost) := by
  obtain ⟨w0, D⟩ := d0_any b w ao c L.length lost 1 I T F X h.net
  have hb := h.net.lt
  have P0 := h.turns D.bel
  have HD : Hid _ := D
  have TB := Turns.of_below D.bel hb
  obtain ⟨B0, s0, hw, X0, X1, X2, _⟩ := D
  have CU := fun W => cutF_any F 40 W
  have C1 := fun W hW => send_ok b I (cutF F 40) L lost W hW h1 h2 (by have := cutF_size F 40; omega) (by omega)
  have C2 := fun W hW => rsend_ok I (cutF F 40) ao c L lost W hW h1 h2 (by have := cutF_size F 40; omega) (by omega)
  have FR : Hid (∀ p ∈ L ++ [(⟨I, cutF F 40, false⟩ : Pc)], p.fr.size ≤ 40) := fun p hp => by
    rcases List.mem_append.1 hp with h' | h'
    · exact h.fr p h'
    · rw [List.mem_singleton.1 h']; exact cutF_size F 40
  have EL : Hid ((L ++ [(⟨I, cutF F 40, false⟩ : Pc)]).length = L.length + 1) := by show _ = _; simp
  have a0 := X1.cell 0 (v := .int .i64 1) rfl
  have a1 := X1.cell 1 (v := .int .i64 I) rfl
  have a3 := X1.cell 3 (v := .string F) rfl
  have y0 := X0.cell 0 (v := .slice ao L.length c) rfl
  have y1 := X0.cell 1 (v := .int .i64 lost) rfl
  have N0d := P0.net.drew
  clear h X0 X1 X2 h1 h2 hl
  generalize cutF F 40 = G at *
  generalize hn : L.length = n at *
  go_enter Try.func9, Try.ntmps9
  go_upto_region 4 with fail
  go_cut [8] from 25 (fun s8 wc => s8 = .int .i64 0 ∧ NetAt wc b (L ++ [⟨I, G, false⟩]) lost ∧ Turns b w0 wc)
  case first =>
    go_region_with (first
      | (go_at_call 14; refine (CU _).mono ?_; rintro e wx ⟨rfl, rfl⟩)
      | (go_at_call 13; refine (C1 _ N0d).mono ?_; rintro e w2 ⟨rfl, N2, T2⟩))
    all_goals
      go_wp2_with fail
      go_meet
      case rel => exact ⟨rfl, N2, (Turns.of_below ((Below.refl _ _).drew) P0.net.lt).trans T2⟩
  case rest =>
    obtain ⟨rfl, N2, T2⟩ := hcut
    have R2 := P0.ref.turns T2
    obtain ⟨Y0, Y1, Y2⟩ := HD.out.keep T2
    have aa1 := Y1.cell 1 (v := .int .i64 I) rfl
    have aa3 := Y1.cell 3 (v := .string F) rfl
    have yy0 := Y0.cell 0 (v := .slice ao n c) rfl
    have yy1 := Y0.cell 1 (v := .int .i64 lost) rfl
    have ND := N2.drew
    have RD := R2.below N2.lt ((Below.refl _ _).drew)
    have TD : Turns b w0 wc.drew := T2.trans (Turns.of_below ((Below.refl _ _).drew) N2.lt)
    clear a0 a1 a3 y0 y1 Y0 Y1 Y2
    go_wp2_with fail
    go_region_with (first
      | (go_at_call 14; refine (CU _).mono ?_; rintro e wx ⟨rfl, rfl⟩)
      | (go_at_call 19; refine (C2 _ (by rw [← hn]; exact RD.row)).mono ?_; rintro e w3 ⟨ao3, c3, rfl, R3, B3⟩; have N3 := ND.below B3; have RN3 := rn_new ND R3 B3; have T3 := TD.trans (Turns.of_below B3 ND.lt); obtain ⟨V0, V1, V2⟩ := HD.out.keep T3; have z0 := V0.cell 0 (v := .slice ao n c) rfl; have z1 := V0.cell 1 (v := .int .i64 lost) rfl; have zf := V0.frozen 0; have zg := V0.frozen 1; have r0 := V2.cell 0 (v := .slice none 0 0) rfl; have r1 := V2.cell 1 (v := .int .i64 0) rfl; have f0 := V2.frozen 0; have f1 := V2.frozen 1))
    all_goals
      go_wp2_with fail
      have V2' := V2.put_n (g := w.heap.size) (by omega) (.slice ao3 (n + 1) c3) (.int .i64 lost)
      refine bodyPost_ret (results_blk2 rfl _ _ (w.heap.size + 2) _ rfl (load_n (put_n V2') rfl)) rfl ?_
      have e1 := EL.out
      have P3 : PI b w3 ao3 c3 (L ++ [⟨I, G, false⟩]) lost := ⟨N3, by rw [e1]; exact RN3, FR.out⟩
      exact ⟨ao3, c3, _, lost, by rw [e1]; rfl, (P3.put2 V0 _ _).put2 V2' _ _, by omega, hq, by omega, ((TB.trans T3).put2 hb (Nat.le_refl _) _ _).put2 hb (by omega) _ _⟩
end Go.Proofs.Ytgbljkbiigcofaa
