/- Send and Take on a net and on the document's. -/
import Derived.Test.YtgbljkbiigcofaaNDoes5
import Derived.Deep.CutBlock
import Derived.Deep.CutRange
namespace Go.Proofs.Ytgbljkbiigcofaa
open Go.ChangeShapes Go.WideShapes Go.ChangeAt Go.RowKit
set_option maxHeartbeats 2000000 in
set_option maxRecDepth 100000 in
theorem does_send_arg (b : Nat) (I T X : Int) (ao : Option Addr) (c : Nat) (L : List Pc) (lost : Int) (F : ByteArray) (w : World) (h : PI b w ao c L lost) (hq : 0 ≤ lost) (hi : I < 0 ∨ 8 ≤ I) :
   Calls Try.prog 9 #[.pointer (some ⟨b, 0, none⟩), .agg #[.slice ao L.length c, .int .i64 lost], .agg #[.int .i64 1, .int .i64 I, .int .i64 T, .string F, .int .u32 X]] w (DR b w L lost) := by
  obtain ⟨w0, D⟩ := d0_any b w ao c L.length lost 1 I T F X h.net
  have hb := h.net.lt
  have P0 := h.turns D.bel
  have HD : Hid _ := D
  have TB := Turns.of_below D.bel hb
  obtain ⟨B0, s0, hw, X0, X1, X2, _⟩ := D
  have CU := fun W => cutF_any F 40 W
  have C1 := fun W => send_arg b I (cutF F 40) W hi
  have C2 := fun W => rsend_arg I (cutF F 40) ao L.length c lost W hi
  have a0 := X1.cell 0 (v := .int .i64 1) rfl
  have a1 := X1.cell 1 (v := .int .i64 I) rfl
  have a3 := X1.cell 3 (v := .string F) rfl
  have y0 := X0.cell 0 (v := .slice ao L.length c) rfl
  have y1 := X0.cell 1 (v := .int .i64 lost) rfl
  clear h X0 X1 X2 hi
  generalize cutF F 40 = G at *
  generalize hn : L.length = n at *
  go_enter Try.func9, Try.ntmps9
  go_upto_region 4 with fail
  go_cut [8] from 25 (fun s8 wc => s8 = .int .i64 1 ∧ wc = w0.drew)
  case first =>
    go_region_with (first
      | (go_at_call 14; refine (CU _).mono ?_; rintro e wx ⟨rfl, rfl⟩)
      | (go_at_call 13; refine (C1 _).mono ?_; rintro e w2 ⟨rfl, rfl⟩))
    all_goals
      go_wp2_with fail
      go_meet
      case rel => exact ⟨rfl, rfl⟩
  case rest =>
    obtain ⟨rfl, rfl⟩ := hcut
    have PD := P0.turns ((Below.refl _ _).drew)
    have TD : Turns b w0 w0.drew := Turns.of_below ((Below.refl _ _).drew) P0.net.lt
    have sd : w0.drew.heap.size = w0.heap.size := rfl
    have aa1 : w0.drew.cell? ⟨w.heap.size + 1, 1, none⟩ = some (.int .i64 I) := a1
    have aa3 : w0.drew.cell? ⟨w.heap.size + 1, 3, none⟩ = some (.string F) := a3
    have yy0 : w0.drew.cell? ⟨w.heap.size, 0, none⟩ = some (.slice ao n c) := y0
    have yy1 : w0.drew.cell? ⟨w.heap.size, 1, none⟩ = some (.int .i64 lost) := y1
    generalize hwd : w0.drew = wd at *
    go_wp2_with fail
    go_region_with (first
      | (go_at_call 14; refine (CU _).mono ?_; rintro e wx ⟨rfl, rfl⟩)
      | (go_at_call 19; refine (C2 _).mono ?_; rintro e w3 ⟨rfl, B3⟩; have PD2 := PD.turns ((Below.refl _ _).drew); have P3 := PD2.turns B3; have T3 := (TD.trans (Turns.of_below ((Below.refl _ _).drew) PD.net.lt)).trans (Turns.of_below B3 PD2.net.lt); obtain ⟨V0, V1, V2⟩ := HD.out.keep T3; have z0 := V0.cell 0 (v := .slice ao n c) rfl; have z1 := V0.cell 1 (v := .int .i64 lost) rfl; have zf := V0.frozen 0; have zg := V0.frozen 1; have r0 := V2.cell 0 (v := .slice none 0 0) rfl; have r1 := V2.cell 1 (v := .int .i64 0) rfl; have f0 := V2.frozen 0; have f1 := V2.frozen 1))
    all_goals
      go_wp2_with fail
      have V2' := V2.put_n (g := w.heap.size) (by omega) (.slice ao n c) (.int .i64 lost)
      refine bodyPost_ret (results_blk2 rfl _ _ (w.heap.size + 2) _ rfl (load_n (put_n V2') rfl)) rfl ?_
      exact ⟨ao, c, L, lost, by rw [hn]; rfl, (P3.put2 V0 _ _).put2 V2' _ _, by omega, hq, by omega, ((TB.trans T3).put2 hb (Nat.le_refl _) _ _).put2 hb (by omega) _ _⟩
end Go.Proofs.Ytgbljkbiigcofaa
