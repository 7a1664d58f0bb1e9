/- The document's pool: a page is taken, held, sealed, dropped, forgotten. -/
import Derived.Test.YtfkmmjfahdpfcaaPRef3
namespace Go.Proofs.Ytfkmmjfahdpfcaa
open Go.ChangeShapes Go.WideShapes Go.ChangeAt Go.RowKit
theorem results_blk2 {fn : Func} {p u : Tmp} {ty : TypeId} (h : fn.results = #[.cell p ty, .tmp u]) (tmps : Array Value) (w : World) (g : Nat) (cs : Array Value)
    (hp : tmps.getD p undef = .pointer (some ⟨g, 0, none⟩)) (hl : (loadVar ty ⟨g, 0, none⟩).run Try.prog w = .ok (.agg cs) w) :
    (results fn tmps).run Try.prog w = .ok (.tuple #[.agg cs, tmps.getD u undef]) w := by
  have hp' : tmps[p]?.getD undef = .pointer (some ⟨g, 0, none⟩) := by simpa using hp
  simp [results, h, hp', asAddr, hl]
theorem results_blk5 {fn : Func} {p u v a b : Tmp} {ty : TypeId} (h : fn.results = #[.cell p ty, .tmp u, .tmp v, .tmp a, .tmp b]) (tmps : Array Value) (w : World) (g : Nat) (cs : Array Value)
    (hp : tmps.getD p undef = .pointer (some ⟨g, 0, none⟩)) (hl : (loadVar ty ⟨g, 0, none⟩).run Try.prog w = .ok (.agg cs) w) :
    (results fn tmps).run Try.prog w = .ok (.tuple #[.agg cs, tmps.getD u undef, tmps.getD v undef, tmps.getD a undef, tmps.getD b undef]) w := by
  have hp' : tmps[p]?.getD undef = .pointer (some ⟨g, 0, none⟩) := by simpa using hp
  simp [results, h, hp', asAddr, hl]
theorem load_r {w : World} {g : Nat} {cs : Array Value} (h : Blk w g 31 cs) (hs : cs.size = 2) : (loadVar 31 ⟨g, 0, none⟩).run Try.prog w = .ok (.agg cs) w :=
  run_loadVar_row w g _ _ cs _ _ h Try.underlying31 rfl (by rw [hs]; exact Try.infoRPool)
/-- What came of a result that was stored. -/
theorem put_r {w : World} {g : Nat} {a b : Value} (h : Blk w g 31 #[.slice none 0 0, .slice none 0 0]) : Blk ((w.setCell ⟨g, 0, none⟩ a).setCell ⟨g, 1, none⟩ b) g 31 #[a, b] := (h.set 0 a).set 1 b
theorem below_put_r {B g : Nat} {w w' : World} (h : Below B w w') (hg : B ≤ g) (a b : Value) : Below B w ((w'.setCell ⟨g, 0, none⟩ a).setCell ⟨g, 1, none⟩ b) := (h.setCell hg a).setCell hg b
/-- Blocks that are such, but not the two that a call lays first. -/
def Not2 (O : Nat → Prop) (n : Nat) (g : Nat) : Prop := O g ∧ g ≠ n ∧ g ≠ n + 1
theorem RfAt.not2 {O : Nat → Prop} {w : World} {p : RfV} {x : St} (h : RfAt O w p x) : RfAt (Not2 O w.heap.size) w p x := h.mono fun g hg ho => ⟨ho, by omega, by omega⟩
theorem not2_new {O : Nat → Prop} {w v : World} (hO : ∀ g, w.heap.size ≤ g → O g) (hs : w.heap.size + 2 ≤ v.heap.size) : ∀ g, v.heap.size ≤ g → Not2 O w.heap.size g := fun g hg => ⟨hO g (by omega), by omega, by omega⟩
theorem RfAt.put {O : Nat → Prop} {n : Nat} {w : World} {p : RfV} {x : St} (h : RfAt (Not2 O n) w p x) (a b : Value) : RfAt O ((w.setCell ⟨n + 1, 0, none⟩ a).setCell ⟨n + 1, 1, none⟩ b) p x := by
  have h1 := h.of_block (w' := (w.setCell ⟨n + 1, 0, none⟩ a).setCell ⟨n + 1, 1, none⟩ b) fun g hg _ => by
    rw [Below.heap_setCell _ _ _ _ hg.2.2, Below.heap_setCell _ _ _ _ hg.2.2]
  exact h1.mono fun g _ ho => ho.1
theorem RfAt.put0 {O : Nat → Prop} {n : Nat} {w : World} {p : RfV} {x : St} (h : RfAt (Not2 O n) w p x) (a b : Value) : RfAt (Not2 O n) ((w.setCell ⟨n, 0, none⟩ a).setCell ⟨n, 1, none⟩ b) p x :=
  h.of_block fun g hg _ => by rw [Below.heap_setCell _ _ _ _ hg.2.1, Below.heap_setCell _ _ _ _ hg.2.1]
set_option maxHeartbeats 4000000 in
theorem take_ref (O : Nat → Prop) (p : RfV) (x : St) (w : World) (h : RfAt O w p x) (hO : ∀ g, w.heap.size ≤ g → O g) (hin : ∀ i ∈ x.I, i < x.L.length) : Calls Try.prog 21 #[p.val x] w fun e w' => ∃ p', e = .returned (.tuple #[p'.val (takeR x).x, .int .i64 ((takeR x).i : Int), .int .i64 (takeR x).k, .bool (takeR x).did, .int .i64 (takeR x).e]) ∧ RfAt O w' p' (takeR x).x ∧ Below w.heap.size w w' := by
  obtain ⟨gp, cP, aI, cI⟩ := p
  have X0 := rbox w ⟨gp, cP, aI, cI⟩ x
  have CF := fun (i : Nat) (v : World) (hb : Below w.heap.size w v) => free_ref O ⟨gp, cP, aI, cI⟩ x i v (h.below hb)
  have CW := fun (j : Nat) (hj : j < x.L.length) (v : World) (hb : Below w.heap.size w v) (hs : w.heap.size + 2 ≤ v.heap.size) => with_ref (Not2 O w.heap.size) ⟨gp, cP, aI, cI⟩ x j one v (h.not2.below hb) (not2_new hO hs) hj
  have CL := fun (i : Nat) (v : World) (hb : Below w.heap.size w v) (hs : w.heap.size + 2 ≤ v.heap.size) => less_ref (Not2 O w.heap.size) ⟨gp, cP, aI, cI⟩ x i v (h.not2.below hb) (not2_new hO hs)
  simp only [RfV.val] at X0 CF CW CL ⊢
  have B0 : Below w.heap.size w (w.alloc (.cells #[.slice (some ⟨gp, 0, none⟩) x.L.length cP, .slice aI x.I.length cI] 31)) := (Below.refl _ _).alloc (Nat.le_refl _) _
  generalize hw0 : w.alloc (.cells #[.slice (some ⟨gp, 0, none⟩) x.L.length cP, .slice aI x.I.length cI] 31) = w0 at *
  have s0 : w0.heap.size = w.heap.size + 1 := by rw [← hw0]; simp
  have X1 := blk_new w0 31 #[.slice none 0 0, .slice none 0 0]
  have B1 : Below w0.heap.size w0 (w0.alloc (.cells #[.slice none 0 0, .slice none 0 0] 31)) := (Below.refl _ _).alloc (Nat.le_refl _) _
  generalize hw1 : w0.alloc (.cells #[.slice none 0 0, .slice none 0 0] 31) = w1 at *
  have s1 : w1.heap.size = w.heap.size + 2 := by rw [← hw1]; simp; omega
  rw [s0] at X1
  have D1 := below_then B0 B1
  replace X0 := X0.below B1 (by omega)
  have c0 := X0.cell 0 (v := .slice (some ⟨gp, 0, none⟩) x.L.length cP) rfl
  have c1 := X0.cell 1 (v := .slice aI x.I.length cI) rfl
  unfold Pg.val one at CW
  simp only [Int.natCast_one] at CW
  have hf := h.few
  generalize hn : x.L.length = n at *
  go_enter Try.func21, Try.ntmps21
  go_wp2
  clear hw0 hw1 B0 B1 c0 c1
  go_loopg [7, 13] n (fun gg _ s13 wr => ∃ k : Nat, k ≤ n ∧ gg = n - k ∧ s13 = .int .i64 (k : Int) ∧ Hid (∀ j, j < k → (pg x.L j).free = false) ∧ Blk wr w.heap.size 31 #[.slice (some ⟨gp, 0, none⟩) n cP, .slice aI x.I.length cI] ∧ Blk wr (w.heap.size + 1) 31 #[.slice none 0 0, .slice none 0 0] ∧ Below w.heap.size w wr)
  case atStart => exact ⟨0, by omega, by omega, rfl, fun j hj => by omega, X0, X1, D1⟩
  case round =>
    obtain ⟨k, hk, rfl, rfl, A, Y0, Y1, hB⟩ := hrel
    clear X0 X1 D1
    have u0 := Y0.cell 0 (v := .slice (some ⟨gp, 0, none⟩) n cP) rfl
    have u1 := Y0.cell 1 (v := .slice aI x.I.length cI) rfl
    by_cases hlt : k < n
    · have C1 := CF k wr hB
      have e : inN x.L k = true := by unfold inN; rw [decide_eq_true (by omega)]
      rw [atN_nat, e, Bool.true_and] at C1
      cases hfr : (pg x.L k).free with
      | false =>
        rw [hfr] at C1
        have HFR : Hid _ := hfr
        clear hfr e
        go_wp2_with (go_at_call 34; refine C1.mono ?_; rintro e w2 ⟨rfl, B2⟩)
        go_roundg (n - (k + 1))
        case measure => omega
        case rel =>
          refine ⟨k + 1, by omega, rfl, by go_num, fun j hj => ?_, Y0.below B2 Y0.lt, Y1.below B2 Y1.lt, hB.trans (B2.mono hB.size)⟩
          by_cases e : j = k
          · rw [e]; exact HFR.out
          · exact A.out j (by omega)
      | true =>
        have hidx : x.L.findIdx Pg.free = k := by
          have h3 := idxN_hit Pg.free x.L k (by omega) hfr A.out
          by_cases h4 : x.L.findIdx Pg.free < x.L.length
          · rw [idxN_pos h4] at h3; omega
          · rw [idxN_neg h4] at h3; omega
        have HT : Hid (takeR x = ⟨⟨x.L.set k one, x.I⟩, k, 0, false, 0⟩) := by show _ = _; unfold takeR; rw [hidx, if_pos (by omega)]
        rw [hfr] at C1
        clear hfr e hidx A CF CL
        have CW1 := fun v hb hs => CW k hlt v hb hs
        clear CW
        go_wp2_with first
          | (go_at_call 34; refine C1.mono ?_; rintro e w2 ⟨rfl, B2⟩; have b2 := hB.trans (B2.mono hB.size); have Y0 := Y0.below B2 Y0.lt; have Y1 := Y1.below B2 Y1.lt; have u0 := Y0.cell 0 (v := .slice (some ⟨gp, 0, none⟩) n cP) rfl; have u1 := Y0.cell 1 (v := .slice aI x.I.length cI) rfl)
          | (go_at_call 35; refine (CW1 _ b2 (by have := Y1.lt; omega)).mono ?_; rintro e w3 ⟨p', rfl, R3, B3⟩; have Y1 := Y1.below B3 Y1.lt; have f0 := Y1.frozen 0; have f1 := Y1.frozen 1; have u2 := Y1.cell 0 (v := .slice none 0 0) rfl; have u3 := Y1.cell 1 (v := .slice none 0 0) rfl)
        refine bodyPost_ret (results_blk5 rfl _ _ (w.heap.size + 1) _ rfl (load_r (put_r Y1) rfl)) rfl ?_
        have b3 := b2.trans (B3.mono b2.size)
        have k4 : w.heap.size ≤ w.heap.size + 1 := by omega
        refine ⟨p', by rw [HT.out]; simp only [List.length_set, hn]; rfl, ?_, below_put_r b3 k4 _ _⟩
        rw [HT.out]
        exact R3.put _ _
    · obtain rfl : k = n := by omega
      have hnf : ¬ x.L.findIdx Pg.free < x.L.length := fun h4 => by
        have h3 := idxN_miss Pg.free x.L (by rw [hn]; exact A.out)
        rw [idxN_pos h4] at h3; omega
      have f0 := Y1.frozen 0
      have f1 := Y1.frozen 1
      have u2 := Y1.cell 0 (v := .slice none 0 0) rfl
      have u3 := Y1.cell 1 (v := .slice none 0 0) rfl
      have k4 : w.heap.size ≤ w.heap.size + 1 := by omega
      obtain ⟨L, I⟩ := x
      simp only at *
      cases I with
      | nil =>
        have HT : Hid (takeR ⟨L, []⟩ = ⟨⟨L, []⟩, 0, 0, false, 10⟩) := by show _ = _; unfold takeR; rw [if_neg hnf]
        clear CF CW CL
        simp only [List.length_nil] at u1 Y0 ⊢
        go_wp2
        refine bodyPost_ret (results_blk5 rfl _ _ (w.heap.size + 1) _ rfl (load_r (put_r Y1) rfl)) rfl ?_
        refine ⟨⟨gp, cP, aI, cI⟩, by rw [HT.out]; simp only [hn]; rfl, ?_, below_put_r hB k4 _ _⟩
        rw [HT.out]
        exact (h.not2.below hB).put _ _
      | cons i R =>
        have HT : Hid (takeR ⟨L, i :: R⟩ = ⟨⟨L.set i one, less (i :: R) i⟩, i, (pg L i).k, true, 0⟩) := by show _ = _; unfold takeR; rw [if_neg hnf]
        have hi : i < L.length := by have := hin i (by simp); omega
        obtain ⟨gI, eI, _, hcI⟩ := (h.below hB).idle (by simp)
        have cI0 := hcI 0 (by simp)
        simp only [List.getD_cons_zero] at cI0 eI
        subst eI
        have Q1 := (h.below hB).pages
        have p2 := Q1.c2 hi
        simp only at p2
        have hpos : (0 : Int) < ((i :: R).length : Int) := by simp
        have hne : ¬ ((i :: R).length : Int) = 0 := by omega
        have CL1 := CL i wr hB (by have := Y1.lt; omega)
        have CW2 := fun (p2 : RfV) (v : World) (hR : RfAt (Not2 O w.heap.size) v p2 ⟨L, less (i :: R) i⟩) (hs : w.heap.size + 2 ≤ v.heap.size) => with_ref (Not2 O w.heap.size) p2 ⟨L, less (i :: R) i⟩ i one v hR (not2_new hO hs) hi
        simp only [RfV.val] at CW2
        unfold Pg.val one at CW2
        simp only [Int.natCast_one] at CW2
        simp only [hn] at CW2
        have hik : (i : Int) < (k : Int) := by omega
        have HHI : Hid _ := hi
        clear CF CW CL hcI Q1 hi hin
        generalize hz : (i :: R).length = z at *
        generalize hkey : (pg L i).k = key at *
        go_wp2_with first
          | (go_at_call 36; refine CL1.mono ?_; rintro e w2 ⟨p2', rfl, R2, B2⟩; have b2 := hB.trans (B2.mono hB.size); have Y1 := Y1.below B2 Y1.lt; have CW3 := CW2 p2' w2 R2 (by have := Y1.lt; omega))
          | (go_at_call 35; refine CW3.mono ?_; rintro e w3 ⟨p', rfl, R3, B3⟩; have Y1 := Y1.below B3 Y1.lt; have f0 := Y1.frozen 0; have f1 := Y1.frozen 1; have u2 := Y1.cell 0 (v := .slice none 0 0) rfl; have u3 := Y1.cell 1 (v := .slice none 0 0) rfl)
        refine bodyPost_ret (results_blk5 rfl _ _ (w.heap.size + 1) _ rfl (load_r (put_r Y1) rfl)) rfl ?_
        have b3 := b2.trans (B3.mono b2.size)
        refine ⟨p', by rw [HT.out]; simp only [List.length_set, hn]; rfl, ?_, below_put_r b3 k4 _ _⟩
        rw [HT.out]
        exact R3.put _ _
end Go.Proofs.Ytfkmmjfahdpfcaa
