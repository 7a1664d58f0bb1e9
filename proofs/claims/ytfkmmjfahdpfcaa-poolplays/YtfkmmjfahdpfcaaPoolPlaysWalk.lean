/- PoolPlays: behind any calls a pool has just the pages, refs and keys that the document says. -/
import Derived.Test.YtfkmmjfahdpfcaaPShows
import Derived.Deep.CutRange
import Derived.Deep.CutBlock
import Derived.Deep.RegionHeld
namespace Go.Proofs.Ytfkmmjfahdpfcaa
open Go.ChangeShapes Go.WideShapes Go.ChangeAt Go.RowKit
theorem run_make_rpages (n : Nat) (hn : n ≤ 64) (w : World) : (Instr.makeSlice 28 (.int .i64 (n : Int)) (.int .i64 (n : Int))).run Try.prog w = .ok (.slice (some ⟨w.heap.size, 0, none⟩) n n) (w.alloc (.cells (madeCells #[.int .i64 0, .bool false, .int .i64 0] (n * 3)) 61)) := by
  obtain ⟨i, hi, hzz⟩ := Option.map_eq_some_iff.1 Try.infoRPage
  simp only [Prod.mk.injEq] at hzz
  obtain ⟨hz, hs, hb⟩ := hzz
  have hr := run_make (P := Try.prog) w 28 61 i _ Try.underlying28 hi hz .i64 .i64 n n (by omega) (Int.le_refl _) (by rw [hb]; omega) (by omega)
  simp only [Int.toNat_natCast, hs] at hr
  exact hr
theorem qgs_made (w : World) (n : Nat) : Qgs (w.alloc (.cells (madeCells #[.int .i64 0, .bool false, .int .i64 0] (n * 3)) 61)) w.heap.size (List.replicate n default) := by
  refine ⟨_, blk_new _ _ _, by rw [size_madeCells]; simp, fun i hi => ?_⟩
  simp only [List.length_replicate] at hi
  have e : pg (List.replicate n default) i = default := by unfold pg; simp [List.getD_eq_getElem?_getD, hi]
  rw [e]
  have hk : ∀ k, k < n * 3 → (madeCells #[.int .i64 0, .bool false, .int .i64 0] (n * 3))[k]? = some ((#[Value.int .i64 0, .bool false, .int .i64 0] : Array Value)[k % 3]!) := fun k hk => by
    unfold madeCells
    simp [hk]
  refine ⟨?_, ?_, ?_⟩
  · rw [hk _ (by omega), show i * 3 % 3 = 0 by omega]; rfl
  · rw [hk _ (by omega), show (i * 3 + 1) % 3 = 1 by omega]; rfl
  · rw [hk _ (by omega), show (i * 3 + 2) % 3 = 2 by omega]; rfl
/-- What stands at each round: the pool and the document's value, which its variable holds. -/
structure PP (w0 wr : World) (b bx n : Nat) (p : RfV) (x : St) : Prop where
  inn : In wr b x
  len : x.L.length = n
  rf : RfAt (ApO (fun g => g = bx) wr b) wr p x
  box : Blk wr bx 31 #[.slice (some ⟨p.g, 0, none⟩) x.L.length p.cP, .slice p.aI x.I.length p.cI]
  apart : b + 2 ≤ bx ∧ idleBlk wr b ≠ some bx
  low : Below w0.heap.size w0 wr
theorem PP.below {w0 w w' : World} {b bx n : Nat} {p : RfV} {x : St} (h : PP w0 w b bx n p x) (hb : Below w.heap.size w w') : PP w0 w' b bx n p x := by
  have e : idleBlk w' b = idleBlk w b := idleBlk_same (hb.block _ h.inn.lt)
  exact ⟨h.inn.below hb, h.len, (h.rf.below hb).mono (fun g _ ho => ⟨ho.1, by rw [e]; exact ho.2.1, ho.2.2⟩), h.box.below hb h.box.lt, ⟨h.apart.1, by rw [e]; exact h.apart.2⟩, h.low.trans (hb.mono h.low.size)⟩
/-- Behind a call on both whose answer was stored into a variable that was laid behind it. -/
theorem plays_a {w wA w5 w6 : World} {b bx n : Nat} {p p' : RfV} {x y : St} (hP : PP w wA b bx n p x) (I5 : In w5 b y) (R5 : RfAt (ApO (fun g => g = bx) w5 b) w5 p' y) (T5 : Turns b wA w5) (hb : w.heap.size ≤ b) (B6 : Below w5.heap.size w5 w6) (X6 : Blk w6 w5.heap.size 31 #[.slice none 0 0, .slice none 0 0]) (a c : Value) :
    In ((w6.setCell ⟨w5.heap.size, 0, none⟩ a).setCell ⟨w5.heap.size, 1, none⟩ c) b y ∧ RfAt (ApO (fun g => g = bx) ((w6.setCell ⟨w5.heap.size, 0, none⟩ a).setCell ⟨w5.heap.size, 1, none⟩ c) b) ((w6.setCell ⟨w5.heap.size, 0, none⟩ a).setCell ⟨w5.heap.size, 1, none⟩ c) p' y ∧ Blk ((w6.setCell ⟨w5.heap.size, 0, none⟩ a).setCell ⟨w5.heap.size, 1, none⟩ c) bx 31 #[.slice (some ⟨p.g, 0, none⟩) x.L.length p.cP, .slice p.aI x.I.length p.cI] ∧ Blk ((w6.setCell ⟨w5.heap.size, 0, none⟩ a).setCell ⟨w5.heap.size, 1, none⟩ c) w5.heap.size 31 #[a, c] ∧ bx ≠ w5.heap.size ∧ (b + 2 ≤ bx ∧ idleBlk ((w6.setCell ⟨w5.heap.size, 0, none⟩ a).setCell ⟨w5.heap.size, 1, none⟩ c) b ≠ some bx) ∧ Below w.heap.size w ((w6.setCell ⟨w5.heap.size, 0, none⟩ a).setCell ⟨w5.heap.size, 1, none⟩ c) := by
  have hbx := hP.box.lt
  have hs5 := T5.below.size
  have l5 := I5.lt
  have ha := hP.apart
  have n5 : bx ≠ w5.heap.size := by omega
  have X5 := hP.box.of_block (T5.block _ hbx (by omega) (by omega) ha.2)
  have i5 : idleBlk w5 b ≠ some bx := by
    rcases T5.idle with e | ⟨q, e, hq⟩
    · rw [e]; exact ha.2
    · rw [e]; intro e2; simp at e2; omega
  have I6 := I5.below B6
  have e6 : idleBlk w6 b = idleBlk w5 b := idleBlk_same (B6.block _ l5)
  have k5 : idleBlk w5 b ≠ some w5.heap.size := fun e => by have := (I5.idle_lt _ e).2; omega
  obtain ⟨I7, e7⟩ := I6.set (k := w5.heap.size) (by omega) (by rw [e6]; exact k5) 0 a
  obtain ⟨I8, e8⟩ := I7.set (k := w5.heap.size) (by omega) (by rw [e7, e6]; exact k5) 1 c
  have R6 : RfAt (fun g => ApO (fun g => g = bx) w5 b g ∧ g < w5.heap.size) w5 p' y := R5.mono fun g hg ho => ⟨ho, hg⟩
  have R7 := (R6.below B6).of_block (w' := (w6.setCell ⟨w5.heap.size, 0, none⟩ a).setCell ⟨w5.heap.size, 1, none⟩ c) fun g hg _ => by
    have : g ≠ w5.heap.size := by have := hg.2; omega
    rw [Below.heap_setCell _ _ _ _ this, Below.heap_setCell _ _ _ _ this]
  refine ⟨I8, R7.mono fun g _ ho => ⟨ho.1.1, by rw [e8, e7, e6]; exact ho.1.2.1, ho.1.2.2⟩, ((X5.below B6 X5.lt).other n5 _).other n5 _, put_r X6, n5, ⟨ha.1, by rw [e8, e7, e6]; exact i5⟩, ?_⟩
  have b5 := hP.low.trans (T5.below.mono hb)
  exact below_put_r (b5.trans (B6.mono b5.size)) b5.size _ _
/-- Behind a call on both whose answer was stored into a variable that was laid ahead of it. -/
theorem plays_b {w wA w5 w6 : World} {b bx n : Nat} {p p' : RfV} {x y : St} (hP : PP w wA b bx n p x) (hb : w.heap.size ≤ b) (B5 : Below wA.heap.size wA w5) (hs : wA.heap.size < w5.heap.size) (X5 : Blk w5 wA.heap.size 31 #[.slice none 0 0, .slice none 0 0]) (I6 : In w6 b y) (R6 : RfAt (ApO (fun g => g = bx ∨ g = wA.heap.size) w6 b) w6 p' y) (T6 : Turns b w5 w6) (a c : Value) :
    Blk w6 wA.heap.size 31 #[.slice none 0 0, .slice none 0 0] ∧ In ((w6.setCell ⟨wA.heap.size, 0, none⟩ a).setCell ⟨wA.heap.size, 1, none⟩ c) b y ∧ RfAt (ApO (fun g => g = bx) ((w6.setCell ⟨wA.heap.size, 0, none⟩ a).setCell ⟨wA.heap.size, 1, none⟩ c) b) ((w6.setCell ⟨wA.heap.size, 0, none⟩ a).setCell ⟨wA.heap.size, 1, none⟩ c) p' y ∧ Blk ((w6.setCell ⟨wA.heap.size, 0, none⟩ a).setCell ⟨wA.heap.size, 1, none⟩ c) bx 31 #[.slice (some ⟨p.g, 0, none⟩) x.L.length p.cP, .slice p.aI x.I.length p.cI] ∧ Blk ((w6.setCell ⟨wA.heap.size, 0, none⟩ a).setCell ⟨wA.heap.size, 1, none⟩ c) wA.heap.size 31 #[a, c] ∧ bx ≠ wA.heap.size ∧ (b + 2 ≤ bx ∧ idleBlk ((w6.setCell ⟨wA.heap.size, 0, none⟩ a).setCell ⟨wA.heap.size, 1, none⟩ c) b ≠ some bx) ∧ Below w.heap.size w ((w6.setCell ⟨wA.heap.size, 0, none⟩ a).setCell ⟨wA.heap.size, 1, none⟩ c) := by
  have hP5 := hP.below B5
  have hbx := hP.box.lt
  have lA := hP.inn.lt
  have ha := hP5.apart
  have n5 : bx ≠ wA.heap.size := by omega
  have kA : idleBlk w5 b ≠ some wA.heap.size := fun e => by
    rw [idleBlk_same (B5.block _ lA)] at e
    have := (hP.inn.idle_lt _ e).2
    omega
  have far : ∀ k, k < w5.heap.size → idleBlk w5 b ≠ some k → idleBlk w6 b ≠ some k := fun k hk h => by
    rcases T6.idle with e | ⟨q, e, hq⟩
    · rw [e]; exact h
    · rw [e]; intro e2; simp at e2; omega
  have Y6 := X5.of_block (T6.block _ hs (by omega) (by omega) kA)
  have Z6 := hP5.box.of_block (T6.block _ hP5.box.lt (by have := ha.1; omega) (by have := ha.1; omega) ha.2)
  obtain ⟨I7, e7⟩ := I6.set (k := wA.heap.size) (by omega) (far _ hs kA) 0 a
  obtain ⟨I8, e8⟩ := I7.set (k := wA.heap.size) (by omega) (by rw [e7]; exact far _ hs kA) 1 c
  have R7 := R6.of_block (w' := (w6.setCell ⟨wA.heap.size, 0, none⟩ a).setCell ⟨wA.heap.size, 1, none⟩ c) fun g hg _ => by
    have : g ≠ wA.heap.size := fun e => hg.2.2 (Or.inr e)
    rw [Below.heap_setCell _ _ _ _ this, Below.heap_setCell _ _ _ _ this]
  refine ⟨Y6, I8, R7.mono fun g _ ho => ⟨ho.1, by rw [e8, e7]; exact ho.2.1, fun e => ho.2.2 (Or.inl e)⟩, (Z6.other n5 _).other n5 _, put_r Y6, n5, ⟨ha.1, by rw [e8, e7]; exact far _ hP5.box.lt ha.2⟩, ?_⟩
  have b5 := hP5.low.trans (T6.below.mono hb)
  exact below_put_r b5 hP.low.size _ _
set_option maxHeartbeats 16000000 in
set_option maxRecDepth 100000 in
theorem poolPlays_walk (x : Int) (ao : Option Addr) (m cap : Nat) (Z : Nat → Act3) (w : World) (hx : -9223372036854775808 ≤ x ∧ x ≤ 9223372036854775807) (hZ : ActsAt w ao m Z) :
   Calls Try.prog 3 #[.int .i64 x, .slice ao m cap] w fun e w' => e = .returned (.bool true) ∧ Below w.heap.size w w' := by
  by_cases h0 : x < 1
  · have C := pnew_few x w h0
    have A := pawake_any w
    go_enter Try.func3, Try.ntmps3
    go_wp2_with first
      | (go_at_call 8; refine C.mono ?_; rintro e w1 ⟨rfl, rfl⟩)
      | (go_at_call 9; refine A.mono ?_; rintro e w2 ⟨rfl, B2⟩)
    go_ret
    exact ⟨rfl, B2⟩
  by_cases h1 : 64 < x
  · have C := pnew_many x w h1
    have A := pawake_any w
    go_enter Try.func3, Try.ntmps3
    go_wp2_with first
      | (go_at_call 8; refine C.mono ?_; rintro e w1 ⟨rfl, rfl⟩)
      | (go_at_call 9; refine A.mono ?_; rintro e w2 ⟨rfl, B2⟩)
    go_ret
    exact ⟨rfl, B2⟩
  obtain ⟨n, rfl⟩ : ∃ n : Nat, x = n := ⟨x.toNat, by omega⟩
  have hn1 : 1 ≤ n := by omega
  have hn2 : n ≤ 64 := by omega
  have C := pnew_any n w hn1 (by omega)
  have hmk := run_make_rpages n hn2
  clear hx
  have HZ : Hid _ := hZ
  have hmx := hZ.max
  clear hZ
  go_enter Try.func3, Try.ntmps3
  go_wp2_with first
    | (go_at_call 8; refine C.mono ?_; rintro e w1 ⟨rfl, p1, B1⟩; clear C)
    | (go_at_call 9; refine (pawake_any w1).mono ?_; rintro e w2 ⟨rfl, B2⟩)
  have i1 : In w1 w.heap.size ⟨List.replicate n default, []⟩ := ⟨p1, wf_new n, by simp; omega⟩
  have i2 := i1.below B2
  have b2 := below_then B1 (B2.mono (Nat.le_refl _))
  have Q3 := qgs_made w2 n
  have B3 : Below w2.heap.size w2 (w2.alloc (.cells (madeCells #[.int .i64 0, .bool false, .int .i64 0] (n * 3)) 61)) := (Below.refl _ _).alloc (Nat.le_refl _) _
  have s3 : (w2.alloc (.cells (madeCells #[.int .i64 0, .bool false, .int .i64 0] (n * 3)) 61)).heap.size = w2.heap.size + 1 := by simp
  generalize w2.alloc (.cells (madeCells #[.int .i64 0, .bool false, .int .i64 0] (n * 3)) 61) = w3 at *
  have X4 := blk_new w3 31 #[.slice (some ⟨w2.heap.size, 0, none⟩) n n, .slice none 0 0]
  have B4 : Below w3.heap.size w3 (w3.alloc (.cells #[.slice (some ⟨w2.heap.size, 0, none⟩) n n, .slice none 0 0] 31)) := (Below.refl _ _).alloc (Nat.le_refl _) _
  rw [s3] at X4
  have s4 : (w3.alloc (.cells #[.slice (some ⟨w2.heap.size, 0, none⟩) n n, .slice none 0 0] 31)).heap.size = w2.heap.size + 2 := by simp; omega
  generalize w3.alloc (.cells #[.slice (some ⟨w2.heap.size, 0, none⟩) n n, .slice none 0 0] 31) = w4 at *
  have l2 := i2.lt
  have B34 := below_then B3 B4
  have i4 := i2.below B34
  have e4 : idleBlk w4 w.heap.size = idleBlk w2 w.heap.size := idleBlk_same (B34.block _ l2)
  have hidl : ∀ k, w2.heap.size ≤ k → idleBlk w4 w.heap.size ≠ some k := fun k hk e => by
    rw [e4] at e
    have := (i2.idle_lt k e).2
    omega
  have P0 : PP w w4 w.heap.size (w2.heap.size + 1) n ⟨w2.heap.size, n, none, 0⟩ ⟨List.replicate n default, []⟩ := by
    refine ⟨i4, by simp, ⟨Q3.of_block (B4.block _ Q3.lt), ⟨by show w.heap.size + 2 ≤ w2.heap.size; omega, hidl _ (Nat.le_refl _), by show ¬ w2.heap.size = w2.heap.size + 1; omega⟩, fun h => by simp at h, fun _ => rfl, by simp; omega, by simp, by simp; omega⟩, ?_, ⟨by omega, hidl _ (by omega)⟩, b2.trans (B34.mono b2.size)⟩
    simp only [List.length_replicate, List.length_nil]
    exact X4
  clear i1 i2 i4 b2 Q3 B3 s3 X4 B4 s4 B34 e4 hidl hmk p1 B1 B2 l2
  generalize w2.heap.size + 1 = bx at *
  go_loopg [8] (min m 80) (fun gg s8 wr => ∃ (k : Nat) (p : RfV) (y : St), k ≤ min m 80 ∧ gg = min m 80 - k ∧ s8 = .int .i64 (k : Int) ∧ PP w wr w.heap.size bx n p y)
  case atStart => exact ⟨0, _, _, by omega, by omega, rfl, P0⟩
  case round =>
    obtain ⟨k, p, y, hk, rfl, rfl, hP⟩ := hrel
    clear P0
    by_cases hlt : k < min m 80
    · have hm1 : (k : Int) < (m : Int) := by omega
      have hm2 : (k : Int) < 80 := by omega
      obtain ⟨bz, oz, rfl, hz⟩ := HZ.out.cells (by omega)
      obtain ⟨z0, z1, z2⟩ := hz k (by omega)
      obtain ⟨_, b2, _⟩ := HZ.out.small k
      have hbz : bz < w.heap.size := World.block_lt_of_cell? w _ z0
      have HZC : Hid (∀ v, Below w.heap.size w v → v.cell? ⟨bz, oz + k * 3, none⟩ = some (.int .i64 (Z k).kind) ∧ v.cell? ⟨bz, oz + k * 3 + 1, none⟩ = some (.int .i64 (Z k).i) ∧ v.cell? ⟨bz, oz + k * 3 + 2, none⟩ = some (.int .i64 (Z k).key)) := fun v hb => by
        rw [hb.cell (p := ⟨bz, oz + k * 3, none⟩) hbz, hb.cell (p := ⟨bz, oz + k * 3 + 1, none⟩) hbz, hb.cell (p := ⟨bz, oz + k * 3 + 2, none⟩) hbz]
        exact ⟨z0, z1, z2⟩
      have hyl : Hid _ := (actR_len (Z k) y).trans hP.len
      clear hz z0 z1 z2
      go_upto_region 10 with fail
      go_cut [9, 10] from 56 to 89 (fun s9 s10 wc => ∃ (gy : Nat) (p' : RfV), s9 = .pointer (some ⟨gy, 0, none⟩) ∧ s10 = .bool true ∧ In wc w.heap.size (actR (Z k) y) ∧ RfAt (ApO (fun g => g = bx) wc w.heap.size) wc p' (actR (Z k) y) ∧ Blk wc bx 31 #[.slice (some ⟨p.g, 0, none⟩) y.L.length p.cP, .slice p.aI y.I.length p.cI] ∧ Blk wc gy 31 #[.slice (some ⟨p'.g, 0, none⟩) (actR (Z k) y).L.length p'.cP, .slice p'.aI (actR (Z k) y).I.length p'.cI] ∧ bx ≠ gy ∧ (w.heap.size + 2 ≤ bx ∧ idleBlk wc w.heap.size ≠ some bx) ∧ Below w.heap.size w wc)
      case first =>
        have hPA := hP.below ((Below.refl _ _).drew)
        have zA := HZC.out _ hPA.low
        refine wp_region_held_drew (S := fun w' => Blk w' bx 31 #[.slice (some ⟨p.g, 0, none⟩) y.L.length p.cP, .slice p.aI y.I.length p.cI] ∧ w'.cell? ⟨bz, oz + k * 3, none⟩ = some (.int .i64 (Z k).kind) ∧ w'.cell? ⟨bz, oz + k * 3 + 1, none⟩ = some (.int .i64 (Z k).i) ∧ w'.cell? ⟨bz, oz + k * 3 + 2, none⟩ = some (.int .i64 (Z k).key)) (by kernel_rfl) (⟨hPA.box, zA⟩) (fun hHeld => ?_)
        generalize hA : wr.drew = wA at *
        clear hA hP
        refine wpAnyH_take (i := 0) (v := (.pointer (some ⟨w.heap.size + 1, 0, none⟩))) rfl (by kernel_rfl) (by kernel_rfl) (by kernel_rfl) (fun _ _ _ h => h) (Or.inl ⟨by rfl, ?_⟩) (by assumption) ?_
        · intro w' hSw
          go_simp
        simp only [List.getElem_toArray, List.getElem_cons_zero, Act.put, List.setIfInBounds_toArray, List.set_cons_zero, List.set_cons_succ]
        refine wpAnyH_take (i := 1) (v := (.agg #[.slice (some ⟨p.g, 0, none⟩) y.L.length p.cP, .slice p.aI y.I.length p.cI])) rfl (by kernel_rfl) (by kernel_rfl) (by kernel_rfl) (fun _ _ _ h => h) (Or.inl ⟨by rfl, ?_⟩) (by assumption) ?_
        · intro w' hSw
          have cc0 := hSw.1.cell 0 rfl
          have cc1 := hSw.1.cell 1 rfl
          go_simp
        simp only [List.getElem_toArray, List.getElem_cons_succ, List.getElem_cons_zero, Act.put, List.setIfInBounds_toArray, List.set_cons_zero, List.set_cons_succ]
        refine wpAnyH_take (i := 2) (v := (.slice (some ⟨bz, oz, none⟩) m cap)) rfl (by kernel_rfl) (by kernel_rfl) (by kernel_rfl) (fun _ _ _ h => h) (Or.inl ⟨by rfl, ?_⟩) (by assumption) ?_
        · intro w' hSw
          go_simp
        simp only [List.getElem_toArray, List.getElem_cons_succ, List.getElem_cons_zero, Act.put, List.setIfInBounds_toArray, List.set_cons_zero, List.set_cons_succ]
        refine wpAnyH_take (i := 3) (v := (.int .i64 (k : Int))) rfl (by kernel_rfl) (by kernel_rfl) (by kernel_rfl) (fun _ _ _ h => h) (Or.inl ⟨by rfl, ?_⟩) (by assumption) ?_
        · intro w' hSw
          go_simp
        simp only [List.getElem_toArray, List.getElem_cons_succ, List.getElem_cons_zero, Act.put, List.setIfInBounds_toArray, List.set_cons_zero, List.set_cons_succ]
        refine wpAnyH_take (i := 4) (v := (.pointer (some ⟨bz, oz + k * 3, none⟩))) rfl (by kernel_rfl) (by kernel_rfl) (by kernel_rfl) (fun _ _ _ h => h) (Or.inl ⟨by rfl, ?_⟩) (by assumption) ?_
        · intro w' hSw
          go_simp
        simp only [List.getElem_toArray, List.getElem_cons_succ, List.getElem_cons_zero, Act.put, List.setIfInBounds_toArray, List.set_cons_zero, List.set_cons_succ]
        refine wpAnyH_take (i := 5) (v := (.agg #[.int .i64 (Z k).kind, .int .i64 (Z k).i, .int .i64 (Z k).key])) rfl (by kernel_rfl) (by kernel_rfl) (by kernel_rfl) (fun _ _ _ h => h) (Or.inl ⟨by rfl, ?_⟩) (by assumption) ?_
        · intro w' hSw
          obtain ⟨_, cc0, cc1, cc2⟩ := hSw
          go_simp
        simp only [List.getElem_toArray, List.getElem_cons_succ, List.getElem_cons_zero, Act.put, List.setIfInBounds_toArray, List.set_cons_zero, List.set_cons_succ]
        refine wpAnyH_ready (rs := [6, 10]) (by kernel_rfl) (by simp) ?_
        refine AllReadyH.cons rfl (fun Kc hKc => ?_) (AllReadyH.cons rfl (fun Kc hKc => ?_) AllReadyH.nil)
        · have CD := does_any (fun g => g = bx) w.heap.size p y (Z k) wA hPA.inn hPA.rf (fun g hg => by rw [hg]; exact hPA.box.lt) b2
          simp only [RfV.val] at CD
          simp only [List.getElem_toArray, List.getElem_cons_succ, List.getElem_cons_zero]
          rw [if_pos (by rfl)]
          go_wp2_with fail
          refine CD.mono ?_
          rintro e w5 ⟨p', rfl, I5, R5, T5⟩
          clear CD
          have X5 := hPA.box.of_block (T5.block _ hPA.box.lt (by have := hPA.apart.1; omega) (by have := hPA.apart.1; omega) hPA.apart.2)
          have b5 := hPA.low.trans T5.below
          have z5 := HZC.out _ b5
          go_wp2_with fail
          refine hKc.out _ _ (⟨X5, z5⟩) (fun hHeld => ?_)
          clear hKc Kc
          refine wpAnyH_take (i := 7) (v := (.tuple #[.agg #[.slice (some ⟨p'.g, 0, none⟩) (actR (Z k) y).L.length p'.cP, .slice p'.aI (actR (Z k) y).I.length p'.cI], .bool true])) rfl (by kernel_rfl) (by kernel_rfl) (by kernel_rfl) (fun _ _ _ h => h) (Or.inl ⟨by rfl, ?_⟩) (by assumption) ?_
          · intro w' hSw
            go_simp
          simp only [List.getElem_toArray, List.getElem_cons_succ, List.getElem_cons_zero, Act.put, List.setIfInBounds_toArray, List.set_cons_zero, List.set_cons_succ]
          refine wpAnyH_take (i := 8) (v := (.agg #[.slice (some ⟨p'.g, 0, none⟩) (actR (Z k) y).L.length p'.cP, .slice p'.aI (actR (Z k) y).I.length p'.cI])) rfl (by kernel_rfl) (by kernel_rfl) (by kernel_rfl) (fun _ _ _ h => h) (Or.inl ⟨by rfl, ?_⟩) (by assumption) ?_
          · intro w' hSw
            go_simp
          simp only [List.getElem_toArray, List.getElem_cons_succ, List.getElem_cons_zero, Act.put, List.setIfInBounds_toArray, List.set_cons_zero, List.set_cons_succ]
          refine wpAnyH_take (i := 9) (v := (.bool true)) rfl (by kernel_rfl) (by kernel_rfl) (by kernel_rfl) (fun _ _ _ h => h) (Or.inl ⟨by rfl, ?_⟩) (by assumption) ?_
          · intro w' hSw
            go_simp
          simp only [List.getElem_toArray, List.getElem_cons_succ, List.getElem_cons_zero, Act.put, List.setIfInBounds_toArray, List.set_cons_zero, List.set_cons_succ]
          refine wpAnyH_ready (rs := [10]) (by kernel_rfl) (by simp) ?_
          refine AllReadyH.cons rfl (fun Kc hKc => ?_) AllReadyH.nil
          simp only [List.getElem_toArray, List.getElem_cons_succ, List.getElem_cons_zero]
          rw [if_pos (by rfl)]
          go_wp2_with fail
          have XN := blk_new w5 31 #[.slice none 0 0, .slice none 0 0]
          have EA : Below w5.heap.size w5 (w5.alloc (.cells #[.slice none 0 0, .slice none 0 0] 31)) := (Below.refl _ _).alloc (Nat.le_refl _) _
          have sN : (w5.alloc (.cells #[.slice none 0 0, .slice none 0 0] 31)).heap.size = w5.heap.size + 1 := by simp
          generalize w5.alloc (.cells #[.slice none 0 0, .slice none 0 0] 31) = w6 at *
          have z6 := HZC.out _ (b5.trans (EA.mono b5.size))
          refine hKc.out _ _ (⟨X5.below EA X5.lt, z6⟩) (fun hHeld => ?_)
          clear hKc Kc
          refine wpAnyH_ready (rs := [11]) (by kernel_rfl) (by simp) ?_
          refine AllReadyH.cons rfl (fun Kc hKc => ?_) AllReadyH.nil
          simp only [List.getElem_toArray, List.getElem_cons_succ, List.getElem_cons_zero]
          rw [if_pos (by rfl)]
          have n0 := XN.cell 0 (v := .slice none 0 0) rfl
          have n1 := XN.cell 1 (v := .slice none 0 0) rfl
          have n2 := XN.frozen 0
          have n3 := XN.frozen 1
          go_wp2_with fail
          obtain ⟨q1, q2, q3, q4, q5, q6, q7⟩ := plays_a hPA I5 R5 T5 (Nat.le_refl _) EA XN (.slice (some ⟨p'.g, 0, none⟩) (actR (Z k) y).L.length p'.cP) (.slice p'.aI (actR (Z k) y).I.length p'.cI)
          refine hKc.out _ _ (⟨q3, HZC.out _ q7⟩) (fun hHeld => ?_)
          clear hKc Kc
          refine wpAnyH_take (i := 12) (v := (.bool true)) rfl (by kernel_rfl) (by kernel_rfl) (by kernel_rfl) (fun _ _ _ h => h) (Or.inl ⟨by rfl, ?_⟩) (by assumption) ?_
          · intro w' hSw
            go_simp
          simp only [List.getElem_toArray, List.getElem_cons_succ, List.getElem_cons_zero, Act.put, List.setIfInBounds_toArray, List.set_cons_zero, List.set_cons_succ]
          refine wpAnyH_done (by kernel_rfl) ?_ _
          go_wp2_with fail
          go_meet
          case rel => exact ⟨w5.heap.size, p', rfl, rfl, q1, q2, q3, q4, q5, q6, q7⟩
        · simp only [List.getElem_toArray, List.getElem_cons_succ, List.getElem_cons_zero]
          rw [if_pos (by rfl)]
          go_wp2_with fail
          have XN := blk_new wA 31 #[.slice none 0 0, .slice none 0 0]
          have EA : Below wA.heap.size wA (wA.alloc (.cells #[.slice none 0 0, .slice none 0 0] 31)) := (Below.refl _ _).alloc (Nat.le_refl _) _
          have sN : (wA.alloc (.cells #[.slice none 0 0, .slice none 0 0] 31)).heap.size = wA.heap.size + 1 := by simp
          generalize wA.alloc (.cells #[.slice none 0 0, .slice none 0 0] 31) = w5 at *
          have hP5 := hPA.below EA
          have z5 := HZC.out _ hP5.low
          refine hKc.out _ _ (⟨hP5.box, z5⟩) (fun hHeld => ?_)
          clear hKc Kc
          refine wpAnyH_ready (rs := [6]) (by kernel_rfl) (by simp) ?_
          refine AllReadyH.cons rfl (fun Kc hKc => ?_) AllReadyH.nil
          have CD := does_any (fun g => g = bx ∨ g = wA.heap.size) w.heap.size p y (Z k) w5 hP5.inn ((hPA.rf.mono (O' := fun g => ApO (fun g => g = bx) wA w.heap.size g ∧ g < wA.heap.size) (fun g hg ho => ⟨ho, hg⟩)).below EA |>.mono fun g _ ho => ⟨ho.1.1, by rw [idleBlk_same (EA.block _ hPA.inn.lt)]; exact ho.1.2.1, fun e => e.elim ho.1.2.2 (fun e => by have := ho.2; omega)⟩) (fun g hg => hg.elim (fun e => by rw [e]; exact hP5.box.lt) (fun e => by omega)) b2
          simp only [RfV.val] at CD
          simp only [List.getElem_toArray, List.getElem_cons_succ, List.getElem_cons_zero]
          rw [if_pos (by rfl)]
          go_wp2_with fail
          refine CD.mono ?_
          rintro e w6 ⟨p', rfl, I6, R6, T6⟩
          clear CD
          obtain ⟨YN, q1, q2, q3, q4, q5, q6, q7⟩ := plays_b hPA (Nat.le_refl _) EA (by omega) XN I6 R6 T6 (.slice (some ⟨p'.g, 0, none⟩) (actR (Z k) y).L.length p'.cP) (.slice p'.aI (actR (Z k) y).I.length p'.cI)
          have X6 := hP5.box.of_block (T6.block _ hP5.box.lt (by have := hP5.apart.1; omega) (by have := hP5.apart.1; omega) hP5.apart.2)
          have z6 := HZC.out _ (hP5.low.trans T6.below)
          go_wp2_with fail
          refine hKc.out _ _ (⟨X6, z6⟩) (fun hHeld => ?_)
          clear hKc Kc
          refine wpAnyH_take (i := 7) (v := (.tuple #[.agg #[.slice (some ⟨p'.g, 0, none⟩) (actR (Z k) y).L.length p'.cP, .slice p'.aI (actR (Z k) y).I.length p'.cI], .bool true])) rfl (by kernel_rfl) (by kernel_rfl) (by kernel_rfl) (fun _ _ _ h => h) (Or.inl ⟨by rfl, ?_⟩) (by assumption) ?_
          · intro w' hSw
            go_simp
          simp only [List.getElem_toArray, List.getElem_cons_succ, List.getElem_cons_zero, Act.put, List.setIfInBounds_toArray, List.set_cons_zero, List.set_cons_succ]
          refine wpAnyH_take (i := 8) (v := (.agg #[.slice (some ⟨p'.g, 0, none⟩) (actR (Z k) y).L.length p'.cP, .slice p'.aI (actR (Z k) y).I.length p'.cI])) rfl (by kernel_rfl) (by kernel_rfl) (by kernel_rfl) (fun _ _ _ h => h) (Or.inl ⟨by rfl, ?_⟩) (by assumption) ?_
          · intro w' hSw
            go_simp
          simp only [List.getElem_toArray, List.getElem_cons_succ, List.getElem_cons_zero, Act.put, List.setIfInBounds_toArray, List.set_cons_zero, List.set_cons_succ]
          refine wpAnyH_take (i := 9) (v := (.bool true)) rfl (by kernel_rfl) (by kernel_rfl) (by kernel_rfl) (fun _ _ _ h => h) (Or.inl ⟨by rfl, ?_⟩) (by assumption) ?_
          · intro w' hSw
            go_simp
          simp only [List.getElem_toArray, List.getElem_cons_succ, List.getElem_cons_zero, Act.put, List.setIfInBounds_toArray, List.set_cons_zero, List.set_cons_succ]
          refine wpAnyH_ready (rs := [11]) (by kernel_rfl) (by simp) ?_
          refine AllReadyH.cons rfl (fun Kc hKc => ?_) AllReadyH.nil
          simp only [List.getElem_toArray, List.getElem_cons_succ, List.getElem_cons_zero]
          rw [if_pos (by rfl)]
          have n0 := YN.cell 0 (v := .slice none 0 0) rfl
          have n1 := YN.cell 1 (v := .slice none 0 0) rfl
          have n2 := YN.frozen 0
          have n3 := YN.frozen 1
          go_wp2_with fail
          refine hKc.out _ _ (⟨q3, HZC.out _ q7⟩) (fun hHeld => ?_)
          clear hKc Kc
          refine wpAnyH_take (i := 12) (v := (.bool true)) rfl (by kernel_rfl) (by kernel_rfl) (by kernel_rfl) (fun _ _ _ h => h) (Or.inl ⟨by rfl, ?_⟩) (by assumption) ?_
          · intro w' hSw
            go_simp
          simp only [List.getElem_toArray, List.getElem_cons_succ, List.getElem_cons_zero, Act.put, List.setIfInBounds_toArray, List.set_cons_zero, List.set_cons_succ]
          refine wpAnyH_done (by kernel_rfl) ?_ _
          go_wp2_with fail
          go_meet
          case rel => exact ⟨wA.heap.size, p', rfl, rfl, q1, q2, q3, q4, q5, q6, q7⟩
      case rest =>
        obtain ⟨gy, p', rfl, rfl, I5, R5, X5, Y5, ne5, a5, b5⟩ := hcut
        have u0 := Y5.cell 0 rfl
        have u1 := Y5.cell 1 rfl
        have f0 := X5.frozen 0
        have f1 := X5.frozen 1
        have v0 := X5.cell 0 rfl
        have v1 := X5.cell 1 rfl
        have X6 := (X5.set 0 (.slice (some ⟨p'.g, 0, none⟩) (actR (Z k) y).L.length p'.cP)).set 1 (.slice p'.aI (actR (Z k) y).I.length p'.cI)
        obtain ⟨I6, e6⟩ := I5.set a5.1 a5.2 0 (.slice (some ⟨p'.g, 0, none⟩) (actR (Z k) y).L.length p'.cP)
        obtain ⟨I7, e7⟩ := I6.set a5.1 (by rw [e6]; exact a5.2) 1 (.slice p'.aI (actR (Z k) y).I.length p'.cI)
        have R6 := R5.of_block (w' := (_root_.Go.World.setCell (_root_.Go.World.setCell wc ⟨bx, 0, none⟩ (.slice (some ⟨p'.g, 0, none⟩) (actR (Z k) y).L.length p'.cP)) ⟨bx, 1, none⟩ (.slice p'.aI (actR (Z k) y).I.length p'.cI))) fun g hg _ => by rw [Below.heap_setCell _ _ _ _ hg.2.2, Below.heap_setCell _ _ _ _ hg.2.2]
        have R7 := R6.mono (O' := ApO (fun g => g = bx) _ w.heap.size) fun g _ ho => ⟨ho.1, by rw [e7, e6]; exact ho.2.1, ho.2.2⟩
        have b7 := (b5.setCell (p := ⟨bx, 0, none⟩) (by show w.heap.size ≤ bx; omega) (.slice (some ⟨p'.g, 0, none⟩) (actR (Z k) y).L.length p'.cP)).setCell (p := ⟨bx, 1, none⟩) (by show w.heap.size ≤ bx; omega) (.slice p'.aI (actR (Z k) y).I.length p'.cI)
        have hPP : PP w _ w.heap.size bx n p' (actR (Z k) y) := ⟨I7, hyl.out, R7, X6, ⟨a5.1, by rw [e7, e6]; exact a5.2⟩, b7⟩
        go_upto_region 12 with fail
        generalize (wc.setCell ⟨bx, 0, none⟩ (.slice (some ⟨p'.g, 0, none⟩) (actR (Z k) y).L.length p'.cP)).setCell ⟨bx, 1, none⟩ (.slice p'.aI (actR (Z k) y).I.length p'.cI) = w8 at *
        have E8 : Below w8.heap.size w8 w8.drew := (Below.refl _ _).drew
        have hP9 := hPP.below E8
        obtain ⟨_, _, z5⟩ := HZC.out _ hP9.low
        have y0 := hP9.box.cell 0 (v := .slice (some ⟨p'.g, 0, none⟩) (actR (Z k) y).L.length p'.cP) rfl
        have y1 := hP9.box.cell 1 (v := .slice p'.aI (actR (Z k) y).I.length p'.cI) rfl
        have CS := shows_any _ w.heap.size p' (actR (Z k) y) (Z k).key _ hP9.inn hP9.rf
        simp only [RfV.val] at CS
        clear u0 u1 f0 f1 v0 v1 X6 I6 e6 I7 e7 R6 R7 b7 hPP X5 Y5 R5 I5 hP
        refine wp_region_held_drew (S := fun w' => Blk w' bx 31 #[.slice (some ⟨p'.g, 0, none⟩) (actR (Z k) y).L.length p'.cP, .slice p'.aI (actR (Z k) y).I.length p'.cI] ∧ w'.cell? ⟨bz, oz + k * 3 + 2, none⟩ = some (.int .i64 (Z k).key)) (by kernel_rfl) (⟨hP9.box, z5⟩) (fun hHeld => ?_)
        generalize hA : w8.drew = wA at *
        clear hA
        refine wpAnyH_take (i := 0) (v := (.bool true)) rfl (by kernel_rfl) (by kernel_rfl) (by kernel_rfl) (fun _ _ _ h => h) (Or.inl ⟨by rfl, ?_⟩) (by assumption) ?_
        · intro w' hSw
          go_simp
        simp only [List.getElem_toArray, List.getElem_cons_zero, Act.put, List.setIfInBounds_toArray, List.set_cons_zero, List.set_cons_succ]
        refine wpAnyH_take (i := 1) (v := (.bool false)) rfl (by kernel_rfl) (by kernel_rfl) (by kernel_rfl) (fun _ _ _ h => h) (Or.inl ⟨by rfl, ?_⟩) (by assumption) ?_
        · intro w' hSw
          go_simp
        simp only [List.getElem_toArray, List.getElem_cons_succ, List.getElem_cons_zero, Act.put, List.setIfInBounds_toArray, List.set_cons_zero, List.set_cons_succ]
        refine wpAnyH_take (i := 2) (v := (.bool false)) rfl (by kernel_rfl) (by kernel_rfl) (by kernel_rfl) (fun _ _ _ h => h) (Or.inl ⟨by rfl, ?_⟩) (by assumption) ?_
        · intro w' hSw
          go_simp
        simp only [List.getElem_toArray, List.getElem_cons_succ, List.getElem_cons_zero, Act.put, List.setIfInBounds_toArray, List.set_cons_zero, List.set_cons_succ]
        refine wpAnyH_take (i := 3) (v := (.pointer (some ⟨w.heap.size + 1, 0, none⟩))) rfl (by kernel_rfl) (by kernel_rfl) (by kernel_rfl) (fun _ _ _ h => h) (Or.inl ⟨by rfl, ?_⟩) (by assumption) ?_
        · intro w' hSw
          go_simp
        simp only [List.getElem_toArray, List.getElem_cons_succ, List.getElem_cons_zero, Act.put, List.setIfInBounds_toArray, List.set_cons_zero, List.set_cons_succ]
        refine wpAnyH_take (i := 4) (v := (.agg #[.slice (some ⟨p'.g, 0, none⟩) (actR (Z k) y).L.length p'.cP, .slice p'.aI (actR (Z k) y).I.length p'.cI])) rfl (by kernel_rfl) (by kernel_rfl) (by kernel_rfl) (fun _ _ _ h => h) (Or.inl ⟨by rfl, ?_⟩) (by assumption) ?_
        · intro w' hSw
          have cc0 := hSw.1.cell 0 rfl
          have cc1 := hSw.1.cell 1 rfl
          go_simp
        simp only [List.getElem_toArray, List.getElem_cons_succ, List.getElem_cons_zero, Act.put, List.setIfInBounds_toArray, List.set_cons_zero, List.set_cons_succ]
        refine wpAnyH_take (i := 5) (v := (.slice (some ⟨bz, oz, none⟩) m cap)) rfl (by kernel_rfl) (by kernel_rfl) (by kernel_rfl) (fun _ _ _ h => h) (Or.inl ⟨by rfl, ?_⟩) (by assumption) ?_
        · intro w' hSw
          go_simp
        simp only [List.getElem_toArray, List.getElem_cons_succ, List.getElem_cons_zero, Act.put, List.setIfInBounds_toArray, List.set_cons_zero, List.set_cons_succ]
        refine wpAnyH_take (i := 6) (v := (.int .i64 (k : Int))) rfl (by kernel_rfl) (by kernel_rfl) (by kernel_rfl) (fun _ _ _ h => h) (Or.inl ⟨by rfl, ?_⟩) (by assumption) ?_
        · intro w' hSw
          go_simp
        simp only [List.getElem_toArray, List.getElem_cons_succ, List.getElem_cons_zero, Act.put, List.setIfInBounds_toArray, List.set_cons_zero, List.set_cons_succ]
        refine wpAnyH_take (i := 7) (v := (.pointer (some ⟨bz, oz + k * 3, none⟩))) rfl (by kernel_rfl) (by kernel_rfl) (by kernel_rfl) (fun _ _ _ h => h) (Or.inl ⟨by rfl, ?_⟩) (by assumption) ?_
        · intro w' hSw
          go_simp
        simp only [List.getElem_toArray, List.getElem_cons_succ, List.getElem_cons_zero, Act.put, List.setIfInBounds_toArray, List.set_cons_zero, List.set_cons_succ]
        refine wpAnyH_take (i := 8) (v := (.pointer (some ⟨bz, oz + k * 3 + 2, none⟩))) rfl (by kernel_rfl) (by kernel_rfl) (by kernel_rfl) (fun _ _ _ h => h) (Or.inl ⟨by rfl, ?_⟩) (by assumption) ?_
        · intro w' hSw
          go_simp
        simp only [List.getElem_toArray, List.getElem_cons_succ, List.getElem_cons_zero, Act.put, List.setIfInBounds_toArray, List.set_cons_zero, List.set_cons_succ]
        refine wpAnyH_take (i := 9) (v := (.int .i64 (Z k).key)) rfl (by kernel_rfl) (by kernel_rfl) (by kernel_rfl) (fun _ _ _ h => h) (Or.inl ⟨by rfl, ?_⟩) (by assumption) ?_
        · intro w' hSw
          have cc0 := hSw.2
          go_simp
        simp only [List.getElem_toArray, List.getElem_cons_succ, List.getElem_cons_zero, Act.put, List.setIfInBounds_toArray, List.set_cons_zero, List.set_cons_succ]
        refine wpAnyH_ready (rs := [10]) (by kernel_rfl) (by simp) ?_
        refine AllReadyH.cons rfl (fun Kc hKc => ?_) AllReadyH.nil
        simp only [List.getElem_toArray, List.getElem_cons_succ, List.getElem_cons_zero]
        rw [if_pos (by rfl)]
        go_wp2_with fail
        refine CS.mono ?_
        rintro e w9 ⟨rfl, B9⟩
        have hPZ := hP9.below B9
        obtain ⟨_, _, z9⟩ := HZC.out _ hPZ.low
        go_wp2_with fail
        refine hKc.out _ _ (⟨hPZ.box, z9⟩) (fun hHeld => ?_)
        clear hKc Kc
        refine wpAnyH_take (i := 11) (v := (.bool false)) rfl (by kernel_rfl) (by kernel_rfl) (by kernel_rfl) (fun _ _ _ h => h) (Or.inl ⟨by rfl, ?_⟩) (by assumption) ?_
        · intro w' hSw
          go_simp
        simp only [List.getElem_toArray, List.getElem_cons_succ, List.getElem_cons_zero, Act.put, List.setIfInBounds_toArray, List.set_cons_zero, List.set_cons_succ]
        refine wpAnyH_take (i := 12) (v := (.bool false)) rfl (by kernel_rfl) (by kernel_rfl) (by kernel_rfl) (fun _ _ _ h => h) (Or.inl ⟨by rfl, ?_⟩) (by assumption) ?_
        · intro w' hSw
          go_simp
        simp only [List.getElem_toArray, List.getElem_cons_succ, List.getElem_cons_zero, Act.put, List.setIfInBounds_toArray, List.set_cons_zero, List.set_cons_succ]
        refine wpAnyH_done (by kernel_rfl) ?_ _
        go_wp2
        go_roundg (min m 80 - (k + 1))
        case measure => omega
        case rel => exact ⟨k + 1, p', actR (Z k) y, by omega, rfl, by go_num, hPZ⟩
    · obtain rfl : k = min m 80 := by omega
      by_cases hm3 : ((min m 80 : Nat) : Int) < (m : Int)
      · have hm4 : ¬ ((min m 80 : Nat) : Int) < 80 := by omega
        generalize min m 80 = i at *
        go_wp2_with fail
        go_ret
        exact ⟨rfl, hP.low⟩
      · generalize min m 80 = i at *
        go_wp2_with fail
        go_ret
        exact ⟨rfl, hP.low⟩
end Go.Proofs.Ytfkmmjfahdpfcaa
