/- Contracts of the program's functions, part 11 of 13: what each call returns and leaves of memory. -/
import Derived.Test.YtcanjlofnpnhkaaGreatDoorPk10
import Derived.Test.YtcanjlofnpnhkaaGreatDoorPk7
import Derived.Test.YtcanjlofnpnhkaaGreatDoorPk9
/- Package block: takeLists. -/
namespace Go.Proofs.YtcanjlofnpnhkaaGreatDoor
open Go.ChangeShapes Go.WideShapes Go.ChangeAt Go.RowKit
theorem set_alike {w w' : World} {b : Nat} (h : w'.heap[b]? = w.heap[b]?) (a : Addr) (v : Value) : (w'.setCell a v).heap[b]? = (w.setCell a v).heap[b]? := by
  simp [World.setCell, Array.getElem?_modify, h]
set_option maxRecDepth 100000 in
set_option maxHeartbeats 3200000 in
theorem takeLists_any (c : Nat) (l : List UInt8) (m P dim : Nat) (w : World) (hc : Blk w c 9 #[.string (txt l)]) (hm : m ≤ 4096) (hP : P ≤ 4096) (hdim : dim ≤ 4096) :
   Calls Tryz.prog 20 #[.func (.func 42) #[] #[.pointer (some ⟨c, 0, none⟩)], .int .i64 (m : Int), .int .i64 (P : Int), .int .i64 (dim : Int)] w fun e w' => ∃ g, e = .returned (.slice (some ⟨g, 0, none⟩) m m) ∧ Hangs (fun b => w.heap.size ≤ b) w' (fun w => CubeAt w (some ⟨g, 0, none⟩) m (cubeT l m P dim)) ∧ Blk w' c 9 #[.string (txt (l.drop (4 * (m * (P * dim)))))] ∧ But c w w' := by
  have hmk := run_make_row' (P := Tryz.prog) 26 105 (.slice none 0 0) 24 Tryz.underlying26 Tryz.infoList rfl .i64 .i64 m (by omega) (by omega)
  have HMK2 := run_make_row' (P := Tryz.prog) 105 35 (.slice none 0 0) 24 Tryz.underlying105 Tryz.infoRow rfl .i64 .i64 P (by omega) (by omega)
  have HMK3 := run_make_row' (P := Tryz.prog) 35 106 (.int .i32 0) 4 Tryz.underlying35 Tryz.infoNum rfl .i64 .i64 dim (by omega) (by omega)
  have hcl := hc.lt
  have OM := of_made w m P dim (fun i t => rowT l dim (i * (P * dim) + t * dim))
  have BA : Below w.heap.size w (w.alloc (.cells (madeCells #[.slice none 0 0] m) 105)) := (Below.refl _ _).alloc (Nat.le_refl _) _
  have XC := hc.below BA
  have UA : Up w.heap.size c w (w.alloc (.cells (madeCells #[.slice none 0 0] m) 105)) := Up.of_below BA (Nat.le_refl _)
  obtain ⟨gA, hg⟩ : ∃ gA, gA = w.heap.size := ⟨_, rfl⟩
  have hgA : c < gA := by omega
  have HG : Hid (w.heap.size = gA) := hg.symm
  clear hc
  go_enter Tryz.func20, Tryz.ntmps20
  go_upto_region 3 with fail
  clear hmk
  rw [← hg] at OM UA
  rw [show (some (⟨w.heap.size, 0, none⟩ : Addr)) = some ⟨gA, 0, none⟩ by rw [hg]]
  clear hg BA hcl
  generalize w.alloc (.cells (madeCells #[.slice none 0 0] m) 105) = w1 at *
  go_loopg [18] m (fun r s18 wr => ∃ i : Nat, i ≤ m ∧ r = m - i ∧ s18 = .int .i64 (i : Int) ∧ OF wr gA m i P dim (fun i t => rowT l dim (i * (P * dim) + t * dim)) ∧ Blk wr c 9 #[.string (txt (l.drop (4 * (i * (P * dim)))))] ∧ Up gA c w wr)
  case atStart => exact ⟨0, by omega, by omega, rfl, OM, by rw [Nat.zero_mul, Nat.mul_zero, List.drop_zero]; exact XC, UA⟩
  case round =>
    clear OM XC UA
    obtain ⟨i, hi, rfl, rfl, OM, XC, UA⟩ := hrel
    by_cases hlt : i < m
    · obtain ⟨⟨u0, cu⟩, fz⟩ := OM.cell hlt
      have BM : Below wr.heap.size wr (wr.alloc (.cells (madeCells #[.slice none 0 0] P) 35)) := (Below.refl _ _).alloc (Nat.le_refl _) _
      have hgr := OM.lt
      have cu1 := cell_keep cu BM
      have fz1 : (wr.alloc (.cells (madeCells #[.slice none 0 0] P) 35)).frozen? ⟨gA, i, none⟩ = false := (frozen_of_block (BM.block gA hgr)).trans fz
      have GM := gf_made wr P dim (fun t => rowT l dim (i * (P * dim) + t * dim))
      have mk2 := HMK2 wr
      have HSC : Hid (∀ b, b < wr.heap.size → ((wr.alloc (.cells (madeCells #[.slice none 0 0] P) 35)).setCell ⟨gA, i, none⟩ (.slice (some ⟨wr.heap.size, 0, none⟩) P P)).heap[b]? = (wr.setCell ⟨gA, i, none⟩ (.slice (some ⟨wr.heap.size, 0, none⟩) P P)).heap[b]?) := fun b hb => set_alike (BM.block b hb) _ _
      obtain ⟨OMx, _⟩ := OM.set hlt (.slice (some ⟨wr.heap.size, 0, none⟩) P P)
      have hsx : (wr.setCell ⟨gA, i, none⟩ (.slice (some ⟨wr.heap.size, 0, none⟩) P P)).heap.size = wr.heap.size := by simp [World.setCell]
      have HO2 : Hid (∀ wx, Up wr.heap.size c ((wr.alloc (.cells (madeCells #[.slice none 0 0] P) 35)).setCell ⟨gA, i, none⟩ (.slice (some ⟨wr.heap.size, 0, none⟩) P P)) wx → OF wx gA m i P dim (fun i t => rowT l dim (i * (P * dim) + t * dim))) := fun wx u => OMx.same (fun b h1 h2 => by
        rw [hsx] at h2
        rw [u.block b h2 (by omega)]
        exact HSC.out b (by omega))
      have c2 : ((wr.alloc (.cells (madeCells #[.slice none 0 0] P) 35)).setCell ⟨gA, i, none⟩ (.slice (some ⟨wr.heap.size, 0, none⟩) P P)).cell? ⟨gA, i, none⟩ = some (.slice (some ⟨wr.heap.size, 0, none⟩) P P) := World.cell?_setCell_same _ _ _ cu1
      clear OMx hsx HSC
      have XC1 := XC.below BM
      have UA1 := UA.trans (Up.of_below BM (by omega))
      generalize hwm : wr.alloc (.cells (madeCells #[.slice none 0 0] P) 35) = wm at *
      have XC2 : Blk (wm.setCell ⟨gA, i, none⟩ (.slice (some ⟨wr.heap.size, 0, none⟩) P P)) c 9 _ := XC1.of_block (Below.heap_setCell _ _ _ c (by show c ≠ gA; omega))
      have GM2 : GF (wm.setCell ⟨gA, i, none⟩ (.slice (some ⟨wr.heap.size, 0, none⟩) P P)) wr.heap.size P 0 dim (fun t => rowT l dim (i * (P * dim) + t * dim)) := GM.same (fun b h1 _ => Below.heap_setCell _ _ _ b (by show b ≠ gA; omega))
      have UA2 := UA1.set (g := gA) (k := i) (Nat.le_refl _) (.slice (some ⟨wr.heap.size, 0, none⟩) P P)
      go_wp2_with fail
      clear cu cu1 fz fz1 BM hwm mk2 OM XC XC1 GM UA UA1
      have hAB := hgr
      clear hgr
      generalize wr.heap.size = gB at *
      generalize wm.setCell ⟨gA, i, none⟩ (.slice (some ⟨gB, 0, none⟩) P P) = w2 at *
      have HC2 : Hid (w2.cell? ⟨gA, i, none⟩ = some (.slice (some ⟨gB, 0, none⟩) P P)) := c2
      clear c2
      go_loopg [31] P (fun r s31 wx => ∃ t : Nat, t ≤ P ∧ r = P - t ∧ s31 = .int .i64 (t : Int) ∧ GF wx gB P t dim (fun t => rowT l dim (i * (P * dim) + t * dim)) ∧ Blk wx c 9 #[.string (txt (l.drop (4 * (i * (P * dim) + t * dim))))] ∧ Up gB c w2 wx)
      case atStart => exact ⟨0, by omega, by omega, rfl, GM2, by rw [Nat.zero_mul, Nat.add_zero]; exact XC2, Up.refl _ _ _⟩
      case round =>
        clear GM2 XC2
        obtain ⟨t, ht, rfl, rfl, GM, XC, UB⟩ := hrel
        by_cases htP : t < P
        · have hgl := GM.lt
          have BM : Below wr.heap.size wr (wr.alloc (.cells (madeCells #[.int .i32 0] dim) 106)) := (Below.refl _ _).alloc (Nat.le_refl _) _
          have FM := fresh_made wr dim (by omega)
          have mk3 := HMK3 wr
          have HG0 : Hid (∀ wx, Up wr.heap.size c (wr.alloc (.cells (madeCells #[.int .i32 0] dim) 106)) wx → GF wx gB P t dim (fun t => rowT l dim (i * (P * dim) + t * dim))) := fun wx u => GM.same (fun b h1 h2 => (u.block b (by omega) (by omega)).trans (BM.block b h2))
          have XC1 := XC.below BM
          have UB1 := UB.trans (Up.of_below BM (by omega))
          have HWS : Hid ((wr.alloc (.cells (madeCells #[.int .i32 0] dim) 106)).heap.size = wr.heap.size + 1) := by show _ = _; simp
          generalize hwm : wr.alloc (.cells (madeCells #[.int .i32 0] dim) 106) = wm at *
          go_wp2_with fail
          clear mk3 hwm BM GM XC UB
          have hBR := hgl
          clear hgl
          generalize wr.heap.size = gR at *
          have HU1 : Hid (Up gB c w2 wm) := UB1
          have HGS : Hid (wm.heap.size = gR + 1) := HWS.out
          clear UB1 HWS
          go_loopg [38] dim (fun r s38 wx => ∃ k : Nat, k ≤ dim ∧ r = dim - k ∧ s38 = .int .i64 (k : Int) ∧ Fresh wx gR gR dim dim (tab dim fun j => if j < k then numAt l (i * (P * dim) + t * dim + j) else 0) ∧ Blk wx c 9 #[.string (txt (l.drop (4 * (i * (P * dim) + t * dim + k))))] ∧ Up gR c wm wx)
          case atStart => exact ⟨0, by omega, by omega, rfl, by simpa using FM, by rw [Nat.add_zero]; exact XC1, Up.refl _ _ _⟩
          case round =>
            clear FM XC1
            obtain ⟨k, hk, rfl, rfl, FM, XC, UC⟩ := hrel
            by_cases hkd : k < dim
            · have CT := take1_any c _ 4 wr XC (Nat.le_refl _)
              obtain ⟨q, hq⟩ : ∃ q, i * (P * dim) + t * dim + k = q := ⟨_, rfl⟩
              have HQ : Hid (i * (P * dim) + t * dim + k = q) := hq
              have HV : Hid (toI (valB ((l.drop (4 * q)).take 4)) = numAt l q) := rfl
              rw [hq, List.drop_drop, show 4 * q + 4 = 4 * (q + 1) by omega] at CT
              have hsm := toI_small (valB ((l.drop (4 * q)).take 4))
              have hto : IntKind.i32.wrap ((valB ((l.drop (4 * q)).take 4) : Nat) : Int) = toI (valB ((l.drop (4 * q)).take 4)) := rfl
              clear hq
              generalize valB ((l.drop (4 * q)).take 4) = vv at *
              generalize toI vv = x at *
              have hfl := FM.lt
              go_wp2_with fail
              refine CT.mono ?_
              rintro e w5 ⟨rfl, X5, B5⟩
              have F5 := FM.of_block (B5.block gR hfl (by omega))
              have y0 := F5.cell hkd
              have fz := F5.frozen k
              clear CT
              go_wp2_with fail
              go_roundg (dim - (k + 1))
              case measure => omega
              case rel =>
                refine ⟨k + 1, by omega, rfl, by go_num, F5.step x hkd (by rw [HQ.out]; exact HV.out) hsm, ?_, (UC.trans (Up.of_but B5 (Nat.le_of_lt hfl))).set (Nat.le_refl _) _⟩
                rw [← Nat.add_assoc, HQ.out]
                exact X5.of_block (Below.heap_setCell _ _ _ c (by show c ≠ gR; omega))
            · obtain rfl : dim = k := by omega
              have FR : Fresh wr gR gR dim dim (rowT l dim (i * (P * dim) + t * dim)) := by
                have e : rowT l dim (i * (P * dim) + t * dim) = tab dim fun j => if j < dim then numAt l (i * (P * dim) + t * dim + j) else 0 := by
                  unfold rowT
                  exact tab_congr fun j hj => by rw [if_pos hj]
                rw [e]
                exact FM
              have U3 := HU1.out.trans (UC.mono (Nat.le_of_lt hBR))
              have G3 := HG0.out wr UC
              have c3 : wr.cell? ⟨gA, i, none⟩ = some (.slice (some ⟨gB, 0, none⟩) P P) := by
                rw [World.cell?_of_block (w := w2) (a := ⟨gA, i, none⟩) (U3.block gA hAB (by omega))]; exact HC2.out
              obtain ⟨⟨u9, q9⟩, fz9⟩ := G3.cell htP
              go_wp2_with fail
              go_roundg (P - (t + 1))
              case measure => omega
              case rel =>
                refine ⟨t + 1, by omega, rfl, by go_num, G3.step htP hBR (FR.mono (Nat.le_of_lt hBR)), ?_, U3.set (Nat.le_refl _) _⟩
                rw [show (t + 1) * dim = t * dim + dim from Nat.succ_mul t dim, ← Nat.add_assoc]
                refine XC.of_block ?_
                exact Below.heap_setCell _ _ _ c (by show c ≠ gB; omega)
        · obtain rfl : P = t := by omega
          have c3 : wr.cell? ⟨gA, i, none⟩ = some (.slice (some ⟨gB, 0, none⟩) P P) := by
            rw [World.cell?_of_block (w := w2) (a := ⟨gA, i, none⟩) (UB.block gA hAB (by omega))]; exact HC2.out
          have O3 := HO2.out wr UB
          go_wp2_with fail
          go_roundg (m - (i + 1))
          case measure => omega
          case rel =>
            refine ⟨i + 1, by omega, rfl, by go_num, O3.next c3 hAB GM, ?_, UA2.trans (UB.mono (Nat.le_of_lt hAB))⟩
            rw [show (i + 1) * (P * dim) = i * (P * dim) + P * dim from Nat.succ_mul i (P * dim)]
            exact XC
    · obtain rfl : m = i := by omega
      go_wp2_with fail
      go_ret
      exact ⟨gA, rfl, OM.new (by have := HG.out; omega) hm hP, XC, ⟨UA.os, UA.tape, UA.output, UA.size, fun b h1 h2 => UA.block b (by have := HG.out; omega) h2⟩⟩
end Go.Proofs.YtcanjlofnpnhkaaGreatDoor

/- Package block: Read. -/
namespace Go.Proofs.YtcanjlofnpnhkaaGreatDoor
open Go.ChangeShapes Go.WideShapes Go.ChangeAt Go.RowKit
def noPg : Pg := ⟨[], 0, [], []⟩
/-- Bytes' page: what lies behind the two first ones, t and f. -/
def pgT (m d t f : Nat) (r : List UInt8) : Pg := ⟨(r.take t).map fun b => (b.toNat : Int), f, cubeT (r.drop t) m (t - f) d, cubeT ((r.drop t).drop (4 * (m * ((t - f) * d)))) m (t - f) d⟩
def rd2 (Vo D L : Int) (t f : Nat) (r : List UInt8) : Int × Pg :=
  if r.length < t then (11, noPg) else if 4 < L.toNat ∨ 32 < D.toNat ∨ r.length - t ≠ 8 * (t - f) * L.toNat * D.toNat then (6, noPg)
  else if ckN Vo D L (pgT L.toNat D.toNat t f r) = 0 then (0, pgT L.toNat D.toNat t f r) else (ckN Vo D L (pgT L.toNat D.toNat t f r), noPg)
def rdS (Vo D L : Int) : List UInt8 → Int × Pg
  | a :: b :: r => rd2 Vo D L a.toNat b.toNat r
  | _ => (11, noPg)
theorem below_but {B c : Nat} {w0 w w' : World} (h : Below B w0 w) (k : But c w w') (hc : B ≤ c) (hB : B ≤ w.heap.size) : Below B w0 w' :=
  h.trans ⟨k.os, k.tape, k.output, k.size, fun b hb => k.block b (by omega) (by omega)⟩
theorem noPg_at (w : World) : PgAt w ⟨⟨none, 0, 0⟩, 0, ⟨none, 0, 0⟩, ⟨none, 0, 0⟩⟩ noPg := ⟨iarg_nil w, rfl, ⟨rfl, Nat.zero_le _, fun h => by simp at h⟩, ⟨rfl, Nat.zero_le _, fun h => by simp at h⟩⟩
def noP : Array Value := #[.slice none 0 0, .int .i64 0, .slice none 0 0, .slice none 0 0]
theorem Tryz.infoInt1 : (Tryz.prog.info? 3).map (fun i => (i.zero, i.size, i.bytes)) = some (some (.int .i64 0), 1, 8) := by kernel_rfl
theorem taker_any (s : ByteArray) (w : World) : Calls Tryz.prog 19 #[.string s] w fun e w' => e = .returned (.func (.func 42) #[] #[.pointer (some ⟨w.heap.size, 0, none⟩)]) ∧ w' = w.alloc (.cells #[.string s] 9) := by
  have hmf : ∀ (fn : Fn) (first cap : Array Value) (w : World), (Instr.makeFunc fn first cap).run Tryz.prog w = .ok (.func fn first cap) w := fun _ _ _ _ => rfl
  go_enter Tryz.func19, Tryz.ntmps19
  go_wp2
  go_ret
  exact ⟨rfl, rfl⟩
/-- A row of whole numbers of one's own, filled from the front. -/
structure TF (w : World) (g t k : Nat) (F : Nat → Int) : Prop where
  row : ∃ cs : Array Value, Blk w g 3 cs ∧ cs.size = t ∧ ∀ j, j < k → cs[j]? = some (.int .i64 (F j))
theorem TF.blk {w w' : World} {g t k : Nat} {F : Nat → Int} (h : TF w g t k F) (e : w'.heap[g]? = w.heap[g]?) : TF w' g t k F := by
  obtain ⟨cs, h1, h2, h3⟩ := h.row
  exact ⟨cs, h1.of_block e, h2, h3⟩
theorem TF.lt {w : World} {g t k : Nat} {F : Nat → Int} (h : TF w g t k F) : g < w.heap.size := by
  obtain ⟨cs, h1, _⟩ := h.row
  exact h1.lt
theorem TF.cell {w : World} {g t k j : Nat} {F : Nat → Int} (h : TF w g t k F) (hj : j < t) : (∃ u, w.cell? ⟨g, j, none⟩ = some u) ∧ w.frozen? ⟨g, j, none⟩ = false := by
  obtain ⟨cs, h1, h2, h3⟩ := h.row
  exact ⟨⟨cs[j]'(by omega), h1.cell j (Array.getElem?_eq_getElem (by omega))⟩, h1.frozen j⟩
theorem TF.step {w : World} {g t k : Nat} {F : Nat → Int} (h : TF w g t k F) (hk : k < t) : TF (w.setCell ⟨g, k, none⟩ (.int .i64 (F k))) g t (k + 1) F := by
  obtain ⟨cs, h1, h2, h3⟩ := h.row
  refine ⟨_, h1.set k _, by simpa using h2, fun j hj => ?_⟩
  by_cases e : j = k
  · subst e
    rw [Array.getElem?_setIfInBounds, if_pos rfl, if_pos (by omega)]
  · rw [Array.getElem?_setIfInBounds, if_neg (fun h => e h.symm)]
    exact h3 j (by omega)
theorem TF.arg {w : World} {g t : Nat} {F : Nat → Int} (h : TF w g t t F) (ht : t ≤ 4096) (hF : ∀ j, -9223372036854775808 ≤ F j ∧ F j ≤ 9223372036854775807) {A : List Int} (hA : A.length = t) (hE : ∀ j, j < t → el A j = F j) : IArg w (some ⟨g, 0, none⟩) t t A := by
  obtain ⟨cs, h1, h2, h3⟩ := h.row
  refine ⟨⟨hA, by omega, fun k => ?_, fun _ => ⟨g, 0, rfl, fun j hj => ?_⟩⟩, Nat.le_refl _, by omega, fun h => by cases h⟩
  · rcases Nat.lt_or_ge k t with h | h
    · rw [hE k h]; exact hF k
    · rw [el_over (by omega)]; omega
  · rw [Nat.zero_add, hE j hj]
    exact h1.cell j (h3 j hj)
theorem take1_one (c : Nat) (b : UInt8) (r : List UInt8) (w : World) (hc : Blk w c 9 #[.string (txt (b :: r))]) :
   Calls Tryz.prog 42 #[.int .i64 1, .pointer (some ⟨c, 0, none⟩)] w fun e w' => e = .returned (.int .u32 (b.toNat : Int)) ∧ Blk w' c 9 #[.string (txt r)] ∧ But c w w' := by
  have := take1_any c (b :: r) 1 w hc (by omega)
  rw [show valB ((b :: r).take 1) = b.toNat by show 0 * 256 + b.toNat = _; omega] at this
  exact this
set_option maxRecDepth 100000 in
set_option maxHeartbeats 6400000 in
theorem read_short (Vo D Hd H L : Int) (l : List UInt8) (w : World) (hl : l.length < 2) :
   Calls Tryz.prog 4 #[.agg (cfgC Vo D Hd H L), .string (txt l)] w fun e w' => e = .returned (.tuple #[.agg noP, .int .i64 11]) ∧ Below w.heap.size w w' := by
  have hsz : (txt l).size = l.length := txt_size l
  rw [show cfgC Vo D Hd H L = #[.int .i64 Vo, .int .i64 D, .int .i64 Hd, .int .i64 H, .int .i64 L] from rfl]
  have B0 : Below w.heap.size w (w.alloc (.cells #[.int .i64 Vo, .int .i64 D, .int .i64 Hd, .int .i64 H, .int .i64 L] 23)) := (Below.refl _ _).alloc (Nat.le_refl _) _
  have s0 : (w.alloc (.cells #[.int .i64 Vo, .int .i64 D, .int .i64 Hd, .int .i64 H, .int .i64 L] 23)).heap.size = w.heap.size + 1 := by simp
  generalize hw0 : w.alloc (.cells #[.int .i64 Vo, .int .i64 D, .int .i64 Hd, .int .i64 H, .int .i64 L] 23) = w0 at *
  have X1 := blk_new w0 30 #[.slice none 0 0, .int .i64 0, .slice none 0 0, .slice none 0 0]
  have B1 : Below w0.heap.size w0 (w0.alloc (.cells #[.slice none 0 0, .int .i64 0, .slice none 0 0, .slice none 0 0] 30)) := (Below.refl _ _).alloc (Nat.le_refl _) _
  rw [s0] at X1
  generalize hw1 : w0.alloc (.cells #[.slice none 0 0, .int .i64 0, .slice none 0 0, .slice none 0 0] 30) = w1 at *
  have hlr : (loadVar 30 ⟨w.heap.size + 1, 0, none⟩).run Tryz.prog (w1.setRow (w.heap.size + 1) noP) = .ok (.agg noP) (w1.setRow (w.heap.size + 1) noP) := load_pg (X1.row _) rfl
  have BF := below_setRow (below_then B0 B1) (by omega : w.heap.size ≤ w.heap.size + 1) noP
  go_enter Tryz.func4, Tryz.ntmps4
  go_wp2_with (refine wpList_store_row rfl 30 _ _ rfl (w.heap.size + 1) noP rfl rfl 30 _ X1 (by exact Tryz.infoPg) rfl (by simp [noP, Value.oneCell']) ?_)
  refine bodyPost_ret (results_cBt (by rfl) _ _ _ _ rfl hlr) rfl ?_
  exact ⟨rfl, BF⟩
set_option maxRecDepth 100000 in
set_option maxHeartbeats 6400000 in
theorem read_two (Vo D Hd H L : Int) (a0 b0 : UInt8) (r : List UInt8) (w : World) (hl : r.length ≤ 16777216) (hD : -9223372036854775808 ≤ D ∧ D ≤ 9223372036854775807) (hL : -9223372036854775808 ≤ L ∧ L ≤ 9223372036854775807) :
   Calls Tryz.prog 4 #[.agg (cfgC Vo D Hd H L), .string (txt (a0 :: b0 :: r))] w fun e w' => ∃ p : PgV, e = .returned (.tuple #[.agg p.cells, .int .i64 (rd2 Vo D L a0.toNat b0.toNat r).1]) ∧ New w.heap.size w' (fun w => PgAt w p (rd2 Vo D L a0.toNat b0.toNat r).2) ∧ Below w.heap.size w w' := by
  have ht := a0.toNat_lt
  have hf := b0.toNat_lt
  have hsz : (txt (a0 :: b0 :: r)).size = r.length + 2 := by rw [txt_size]; rfl
  have CT1 := fun (c : Nat) (wv : World) hc => take1_one c a0 (b0 :: r) wv hc
  have CT2 := fun (c : Nat) (wv : World) hc => take1_one c b0 r wv hc
  obtain ⟨s, hs⟩ : ∃ s, txt (a0 :: b0 :: r) = s := ⟨_, rfl⟩
  rw [hs] at hsz CT1 ⊢
  generalize a0.toNat = t at *
  generalize b0.toNat = f at *
  obtain ⟨RS, hRS⟩ : ∃ RS, rd2 Vo D L t f r = RS := ⟨_, rfl⟩
  have HRS : Hid (rd2 Vo D L t f r = RS) := hRS
  rw [hRS]
  clear hRS
  have CK := fun (p : PgV) (X : Pg) (wv : World) hp hF => check11_any Vo D Hd H L p X wv hp hF
  rw [show cfgC Vo D Hd H L = #[.int .i64 Vo, .int .i64 D, .int .i64 Hd, .int .i64 H, .int .i64 L] from rfl] at CK ⊢
  have X0 := blk_new w 23 #[.int .i64 Vo, .int .i64 D, .int .i64 Hd, .int .i64 H, .int .i64 L]
  have B0 : Below w.heap.size w (w.alloc (.cells #[.int .i64 Vo, .int .i64 D, .int .i64 Hd, .int .i64 H, .int .i64 L] 23)) := (Below.refl _ _).alloc (Nat.le_refl _) _
  have s0 : (w.alloc (.cells #[.int .i64 Vo, .int .i64 D, .int .i64 Hd, .int .i64 H, .int .i64 L] 23)).heap.size = w.heap.size + 1 := by simp
  generalize hw0 : w.alloc (.cells #[.int .i64 Vo, .int .i64 D, .int .i64 Hd, .int .i64 H, .int .i64 L] 23) = w0 at *
  have X1 := blk_new w0 30 #[.slice none 0 0, .int .i64 0, .slice none 0 0, .slice none 0 0]
  have B1 : Below w0.heap.size w0 (w0.alloc (.cells #[.slice none 0 0, .int .i64 0, .slice none 0 0, .slice none 0 0] 30)) := (Below.refl _ _).alloc (Nat.le_refl _) _
  have s1 : (w0.alloc (.cells #[.slice none 0 0, .int .i64 0, .slice none 0 0, .slice none 0 0] 30)).heap.size = w.heap.size + 2 := by simp; omega
  rw [s0] at X1
  generalize hw1 : w0.alloc (.cells #[.slice none 0 0, .int .i64 0, .slice none 0 0, .slice none 0 0] 30) = w1 at *
  replace X0 := X0.below B1
  have BB1 := below_then B0 B1
  have TK := taker_any s w1
  have X2 := blk_new w1 9 #[.string s]
  have B2 : Below w1.heap.size w1 (w1.alloc (.cells #[.string s] 9)) := (Below.refl _ _).alloc (Nat.le_refl _) _
  have s2 : (w1.alloc (.cells #[.string s] 9)).heap.size = w.heap.size + 3 := by simp; omega
  rw [s1] at X2 TK
  generalize hw2 : w1.alloc (.cells #[.string s] 9) = w2 at *
  replace X0 := X0.below B2
  replace X1 := X1.below B2
  have BB2 := below_then BB1 B2
  go_enter Tryz.func4, Tryz.ntmps4
  go_upto_region 3 with fail
  clear hw0 hw1 hw2 s0 s1 B0 B1 BB1
  go_wp2_with fail
  refine TK.mono ?_
  rintro e wt ⟨rfl, hwt⟩
  subst hwt
  clear TK B2
  obtain ⟨c, hcc⟩ : ∃ c, w.heap.size + 2 = c := ⟨_, rfl⟩
  rw [hcc] at X2 ⊢
  have C1 := CT1 c _ X2
  go_wp2_with fail
  refine C1.mono ?_
  rintro e w3 ⟨rfl, X3, K3⟩
  have C2 := CT2 c w3 X3
  go_wp2_with fail
  refine C2.mono ?_
  rintro e w4 ⟨rfl, X4, K4⟩
  have KK := K3.trans K4
  have X04 := X0.but KK (by omega)
  have X14 := X1.but KK (by omega)
  have B4 := below_but BB2 KK (by omega) BB2.size
  have s4 : w.heap.size + 3 ≤ w4.heap.size := by have := KK.size; omega
  have hcs : c < w4.heap.size := by omega
  have HCC : Hid (w.heap.size + 2 = c) := hcc
  have hcw : w.heap.size + 1 < c := by omega
  clear C1 C2 CT1 CT2 X0 X1 X2 X3 K3 K4 KK BB2 s2 hs hcc
  have HSE : Hid (∀ q, Blk q (w.heap.size + 1) 30 noP → Below w.heap.size w q → (loadVar 30 ⟨w.heap.size + 1, 0, none⟩).run Tryz.prog (q.setRow (w.heap.size + 1) noP) = .ok (.agg noP) (q.setRow (w.heap.size + 1) noP) ∧ Below w.heap.size w (q.setRow (w.heap.size + 1) noP)) := fun q hq hb => ⟨load_pg (hq.row _) rfl, below_setRow hb (by omega) noP⟩
  by_cases hrt : r.length < t
  · have HR : Hid (RS = (11, noPg)) := by show _ = _; rw [← HRS.out]; unfold rd2; rw [if_pos hrt]
    obtain ⟨hlr, BF⟩ := HSE.out w4 X14 B4
    go_wp2_with (refine wpList_store_row rfl 30 _ _ rfl (w.heap.size + 1) noP rfl rfl 30 _ X14 (by exact Tryz.infoPg) rfl (by simp [noP, Value.oneCell']) ?_)
    refine bodyPost_ret (results_cBt (by rfl) _ _ _ _ rfl hlr) rfl ?_
    refine ⟨⟨⟨none, 0, 0⟩, 0, ⟨none, 0, 0⟩, ⟨none, 0, 0⟩⟩, by rw [HR.out]; rfl, fun w9 _ => ?_, BF⟩
    rw [HR.out]
    exact noPg_at w9
  · obtain ⟨n, hn⟩ : ∃ n, r.length - t = n := ⟨_, rfl⟩
    have hnr : r.length = n + t := by omega
    obtain ⟨P, hP⟩ : ∃ P, t - f = P := ⟨_, rfl⟩
    obtain ⟨m, hm⟩ : ∃ m, L.toNat = m := ⟨_, rfl⟩
    obtain ⟨d, hd⟩ : ∃ d, D.toNat = d := ⟨_, rfl⟩
    have hP2 : P < 256 := by omega
    have HRD : Hid (RS = if 4 < m ∨ 32 < d ∨ n ≠ 8 * P * m * d then (6, noPg) else if ckN Vo D L (pgT m d t f r) = 0 then (0, pgT m d t f r) else (ckN Vo D L (pgT m d t f r), noPg)) := by
      show _ = _
      rw [← HRS.out]
      unfold rd2
      rw [if_neg hrt, hn, hP, hm, hd]
    have HPP : Hid (t - f = P) := hP
    have HMX : Hid (max ((t : Int) - (f : Int)) 0 = (P : Int) ∧ max L 0 = (m : Int) ∧ max D 0 = (d : Int)) := by
      show _ ∧ _ ∧ _
      omega
    have HNR : Hid (r.length = n + t) := hnr
    have HM : Hid (m ≤ 4 → True) := fun _ => trivial
    have hni : ((r.length : Int) + 2 - 2 - (t : Int)) = (n : Int) := by omega
    clear HRS hn hP hm hd HM
    go_upto_region 8 with fail
    have BD : Below w4.heap.size w4 w4.drew := (Below.refl _ w4).drew
    have Y0 := X04.below BD
    have Y1 := X14.below BD
    have Y4 := X4.below BD
    have D4 := below_then B4 BD
    refine wp_region_held_drew (S := fun w' => Blk w' w.heap.size 23 #[.int .i64 Vo, .int .i64 D, .int .i64 Hd, .int .i64 H, .int .i64 L]) (by kernel_rfl) (Y0) (fun hHeld => ?_)
    have sd : w.heap.size + 3 ≤ w4.drew.heap.size := s4
    have hcd : c < w4.drew.heap.size := hcs
    generalize hA : w4.drew = wA at *
    clear hA X04 X14 X4 B4 BD s4 hcs
    refine wpAnyH_take (i := 0) (v := (.int .i64 (t : Int))) rfl (by kernel_rfl) (by kernel_rfl) (by kernel_rfl) (fun _ _ _ h => h) (Or.inl ⟨by rfl, ?_⟩) (by assumption) ?_
    · intro w' hSw
      go_simp
    simp only [List.getElem_toArray, List.getElem_cons_zero, Act.put, List.setIfInBounds_toArray, List.set_cons_zero, List.set_cons_succ]
    refine wpAnyH_take (i := 1) (v := (.int .i64 (f : Int))) rfl (by kernel_rfl) (by kernel_rfl) (by kernel_rfl) (fun _ _ _ h => h) (Or.inl ⟨by rfl, ?_⟩) (by assumption) ?_
    · intro w' hSw
      go_simp
    simp only [List.getElem_toArray, List.getElem_cons_succ, List.getElem_cons_zero, Act.put, List.setIfInBounds_toArray, List.set_cons_zero, List.set_cons_succ]
    refine wpAnyH_take (i := 2) (v := (.int .i64 ((t : Int) - (f : Int)))) rfl (by kernel_rfl) (by kernel_rfl) (by kernel_rfl) (fun _ _ _ h => h) (Or.inl ⟨by rfl, ?_⟩) (by assumption) ?_
    · intro w' hSw
      (go_simp; exact wrap_in (by omega))
    simp only [List.getElem_toArray, List.getElem_cons_succ, List.getElem_cons_zero, Act.put, List.setIfInBounds_toArray, List.set_cons_zero, List.set_cons_succ]
    refine wpAnyH_take (i := 3) (v := (.int .i64 (P : Int))) rfl (by kernel_rfl) (by kernel_rfl) (by kernel_rfl) (fun _ _ _ h => h) (Or.inl ⟨by rfl, ?_⟩) (by assumption) ?_
    · intro w' hSw
      (go_simp; have hmx := HMX.out; split <;> omega)
    simp only [List.getElem_toArray, List.getElem_cons_succ, List.getElem_cons_zero, Act.put, List.setIfInBounds_toArray, List.set_cons_zero, List.set_cons_succ]
    refine wpAnyH_take (i := 4) (v := (.pointer (some ⟨w.heap.size, 4, none⟩))) rfl (by kernel_rfl) (by kernel_rfl) (by kernel_rfl) (fun _ _ _ h => h) (Or.inl ⟨by rfl, ?_⟩) (by assumption) ?_
    · intro w' hSw
      go_simp
    simp only [List.getElem_toArray, List.getElem_cons_succ, List.getElem_cons_zero, Act.put, List.setIfInBounds_toArray, List.set_cons_zero, List.set_cons_succ]
    refine wpAnyH_take (i := 5) (v := (.int .i64 L)) rfl (by kernel_rfl) (by kernel_rfl) (by kernel_rfl) (fun _ _ _ h => h) (Or.inl ⟨by rfl, ?_⟩) (by assumption) ?_
    · intro w' hSw
      have c0 : w'.cell? ⟨w.heap.size, 4, none⟩ = some (.int .i64 L) := hSw.cell 4 rfl
      go_simp
    simp only [List.getElem_toArray, List.getElem_cons_succ, List.getElem_cons_zero, Act.put, List.setIfInBounds_toArray, List.set_cons_zero, List.set_cons_succ]
    refine wpAnyH_take (i := 6) (v := (.int .i64 (m : Int))) rfl (by kernel_rfl) (by kernel_rfl) (by kernel_rfl) (fun _ _ _ h => h) (Or.inl ⟨by rfl, ?_⟩) (by assumption) ?_
    · intro w' hSw
      (go_simp; have hmx := HMX.out; split <;> omega)
    simp only [List.getElem_toArray, List.getElem_cons_succ, List.getElem_cons_zero, Act.put, List.setIfInBounds_toArray, List.set_cons_zero, List.set_cons_succ]
    refine wpAnyH_take (i := 7) (v := (.pointer (some ⟨w.heap.size, 1, none⟩))) rfl (by kernel_rfl) (by kernel_rfl) (by kernel_rfl) (fun _ _ _ h => h) (Or.inl ⟨by rfl, ?_⟩) (by assumption) ?_
    · intro w' hSw
      go_simp
    simp only [List.getElem_toArray, List.getElem_cons_succ, List.getElem_cons_zero, Act.put, List.setIfInBounds_toArray, List.set_cons_zero, List.set_cons_succ]
    refine wpAnyH_take (i := 8) (v := (.int .i64 D)) rfl (by kernel_rfl) (by kernel_rfl) (by kernel_rfl) (fun _ _ _ h => h) (Or.inl ⟨by rfl, ?_⟩) (by assumption) ?_
    · intro w' hSw
      have c0 : w'.cell? ⟨w.heap.size, 1, none⟩ = some (.int .i64 D) := hSw.cell 1 rfl
      go_simp
    simp only [List.getElem_toArray, List.getElem_cons_succ, List.getElem_cons_zero, Act.put, List.setIfInBounds_toArray, List.set_cons_zero, List.set_cons_succ]
    refine wpAnyH_take (i := 9) (v := (.int .i64 (d : Int))) rfl (by kernel_rfl) (by kernel_rfl) (by kernel_rfl) (fun _ _ _ h => h) (Or.inl ⟨by rfl, ?_⟩) (by assumption) ?_
    · intro w' hSw
      (go_simp; have hmx := HMX.out; split <;> omega)
    simp only [List.getElem_toArray, List.getElem_cons_succ, List.getElem_cons_zero, Act.put, List.setIfInBounds_toArray, List.set_cons_zero, List.set_cons_succ]
    refine wpAnyH_ready (rs := [10]) (by kernel_rfl) (by simp) ?_
    refine AllReadyH.cons rfl (fun Kc hKc => ?_) AllReadyH.nil
    simp only [List.getElem_toArray, List.getElem_cons_succ, List.getElem_cons_zero]
    rw [if_pos (by rfl)]
    go_wp2_with fail
    refine hKc.out _ _ Y0 (fun hHeld => ?_)
    clear hKc Kc
    refine wpAnyH_ready (rs := [11]) (by kernel_rfl) (by simp) ?_
    refine AllReadyH.cons rfl (fun Kc hKc => ?_) AllReadyH.nil
    simp only [List.getElem_toArray, List.getElem_cons_succ, List.getElem_cons_zero]
    rw [if_pos (by rfl)]
    go_wp2_with fail
    refine hKc.out _ _ Y0 (fun hHeld => ?_)
    clear hKc Kc
    refine wpAnyH_ready (rs := [12]) (by kernel_rfl) (by simp) ?_
    refine AllReadyH.cons rfl (fun Kc hKc => ?_) AllReadyH.nil
    simp only [List.getElem_toArray, List.getElem_cons_succ, List.getElem_cons_zero]
    rw [if_pos (by rfl)]
    go_wp2_with fail
    refine hKc.out _ _ Y0 (fun hHeld => ?_)
    clear hKc Kc
    refine wpAnyH_done (by kernel_rfl) ?_ _
    by_cases h4 : 4 < m
    · have HR : Hid (RS = (6, noPg)) := by show _ = _; rw [HRD.out, if_pos (Or.inl h4)]
      have h4' : (4 : Int) < (m : Int) := by omega
      obtain ⟨hlr, BF⟩ := HSE.out wA Y1 D4
      go_wp2_with (refine wpList_store_row rfl 30 _ _ rfl (w.heap.size + 1) noP rfl rfl 30 _ Y1 (by exact Tryz.infoPg) rfl (by simp [noP, Value.oneCell']) ?_)
      refine bodyPost_ret (results_cBt (by rfl) _ _ _ _ rfl hlr) rfl ?_
      refine ⟨⟨⟨none, 0, 0⟩, 0, ⟨none, 0, 0⟩, ⟨none, 0, 0⟩⟩, by rw [HR.out]; rfl, fun w9 _ => ?_, BF⟩
      rw [HR.out]
      exact noPg_at w9
    · by_cases h5 : 32 < d
      · have HR : Hid (RS = (6, noPg)) := by show _ = _; rw [HRD.out, if_pos (Or.inr (Or.inl h5))]
        have h4' : ¬ (4 : Int) < (m : Int) := by omega
        have h5' : (32 : Int) < (d : Int) := by omega
        obtain ⟨hlr, BF⟩ := HSE.out wA Y1 D4
        go_wp2_with (refine wpList_store_row rfl 30 _ _ rfl (w.heap.size + 1) noP rfl rfl 30 _ Y1 (by exact Tryz.infoPg) rfl (by simp [noP, Value.oneCell']) ?_)
        refine bodyPost_ret (results_cBt (by rfl) _ _ _ _ rfl hlr) rfl ?_
        refine ⟨⟨⟨none, 0, 0⟩, 0, ⟨none, 0, 0⟩, ⟨none, 0, 0⟩⟩, by rw [HR.out]; rfl, fun w9 _ => ?_, BF⟩
        rw [HR.out]
        exact noPg_at w9
      · obtain ⟨q2, hq2⟩ : ∃ q2, 8 * P * m = q2 := ⟨_, rfl⟩
        obtain ⟨q3, hq3⟩ : ∃ q3, q2 * d = q3 := ⟨_, rfl⟩
        have b2 : q2 ≤ 8160 := by rw [← hq2]; exact Nat.le_trans (Nat.mul_le_mul (by omega : 8 * P ≤ 2040) (by omega : m ≤ 4)) (by decide)
        have b3 : q3 ≤ 261120 := by rw [← hq3]; exact Nat.le_trans (Nat.mul_le_mul b2 (by omega : d ≤ 32)) (by decide)
        have w2' : IntKind.i64.wrap (8 * (P : Int) * (m : Int)) = (q2 : Int) := by rw [show (8 * (P : Int) * (m : Int)) = (q2 : Int) by rw [← hq2]; push_cast; rfl]; exact wrap_in (by omega)
        have w3' : IntKind.i64.wrap ((q2 : Int) * (d : Int)) = (q3 : Int) := by rw [show ((q2 : Int) * (d : Int)) = (q3 : Int) by rw [← hq3]; push_cast; rfl]; exact wrap_in (by omega)
        have HRE : Hid (RS = if n ≠ q3 then (6, noPg) else if ckN Vo D L (pgT m d t f r) = 0 then (0, pgT m d t f r) else (ckN Vo D L (pgT m d t f r), noPg)) := by
          show _ = _
          rw [HRD.out, hq2, hq3]
          by_cases hz : n = q3
          · rw [if_neg (by omega), if_neg (show ¬ (n ≠ q3) by omega)]
          · rw [if_pos (Or.inr (Or.inr hz)), if_pos hz]
        have HQ : Hid (8 * P * m * d = q3) := by show _ = _; rw [hq2, hq3]
        have h4' : ¬ (4 : Int) < (m : Int) := by omega
        have h5' : ¬ (32 : Int) < (d : Int) := by omega
        clear hq2 hq3 HRD
        by_cases hz : n = q3
        · subst hz
          have HRF : Hid (RS = if ckN Vo D L (pgT m d t f r) = 0 then (0, pgT m d t f r) else (ckN Vo D L (pgT m d t f r), noPg)) := by show _ = _; rw [HRE.out, if_neg (by omega)]
          clear HRE
          have HX : Hid (pgT m d t f r = ⟨(r.take t).map fun b => (b.toNat : Int), f, cubeT (r.drop t) m P d, cubeT ((r.drop t).drop (4 * (m * (P * d)))) m P d⟩) := by
            show _ = _
            unfold pgT
            rw [HPP.out]
          have hm4 : m ≤ 4 := by omega
          have hd32 : d ≤ 32 := by omega
          generalize pgT m d t f r = X at *
          have hmk := run_make_row' (P := Tryz.prog) 25 3 (.int .i64 0) 8 Tryz.underlying25 Tryz.infoInt1 rfl .i64 .i64 t (by omega) (by omega) wA
          have B5 : Below wA.heap.size wA (wA.alloc (.cells (madeCells #[.int .i64 0] t) 3)) := (Below.refl _ _).alloc (Nat.le_refl _) _
          have TF5 : TF (wA.alloc (.cells (madeCells #[.int .i64 0] t) 3)) wA.heap.size t 0 (fun j => ((r.getD j 0).toNat : Int)) := ⟨_, blk_new wA _ _, by simp [madeCells], fun j hj => by omega⟩
          have s5 : (wA.alloc (.cells (madeCells #[.int .i64 0] t) 3)).heap.size = wA.heap.size + 1 := by simp
          generalize hw5 : wA.alloc (.cells (madeCells #[.int .i64 0] t) 3) = w5 at *
          have XZ := blk_new w5 30 #[.slice none 0 0, .int .i64 0, .slice none 0 0, .slice none 0 0]
          have B6 : Below w5.heap.size w5 (w5.alloc (.cells #[.slice none 0 0, .int .i64 0, .slice none 0 0, .slice none 0 0] 30)) := (Below.refl _ _).alloc (Nat.le_refl _) _
          rw [s5] at XZ
          generalize hw6 : w5.alloc (.cells #[.slice none 0 0, .int .i64 0, .slice none 0 0, .slice none 0 0] 30) = w6 at *
          have XP := XZ.row #[.slice (some ⟨wA.heap.size, 0, none⟩) t t, .int .i64 (f : Int), .slice none 0 0, .slice none 0 0]
          have B7 := below_setRow (below_then B5 B6) (by omega : wA.heap.size ≤ wA.heap.size + 1) #[.slice (some ⟨wA.heap.size, 0, none⟩) t t, .int .i64 (f : Int), .slice none 0 0, .slice none 0 0]
          have TF7 := (TF5.blk (B6.block _ TF5.lt)).blk (setRow_other w6 (wA.heap.size + 1) wA.heap.size #[.slice (some ⟨wA.heap.size, 0, none⟩) t t, .int .i64 (f : Int), .slice none 0 0, .slice none 0 0] (by omega))
          generalize hw7 : w6.setRow (wA.heap.size + 1) #[.slice (some ⟨wA.heap.size, 0, none⟩) t t, .int .i64 (f : Int), .slice none 0 0, .slice none 0 0] = w7 at *
          go_upto_region 12 with (refine wpList_store_row rfl 30 _ _ rfl (wA.heap.size + 1) #[.slice (some ⟨wA.heap.size, 0, none⟩) t t, .int .i64 (f : Int), .slice none 0 0, .slice none 0 0] rfl rfl 30 _ XZ (by exact Tryz.infoPg) rfl (by simp [Value.oneCell']) ?_; rw [hw7])
          have Z0 := Y0.below B7
          have Z1 := Y1.below B7
          have Z4 := Y4.below B7
          have D7 := below_then D4 B7
          clear hmk B5 TF5 s5 hw5 XZ B6 hw6 B7 hw7 Y0 Y1 Y4 D4
          obtain ⟨gT, hgT⟩ : ∃ gT, wA.heap.size = gT := ⟨_, rfl⟩
          rw [hgT] at XP TF7 sd hcd ⊢
          have b0 : w7.cell? ⟨gT + 1, 0, none⟩ = some (.slice (some ⟨gT, 0, none⟩) t t) := XP.cell 0 rfl
          clear hgT
          go_wp2_with fail
          clear b0
          go_loopg [70] t (fun rr s70 wr => ∃ k : Nat, k ≤ t ∧ rr = t - k ∧ s70 = .int .i64 (k : Int) ∧ TF wr gT t k (fun j => ((r.getD j 0).toNat : Int)) ∧ Blk wr (gT + 1) 30 #[.slice (some ⟨gT, 0, none⟩) t t, .int .i64 (f : Int), .slice none 0 0, .slice none 0 0] ∧ Blk wr w.heap.size 23 #[.int .i64 Vo, .int .i64 D, .int .i64 Hd, .int .i64 H, .int .i64 L] ∧ Blk wr (w.heap.size + 1) 30 noP ∧ Blk wr c 9 #[.string (txt (r.drop k))] ∧ Below w.heap.size w wr)
          case atStart => exact ⟨0, by omega, by omega, rfl, TF7, XP, Z0, Z1, by rw [List.drop_zero]; exact Z4, D7⟩
          case round =>
            clear TF7 XP Z0 Z1 Z4 D7
            obtain ⟨k, hk, rfl, rfl, TF7, XP, Z0, Z1, Z4, D7⟩ := hrel
            by_cases hkt : k < t
            · have hkr : k < r.length := by have := HNR.out; omega
              have hdr : r.drop k = r.getD k 0 :: r.drop (k + 1) := by
                rw [List.drop_eq_getElem_cons hkr, List.getD_eq_getElem?_getD, List.getElem?_eq_getElem hkr]; rfl
              rw [hdr] at Z4
              have HB9 : Hid (((r.getD k 0).toNat : Int) = (fun j => ((r.getD j 0).toNat : Int)) k) := rfl
              generalize r.getD k 0 = bb at *
              have hbb := bb.toNat_lt
              clear hdr
              have hgl := TF7.lt
              have hpl := XP.lt
              have D7s := D7.size
              go_upto_region 15 with fail
              have BD : Below wr.heap.size wr wr.drew := (Below.refl _ wr).drew
              have XPd := XP.below BD
              have TFd := TF7.blk (BD.block _ TF7.lt)
              have Z0d := Z0.below BD
              have Z1d := Z1.below BD
              have Z4d := Z4.below BD
              have Dd := below_then D7 BD
              refine wp_region_held_drew (S := fun w' => Blk w' (gT + 1) 30 #[.slice (some ⟨gT, 0, none⟩) t t, .int .i64 (f : Int), .slice none 0 0, .slice none 0 0]) (by kernel_rfl) (XPd) (fun hHeld => ?_)
              have gd : gT < wr.drew.heap.size := hgl
              have pd : gT + 1 < wr.drew.heap.size := hpl
              generalize hA : wr.drew = wd at *
              clear hA XP TF7 Z0 Z1 Z4 D7 BD
              refine wpAnyH_take (i := 0) (v := (.pointer (some ⟨gT + 1, 0, none⟩))) rfl (by kernel_rfl) (by kernel_rfl) (by kernel_rfl) (fun _ _ _ h => h) (Or.inl ⟨by rfl, ?_⟩) (by assumption) ?_
              · intro w' hSw
                go_simp
              simp only [List.getElem_toArray, List.getElem_cons_zero, Act.put, List.setIfInBounds_toArray, List.set_cons_zero, List.set_cons_succ]
              refine wpAnyH_take (i := 1) (v := (.slice (some ⟨gT, 0, none⟩) t t)) rfl (by kernel_rfl) (by kernel_rfl) (by kernel_rfl) (fun _ _ _ h => h) (Or.inl ⟨by rfl, ?_⟩) (by assumption) ?_
              · intro w' hSw
                have c0 : w'.cell? ⟨gT + 1, 0, none⟩ = some (.slice (some ⟨gT, 0, none⟩) t t) := hSw.cell 0 rfl
                go_simp
              simp only [List.getElem_toArray, List.getElem_cons_succ, List.getElem_cons_zero, Act.put, List.setIfInBounds_toArray, List.set_cons_zero, List.set_cons_succ]
              refine wpAnyH_take (i := 2) (v := (.int .i64 (k : Int))) rfl (by kernel_rfl) (by kernel_rfl) (by kernel_rfl) (fun _ _ _ h => h) (Or.inl ⟨by rfl, ?_⟩) (by assumption) ?_
              · intro w' hSw
                go_simp
              simp only [List.getElem_toArray, List.getElem_cons_succ, List.getElem_cons_zero, Act.put, List.setIfInBounds_toArray, List.set_cons_zero, List.set_cons_succ]
              refine wpAnyH_take (i := 3) (v := (.func (.func 42) #[] #[.pointer (some ⟨c, 0, none⟩)])) rfl (by kernel_rfl) (by kernel_rfl) (by kernel_rfl) (fun _ _ _ h => h) (Or.inl ⟨by rfl, ?_⟩) (by assumption) ?_
              · intro w' hSw
                go_simp
              simp only [List.getElem_toArray, List.getElem_cons_succ, List.getElem_cons_zero, Act.put, List.setIfInBounds_toArray, List.set_cons_zero, List.set_cons_succ]
              refine wpAnyH_ready (rs := [4]) (by kernel_rfl) (by simp) ?_
              refine AllReadyH.cons rfl (fun Kc hKc => ?_) AllReadyH.nil
              simp only [List.getElem_toArray, List.getElem_cons_succ, List.getElem_cons_zero]
              rw [if_pos (by rfl)]
              go_wp2_with fail
              refine (take1_one c bb (r.drop (k + 1)) wd Z4d).mono ?_
              rintro e w8 ⟨rfl, Z48, K8⟩
              have XP8 := XPd.but K8 (by omega)
              have TF8 := TFd.blk (K8.block gT gd (by omega))
              have Z08 := Z0d.but K8 (by omega)
              have Z18 := Z1d.but K8 (by omega)
              have D8 := below_but Dd K8 (by omega) Dd.size
              go_wp2_with fail
              refine hKc.out _ _ (XP8) (fun hHeld => ?_)
              clear hKc Kc
              refine wpAnyH_ready (rs := [5]) (by kernel_rfl) (by simp) ?_
              refine AllReadyH.cons rfl (fun Kc hKc => ?_) AllReadyH.nil
              simp only [List.getElem_toArray, List.getElem_cons_succ, List.getElem_cons_zero]
              rw [if_pos (by rfl)]
              go_wp2_with fail
              refine hKc.out _ _ XP8 (fun hHeld => ?_)
              clear hKc Kc
              obtain ⟨⟨u9, q9⟩, fz9⟩ := TF8.cell hkt
              refine wpAnyH_ready (rs := [6]) (by kernel_rfl) (by simp) ?_
              refine AllReadyH.cons rfl (fun Kc hKc => ?_) AllReadyH.nil
              simp only [List.getElem_toArray, List.getElem_cons_succ, List.getElem_cons_zero]
              rw [if_pos (by rfl)]
              go_wp2_with fail
              refine hKc.out _ _ XP8 (fun hHeld => ?_)
              clear hKc Kc
              refine wpAnyH_ready (rs := [7]) (by kernel_rfl) (by simp) ?_
              refine AllReadyH.cons rfl (fun Kc hKc => ?_) AllReadyH.nil
              simp only [List.getElem_toArray, List.getElem_cons_succ, List.getElem_cons_zero]
              rw [if_pos (by rfl)]
              have XP9 := XP8.of_block (Below.heap_setCell w8 ⟨gT, k, none⟩ (.int .i64 (bb.toNat : Int)) (gT + 1) (by show gT + 1 ≠ gT; omega))
              go_wp2_with fail
              refine hKc.out _ _ XP9 (fun hHeld => ?_)
              clear hKc Kc
              refine wpAnyH_done (by kernel_rfl) ?_ _
              have TF9 := TF8.step hkt
              rw [← HB9.out] at TF9
              go_wp2_with fail
              go_roundg (t - (k + 1))
              case measure => omega
              case rel => exact ⟨k + 1, by omega, rfl, by go_num, TF9, XP9, Z08.of_block (Below.heap_setCell _ _ _ _ (by show _ ≠ gT; omega)), Z18.of_block (Below.heap_setCell _ _ _ _ (by show _ ≠ gT; omega)), Z48.of_block (Below.heap_setCell _ _ _ _ (by show _ ≠ gT; omega)), Below.setCell (p := ⟨gT, k, none⟩) D8 (by show w.heap.size ≤ gT; omega) _⟩
            · obtain rfl : t = k := by omega
              obtain ⟨cs, tb1, tb2, tb3⟩ := TF7.row
              have hpl := XP.lt
              have D7s := D7.size
              have Q1 := takeLists_any c (r.drop t) m P d wr Z4 (by omega) (by omega) (by omega)
              go_wp2_with fail
              refine Q1.mono ?_
              clear Q1
              rintro e w8 ⟨gK, rfl, NK, Z4', K8⟩
              have Q2 := takeLists_any c _ m P d w8 Z4' (by omega) (by omega) (by omega)
              go_wp2_with fail
              refine Q2.mono ?_
              clear Q2
              rintro e w9 ⟨gV, rfl, NV, Z4'', K9⟩
              have KK := K8.trans K9
              have hs8 := K8.size
              have hs9 := K9.size
              have XP9 := XP.but KK (by omega)
              have Z09 := Z0.but KK (by omega)
              have Z19 := Z1.but KK (by omega)
              have D9 := below_but D7 KK (by omega) D7s
              have TF9 := TF7.blk (KK.block gT TF7.lt (by omega))
              have hgl := TF7.lt
              have NK9 : Hangs (fun b => wr.heap.size ≤ b) w9 (fun w => CubeAt w (some ⟨gK, 0, none⟩) m (cubeT (r.drop t) m P d)) := NK.turn ⟨hs9, fun b hb hp => ⟨hp, K9.block b hb (by have : wr.heap.size ≤ b := hp; omega)⟩⟩
              have NV9 : Hangs (fun b => wr.heap.size ≤ b) w9 (fun w => CubeAt w (some ⟨gV, 0, none⟩) m (cubeT ((r.drop t).drop (4 * (m * (P * d)))) m P d)) := Hangs.mono NV fun b _ h => by have h' : w8.heap.size ≤ b := h; show wr.heap.size ≤ b; omega
              clear Z4 Z4' Z4'' K8 K9 KK NK NV Z0 Z1 XP TF7 tb1 tb2 tb3
              have c2 : w9.cell? ⟨gT + 1, 2, none⟩ = some (.slice none 0 0) := XP9.cell 2 rfl
              have f2 := XP9.frozen 2
              have XPa := XP9.set 2 (.slice (some ⟨gK, 0, none⟩) m m)
              have c3 : (w9.setCell ⟨gT + 1, 2, none⟩ (.slice (some ⟨gK, 0, none⟩) m m)).cell? ⟨gT + 1, 3, none⟩ = some (.slice none 0 0) := XPa.cell 3 rfl
              have f3 := XPa.frozen 3
              have XPb := XPa.set 3 (.slice (some ⟨gV, 0, none⟩) m m)
              have oth : ∀ b, b ≠ gT + 1 → ((w9.setCell ⟨gT + 1, 2, none⟩ (.slice (some ⟨gK, 0, none⟩) m m)).setCell ⟨gT + 1, 3, none⟩ (.slice (some ⟨gV, 0, none⟩) m m)).heap[b]? = w9.heap[b]? := fun b hb => by rw [Below.heap_setCell _ _ _ b hb, Below.heap_setCell _ _ _ b hb]
              have sza : ((w9.setCell ⟨gT + 1, 2, none⟩ (.slice (some ⟨gK, 0, none⟩) m m)).setCell ⟨gT + 1, 3, none⟩ (.slice (some ⟨gV, 0, none⟩) m m)).heap.size = w9.heap.size := by simp [World.setCell]
              have Da : Below w.heap.size w ((w9.setCell ⟨gT + 1, 2, none⟩ (.slice (some ⟨gK, 0, none⟩) m m)).setCell ⟨gT + 1, 3, none⟩ (.slice (some ⟨gV, 0, none⟩) m m)) := Below.setCell (p := ⟨gT + 1, 3, none⟩) (Below.setCell (p := ⟨gT + 1, 2, none⟩) D9 (by show w.heap.size ≤ gT + 1; omega) _) (by show w.heap.size ≤ gT + 1; omega) _
              have Z0a := Z09.of_block (oth _ (by omega))
              have Z1a := Z19.of_block (oth _ (by omega))
              have TFa := TF9.blk (oth gT (by omega))
              have NKa := NK9.turn (p' := fun b => wr.heap.size ≤ b) (w' := (w9.setCell ⟨gT + 1, 2, none⟩ (.slice (some ⟨gK, 0, none⟩) m m)).setCell ⟨gT + 1, 3, none⟩ (.slice (some ⟨gV, 0, none⟩) m m)) ⟨by rw [sza]; exact Nat.le_refl _, fun b hb hp => ⟨hp, oth b (by have : wr.heap.size ≤ b := hp; omega)⟩⟩
              have NVa := NV9.turn (p' := fun b => wr.heap.size ≤ b) (w' := (w9.setCell ⟨gT + 1, 2, none⟩ (.slice (some ⟨gK, 0, none⟩) m m)).setCell ⟨gT + 1, 3, none⟩ (.slice (some ⟨gV, 0, none⟩) m m)) ⟨by rw [sza]; exact Nat.le_refl _, fun b hb hp => ⟨hp, oth b (by have : wr.heap.size ≤ b := hp; omega)⟩⟩
              replace XPb : Blk ((w9.setCell ⟨gT + 1, 2, none⟩ (.slice (some ⟨gK, 0, none⟩) m m)).setCell ⟨gT + 1, 3, none⟩ (.slice (some ⟨gV, 0, none⟩) m m)) (gT + 1) 30 #[.slice (some ⟨gT, 0, none⟩) t t, .int .i64 (f : Int), .slice (some ⟨gK, 0, none⟩) m m, .slice (some ⟨gV, 0, none⟩) m m] := XPb
              go_upto_region 18 with fail
              clear c2 f2 c3 f3 XPa XP9 Z09 Z19 TF9 NK9 NV9 D9 oth sza
              generalize (w9.setCell ⟨gT + 1, 2, none⟩ (.slice (some ⟨gK, 0, none⟩) m m)).setCell ⟨gT + 1, 3, none⟩ (.slice (some ⟨gV, 0, none⟩) m m) = wa at *
              have HPG : Hid (∀ wv, (∀ b, w.heap.size + 2 < b → b < wa.heap.size → wv.heap[b]? = wa.heap[b]?) → PgAt wv ⟨⟨some ⟨gT, 0, none⟩, t, t⟩, (f : Int), ⟨some ⟨gK, 0, none⟩, m, m⟩, ⟨some ⟨gV, 0, none⟩, m, m⟩⟩ X) := fun wv hv => by
                rw [HX.out]
                refine ⟨?_, rfl, NKa wv (fun b hp hb => hv b (by have : wr.heap.size ≤ b := hp; omega) hb), NVa wv (fun b hp hb => hv b (by have : wr.heap.size ≤ b := hp; omega) hb)⟩
                refine (TFa.blk (hv gT (by omega) TFa.lt)).arg (by omega) (fun j => by have := (r.getD j 0).toNat_lt; omega) (by rw [List.length_map, List.length_take]; have := HNR.out; omega) (fun j hj => ?_)
                unfold el
                rw [List.getD_eq_getElem?_getD, List.getElem?_map, List.getElem?_take_of_lt hj, List.getElem?_eq_getElem (by have := HNR.out; omega), List.getD_eq_getElem?_getD, List.getElem?_eq_getElem (by have := HNR.out; omega)]
                rfl
              have HXF : Hid (X.F = (f : Int)) := by show _ = _; rw [HX.out]
              have CKx := CK _ X wa (HPG.out wa (fun _ _ _ => rfl)) (by rw [HXF.out]; omega)
              rw [show PgV.cells ⟨⟨some ⟨gT, 0, none⟩, t, t⟩, (f : Int), ⟨some ⟨gK, 0, none⟩, m, m⟩, ⟨some ⟨gV, 0, none⟩, m, m⟩⟩ = #[.slice (some ⟨gT, 0, none⟩) t t, .int .i64 (f : Int), .slice (some ⟨gK, 0, none⟩) m m, .slice (some ⟨gV, 0, none⟩) m m] from rfl] at CKx
              clear NKa NVa TFa HX CK
              generalize ckN Vo D L X = cn at *
              have a0 : wa.cell? ⟨w.heap.size, 0, none⟩ = some (.int .i64 Vo) := Z0a.cell 0 rfl
              have a1 : wa.cell? ⟨w.heap.size, 1, none⟩ = some (.int .i64 D) := Z0a.cell 1 rfl
              have a2 : wa.cell? ⟨w.heap.size, 2, none⟩ = some (.int .i64 Hd) := Z0a.cell 2 rfl
              have a3 : wa.cell? ⟨w.heap.size, 3, none⟩ = some (.int .i64 H) := Z0a.cell 3 rfl
              have a4 : wa.cell? ⟨w.heap.size, 4, none⟩ = some (.int .i64 L) := Z0a.cell 4 rfl
              have b0 : wa.cell? ⟨gT + 1, 0, none⟩ = some (.slice (some ⟨gT, 0, none⟩) t t) := XPb.cell 0 rfl
              have b1 : wa.cell? ⟨gT + 1, 1, none⟩ = some (.int .i64 (f : Int)) := XPb.cell 1 rfl
              have b2' : wa.cell? ⟨gT + 1, 2, none⟩ = some (.slice (some ⟨gK, 0, none⟩) m m) := XPb.cell 2 rfl
              have b3' : wa.cell? ⟨gT + 1, 3, none⟩ = some (.slice (some ⟨gV, 0, none⟩) m m) := XPb.cell 3 rfl
              go_wp2_with fail
              refine CKx.mono ?_
              rintro e wb ⟨rfl, Bb⟩
              have Z1b := Z1a.below Bb
              have XPc := XPb.below Bb
              have Db := below_then Da Bb
              have hss := Bb.size
              clear CKx a0 a1 a2 a3 a4 b0 b1 b2' b3' Z0a Z1a XPb Da
              by_cases hc0 : cn = 0
              · subst hc0
                have HR : Hid (RS = (0, X)) := by show _ = _; rw [HRF.out, if_pos rfl]
                have b0 : wb.cell? ⟨gT + 1, 0, none⟩ = some (.slice (some ⟨gT, 0, none⟩) t t) := XPc.cell 0 rfl
                have b1 : wb.cell? ⟨gT + 1, 1, none⟩ = some (.int .i64 (f : Int)) := XPc.cell 1 rfl
                have b2' : wb.cell? ⟨gT + 1, 2, none⟩ = some (.slice (some ⟨gK, 0, none⟩) m m) := XPc.cell 2 rfl
                have b3' : wb.cell? ⟨gT + 1, 3, none⟩ = some (.slice (some ⟨gV, 0, none⟩) m m) := XPc.cell 3 rfl
                have hlr : (loadVar 30 ⟨w.heap.size + 1, 0, none⟩).run Tryz.prog (wb.setRow (w.heap.size + 1) #[.slice (some ⟨gT, 0, none⟩) t t, .int .i64 (f : Int), .slice (some ⟨gK, 0, none⟩) m m, .slice (some ⟨gV, 0, none⟩) m m]) = .ok (.agg #[.slice (some ⟨gT, 0, none⟩) t t, .int .i64 (f : Int), .slice (some ⟨gK, 0, none⟩) m m, .slice (some ⟨gV, 0, none⟩) m m]) (wb.setRow (w.heap.size + 1) #[.slice (some ⟨gT, 0, none⟩) t t, .int .i64 (f : Int), .slice (some ⟨gK, 0, none⟩) m m, .slice (some ⟨gV, 0, none⟩) m m]) := load_pg (Z1b.row _) rfl
                have BF := below_setRow Db (by omega : w.heap.size ≤ w.heap.size + 1) #[.slice (some ⟨gT, 0, none⟩) t t, .int .i64 (f : Int), .slice (some ⟨gK, 0, none⟩) m m, .slice (some ⟨gV, 0, none⟩) m m]
                go_wp2_with (refine wpList_store_row rfl 30 _ _ rfl (w.heap.size + 1) #[.slice (some ⟨gT, 0, none⟩) t t, .int .i64 (f : Int), .slice (some ⟨gK, 0, none⟩) m m, .slice (some ⟨gV, 0, none⟩) m m] rfl rfl 30 _ Z1b (by exact Tryz.infoPg) rfl (by simp [Value.oneCell']) ?_)
                refine bodyPost_ret (results_cBt (by rfl) _ _ _ _ rfl hlr) rfl ?_
                refine ⟨⟨⟨some ⟨gT, 0, none⟩, t, t⟩, (f : Int), ⟨some ⟨gK, 0, none⟩, m, m⟩, ⟨some ⟨gV, 0, none⟩, m, m⟩⟩, by rw [HR.out]; rfl, fun wv hv => ?_, BF⟩
                rw [HR.out]
                refine HPG.out wv (fun b h1 h2 => ?_)
                rw [hv b (by show w.heap.size ≤ b; omega) (by rw [show (wb.setRow (w.heap.size + 1) #[.slice (some ⟨gT, 0, none⟩) t t, .int .i64 (f : Int), .slice (some ⟨gK, 0, none⟩) m m, .slice (some ⟨gV, 0, none⟩) m m]).heap.size = wb.heap.size by simp [World.setRow]]; omega), setRow_other _ _ _ _ (by omega)]
                exact Bb.block b h2
              · have HR : Hid (RS = (cn, noPg)) := by show _ = _; rw [HRF.out, if_neg hc0]
                have hc0' : (cn == 0) = false := by simpa using hc0
                obtain ⟨hlr, BF⟩ := HSE.out wb Z1b Db
                go_wp2_with (refine wpList_store_row rfl 30 _ _ rfl (w.heap.size + 1) noP rfl rfl 30 _ Z1b (by exact Tryz.infoPg) rfl (by simp [noP, Value.oneCell']) ?_)
                refine bodyPost_ret (results_cBt (by rfl) _ _ _ _ rfl hlr) rfl ?_
                refine ⟨⟨⟨none, 0, 0⟩, 0, ⟨none, 0, 0⟩, ⟨none, 0, 0⟩⟩, by rw [HR.out]; rfl, fun w9 _ => ?_, BF⟩
                rw [HR.out]
                exact noPg_at w9
        · have HR : Hid (RS = (6, noPg)) := by show _ = _; rw [HRE.out, if_pos hz]
          have hz' : ((n : Int) == (q3 : Int)) = false := by simp; omega
          have hz2 : ¬ (n : Int) = (q3 : Int) := by omega
          obtain ⟨hlr, BF⟩ := HSE.out wA Y1 D4
          go_wp2_with (refine wpList_store_row rfl 30 _ _ rfl (w.heap.size + 1) noP rfl rfl 30 _ Y1 (by exact Tryz.infoPg) rfl (by simp [noP, Value.oneCell']) ?_)
          refine bodyPost_ret (results_cBt (by rfl) _ _ _ _ rfl hlr) rfl ?_
          refine ⟨⟨⟨none, 0, 0⟩, 0, ⟨none, 0, 0⟩, ⟨none, 0, 0⟩⟩, by rw [HR.out]; rfl, fun w9 _ => ?_, BF⟩
          rw [HR.out]
          exact noPg_at w9
end Go.Proofs.YtcanjlofnpnhkaaGreatDoor

/- Package block: what is written reads back. -/
namespace Go.Proofs.YtcanjlofnpnhkaaGreatDoor
open Go.ChangeShapes Go.WideShapes Go.ChangeAt Go.RowKit
theorem byteOf_nat (x : Int) : (byteOf x).toNat = (x % 256).toNat := by
  have := byteOf_toNat x
  omega
theorem back_num (x : Int) (h : -2147483648 ≤ x ∧ x ≤ 2147483647) : toI (valB (numB x)) = x := by
  have e : valB (numB x) = ((((byteOf (x / 16777216)).toNat) * 256 + (byteOf (x / 65536)).toNat) * 256 + (byteOf (x / 256)).toNat) * 256 + (byteOf x).toNat := by
    show ((((0 * 256 + (byteOf (x / 16777216)).toNat) * 256 + (byteOf (x / 65536)).toNat) * 256 + (byteOf (x / 256)).toNat) * 256 + (byteOf x).toNat) = _
    rw [Nat.zero_mul, Nat.zero_add]
  rw [e, byteOf_nat, byteOf_nat, byteOf_nat, byteOf_nat]
  unfold toI
  simp [IntKind.wrap, IntKind.bits, IntKind.signed]
  omega
theorem drop_flat (rest : List UInt8) : ∀ (ns : List Int) (q : Nat), q ≤ ns.length → (ns.flatMap numB ++ rest).drop (4 * q) = (ns.drop q).flatMap numB ++ rest
  | ns, 0, _ => by simp
  | [], q + 1, h => by simp at h
  | x :: ns, q + 1, h => by
    have ih := drop_flat rest ns q (by simpa using h)
    rw [List.flatMap_cons, List.append_assoc, show 4 * (q + 1) = (numB x).length + 4 * q by show _ = 4 + 4 * q; omega, ← List.drop_drop, List.drop_left, List.drop_succ_cons]
    exact ih
theorem num_flat (rest : List UInt8) (ns : List Int) (q : Nat) (hq : q < ns.length) (hs : -2147483648 ≤ el ns q ∧ el ns q ≤ 2147483647) : numAt (ns.flatMap numB ++ rest) q = el ns q := by
  have e : ns.drop q = el ns q :: ns.drop (q + 1) := by
    rw [List.drop_eq_getElem_cons hq]
    unfold el
    rw [List.getD_eq_getElem?_getD, List.getElem?_eq_getElem hq]
    rfl
  unfold numAt
  rw [drop_flat rest ns q (by omega), e, List.flatMap_cons, List.append_assoc, List.take_left' (by rfl)]
  exact back_num _ hs
theorem el_left {A B : List Int} {k : Nat} (h : k < A.length) : el (A ++ B) k = el A k := by
  unfold el
  rw [List.getD_eq_getElem?_getD, List.getD_eq_getElem?_getD, List.getElem?_append_left h]
theorem el_right {A B : List Int} {k : Nat} (h : A.length ≤ k) : el (A ++ B) k = el B (k - A.length) := by
  unfold el
  rw [List.getD_eq_getElem?_getD, List.getD_eq_getElem?_getD, List.getElem?_append_right h]
theorem flat_length (d : Nat) : ∀ R : List (List Int), (∀ r ∈ R, r.length = d) → R.flatten.length = R.length * d
  | [], _ => by simp
  | r :: R, h => by
    rw [List.flatten_cons, List.length_append, flat_length d R (fun x hx => h x (List.mem_cons_of_mem _ hx)), h r List.mem_cons_self, List.length_cons, Nat.succ_mul]
    omega
theorem el_flat (d : Nat) : ∀ (R : List (List Int)) (t j : Nat), (∀ r ∈ R, r.length = d) → t < R.length → j < d → el R.flatten (t * d + j) = el (R.getD t []) j
  | [], t, j, _, h, _ => by simp at h
  | r :: R, 0, j, h, _, hj => by
    rw [List.flatten_cons, Nat.zero_mul, Nat.zero_add, el_left (by rw [h r List.mem_cons_self]; exact hj)]
    rfl
  | r :: R, t + 1, j, h, ht, hj => by
    have hr := h r List.mem_cons_self
    rw [List.flatten_cons, Nat.succ_mul, el_right (by rw [hr]; omega), hr, show t * d + d + j - d = t * d + j by omega, el_flat d R t j (fun x hx => h x (List.mem_cons_of_mem _ hx)) (by simpa using ht) hj]
    rfl
theorem flatMap_flat {α : Type} (f : Int → List α) : ∀ R : List (List Int), R.flatMap (fun r => r.flatMap f) = R.flatten.flatMap f
  | [] => rfl
  | r :: R => by rw [List.flatMap_cons, List.flatten_cons, List.flatMap_append, flatMap_flat f R]
theorem gridB_flat (R : List (List Int)) : gridB R = R.flatten.flatMap numB := flatMap_flat numB R
def flatC (C : List (List (List Int))) : List Int := (C.map List.flatten).flatten
theorem cubeB_flat : ∀ C : List (List (List Int)), cubeB C = (flatC C).flatMap numB
  | [] => rfl
  | R :: C => by
    have ih := cubeB_flat C
    unfold cubeB flatC at *
    rw [List.flatMap_cons, List.map_cons, List.flatten_cons, List.flatMap_append, ih, gridB_flat]
/-- Lists of P rows of d numbers, none too great. -/
def Dims (P d : Nat) (C : List (List (List Int))) : Prop := ∀ R ∈ C, R.length = P ∧ ∀ r ∈ R, r.length = d ∧ ∀ x ∈ r, -2147483648 ≤ x ∧ x ≤ 2147483647
theorem dims_flat {P d : Nat} {C : List (List (List Int))} (h : Dims P d C) : ∀ r ∈ C.map List.flatten, r.length = P * d := fun r hr => by
  obtain ⟨R, hR, rfl⟩ := List.mem_map.1 hr
  rw [flat_length d R (fun x hx => ((h R hR).2 x hx).1), (h R hR).1]
theorem flatMap_len (ns : List Int) : (ns.flatMap numB).length = 4 * ns.length := by
  induction ns with
  | nil => rfl
  | cons x ns ih => rw [List.flatMap_cons, List.length_append, ih, List.length_cons]; show 4 + _ = _; omega
theorem cubeB_len {P d : Nat} {C : List (List (List Int))} (h : Dims P d C) : (cubeB C).length = 4 * (C.length * (P * d)) := by
  rw [cubeB_flat, flatMap_len]
  unfold flatC
  rw [flat_length (P * d) _ (dims_flat h), List.length_map]
theorem cube_back {P d : Nat} {C : List (List (List Int))} (h : Dims P d C) (rest : List UInt8) : cubeT (cubeB C ++ rest) C.length P d = C := by
  unfold cubeT
  refine List.ext_getElem (by simp) fun i h1 h2 => ?_
  rw [List.getElem_map, List.getElem_range]
  have hR : C[i] ∈ C := List.getElem_mem _
  obtain ⟨hP, hr⟩ := h _ hR
  refine List.ext_getElem (by simp [hP]) fun t h3 h4 => ?_
  rw [List.getElem_map, List.getElem_range]
  have hrm : C[i][t] ∈ C[i] := List.getElem_mem _
  obtain ⟨hd, hx⟩ := hr _ hrm
  unfold rowT
  refine ext_el (by rw [tab_len, hd]) fun j hj => ?_
  rw [tab_len] at hj
  rw [el_tab hj]
  have htP : t < P := by rw [← hP]; exact h4
  have hb : t * d + j < P * d := by
    have : (t + 1) * d ≤ P * d := Nat.mul_le_mul_right d htP
    rw [Nat.succ_mul] at this
    omega
  have hfl : (flatC C).length = C.length * (P * d) := by unfold flatC; rw [flat_length (P * d) _ (dims_flat h), List.length_map]
  have hq : i * (P * d) + t * d + j < (flatC C).length := by
    rw [hfl]
    have : (i + 1) * (P * d) ≤ C.length * (P * d) := Nat.mul_le_mul_right _ h2
    rw [Nat.succ_mul] at this
    omega
  have ee : el (flatC C) (i * (P * d) + t * d + j) = el C[i][t] j := by
    unfold flatC
    rw [Nat.add_assoc, el_flat (P * d) _ i (t * d + j) (dims_flat h) (by rw [List.length_map]; exact h2) hb]
    rw [List.getD_eq_getElem?_getD, List.getElem?_map, List.getElem?_eq_getElem h2]
    show el C[i].flatten (t * d + j) = _
    rw [el_flat d C[i] t j (fun x hx => (hr x hx).1) h4 hj, List.getD_eq_getElem?_getD, List.getElem?_eq_getElem h4]
    rfl
  rw [cubeB_flat, num_flat rest _ _ hq ?_]
  · exact ee
  · rw [ee]
    exact hx _ (by unfold el; rw [List.getD_eq_getElem?_getD, List.getElem?_eq_getElem (by rw [hd]; exact hj)]; exact List.getElem_mem _)
/-- The page of the bytes of a page that is right. -/
theorem ck_dims {Vo L : Int} {D : Nat} {X : Pg} (h : ckN Vo D L X = 0) (hs : ∀ R ∈ X.K, ∀ r ∈ R, ∀ x ∈ r, -2147483648 ≤ x ∧ x ≤ 2147483647) (hv : ∀ R ∈ X.V, ∀ r ∈ R, ∀ x ∈ r, -2147483648 ≤ x ∧ x ≤ 2147483647) : Dims (X.T.length - X.F.toNat) D X.K ∧ Dims (X.T.length - X.F.toNat) D X.V := by
  obtain ⟨h1, h2, h3, h4, h5, h6⟩ := ck_zero h
  obtain ⟨j1, j2, j3, j4⟩ := plB_true h1
  refine ⟨fun R hR => ?_, fun R hR => ?_⟩
  · obtain ⟨q1, q2⟩ := rfB_spec h5 R hR
    exact ⟨by omega, fun r hr => ⟨by have := q2 r hr; omega, hs R hR r hr⟩⟩
  · obtain ⟨q1, q2⟩ := rfB_spec h6 R hR
    exact ⟨by omega, fun r hr => ⟨by have := q2 r hr; omega, hv R hR r hr⟩⟩
theorem byteOf_small {n : Nat} (h : n < 256) : (byteOf (n : Int)).toNat = n := by rw [byteOf_nat]; omega
theorem pageB_form (X : Pg) : pageB X = byteOf (X.T.length : Int) :: byteOf X.F :: (X.T.map byteOf ++ (cubeB X.K ++ cubeB X.V)) := by
  unfold pageB
  simp
theorem page_len {Vo : Int} {D L : Nat} {X : Pg} (h : ckN Vo D L X = 0) (hs : ∀ R ∈ X.K, ∀ r ∈ R, ∀ x ∈ r, -2147483648 ≤ x ∧ x ≤ 2147483647) (hv : ∀ R ∈ X.V, ∀ r ∈ R, ∀ x ∈ r, -2147483648 ≤ x ∧ x ≤ 2147483647) :
    (X.T.map byteOf ++ (cubeB X.K ++ cubeB X.V)).length = X.T.length + 8 * (X.T.length - X.F.toNat) * L * D := by
  obtain ⟨dk, dv⟩ := ck_dims h hs hv
  obtain ⟨h1, h2, h3, h4, h5, h6⟩ := ck_zero h
  have hK : X.K.length = L := by omega
  have hV : X.V.length = L := by omega
  rw [List.length_append, List.length_append, List.length_map, cubeB_len dk, cubeB_len dv, hK, hV]
  generalize X.T.length - X.F.toNat = P
  have : 8 * P * L * D = 4 * (L * (P * D)) + 4 * (L * (P * D)) := by
    rw [show 8 * P * L * D = 8 * (L * (P * D)) by rw [Nat.mul_assoc, Nat.mul_assoc, Nat.mul_left_comm P L D]]
    omega
  omega
theorem page_back {Vo : Int} {D L : Nat} {X : Pg} (h : ckN Vo D L X = 0) (hs : ∀ R ∈ X.K, ∀ r ∈ R, ∀ x ∈ r, -2147483648 ≤ x ∧ x ≤ 2147483647) (hv : ∀ R ∈ X.V, ∀ r ∈ R, ∀ x ∈ r, -2147483648 ≤ x ∧ x ≤ 2147483647) (hVo : Vo ≤ 256) (hD : D ≤ 32) (hL : L ≤ 4) :
    rdS Vo D L (pageB X) = (0, X) := by
  have hlen := page_len h hs hv
  obtain ⟨dk, dv⟩ := ck_dims h hs hv
  obtain ⟨h1, h2, h3, h4, h5, h6⟩ := ck_zero h
  obtain ⟨j1, j2, j3, j4⟩ := plB_true h1
  have hK : X.K.length = L := by omega
  have hV : X.V.length = L := by omega
  rw [pageB_form]
  show rd2 Vo D L (byteOf (X.T.length : Int)).toNat (byteOf X.F).toNat (X.T.map byteOf ++ (cubeB X.K ++ cubeB X.V)) = _
  obtain ⟨f, hf⟩ : ∃ f : Nat, X.F = (f : Int) := ⟨X.F.toNat, by omega⟩
  have hfn : X.F.toNat = f := by omega
  rw [hfn] at hlen dk dv
  rw [byteOf_small (show X.T.length < 256 by omega), hf, byteOf_small (show f < 256 by omega)]
  have e1 : pgT L D X.T.length f (X.T.map byteOf ++ (cubeB X.K ++ cubeB X.V)) = X := by
    obtain ⟨T, F, K, V⟩ := X
    simp only at *
    unfold pgT
    have t1 : (T.map byteOf ++ (cubeB K ++ cubeB V)).take T.length = T.map byteOf := List.take_left' (by rw [List.length_map])
    have t2 : (T.map byteOf ++ (cubeB K ++ cubeB V)).drop T.length = cubeB K ++ cubeB V := List.drop_left' (by rw [List.length_map])
    have t3 : (cubeB K ++ cubeB V).drop (4 * (L * ((T.length - f) * D))) = cubeB V := List.drop_left' (by rw [cubeB_len dk, hK])
    rw [t1, t2, t3]
    have c1 := cube_back dk (cubeB V)
    have c2 := cube_back dv []
    rw [List.append_nil] at c2
    rw [hK] at c1
    rw [hV] at c2
    rw [c1, c2, hf, List.map_map]
    congr 1
    rw [show T = T.map id by simp] 
    rw [List.map_map]
    refine List.map_congr_left fun x hx => ?_
    have hx1 := List.all_eq_true.1 h4 x hx
    have hx2 : 0 ≤ x ∧ x < Vo := by simpa [tokB] using hx1
    show ((byteOf x).toNat : Int) = x
    rw [byteOf_toNat]
    omega
  unfold rd2
  rw [hlen, if_neg (by omega), show (L : Int).toNat = L by omega, show (D : Int).toNat = D by omega, if_neg (by rintro (a | a | a) <;> omega), e1, if_pos h]
theorem page_cut {Vo : Int} {D L : Nat} {X : Pg} (h : ckN Vo D L X = 0) (hs : ∀ R ∈ X.K, ∀ r ∈ R, ∀ x ∈ r, -2147483648 ≤ x ∧ x ≤ 2147483647) (hv : ∀ R ∈ X.V, ∀ r ∈ R, ∀ x ∈ r, -2147483648 ≤ x ∧ x ≤ 2147483647) (hD : D ≤ 32) (hL : L ≤ 4) {cut : Nat} (hc : cut < (pageB X).length) :
    rdS Vo D L ((pageB X).take cut) = (11, noPg) ∨ rdS Vo D L ((pageB X).take cut) = (6, noPg) := by
  have hlen := page_len h hs hv
  obtain ⟨h1, h2, h3, h4, h5, h6⟩ := ck_zero h
  obtain ⟨j1, j2, j3, j4⟩ := plB_true h1
  rw [pageB_form] at hc ⊢
  obtain ⟨r, hr⟩ : ∃ r, X.T.map byteOf ++ (cubeB X.K ++ cubeB X.V) = r := ⟨_, rfl⟩
  rw [hr] at hlen hc ⊢
  obtain ⟨f, hf⟩ : ∃ f : Nat, X.F = (f : Int) := ⟨X.F.toNat, by omega⟩
  have hfn : X.F.toNat = f := by omega
  rw [hfn] at hlen
  match cut, hc with
  | 0, _ => exact Or.inl rfl
  | 1, _ => exact Or.inl rfl
  | k + 2, hc =>
    rw [List.take_succ_cons, List.take_succ_cons]
    show rd2 _ _ _ _ _ _ = _ ∨ rd2 _ _ _ _ _ _ = _
    have hk : k < r.length := by simpa using hc
    rw [byteOf_small (show X.T.length < 256 by omega), hf, byteOf_small (show f < 256 by omega)]
    unfold rd2
    rw [List.length_take, Nat.min_eq_left (Nat.le_of_lt hk), show (L : Int).toNat = L by omega, show (D : Int).toNat = D by omega]
    by_cases a : k < X.T.length
    · exact Or.inl (by rw [if_pos a])
    · refine Or.inr ?_
      rw [if_neg a, if_pos]
      refine Or.inr (Or.inr ?_)
      omega
end Go.Proofs.YtcanjlofnpnhkaaGreatDoor

/- Package block: the pages of a view are right, and join to it. -/
namespace Go.Proofs.YtcanjlofnpnhkaaGreatDoor
open Go.ChangeShapes Go.WideShapes Go.ChangeAt Go.RowKit
theorem partR_len {R : List (List Int)} {fr to' : Nat} (h : to' ≤ R.length) : (partR R fr to').length = to' - fr := by
  unfold partR
  rw [List.length_take, List.length_drop]
  omega
theorem partR_mem {R : List (List Int)} {fr to' : Nat} {r : List Int} (h : r ∈ partR R fr to') : r ∈ R := List.mem_of_mem_drop (List.mem_of_mem_take h)
theorem rows_len {R : List (List Int)} {D n : Nat} (h1 : R.length = n) (h : ∀ t, t < n → (rowOf R t).length = D) : ∀ r ∈ R, r.length = D := fun r hr => by
  obtain ⟨t, ht, rfl⟩ := List.getElem_of_mem hr
  have := h t (by omega)
  unfold rowOf at this
  rw [List.getD_eq_getElem?_getD, List.getElem?_eq_getElem ht] at this
  exact this
theorem rfB_part {C : List (List (List Int))} {n D fr to' : Nat} (h : ∀ R ∈ C, R.length = n ∧ ∀ t, t < n → (rowOf R t).length = D) (h1 : fr < to') (h2 : to' ≤ n) : rfB (C.map fun R => partR R fr to') ((to' : Int) - (fr : Int)) D = true := by
  refine rfB_true fun t Q hQ => ?_
  obtain ⟨R, hR, rfl⟩ := List.mem_map.1 (List.mem_of_getElem? hQ)
  obtain ⟨q1, q2⟩ := h R hR
  have hl : (partR R fr to').length = to' - fr := partR_len (by omega)
  refine rfR_true (by rw [hl]; omega) fun j hj => ?_
  have := rows_len q1 q2 _ (partR_mem (rowOf_mem hj))
  omega
theorem pg_ok {V : Int} {D L : Nat} {X : Vw} {fr to' : Nat} (hf : VwFit V D L X) (h1 : fr < to') (h2 : to' ≤ X.T.length) (h3 : to' - fr ≤ 16) : ckN V D L (pgOf X fr to') = 0 := by
  have hm := hf.most
  have hT : (pgOf X fr to').T.length = to' := by show (X.T.take to').length = _; rw [List.length_take]; omega
  have hK : (pgOf X fr to').K.length = L := by show (X.K.map _).length = _; rw [List.length_map, hf.k, if_neg (by omega)]
  have hV : (pgOf X fr to').V.length = L := by show (X.V.map _).length = _; rw [List.length_map, hf.v, if_neg (by omega)]
  have hF : (pgOf X fr to').F = (fr : Int) := rfl
  have hA : (pgOf X fr to').T.all (tokB V) = true := by
    rw [List.all_eq_true]
    intro x hx
    exact List.all_eq_true.1 hf.toks x (List.mem_of_mem_take hx)
  have hp : plB to' (fr : Int) = true := by
    unfold plB
    simp only [Bool.and_eq_true, decide_eq_true_eq]
    omega
  unfold ckN
  rw [hT, hF, hK, hV, hp, if_neg (by simp), if_pos hA, if_pos ⟨rfB_part hf.ks h1 h2, rfB_part hf.vs h1 h2⟩]
/-- The beginning of a view. -/
def cutX (X : Vw) (n : Nat) : Vw := ⟨X.T.take n, X.K.map fun R => R.take n, X.V.map fun R => R.take n⟩
def cut0 (X : Vw) (n : Nat) : Vw := if n = 0 then noVw else cutX X n
theorem take_part (R : List (List Int)) {fr to' : Nat} (h : fr ≤ to') : R.take fr ++ partR R fr to' = R.take to' := by
  unfold partR
  rw [show to' = fr + (to' - fr) by omega, List.take_add, show fr + (to' - fr) - fr = to' - fr by omega]
theorem catC_part (C : List (List (List Int))) {fr to' : Nat} (h : fr ≤ to') : catC (C.map fun R => R.take fr) (C.map fun R => partR R fr to') = C.map fun R => R.take to' := by
  refine List.ext_getElem (by rw [catC_len, List.length_map, List.length_map]) fun i h1 h2 => ?_
  rw [List.length_map] at h2
  have e : (catC (C.map fun R => R.take fr) (C.map fun R => partR R fr to')).getD i [] = (C.map fun R => R.take fr).getD i [] ++ (C.map fun R => partR R fr to').getD i [] := catC_at (by rw [List.length_map]; exact h2)
  rw [List.getD_eq_getElem?_getD, List.getElem?_eq_getElem h1, List.getD_eq_getElem?_getD, List.getElem?_map, List.getElem?_eq_getElem h2, List.getD_eq_getElem?_getD, List.getElem?_map, List.getElem?_eq_getElem h2] at e
  simp only [Option.getD_some, Option.map_some] at e
  rw [e, List.getElem_map, take_part _ h]
theorem catC_nil (C : List (List (List Int))) {to' : Nat} : catC [] (C.map fun R => partR R 0 to') = C.map fun R => R.take to' := by
  refine List.ext_getElem (by rw [catC_len, List.length_map, List.length_map]) fun i h1 h2 => ?_
  rw [List.length_map] at h2
  have e : (catC [] (C.map fun R => partR R 0 to')).getD i [] = ([] : List (List (List Int))).getD i [] ++ (C.map fun R => partR R 0 to').getD i [] := catC_at (by rw [List.length_map]; exact h2)
  rw [List.getD_eq_getElem?_getD, List.getElem?_eq_getElem h1, List.getD_eq_getElem?_getD (l := C.map _), List.getElem?_map, List.getElem?_eq_getElem h2] at e
  simp only [Option.getD_some, Option.map_some] at e
  rw [e, List.getElem_map]
  unfold partR
  simp
/-- One page more. -/
theorem jn_step {V : Int} {D L : Nat} {X : Vw} {fr to' : Nat} (l : List Pg) (hf : VwFit V D L X) (h1 : fr < to') (h2 : to' ≤ X.T.length) (h3 : to' - fr ≤ 16) : jnS V D L (cut0 X fr) (pgOf X fr to' :: l) = jnS V D L (cut0 X to') l := by
  have hk := pg_ok hf h1 h2 h3
  have eT : (pgOf X fr to').T.take (pgOf X fr to').F.toNat = X.T.take fr := by
    show (X.T.take to').take ((fr : Int).toNat) = _
    rw [List.take_take]
    congr 1
    omega
  have hc : (cut0 X fr).T = X.T.take fr := by
    unfold cut0
    split
    · rename_i h0; rw [h0]; rfl
    · rfl
  show (if _ then _ else if _ then _ else _) = _
  rw [if_neg (by rw [hk]; simp), if_pos (by rw [eT, hc])]
  congr 1
  unfold cut0
  rw [if_neg (by omega : ¬ to' = 0)]
  split
  · rename_i h0
    subst h0
    show (⟨X.T.take to', catC [] _, catC [] _⟩ : Vw) = _
    rw [show (pgOf X 0 to').K = X.K.map fun R => partR R 0 to' from rfl, show (pgOf X 0 to').V = X.V.map fun R => partR R 0 to' from rfl, catC_nil, catC_nil]
    rfl
  · show (⟨X.T.take to', catC (X.K.map fun R => R.take fr) _, catC (X.V.map fun R => R.take fr) _⟩ : Vw) = _
    rw [show (pgOf X fr to').K = X.K.map fun R => partR R fr to' from rfl, show (pgOf X fr to').V = X.V.map fun R => partR R fr to' from rfl, catC_part _ (by omega), catC_part _ (by omega)]
    rfl
theorem cutx_all {V : Int} {D L : Nat} {X : Vw} (hf : VwFit V D L X) : cut0 X X.T.length = X := by
  unfold cut0
  split
  · rename_i h0
    have hk := hf.k
    have hv := hf.v
    rw [if_pos h0] at hk hv
    obtain ⟨T, K, V2⟩ := X
    simp only at h0 hk hv
    rw [List.length_eq_zero_iff.1 h0, List.length_eq_zero_iff.1 hk, List.length_eq_zero_iff.1 hv]
    rfl
  · unfold cutX
    have e : ∀ C : List (List (List Int)), (∀ R ∈ C, R.length = X.T.length) → (C.map fun R => R.take X.T.length) = C := fun C hC => by
      rw [show (C.map fun R => R.take X.T.length) = C.map id from List.map_congr_left fun R hR => by rw [← hC R hR, List.take_length]; rfl, List.map_id]
    rw [e X.K fun R hR => (hf.ks R hR).1, e X.V fun R hR => (hf.vs R hR).1, List.take_length]
theorem drop_pages (X : Vw) (page NP k : Nat) (hk : k < NP) : (pagesOf X page NP).drop k = pgOf X (k * page) (min ((k + 1) * page) X.T.length) :: (pagesOf X page NP).drop (k + 1) := by
  have hl := pagesOf_len X page NP
  have hat := pagesOf_at X page NP k hk
  rw [List.drop_eq_getElem_cons (by rw [hl]; exact hk)]
  congr 1
  rw [List.getElem?_eq_getElem (by rw [hl]; exact hk)] at hat
  exact Option.some.inj hat
/-- The pages of a view, joined from the k-th on behind its beginning. -/
theorem jn_from {V : Int} {D L : Nat} {X : Vw} {page : Nat} (hf : VwFit V D L X) (hp1 : 1 ≤ page) (hp2 : page ≤ 16) : ∀ (r k : Nat), k + r = pageN X.T.length page → jnS V D L (cut0 X (min (k * page) X.T.length)) ((pagesOf X page (pageN X.T.length page)).drop k) = (0, X)
  | 0, k, h => by
    rw [List.drop_eq_nil_of_le (by rw [pagesOf_len]; omega)]
    have : X.T.length ≤ k * page := by
      rcases Nat.lt_or_ge (k * page) X.T.length with q | q
      · have := (pageN_lt hp1).1 q; omega
      · exact q
    rw [Nat.min_eq_right this, cutx_all hf]
    rfl
  | r + 1, k, h => by
    have hk : k < pageN X.T.length page := by omega
    have hlt := (pageN_lt hp1 (n := X.T.length) (k := k)).2 hk
    have hs : (k + 1) * page = k * page + page := Nat.succ_mul k page
    rw [drop_pages X page _ k hk, Nat.min_eq_left (Nat.le_of_lt hlt), jn_step _ hf (by omega) (by omega) (by omega)]
    exact jn_from hf hp1 hp2 r (k + 1) (by omega)
theorem jn_all {V : Int} {D L : Nat} {X : Vw} {page : Nat} (hf : VwFit V D L X) (hp1 : 1 ≤ page) (hp2 : page ≤ 16) : jnS V D L noVw (pagesOf X page (pageN X.T.length page)) = (0, X) := by
  have := jn_from hf hp1 hp2 (pageN X.T.length page) 0 (by omega)
  rw [List.drop_zero, Nat.zero_mul, Nat.zero_min] at this
  exact this
end Go.Proofs.YtcanjlofnpnhkaaGreatDoor

/- Package block: Split of so many tokens that there is no page; the law's small, ref0. -/
namespace Go.Proofs.YtcanjlofnpnhkaaGreatDoor
open Go.ChangeShapes Go.WideShapes Go.ChangeAt Go.RowKit
set_option maxRecDepth 100000 in
set_option maxHeartbeats 3200000 in
theorem split_bad (Vo D Hd H L : Int) (ta : Option Addr) (tn tz : Nat) (ka : Option Addr) (kn kz : Nat) (va : Option Addr) (vn vz : Nat) (page : Int) (w : World) (hp : page < 1 ∨ 16 < page) :
   Calls Tryz.prog 10 #[.agg (cfgC Vo D Hd H L), .agg #[.slice ta tn tz, .slice ka kn kz, .slice va vn vz], .int .i64 page] w fun e w' => e = .returned (.tuple #[.slice none 0 0, .int .i64 1]) ∧ Below w.heap.size w w' := by
  rw [show cfgC Vo D Hd H L = #[.int .i64 Vo, .int .i64 D, .int .i64 Hd, .int .i64 H, .int .i64 L] from rfl]
  have B0 : Below w.heap.size w (w.alloc (.cells #[.int .i64 Vo, .int .i64 D, .int .i64 Hd, .int .i64 H, .int .i64 L] 23)) := (Below.refl _ _).alloc (Nat.le_refl _) _
  generalize hw0 : w.alloc (.cells #[.int .i64 Vo, .int .i64 D, .int .i64 Hd, .int .i64 H, .int .i64 L] 23) = w0 at *
  have B1 : Below w0.heap.size w0 (w0.alloc (.cells #[.slice ta tn tz, .slice ka kn kz, .slice va vn vz] 48)) := (Below.refl _ _).alloc (Nat.le_refl _) _
  generalize hw1 : w0.alloc (.cells #[.slice ta tn tz, .slice ka kn kz, .slice va vn vz] 48) = w1 at *
  have BB := below_then B0 B1
  go_enter Tryz.func10, Tryz.ntmps10
  by_cases h1 : page < 1
  · go_wp2_with fail
    go_ret2
    exact ⟨rfl, BB⟩
  · have h2 : (16 : Int) < page := by omega
    go_wp2_with fail
    go_ret2
    exact ⟨rfl, BB⟩
def smC : Array Value := #[.int .i64 9, .int .i64 1, .int .i64 1, .int .i64 1, .int .i64 1]
end Go.Proofs.YtcanjlofnpnhkaaGreatDoor

/- Package block: law 11's ref0 and awake. -/
namespace Go.Proofs.YtcanjlofnpnhkaaGreatDoor
open Go.ChangeShapes Go.WideShapes Go.ChangeAt Go.RowKit
theorem num_arg {w : World} {g : Nat} {x : Int} (h : Blk w g 106 #[.int .i32 x]) (hx : -2147483648 ≤ x ∧ x ≤ 2147483647) : Arg w (some ⟨g, 0, none⟩) 1 1 [x] :=
  (show Fresh w g g 1 1 [x] from ⟨Nat.le_refl _, rfl, Nat.le_refl _, by omega, fun y hy => by
    rw [List.mem_singleton] at hy
    subst hy
    exact hx, ⟨_, h, rfl, fun t ht => by
    obtain rfl : t = 0 := (by omega)
    rfl⟩⟩).arg
theorem grid_of {w : World} {g : Nat} {cs : Array Value} {R : List (List Int)} (h : Blk w g 35 cs) (hn : R.length ≤ 4096) (hr : ∀ t, t < R.length → ∃ gr n, cs[t]? = some (.slice (some ⟨gr, 0, none⟩) n n) ∧ Arg w (some ⟨gr, 0, none⟩) n n (rowOf R t)) : GridAt w (some ⟨g, 0, none⟩) R.length R :=
  ⟨rfl, by omega, fun _ => ⟨g, 0, rfl, fun t ht => by
    obtain ⟨gr, n, e, A⟩ := hr t ht
    exact ⟨_, n, n, by rw [Nat.zero_add]; exact h.cell t e, A⟩⟩⟩
theorem cube_one {w : World} {g gr : Nat} {R : List (List Int)} (h : Blk w g 105 #[.slice (some ⟨gr, 0, none⟩) R.length R.length]) (hn : R.length ≤ 4096) (G : GridAt w (some ⟨gr, 0, none⟩) R.length R) : CubeAt w (some ⟨g, 0, none⟩) 1 [R] :=
  ⟨rfl, by omega, fun _ => ⟨g, 0, rfl, fun t X hX => by
    have ht : t = 0 := by have := (List.getElem?_eq_some_iff.1 hX).1; simpa using this
    subst ht
    simp at hX
    subst hX
    exact ⟨_, R.length, R.length, h.cell 0 rfl, (fun h => by cases h), Nat.le_refl _, by omega, G⟩⟩⟩
theorem ints_of {w : World} {g : Nat} {A : List Int} (h : Blk w g 3 (A.map (Value.int .i64)).toArray) (hn : A.length ≤ 4096) (hs : ∀ k, -9223372036854775808 ≤ el A k ∧ el A k ≤ 9223372036854775807) : IArg w (some ⟨g, 0, none⟩) A.length A.length A :=
  ⟨⟨rfl, by omega, hs, fun _ => ⟨g, 0, rfl, fun t ht => by
    rw [Nat.zero_add]
    refine h.cell t ?_
    unfold el
    rw [List.getD_eq_getElem?_getD, List.getElem?_eq_getElem ht]
    simp [ht]⟩⟩, Nat.le_refl _, by omega, fun h => by cases h⟩
theorem fit11 : VwFit 9 1 1 ⟨[5, 6, 7], [[[1], [2], [3]]], [[[4], [5], [6]]]⟩ := ⟨by decide, by decide, rfl, rfl, fun R hR => by
    simp only [List.mem_singleton] at hR
    subst hR
    exact ⟨rfl, fun t ht => by
      have ht3 : t < 3 := ht
      match t, ht3 with
      | 0, _ => rfl
      | 1, _ => rfl
      | 2, _ => rfl⟩, fun R hR => by
    simp only [List.mem_singleton] at hR
    subst hR
    exact ⟨rfl, fun t ht => by
      have ht3 : t < 3 := ht
      match t, ht3 with
      | 0, _ => rfl
      | 1, _ => rfl
      | 2, _ => rfl⟩⟩
end Go.Proofs.YtcanjlofnpnhkaaGreatDoor

/- Package block: Read of any bytes; what laws over a made view's pages share. -/
namespace Go.Proofs.YtcanjlofnpnhkaaGreatDoor
open Go.ChangeShapes Go.WideShapes Go.ChangeAt Go.RowKit
theorem read_any (Vo D Hd H L : Int) (l : List UInt8) (w : World) (hl : l.length ≤ 16777216) (hD : -9223372036854775808 ≤ D ∧ D ≤ 9223372036854775807) (hL : -9223372036854775808 ≤ L ∧ L ≤ 9223372036854775807) :
   Calls Tryz.prog 4 #[.agg (cfgC Vo D Hd H L), .string (txt l)] w fun e w' => ∃ p : PgV, e = .returned (.tuple #[.agg p.cells, .int .i64 (rdS Vo D L l).1]) ∧ New w.heap.size w' (fun w => PgAt w p (rdS Vo D L l).2) ∧ Below w.heap.size w w' := by
  have short : l.length < 2 → rdS Vo D L l = (11, noPg) → Calls Tryz.prog 4 #[.agg (cfgC Vo D Hd H L), .string (txt l)] w fun e w' => ∃ p : PgV, e = .returned (.tuple #[.agg p.cells, .int .i64 (rdS Vo D L l).1]) ∧ New w.heap.size w' (fun w => PgAt w p (rdS Vo D L l).2) ∧ Below w.heap.size w w' := fun h1 h2 => by
    rw [h2]
    refine (read_short Vo D Hd H L l w h1).mono ?_
    rintro e w' ⟨rfl, B⟩
    exact ⟨⟨⟨none, 0, 0⟩, 0, ⟨none, 0, 0⟩, ⟨none, 0, 0⟩⟩, rfl, fun w9 _ => noPg_at w9, B⟩
  match l with
  | [] => exact short (by simp) rfl
  | [_] => exact short (by simp) rfl
  | a :: b :: r => exact read_two Vo D Hd H L a b r w (by simp at hl; omega) hD hL
theorem row_small {w : World} {ao : Option Addr} {n c : Nat} {A : List Int} (h : Arg w ao n c A) : ∀ x ∈ A, -2147483648 ≤ x ∧ x ≤ 2147483647 := fun x hx => h.row.small x hx
theorem grid_small {w : World} {ao : Option Addr} {n : Nat} {R : List (List Int)} (h : GridAt w ao n R) : ∀ r ∈ R, ∀ x ∈ r, -2147483648 ≤ x ∧ x ≤ 2147483647 := fun r hr => by
  obtain ⟨t, ht, rfl⟩ := List.getElem_of_mem hr
  have hl := h.len
  obtain ⟨b, o, _, hc⟩ := h.cells (by omega)
  obtain ⟨ro, m, c, _, A⟩ := hc t (by omega)
  have e : rowOf R t = R[t] := by unfold rowOf; rw [List.getD_eq_getElem?_getD, List.getElem?_eq_getElem ht]; rfl
  rw [e] at A
  exact row_small A
theorem cube_small {w : World} {ao : Option Addr} {n : Nat} {C : List (List (List Int))} (h : CubeAt w ao n C) : ∀ R ∈ C, ∀ r ∈ R, ∀ x ∈ r, -2147483648 ≤ x ∧ x ≤ 2147483647 := fun R hR => by
  obtain ⟨t, ht⟩ := List.getElem?_of_mem hR
  have hlt := (List.getElem?_eq_some_iff.1 ht).1
  have hl := h.len
  obtain ⟨b, o, _, hc⟩ := h.cells (by omega)
  obtain ⟨ro, m, c, _, _, _, _, G⟩ := hc t R ht
  exact grid_small G
theorem pageN_zero {page : Nat} (h : 1 ≤ page) : pageN 0 page = 0 := by unfold pageN; exact Nat.div_eq_of_lt (by omega)
theorem pageN_quo (n page : Nat) (h : 1 ≤ page) : ((n : Int) + (page : Int) - 1).tdiv (page : Int) = (pageN n page : Int) := by
  unfold pageN
  rw [show (n : Int) + (page : Int) - 1 = ((n + page - 1 : Nat) : Int) by omega]
  exact rfl
theorem pageN_le (n page : Nat) (h : 1 ≤ page) : pageN n page ≤ n := by
  unfold pageN
  rcases Nat.eq_zero_or_pos n with e | e
  · subst e; rw [Nat.div_eq_of_lt (by omega)]; exact Nat.le_refl _
  · have : n + page - 1 < (n + 1) * page := by
      rw [Nat.succ_mul]
      have := Nat.le_mul_of_pos_right n h
      omega
    have := (Nat.div_lt_iff_lt_mul (by omega : 0 < page)).2 this
    omega
end Go.Proofs.YtcanjlofnpnhkaaGreatDoor

/- What stays where numbers of the call's own rows are written over. -/
namespace Go.Proofs.YtcanjlofnpnhkaaGreatDoor
open Go.ChangeShapes Go.WideShapes Go.ChangeAt Go.RowKit
def I32 (y : Int) : Prop := -2147483648 ≤ y ∧ y ≤ 2147483647
theorem i32_wrap (y : Int) : I32 (IntKind.i32.wrap y) := by
  unfold I32
  rw [IntKind.wrap_i32]
  omega
/-- From w0 to w numbers alone were turned, in blocks from B on. -/
structure Nums (B : Nat) (w0 w : World) : Prop where
  kp : Below B w0 w
  cell : ∀ a v, w0.cell? a = some v → w.cell? a = some v ∨ ∃ x y, v = .int .i32 x ∧ w.cell? a = some (.int .i32 y) ∧ I32 y
  fro : ∀ a, w.frozen? a = w0.frozen? a
theorem Nums.refl (B : Nat) (w : World) : Nums B w w := ⟨Below.refl _ _, fun _ _ h => .inl h, fun _ => rfl⟩
theorem Nums.slice {B : Nat} {w0 w : World} (h : Nums B w0 w) {a : Addr} {ro : Option Addr} {n c : Nat} (e : w0.cell? a = some (.slice ro n c)) : w.cell? a = some (.slice ro n c) :=
  (h.cell a _ e).resolve_right (fun ⟨_, _, e, _⟩ => by cases e)
theorem Nums.num {B : Nat} {w0 w : World} (h : Nums B w0 w) {a : Addr} {x : Int} (e : w0.cell? a = some (.int .i32 x)) (hx : I32 x) : ∃ y, w.cell? a = some (.int .i32 y) ∧ I32 y := by
  rcases h.cell a _ e with h1 | ⟨x', y, _, h1, h2⟩
  · exact ⟨x, h1, hx⟩
  · exact ⟨y, h1, h2⟩
theorem Nums.set {B : Nat} {w0 w : World} (h : Nums B w0 w) {a : Addr} {x y : Int} (e : w0.cell? a = some (.int .i32 x)) (hb : B ≤ a.block) (hy : I32 y) : Nums B w0 (w.setCell a (.int .i32 y)) := by
  refine ⟨h.kp.setCell hb _, fun a' v e' => ?_, fun a' => by rw [World.frozen?_setCell]; exact h.fro a'⟩
  by_cases ha : a = a'
  · subst ha
    rw [e] at e'
    simp only [Option.some.injEq] at e'
    subst e'
    refine .inr ⟨x, y, rfl, ?_, hy⟩
    rcases h.cell a _ e with h1 | ⟨_, _, _, h1, _⟩
    · exact World.cell?_setCell_same _ _ _ h1
    · exact World.cell?_setCell_same _ _ _ h1
  · rw [World.cell?_setCell_other _ _ _ _ ha]
    exact h.cell a' v e'
/-- The blocks of a world from B on; those ahead are empty. -/
def wiped (w : World) (B : Nat) : World := { w with heap := w.heap.mapIdx fun i o => if i < B then .cells #[] 0 else o }
theorem wiped_far (w : World) (B : Nat) {b : Nat} (hb : B ≤ b) : (wiped w B).heap[b]? = w.heap[b]? := by
  unfold wiped
  simp only [Array.getElem?_mapIdx]
  cases w.heap[b]? with
  | none => rfl
  | some o => simp [show ¬ b < B by omega]
theorem wiped_near (w : World) (B : Nat) {a : Addr} {v : Value} (h : (wiped w B).cell? a = some v) : B ≤ a.block := by
  rcases Nat.lt_or_ge a.block B with hb | hb
  · exfalso
    unfold World.cell? at h
    have e : (wiped w B).heap[a.block]? = w.heap[a.block]?.map fun _ => .cells #[] 0 := by
      unfold wiped
      simp only [Array.getElem?_mapIdx]
      cases w.heap[a.block]? with
      | none => rfl
      | some o => simp [hb]
    rw [e] at h
    cases hh : w.heap[a.block]? with
    | none => simp [hh] at h
    | some o => simp [hh] at h
  · exact hb
theorem wiped_cell (w : World) (B : Nat) {a : Addr} {v : Value} (h : (wiped w B).cell? a = some v) : w.cell? a = some v := by
  have hb := wiped_near w B h
  rw [World.cell?_of_block (w := w) (wiped_far w B hb)] at h
  exact h
/-- How new lists of lists of numbers lie: slices, slices, and numbers that may be written. -/
def Skel (B : Nat) (w : World) (g L n D : Nat) : Prop := ∀ l, l < L → ∃ gl ol cl, w.cell? ⟨g, l, none⟩ = some (.slice (some ⟨gl, ol, none⟩) n cl) ∧ ∀ i, i < n → ∃ rb ro rc, w.cell? ⟨gl, ol + i, none⟩ = some (.slice (some ⟨rb, ro, none⟩) D rc) ∧ ∀ j, j < D → ∃ x, w.cell? ⟨rb, ro + j, none⟩ = some (.int .i32 x) ∧ I32 x ∧ w.frozen? ⟨rb, ro + j, none⟩ = false ∧ B ≤ rb
theorem skel_new {B : Nat} {w : World} {g L n D : Nat} {C : List (List (List Int))} (h : New B w (fun w => CubeAt w (some ⟨g, 0, none⟩) L C)) (hC : ∀ t, t < L → (C.getD t []).length = n) (hD : ∀ t i, t < L → i < n → (rowOf (C.getD t []) i).length = D) (hn : 1 ≤ n) (h1 : 1 ≤ D) : Skel B w g L n D := by
  have h2 : CubeAt (wiped w B) (some ⟨g, 0, none⟩) L C := h _ fun b hb _ => wiped_far w B hb
  intro l hl
  obtain ⟨b, o, e, hc⟩ := h2.cells (by omega)
  simp only [Option.some.injEq, Addr.mk.injEq, and_true] at e
  obtain ⟨rfl, rfl⟩ := e
  have hlen := h2.len
  have hl' : l < C.length := by omega
  obtain ⟨ro, m, c, k1, k2, k3, k4, k5⟩ := hc l _ (List.getElem?_eq_getElem hl')
  have hR : C.getD l [] = C[l] := by simp [List.getD_eq_getElem?_getD, List.getElem?_eq_getElem hl']
  have hm : m = n := by rw [← hC l hl, hR]; exact k5.len.symm
  subst hm
  rw [Nat.zero_add] at k1
  obtain ⟨b1, o1, rfl, hr⟩ := k5.cells (by omega)
  refine ⟨b1, o1, c, wiped_cell w B k1, fun i hi => ?_⟩
  obtain ⟨r2, m2, c2, q1, q2⟩ := hr i hi
  have hm2 : m2 = D := by rw [← hD l i hl hi, hR]; exact q2.row.len.symm
  subst hm2
  obtain ⟨b2, o2, rfl, hx⟩ := q2.row.cells (by omega)
  refine ⟨b2, o2, c2, wiped_cell w B q1, fun j hj => ?_⟩
  have c1 := hx j hj
  have hb2 : B ≤ b2 := by simpa using wiped_near w B c1
  refine ⟨_, wiped_cell w B c1, q2.row.small.el j, ?_, hb2⟩
  rw [← frozen_of_block (wiped_far w B hb2)]
  exact q2.cold b2 o2 rfl j hj
theorem skel_none (B : Nat) (w : World) (g n D : Nat) : Skel B w g 0 n D := fun l hl => by omega
theorem Skel.below {B : Nat} {w w' : World} {g L n D : Nat} (h : Skel B w g L n D) (hb : Below w.heap.size w w') : Skel B w' g L n D := fun l hl => by
  obtain ⟨gl, ol, cl, e, h2⟩ := h l hl
  refine ⟨gl, ol, cl, cell_keep e hb, fun i hi => ?_⟩
  obtain ⟨rb, ro, rc, e2, h3⟩ := h2 i hi
  refine ⟨rb, ro, rc, cell_keep e2 hb, fun j hj => ?_⟩
  obtain ⟨x, e3, hx, hf, hB⟩ := h3 j hj
  have hlt : rb < w.heap.size := by simpa using World.block_lt_of_cell? w _ e3
  exact ⟨x, cell_keep e3 hb, hx, by rw [frozen_of_block (hb.block rb hlt)]; exact hf, hB⟩
end Go.Proofs.YtcanjlofnpnhkaaGreatDoor

/- Package pass: layer: what a layer makes of rows, and the key and the value of each. -/
namespace Go.Proofs.YtcanjlofnpnhkaaGreatDoor
open Go.ChangeShapes Go.WideShapes Go.ChangeAt Go.RowKit
def keysR (L : Lay) (D : Nat) (R : List (List Int)) : List (List Int) := R.map (keyR L D)
def valsR (L : Lay) (D : Nat) (R : List (List Int)) : List (List Int) := R.map (valR L D)
def madeR (L : Lay) (D H Hd : Nat) (R : List (List Int)) : List (List Int) := (List.range R.length).map fun i => oneR L D H Hd (rowOf R i) ((keysR L D R).take i) ((valsR L D R).take i) i
theorem keysR_at (L : Lay) (D : Nat) {R : List (List Int)} {t : Nat} (h : t < R.length) : rowOf (keysR L D R) t = keyR L D (rowOf R t) := by
  unfold rowOf keysR
  simp only [List.getD_eq_getElem?_getD, List.getElem?_map, List.getElem?_eq_getElem h]
  rfl
theorem valsR_at (L : Lay) (D : Nat) {R : List (List Int)} {t : Nat} (h : t < R.length) : rowOf (valsR L D R) t = valR L D (rowOf R t) := by
  unfold rowOf valsR
  simp only [List.getD_eq_getElem?_getD, List.getElem?_map, List.getElem?_eq_getElem h]
  rfl
theorem madeR_at (L : Lay) (D H Hd : Nat) {R : List (List Int)} {t : Nat} (h : t < R.length) : rowOf (madeR L D H Hd R) t = oneR L D H Hd (rowOf R t) ((keysR L D R).take t) ((valsR L D R).take t) t := by
  unfold madeR
  conv => lhs; unfold rowOf
  rw [List.getD_eq_getElem?_getD, List.getElem?_map, List.getElem?_range h]
  rfl
theorem rowOf_take {R : List (List Int)} {k t : Nat} (h : t < k) : rowOf (R.take k) t = rowOf R t := by
  unfold rowOf
  simp only [List.getD_eq_getElem?_getD, List.getElem?_take, if_pos h]
/-- Block g is filled up to place k with rows that hang on the blocks that p tells. -/
structure FP (w : World) (g m k : Nat) (p : Nat → Prop) (R : List (List Int)) : Prop where
  row : ∃ cs : Array Value, w.heap[g]? = some (.cells cs 35 (0, 0)) ∧ cs.size = m ∧ ∀ t, t < k → ∃ ro n c, cs[t]? = some (.slice ro n c) ∧ Hangs p w (fun w => Arg w ro n c (rowOf R t))
theorem FP.lt {w : World} {g m k : Nat} {p : Nat → Prop} {R : List (List Int)} (h : FP w g m k p R) : g < w.heap.size := by
  obtain ⟨cs, h1, _⟩ := h.row
  exact (Array.getElem?_eq_some_iff.1 h1).1
theorem FP.below {w w' : World} {g m k : Nat} {p : Nat → Prop} {R : List (List Int)} (h : FP w g m k p R) (hb : Below w.heap.size w w') : FP w' g m k p R := by
  have hl := h.lt
  obtain ⟨cs, h1, h2, h3⟩ := h.row
  exact ⟨cs, (hb.block g hl).trans h1, h2, fun t ht => let ⟨ro, n, c, e, N⟩ := h3 t ht; ⟨ro, n, c, e, N.below hb⟩⟩
theorem FP.frozen {w : World} {g m k : Nat} {p : Nat → Prop} {R : List (List Int)} (h : FP w g m k p R) (t : Nat) : w.frozen? ⟨g, t, none⟩ = false := by
  obtain ⟨cs, h1, _⟩ := h.row
  unfold World.frozen?; simp only [h1]; rfl
theorem FP.cell {w : World} {g m k : Nat} {p : Nat → Prop} {R : List (List Int)} (h : FP w g m k p R) {t : Nat} (ht : t < m) : ∃ v, w.cell? ⟨g, t, none⟩ = some v := by
  obtain ⟨cs, h1, h2, _⟩ := h.row
  refine ⟨cs[t]'(by omega), ?_⟩
  unfold World.cell?; simp only [h1]
  exact Array.getElem?_eq_getElem (by omega)
theorem FP.step {w : World} {g m k : Nat} {p : Nat → Prop} {R : List (List Int)} (h : FP w g m k p R) (hk : k < m) (hp : ¬ p g) {ro : Option Addr} {n c : Nat} (hA : Hangs p w fun w => Arg w ro n c (rowOf R k)) : FP (w.setCell ⟨g, k, none⟩ (.slice ro n c)) g m (k + 1) p R := by
  obtain ⟨cs, h1, h2, h3⟩ := h.row
  refine ⟨cs.setIfInBounds k (.slice ro n c), by simp [World.setCell, Array.getElem?_modify, h1], by simpa using h2, fun t ht => ?_⟩
  rw [Array.getElem?_setIfInBounds]
  by_cases e : k = t
  · subst e
    rw [if_pos rfl, if_pos (by omega)]
    exact ⟨ro, n, c, rfl, hA.set hp _⟩
  · rw [if_neg e]
    obtain ⟨ro', n', c', e2, N⟩ := h3 t (by omega)
    exact ⟨ro', n', c', e2, N.set hp _⟩
theorem FP.far {w : World} {g m k : Nat} {p : Nat → Prop} {R : List (List Int)} (h : FP w g m k p R) {a : Addr} (hg : a.block ≠ g) (hp : ¬ p a.block) (v : Value) : FP (w.setCell a v) g m k p R := by
  obtain ⟨cs, h1, h2, h3⟩ := h.row
  exact ⟨cs, (Below.heap_setCell _ _ _ _ (Ne.symm hg)).trans h1, h2, fun t ht => let ⟨ro, n, c, e, N⟩ := h3 t ht; ⟨ro, n, c, e, N.set hp _⟩⟩
theorem fp_made (w : World) (m : Nat) (p : Nat → Prop) (R : List (List Int)) : FP (w.alloc (.cells (madeCells #[.slice none 0 0] m) 35)) w.heap.size m 0 p R :=
  ⟨_, heap_alloc_new _ _, by simp [madeCells], fun t ht => by omega⟩
/-- The rows ahead of place k. -/
theorem FP.front {w : World} {g m k : Nat} {p : Nat → Prop} {R : List (List Int)} (h : FP w g m k p R) (hk : k ≤ m) (hl : m ≤ R.length) (hm : m ≤ 9223372036854775807) : GridAt w (some ⟨g, 0, none⟩) k (R.take k) := by
  obtain ⟨cs, h1, h2, h3⟩ := h.row
  refine ⟨by rw [List.length_take]; omega, by omega, fun _ => ⟨g, 0, rfl, fun t ht => ?_⟩⟩
  obtain ⟨ro, n, c, e, N⟩ := h3 t ht
  refine ⟨ro, n, c, ?_, by rw [rowOf_take ht]; exact N.now⟩
  rw [Nat.zero_add]
  unfold World.cell?
  simp only [h1]
  exact e
theorem FP.whole {w : World} {g m : Nat} {p : Nat → Prop} {R : List (List Int)} (h : FP w g m m p R) (hl : R.length = m) (hm : m ≤ 9223372036854775807) {B : Nat} (hp : ∀ b, p b → B ≤ b) (hB : B ≤ g) : ∃ vs, New B w fun w => GridV w (some ⟨g, 0, none⟩) m vs R := by
  have hlt := h.lt
  obtain ⟨cs, h1, hsz, h3⟩ := h.row
  refine ⟨cs.toList, fun w2 h2 => ?_⟩
  have hg := (h2 g hB hlt).trans h1
  refine ⟨⟨by simp [hsz, hl], fun t ht => ?_⟩, by simp [hsz], hm, fun _ => ⟨g, 0, rfl, fun j u hj => ?_⟩⟩
  · obtain ⟨ro, n, c, e, N⟩ := h3 t (by omega)
    exact ⟨ro, n, c, by simpa using e, N w2 fun b hb hb2 => h2 b (hp b hb) hb2⟩
  · rw [Nat.zero_add]
    unfold World.cell?
    simp only [hg]
    simpa using hj
def offL (w : World) (gm gk gv b : Nat) : Prop := w.heap.size + 1 < b ∧ b ≠ gm ∧ b ≠ gk ∧ b ≠ gv
/-- Within layer. -/
structure LI (w wr : World) (cfg bc : Array Value) (gm gk gv n t : Nat) (Rm Rk Rv : List (List Int)) : Prop where
  x0 : Blk wr w.heap.size 23 cfg
  x1 : Blk wr (w.heap.size + 1) 80 bc
  m : FP wr gm n t (offL w gm gk gv) Rm
  k : FP wr gk n t (offL w gm gk gv) Rk
  v : FP wr gv n t (offL w gm gk gv) Rv
  ne : w.heap.size + 1 < gm ∧ w.heap.size + 1 < gk ∧ w.heap.size + 1 < gv ∧ gm ≠ gk ∧ gm ≠ gv ∧ gk ≠ gv
  kp : Below w.heap.size w wr
theorem LI.below {w wr w' : World} {cfg bc : Array Value} {gm gk gv n t : Nat} {Rm Rk Rv : List (List Int)} (h : LI w wr cfg bc gm gk gv n t Rm Rk Rv) (hb : Below wr.heap.size wr w') : LI w w' cfg bc gm gk gv n t Rm Rk Rv :=
  ⟨h.x0.below hb, h.x1.below hb, h.m.below hb, h.k.below hb, h.v.below hb, h.ne, below_then h.kp hb⟩
theorem LI.next {w wr : World} {cfg bc : Array Value} {gm gk gv n t : Nat} {Rm Rk Rv : List (List Int)} (h : LI w wr cfg bc gm gk gv n t Rm Rk Rv) (ht : t < n) {o1 o2 o3 d1 d2 d3 e1 e2 e3 : Nat} (N1 : Hangs (offL w gm gk gv) wr fun w => Arg w (some ⟨o1, 0, none⟩) d1 e1 (rowOf Rm t)) (N2 : Hangs (offL w gm gk gv) wr fun w => Arg w (some ⟨o2, 0, none⟩) d2 e2 (rowOf Rk t)) (N3 : Hangs (offL w gm gk gv) wr fun w => Arg w (some ⟨o3, 0, none⟩) d3 e3 (rowOf Rv t)) :
    LI w (((wr.setCell ⟨gm, t, none⟩ (.slice (some ⟨o1, 0, none⟩) d1 e1)).setCell ⟨gk, t, none⟩ (.slice (some ⟨o2, 0, none⟩) d2 e2)).setCell ⟨gv, t, none⟩ (.slice (some ⟨o3, 0, none⟩) d3 e3)) cfg bc gm gk gv n (t + 1) Rm Rk Rv := by
  obtain ⟨f1, f2, f3, f4, f5, f6⟩ := h.ne
  have pm : ¬ offL w gm gk gv gm := fun h => h.2.1 rfl
  have pk : ¬ offL w gm gk gv gk := fun h => h.2.2.1 rfl
  have pv : ¬ offL w gm gk gv gv := fun h => h.2.2.2 rfl
  refine ⟨((h.x0.other (by show _ ≠ gm; omega) _).other (by show _ ≠ gk; omega) _).other (by show _ ≠ gv; omega) _, ((h.x1.other (by show _ ≠ gm; omega) _).other (by show _ ≠ gk; omega) _).other (by show _ ≠ gv; omega) _, ?_, ?_, ?_, h.ne, ?_⟩
  · exact ((h.m.step ht pm N1).far (by show gk ≠ gm; omega) pk _).far (by show gv ≠ gm; omega) pv _
  · exact ((h.k.far (by show gm ≠ gk; omega) pm _).step ht pk (N2.set pm _)).far (by show gv ≠ gk; omega) pv _
  · exact ((h.v.far (by show gm ≠ gv; omega) pm _).far (by show gk ≠ gv; omega) pk _).step ht pv ((N3.set pm _).set pk _)
  · exact ((h.kp.setCell (p := ⟨gm, t, none⟩) (by show w.heap.size ≤ gm; omega) _).setCell (p := ⟨gk, t, none⟩) (by show w.heap.size ≤ gk; omega) _).setCell (p := ⟨gv, t, none⟩) (by show w.heap.size ≤ gv; omega) _
end Go.Proofs.YtcanjlofnpnhkaaGreatDoor

/- Package step: All: several tokens more. -/
namespace Go.Proofs.YtcanjlofnpnhkaaGreatDoor
open Go.ChangeShapes Go.WideShapes Go.ChangeAt Go.RowKit
/-- The view behind several tokens more, and what is liked behind the last one. -/
def feedAll (M : Mdl) (D H Hd L : Nat) (X : Vw) (A : List Int) : Vw := A.foldl (fun X t => feedV M D H Hd L X t.toNat) X
def likAt (M : Mdl) (V D H Hd L : Nat) (X : Vw) (A : List Int) : Nat → List Int
  | 0 => []
  | k + 1 => likR M V D (feedX M D H Hd L (feedAll M D H Hd L X (A.take k)) (el A k).toNat)
theorem feedAll_step (M : Mdl) (D H Hd L : Nat) (X : Vw) {A : List Int} {k : Nat} (h : k < A.length) : feedAll M D H Hd L X (A.take (k + 1)) = feedV M D H Hd L (feedAll M D H Hd L X (A.take k)) (el A k).toNat := by
  have e : A[k]? = some (el A k) := by unfold el; simp [List.getD_eq_getElem?_getD, List.getElem?_eq_getElem h]
  unfold feedAll
  rw [List.take_add_one, e, List.foldl_append]
  rfl
theorem feedAll_len (M : Mdl) (D H Hd L : Nat) (A : List Int) : ∀ X : Vw, (feedAll M D H Hd L X A).T.length = X.T.length + A.length := by
  induction A with
  | nil => intro X; rfl
  | cons a A ih =>
    intro X
    show (feedAll M D H Hd L (feedV M D H Hd L X a.toNat) A).T.length = _
    rw [ih]
    unfold feedV
    simp
    omega
theorem feedAll_fit {M : Mdl} {V D H Hd L : Nat} {A : List Int} : ∀ {X : Vw}, VwFit V D L X → A.all (tokB V) = true → X.T.length + A.length ≤ 128 → VwFit V D L (feedAll M D H Hd L X A) := by
  induction A with
  | nil => intro X hf _ _; exact hf
  | cons a A ih =>
    intro X hf ha hl
    simp only [List.all_cons, Bool.and_eq_true] at ha
    simp only [List.length_cons] at hl
    have ht : 0 ≤ a ∧ a < V := by have := ha.1; unfold tokB at this; simpa using this
    show VwFit V D L (feedAll M D H Hd L (feedV M D H Hd L X a.toNat) A)
    exact ih (fit_feed hf (by omega) (by omega)) ha.2 (by unfold feedV; simp; omega)
theorem vwv_one (v : VwV) : v.cells.all (·.oneCell') = true := by simp [VwV.cells, Sl.v, Value.oneCell']
theorem vwv_size (v : VwV) : v.cells.size = 3 := rfl
theorem prompt_ok {V : Int} {A : List Int} (h : promptN V A = 0) : 1 ≤ A.length ∧ A.length ≤ 128 ∧ A.all (tokB V) = true := by
  unfold promptN at h
  split at h
  · omega
  · split at h
    · omega
    · split at h
      · rename_i h1 h2 h3; exact ⟨by omega, by omega, h3⟩
      · omega
set_option maxRecDepth 100000 in
set_option maxHeartbeats 1600000 in
theorem all_bad (V D Hd H L : Nat) (ws cv : Array Value) (ao : Option Addr) (n ca : Nat) (A : List Int) (w : World) (hA : IArg w ao n ca A) (hp : promptN V A ≠ 0) :
   Calls Tryz.prog 9 #[.agg (cfgC V D Hd H L), .agg ws, .agg cv, .slice ao n ca] w fun e w' => e = .returned (.tuple #[.agg noV, .slice none 0 0, .int .i64 (promptN V A)]) ∧ Below w.heap.size w w' := by
  have CP := fun (wv : World) (hb : Below w.heap.size w wv) => prompt_any V D Hd H L ao n ca A wv (hA.below hb)
  have hp' : (promptN V A == 0) = false := by simpa using hp
  generalize promptN V A = q at *
  unfold cfgC at *
  have X0 := blk_new w 23 #[.int .i64 (V : Int), .int .i64 (D : Int), .int .i64 (Hd : Int), .int .i64 (H : Int), .int .i64 (L : Int)]
  have B0 : Below w.heap.size w (w.alloc (.cells #[.int .i64 (V : Int), .int .i64 (D : Int), .int .i64 (Hd : Int), .int .i64 (H : Int), .int .i64 (L : Int)] 23)) := (Below.refl _ _).alloc (Nat.le_refl _) _
  have s0 : (w.alloc (.cells #[.int .i64 (V : Int), .int .i64 (D : Int), .int .i64 (Hd : Int), .int .i64 (H : Int), .int .i64 (L : Int)] 23)).heap.size = w.heap.size + 1 := by simp
  generalize hw0 : w.alloc (.cells #[.int .i64 (V : Int), .int .i64 (D : Int), .int .i64 (Hd : Int), .int .i64 (H : Int), .int .i64 (L : Int)] 23) = w0 at *
  have X1 := blk_new w0 40 ws
  have B1 : Below w0.heap.size w0 (w0.alloc (.cells ws 40)) := (Below.refl _ _).alloc (Nat.le_refl _) _
  have s1 : (w0.alloc (.cells ws 40)).heap.size = w0.heap.size + 1 := by simp
  rw [s0] at X1 s1
  generalize hw1 : w0.alloc (.cells ws 40) = w1 at *
  have X2 := blk_new w1 48 cv
  have B2 : Below w1.heap.size w1 (w1.alloc (.cells cv 48)) := (Below.refl _ _).alloc (Nat.le_refl _) _
  have s2 : (w1.alloc (.cells cv 48)).heap.size = w1.heap.size + 1 := by simp
  rw [s1] at X2 s2
  generalize hw2 : w1.alloc (.cells cv 48) = w2 at *
  have X3 := blk_new w2 48 #[.slice none 0 0, .slice none 0 0, .slice none 0 0]
  have B3 : Below w2.heap.size w2 (w2.alloc (.cells #[.slice none 0 0, .slice none 0 0, .slice none 0 0] 48)) := (Below.refl _ _).alloc (Nat.le_refl _) _
  have s3 : (w2.alloc (.cells #[.slice none 0 0, .slice none 0 0, .slice none 0 0] 48)).heap.size = w2.heap.size + 1 := by simp
  rw [s2] at X3 s3
  generalize hw3 : w2.alloc (.cells #[.slice none 0 0, .slice none 0 0, .slice none 0 0] 48) = w3 at *
  replace X0 := ((X0.below B1).below B2).below B3
  replace X1 := (X1.below B2).below B3
  replace X2 := X2.below B3
  replace B3 := below_then (below_then (below_then B0 B1) B2) B3
  have a0 : w3.cell? ⟨w.heap.size, 0, none⟩ = some (.int .i64 (V : Int)) := X0.cell 0 rfl
  have a1 : w3.cell? ⟨w.heap.size, 1, none⟩ = some (.int .i64 (D : Int)) := X0.cell 1 rfl
  have a2 : w3.cell? ⟨w.heap.size, 2, none⟩ = some (.int .i64 (Hd : Int)) := X0.cell 2 rfl
  have a3 : w3.cell? ⟨w.heap.size, 3, none⟩ = some (.int .i64 (H : Int)) := X0.cell 3 rfl
  have a4 : w3.cell? ⟨w.heap.size, 4, none⟩ = some (.int .i64 (L : Int)) := X0.cell 4 rfl
  go_enter Tryz.func9, Tryz.ntmps9
  go_wp2_with fail
  refine (CP _ B3).mono ?_
  rintro e w4 ⟨rfl, B4⟩
  replace X3 := X3.below B4
  have D4 := below_then B3 B4
  clear a0 a1 a2 a3 a4 B3 B4 CP hw0 hw1 hw2 hw3 B0 B1 B2 s0 s1 s2 s3
  have hall : Array.all (#[.slice none 0 0, .slice none 0 0, .slice none 0 0] : Array Value) (fun v => v.oneCell') = true := by simp [Value.oneCell']
  go_wp2_with (refine wpList_store_row rfl 48 _ _ rfl (w.heap.size + 1 + 1 + 1) #[.slice none 0 0, .slice none 0 0, .slice none 0 0] rfl rfl 48 _ X3 Tryz.infoV rfl hall ?_)
  refine bodyPost_ret (results_blk3 rfl _ _ (w.heap.size + 1 + 1 + 1) _ rfl (load_v (X3.row _) rfl)) rfl ?_
  exact ⟨rfl, below_setRow D4 (by omega) _⟩
/-- Within All: boxes, and the view behind k tokens. -/
structure AI (w wr : World) (V D H Hd L : Nat) (cfg ws : Array Value) (M : Mdl) (X : Vw) (A : List Int) (k : Nat) (vv : VwV) (lv : Value) : Prop where
  x0 : Blk wr w.heap.size 23 cfg
  x1 : Blk wr (w.heap.size + 1) 40 ws
  x2 : Blk wr (w.heap.size + 2) 48 vv.cells
  x3 : Blk wr (w.heap.size + 3) 48 #[.slice none 0 0, .slice none 0 0, .slice none 0 0]
  at_ : VwAt wr vv (feedAll M D H Hd L X (A.take k))
  new : 0 < k → New (w.heap.size + 4) wr (fun w => VwAt w vv (feedAll M D H Hd L X (A.take k))) ∧ ∃ g, lv = .slice (some ⟨g, 0, none⟩) V V ∧ Fresh wr (w.heap.size + 4) g V V (likAt M V D H Hd L X A k)
  kp : Below w.heap.size w wr
  sz : w.heap.size + 3 < wr.heap.size
set_option maxRecDepth 100000 in
set_option maxHeartbeats 800000 in
theorem all_ok (V D Hd H L : Nat) (W : Wt) (bs : List Bk) (M : Mdl) (v : VwV) (X : Vw) (ao : Option Addr) (n ca : Nat) (A : List Int) (w : World) (hT : Tab w) (hG : Good w V D Hd H L W bs M) (hv : VwAt w v X) (hf : VwFit V D L X) (hA : IArg w ao n ca A) (hp : promptN V A = 0) (hs : X.T.length + A.length ≤ 128) :
   Calls Tryz.prog 9 #[.agg (cfgC V D Hd H L), .agg W.cells, .agg v.cells, .slice ao n ca] w fun e w' => ∃ vv g, e = .returned (.tuple #[.agg (VwV.cells vv), .slice (some ⟨g, 0, none⟩) V V, .int .i64 0]) ∧ New w.heap.size w' (fun w => VwAt w vv (feedAll M D H Hd L X A)) ∧ Fresh w' w.heap.size g V V (likAt M V D H Hd L X A A.length) ∧ Below w.heap.size w w' := by
  obtain ⟨p1, p2, p3⟩ := prompt_ok hp
  have CP := fun (wv : World) (hb : Below w.heap.size w wv) => prompt_any V D Hd H L ao n ca A wv (hA.below hb)
  rw [hp] at CP
  have hl := hA.row.len
  have HT : Hid (∀ wv, Below w.heap.size w wv → Tab wv) := fun wv hb => hT.next hb
  have HG : Hid (∀ wv, Below w.heap.size w wv → Good wv V D Hd H L W bs M) := fun wv hb => hG.below hb
  have HA : Hid (∀ wv, Below w.heap.size w wv → IRowAt wv ao n A) := fun wv hb => hA.row.below hb
  have HF : Hid (∀ k, k ≤ A.length → VwFit V D L (feedAll M D H Hd L X (A.take k))) := fun k hk => feedAll_fit hf (by
    rw [List.all_eq_true] at p3 ⊢
    intro x hx
    exact p3 x (List.mem_of_mem_take hx)) (by rw [List.length_take]; omega)
  have HL : Hid (∀ k, k ≤ A.length → (feedAll M D H Hd L X (A.take k)).T.length = X.T.length + k) := fun k hk => by rw [feedAll_len, List.length_take]; omega
  have HS : Hid (∀ k, k < A.length → feedAll M D H Hd L X (A.take (k + 1)) = feedV M D H Hd L (feedAll M D H Hd L X (A.take k)) (el A k).toNat) := fun k hk => feedAll_step M D H Hd L X hk
  have HK : Hid (∀ k, k < A.length → 0 ≤ el A k ∧ el A k < V) := fun k hk => by have := all_el hk p3; unfold tokB at this; simpa using this
  have CF := fun (vv : VwV) (Y : Vw) (tok : Nat) (wv : World) (h1 : Tab wv) (h2 : Y.T.length ≤ 127) (h3 : tok < V) (h4 : Good wv V D Hd H L W bs M) (h5 : VwAt wv vv Y) (h6 : VwFit V D L Y) => feed_ok V D Hd H L W bs M vv Y tok wv h1 h2 h3 h4 h5 h6
  have hv0 : VwAt w v (feedAll M D H Hd L X (A.take 0)) := hv
  have siz : W.cells.size = 8 := rfl
  clear hT hG hA hf hv
  generalize hws : W.cells = ws at *
  have siv := vwv_size v
  unfold cfgC at CP CF ⊢
  generalize hcv : v.cells = cv at *
  have X0 := blk_new w 23 #[.int .i64 (V : Int), .int .i64 (D : Int), .int .i64 (Hd : Int), .int .i64 (H : Int), .int .i64 (L : Int)]
  have B0 : Below w.heap.size w (w.alloc (.cells #[.int .i64 (V : Int), .int .i64 (D : Int), .int .i64 (Hd : Int), .int .i64 (H : Int), .int .i64 (L : Int)] 23)) := (Below.refl _ _).alloc (Nat.le_refl _) _
  have s0 : (w.alloc (.cells #[.int .i64 (V : Int), .int .i64 (D : Int), .int .i64 (Hd : Int), .int .i64 (H : Int), .int .i64 (L : Int)] 23)).heap.size = w.heap.size + 1 := by simp
  generalize hw0 : w.alloc (.cells #[.int .i64 (V : Int), .int .i64 (D : Int), .int .i64 (Hd : Int), .int .i64 (H : Int), .int .i64 (L : Int)] 23) = w0 at *
  have X1 := blk_new w0 40 ws
  have B1 : Below w0.heap.size w0 (w0.alloc (.cells ws 40)) := (Below.refl _ _).alloc (Nat.le_refl _) _
  have s1 : (w0.alloc (.cells ws 40)).heap.size = w0.heap.size + 1 := by simp
  rw [s0] at X1 s1
  generalize hw1 : w0.alloc (.cells ws 40) = w1 at *
  have X2 := blk_new w1 48 cv
  have B2 : Below w1.heap.size w1 (w1.alloc (.cells cv 48)) := (Below.refl _ _).alloc (Nat.le_refl _) _
  have s2 : (w1.alloc (.cells cv 48)).heap.size = w1.heap.size + 1 := by simp
  rw [s1] at X2 s2
  generalize hw2 : w1.alloc (.cells cv 48) = w2 at *
  have X3 := blk_new w2 48 #[.slice none 0 0, .slice none 0 0, .slice none 0 0]
  have B3 : Below w2.heap.size w2 (w2.alloc (.cells #[.slice none 0 0, .slice none 0 0, .slice none 0 0] 48)) := (Below.refl _ _).alloc (Nat.le_refl _) _
  have s3 : (w2.alloc (.cells #[.slice none 0 0, .slice none 0 0, .slice none 0 0] 48)).heap.size = w2.heap.size + 1 := by simp
  rw [s2] at X3 s3
  generalize hw3 : w2.alloc (.cells #[.slice none 0 0, .slice none 0 0, .slice none 0 0] 48) = w3 at *
  replace X0 := ((X0.below B1).below B2).below B3
  replace X1 := (X1.below B2).below B3
  replace X2 := X2.below B3
  replace B3 := below_then (below_then (below_then B0 B1) B2) B3
  replace hv0 := hv0.below B3
  have a0 : w3.cell? ⟨w.heap.size, 0, none⟩ = some (.int .i64 (V : Int)) := X0.cell 0 rfl
  have a1 : w3.cell? ⟨w.heap.size, 1, none⟩ = some (.int .i64 (D : Int)) := X0.cell 1 rfl
  have a2 : w3.cell? ⟨w.heap.size, 2, none⟩ = some (.int .i64 (Hd : Int)) := X0.cell 2 rfl
  have a3 : w3.cell? ⟨w.heap.size, 3, none⟩ = some (.int .i64 (H : Int)) := X0.cell 3 rfl
  have a4 : w3.cell? ⟨w.heap.size, 4, none⟩ = some (.int .i64 (L : Int)) := X0.cell 4 rfl
  go_enter Tryz.func9, Tryz.ntmps9
  go_wp2_with fail
  refine (CP _ B3).mono ?_
  rintro e w4 ⟨rfl, B4⟩
  have z3 := X3.lt
  have G0 : AI w w4 V D H Hd L #[.int .i64 (V : Int), .int .i64 (D : Int), .int .i64 (Hd : Int), .int .i64 (H : Int), .int .i64 (L : Int)] ws M X A 0 v (.slice none 0 0) := ⟨X0.below B4, X1.below B4, by rw [hcv]; exact X2.below B4, X3.below B4, hv0.below B4, fun h => by omega, below_then B3 B4, Nat.lt_of_lt_of_le z3 B4.size⟩
  clear a0 a1 a2 a3 a4 B3 B4 CP hw0 hw1 hw2 hw3 B0 B1 B2 s0 s1 s2 s3 X0 X1 X2 X3 hv0 siv hcv z3
  go_wp2_with fail
  go_loopg [27, 12] n (fun r i s wr => ∃ (k : Nat) (vv : VwV), k ≤ n ∧ r = n - k ∧ i = .int .i64 k ∧ AI w wr V D H Hd L #[.int .i64 (V : Int), .int .i64 (D : Int), .int .i64 (Hd : Int), .int .i64 (H : Int), .int .i64 (L : Int)] ws M X A k vv s)
  case atStart => exact ⟨0, v, by omega, by omega, rfl, G0⟩
  case round =>
    obtain ⟨k, vv, hk, rfl, rfl, G⟩ := hrel
    clear G0
    by_cases hlt : k < n
    · have R1 := HA.out wr G.kp
      obtain ⟨b, o, rfl, hc⟩ := R1.cells (by omega)
      have ck := hc k hlt
      clear hc R1
      obtain ⟨t1, t2⟩ := HK.out k (by omega)
      have EV := HS.out k (by omega)
      have FV := HF.out k (by omega)
      have LV := HL.out k (by omega)
      have HLK : Hid (likAt M V D H Hd L X A (k + 1) = likR M V D (feedX M D H Hd L (feedAll M D H Hd L X (A.take k)) (el A k).toNat)) := rfl
      obtain ⟨tk, htk⟩ : ∃ tk : Nat, el A k = tk := ⟨(el A k).toNat, by omega⟩
      rw [htk] at ck t2 EV HLK
      rw [Int.toNat_natCast] at EV HLK
      clear htk t1
      have X0 := G.x0
      have X1 := G.x1
      have X2 := G.x2
      have X3 := G.x3
      have AT := G.at_
      have KP := G.kp
      have SZ := G.sz
      clear G
      have a0 : wr.cell? ⟨w.heap.size, 0, none⟩ = some (.int .i64 (V : Int)) := X0.cell 0 rfl
      have a1 : wr.cell? ⟨w.heap.size, 1, none⟩ = some (.int .i64 (D : Int)) := X0.cell 1 rfl
      have a2 : wr.cell? ⟨w.heap.size, 2, none⟩ = some (.int .i64 (Hd : Int)) := X0.cell 2 rfl
      have a3 : wr.cell? ⟨w.heap.size, 3, none⟩ = some (.int .i64 (H : Int)) := X0.cell 3 rfl
      have a4 : wr.cell? ⟨w.heap.size, 4, none⟩ = some (.int .i64 (L : Int)) := X0.cell 4 rfl
      have one := vwv_one vv
      have siv := vwv_size vv
      have CC := CF vv (feedAll M D H Hd L X (A.take k)) tk wr (HT.out _ KP) (by omega) (by omega) (HG.out _ KP) AT FV
      generalize vv.cells = cv at *
      have LVe : Hid ((feedAll M D H Hd L X (A.take k)).T.length = X.T.length + k) := LV
      clear LV AT
      go_wp2_with (first | (refine wpList_load_row rfl 40 _ rfl (w.heap.size + 1) rfl 40 ws (0, 0) _ X1 Tryz.underlying40 rfl (by rw [siz]; exact Tryz.infoW) ?_) | (refine wpList_load_row rfl 48 _ rfl (w.heap.size + 2) rfl 48 cv (0, 0) _ X2 Tryz.underlying48 rfl (by rw [siv]; exact Tryz.infoV) ?_))
      refine CC.mono ?_
      rintro e w7 ⟨v2, g, rfl, N7, F7, B7⟩
      rw [← EV] at N7
      rw [← HLK.out] at F7
      have one2 := vwv_one v2
      have siv2 := vwv_size v2
      have HC : Hid (∀ wv, Blk wv (w.heap.size + 2) 48 v2.cells → Blk wv (w.heap.size + 2) 48 v2.cells) := fun _ h => h
      generalize hc2 : v2.cells = cw at *
      replace X0 := X0.below B7
      replace X1 := X1.below B7
      replace X2 := X2.below B7
      replace X3 := X3.below B7
      have D7 := below_then KP B7
      have z7 := B7.size
      clear a0 a1 a2 a3 a4 CC
      have XA := blk_new w7 48 #[.slice none 0 0, .slice none 0 0, .slice none 0 0]
      have BA : Below w7.heap.size w7 (w7.alloc (.cells #[.slice none 0 0, .slice none 0 0, .slice none 0 0] 48)) := (Below.refl _ _).alloc (Nat.le_refl _) _
      generalize hwa : w7.alloc (.cells #[.slice none 0 0, .slice none 0 0, .slice none 0 0] 48) = wa at *
      have XB := XA.row cw
      have BB := below_setRow BA (Nat.le_refl _) cw
      generalize hwb : wa.setRow w7.heap.size cw = wb at *
      replace X0 := X0.below BB
      replace X1 := X1.below BB
      replace X2 := X2.below BB
      replace X3 := X3.below BB
      replace N7 := N7.below BB
      replace F7 := F7.below BB
      have DB := below_then D7 BB
      have zb := BB.size
      go_wp2_with (first | (refine wpList_store_row rfl 48 _ _ rfl w7.heap.size cw rfl rfl 48 _ XA (by rw [siv2]; exact Tryz.infoV) (by rw [siv2]; rfl) one2 ?_; rw [hwb]) | (refine wpList_load_row rfl 48 _ rfl w7.heap.size rfl 48 cw (0, 0) _ XB Tryz.underlying48 rfl (by rw [siv2]; exact Tryz.infoV) ?_) | (refine wpList_store_row rfl 48 _ _ rfl (w.heap.size + 2) cw rfl rfl 48 _ X2 (by rw [siv2]; exact Tryz.infoV) (by rw [siv, siv2]) one2 ?_))
      have so : ∀ b, b ≠ w.heap.size + 2 → (wb.setRow (w.heap.size + 2) cw).heap[b]? = wb.heap[b]? := fun b hb => setRow_other _ _ _ _ hb
      have N8 := N7.row (g := w.heap.size + 2) (by omega) cw
      go_roundg (n - (k + 1))
      case measure => omega
      case rel =>
        refine ⟨k + 1, v2, by omega, rfl, by go_num, ⟨Blk.of_block X0 (so _ (by omega)), Blk.of_block X1 (so _ (by omega)), ?_, Blk.of_block X3 (so _ (by omega)), N8.now, fun _ => ⟨N8.mono (by omega), g, rfl, (F7.of_block (so g (F7.ne X2 (by decide)))).mono (by omega)⟩, below_setRow DB (by omega) _, ?_⟩⟩
        · rw [hc2]; exact X2.row cw
        · have := DB.size
          show _ < (wb.setRow _ _).heap.size
          simp [World.setRow]
          omega
    · obtain rfl : k = n := by omega
      obtain ⟨N9, g, rfl, F9⟩ := G.new (by omega)
      rw [← hl, List.take_length] at N9
      rw [← hl] at F9
      have X2 := G.x2
      have X3 := G.x3
      have KP := G.kp
      clear G
      have one := vwv_one vv
      have siv := vwv_size vv
      generalize hc2 : vv.cells = cw at *
      go_wp2_with (first | (refine wpList_load_row rfl 48 _ rfl (w.heap.size + 2) rfl 48 cw (0, 0) _ X2 Tryz.underlying48 rfl (by rw [siv]; exact Tryz.infoV) ?_) | (refine wpList_store_row rfl 48 _ _ rfl (w.heap.size + 3) cw rfl rfl 48 _ X3 (by rw [siv]; exact Tryz.infoV) (by rw [siv]; rfl) one ?_))
      refine bodyPost_ret (results_blk3 rfl _ _ (w.heap.size + 3) _ rfl (load_v (X3.row _) siv)) rfl ?_
      refine ⟨vv, g, by rw [hc2]; rfl, (N9.row (by omega) _).mono (by omega), (F9.of_block (setRow_other _ _ _ _ (F9.ne X3 (by decide)))).mono (by omega), below_setRow KP (by omega) _⟩
end Go.Proofs.YtcanjlofnpnhkaaGreatDoor
