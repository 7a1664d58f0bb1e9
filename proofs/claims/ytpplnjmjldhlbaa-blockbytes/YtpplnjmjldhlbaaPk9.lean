/- Contracts of the program's functions, part 9 of 10: what each call returns and leaves of memory. -/
import Derived.Test.YtpplnjmjldhlbaaPk7
import Derived.Test.YtpplnjmjldhlbaaPk8
import Derived.Test.YtpplnjmjldhlbaaPk3
import Derived.Laws.AppendOwnNone
/- Package block: takeLists. -/
namespace Go.Proofs.Ytpplnjmjldhlbaa
open Go.ChangeShapes Go.WideShapes Go.ChangeAt Go.RowKit
theorem set_alike {w w' : World} {b : Nat} (h : w'.heap[b]? = w.heap[b]?) (a : Addr) (v : Value) : (w'.setCell a v).heap[b]? = (w.setCell a v).heap[b]? := by
  simp [World.setCell, Array.getElem?_modify, h]
set_option maxRecDepth 100000 in
set_option maxHeartbeats 3200000 in
theorem takeLists_any (c : Nat) (l : List UInt8) (m P dim : Nat) (w : World) (hc : Blk w c 9 #[.string (txt l)]) (hm : m ≤ 4096) (hP : P ≤ 4096) (hdim : dim ≤ 4096) :
   Calls Try.prog 43 #[.func (.func 52) #[] #[.pointer (some ⟨c, 0, none⟩)], .int .i64 (m : Int), .int .i64 (P : Int), .int .i64 (dim : Int)] w fun e w' => ∃ g, e = .returned (.slice (some ⟨g, 0, none⟩) m m) ∧ Hangs (fun b => w.heap.size ≤ b) w' (fun w => CubeAt w (some ⟨g, 0, none⟩) m (cubeT l m P dim)) ∧ Blk w' c 9 #[.string (txt (l.drop (4 * (m * (P * dim)))))] ∧ But c w w' := by
  have hmk := run_make_row' (P := Try.prog) 25 73 (.slice none 0 0) 24 Try.underlying25 Try.infoList rfl .i64 .i64 m (by omega) (by omega)
  have HMK2 := run_make_row' (P := Try.prog) 73 72 (.slice none 0 0) 24 Try.underlying73 Try.infoRow rfl .i64 .i64 P (by omega) (by omega)
  have HMK3 := run_make_row' (P := Try.prog) 72 71 (.int .i32 0) 4 Try.underlying72 Try.infoNum rfl .i64 .i64 dim (by omega) (by omega)
  have hcl := hc.lt
  have OM := of_made w m P dim (fun i t => rowT l dim (i * (P * dim) + t * dim))
  have BA : Below w.heap.size w (w.alloc (.cells (madeCells #[.slice none 0 0] m) 73)) := (Below.refl _ _).alloc (Nat.le_refl _) _
  have XC := hc.below BA
  have UA : Up w.heap.size c w (w.alloc (.cells (madeCells #[.slice none 0 0] m) 73)) := Up.of_below BA (Nat.le_refl _)
  obtain ⟨gA, hg⟩ : ∃ gA, gA = w.heap.size := ⟨_, rfl⟩
  have hgA : c < gA := by omega
  have HG : Hid (w.heap.size = gA) := hg.symm
  clear hc
  go_enter Try.func43, Try.ntmps43
  go_upto_region 3 with fail
  clear hmk
  rw [← hg] at OM UA
  rw [show (some (⟨w.heap.size, 0, none⟩ : Addr)) = some ⟨gA, 0, none⟩ by rw [hg]]
  clear hg BA hcl
  generalize w.alloc (.cells (madeCells #[.slice none 0 0] m) 73) = w1 at *
  go_loopg [18] m (fun r s18 wr => ∃ i : Nat, i ≤ m ∧ r = m - i ∧ s18 = .int .i64 (i : Int) ∧ OF wr gA m i P dim (fun i t => rowT l dim (i * (P * dim) + t * dim)) ∧ Blk wr c 9 #[.string (txt (l.drop (4 * (i * (P * dim)))))] ∧ Up gA c w wr)
  case atStart => exact ⟨0, by omega, by omega, rfl, OM, by rw [Nat.zero_mul, Nat.mul_zero, List.drop_zero]; exact XC, UA⟩
  case round =>
    clear OM XC UA
    obtain ⟨i, hi, rfl, rfl, OM, XC, UA⟩ := hrel
    by_cases hlt : i < m
    · obtain ⟨⟨u0, cu⟩, fz⟩ := OM.cell hlt
      have BM : Below wr.heap.size wr (wr.alloc (.cells (madeCells #[.slice none 0 0] P) 72)) := (Below.refl _ _).alloc (Nat.le_refl _) _
      have hgr := OM.lt
      have cu1 := cell_keep cu BM
      have fz1 : (wr.alloc (.cells (madeCells #[.slice none 0 0] P) 72)).frozen? ⟨gA, i, none⟩ = false := (frozen_of_block (BM.block gA hgr)).trans fz
      have GM := gf_made wr P dim (fun t => rowT l dim (i * (P * dim) + t * dim))
      have mk2 := HMK2 wr
      have HSC : Hid (∀ b, b < wr.heap.size → ((wr.alloc (.cells (madeCells #[.slice none 0 0] P) 72)).setCell ⟨gA, i, none⟩ (.slice (some ⟨wr.heap.size, 0, none⟩) P P)).heap[b]? = (wr.setCell ⟨gA, i, none⟩ (.slice (some ⟨wr.heap.size, 0, none⟩) P P)).heap[b]?) := fun b hb => set_alike (BM.block b hb) _ _
      obtain ⟨OMx, _⟩ := OM.set hlt (.slice (some ⟨wr.heap.size, 0, none⟩) P P)
      have hsx : (wr.setCell ⟨gA, i, none⟩ (.slice (some ⟨wr.heap.size, 0, none⟩) P P)).heap.size = wr.heap.size := by simp [World.setCell]
      have HO2 : Hid (∀ wx, Up wr.heap.size c ((wr.alloc (.cells (madeCells #[.slice none 0 0] P) 72)).setCell ⟨gA, i, none⟩ (.slice (some ⟨wr.heap.size, 0, none⟩) P P)) wx → OF wx gA m i P dim (fun i t => rowT l dim (i * (P * dim) + t * dim))) := fun wx u => OMx.same (fun b h1 h2 => by
        rw [hsx] at h2
        rw [u.block b h2 (by omega)]
        exact HSC.out b (by omega))
      have c2 : ((wr.alloc (.cells (madeCells #[.slice none 0 0] P) 72)).setCell ⟨gA, i, none⟩ (.slice (some ⟨wr.heap.size, 0, none⟩) P P)).cell? ⟨gA, i, none⟩ = some (.slice (some ⟨wr.heap.size, 0, none⟩) P P) := World.cell?_setCell_same _ _ _ cu1
      clear OMx hsx HSC
      have XC1 := XC.below BM
      have UA1 := UA.trans (Up.of_below BM (by omega))
      generalize hwm : wr.alloc (.cells (madeCells #[.slice none 0 0] P) 72) = wm at *
      have XC2 : Blk (wm.setCell ⟨gA, i, none⟩ (.slice (some ⟨wr.heap.size, 0, none⟩) P P)) c 9 _ := XC1.of_block (Below.heap_setCell _ _ _ c (by show c ≠ gA; omega))
      have GM2 : GF (wm.setCell ⟨gA, i, none⟩ (.slice (some ⟨wr.heap.size, 0, none⟩) P P)) wr.heap.size P 0 dim (fun t => rowT l dim (i * (P * dim) + t * dim)) := GM.same (fun b h1 _ => Below.heap_setCell _ _ _ b (by show b ≠ gA; omega))
      have UA2 := UA1.set (g := gA) (k := i) (Nat.le_refl _) (.slice (some ⟨wr.heap.size, 0, none⟩) P P)
      go_wp2_with fail
      clear cu cu1 fz fz1 BM hwm mk2 OM XC XC1 GM UA UA1
      have hAB := hgr
      clear hgr
      generalize wr.heap.size = gB at *
      generalize wm.setCell ⟨gA, i, none⟩ (.slice (some ⟨gB, 0, none⟩) P P) = w2 at *
      have HC2 : Hid (w2.cell? ⟨gA, i, none⟩ = some (.slice (some ⟨gB, 0, none⟩) P P)) := c2
      clear c2
      go_loopg [31] P (fun r s31 wx => ∃ t : Nat, t ≤ P ∧ r = P - t ∧ s31 = .int .i64 (t : Int) ∧ GF wx gB P t dim (fun t => rowT l dim (i * (P * dim) + t * dim)) ∧ Blk wx c 9 #[.string (txt (l.drop (4 * (i * (P * dim) + t * dim))))] ∧ Up gB c w2 wx)
      case atStart => exact ⟨0, by omega, by omega, rfl, GM2, by rw [Nat.zero_mul, Nat.add_zero]; exact XC2, Up.refl _ _ _⟩
      case round =>
        clear GM2 XC2
        obtain ⟨t, ht, rfl, rfl, GM, XC, UB⟩ := hrel
        by_cases htP : t < P
        · have hgl := GM.lt
          have BM : Below wr.heap.size wr (wr.alloc (.cells (madeCells #[.int .i32 0] dim) 71)) := (Below.refl _ _).alloc (Nat.le_refl _) _
          have FM := fresh_made wr dim (by omega)
          have mk3 := HMK3 wr
          have HG0 : Hid (∀ wx, Up wr.heap.size c (wr.alloc (.cells (madeCells #[.int .i32 0] dim) 71)) wx → GF wx gB P t dim (fun t => rowT l dim (i * (P * dim) + t * dim))) := fun wx u => GM.same (fun b h1 h2 => (u.block b (by omega) (by omega)).trans (BM.block b h2))
          have XC1 := XC.below BM
          have UB1 := UB.trans (Up.of_below BM (by omega))
          have HWS : Hid ((wr.alloc (.cells (madeCells #[.int .i32 0] dim) 71)).heap.size = wr.heap.size + 1) := by show _ = _; simp
          generalize hwm : wr.alloc (.cells (madeCells #[.int .i32 0] dim) 71) = wm at *
          go_wp2_with fail
          clear mk3 hwm BM GM XC UB
          have hBR := hgl
          clear hgl
          generalize wr.heap.size = gR at *
          have HU1 : Hid (Up gB c w2 wm) := UB1
          have HGS : Hid (wm.heap.size = gR + 1) := HWS.out
          clear UB1 HWS
          go_loopg [38] dim (fun r s38 wx => ∃ k : Nat, k ≤ dim ∧ r = dim - k ∧ s38 = .int .i64 (k : Int) ∧ Fresh wx gR gR dim dim (tab dim fun j => if j < k then numAt l (i * (P * dim) + t * dim + j) else 0) ∧ Blk wx c 9 #[.string (txt (l.drop (4 * (i * (P * dim) + t * dim + k))))] ∧ Up gR c wm wx)
          case atStart => exact ⟨0, by omega, by omega, rfl, by simpa using FM, by rw [Nat.add_zero]; exact XC1, Up.refl _ _ _⟩
          case round =>
            clear FM XC1
            obtain ⟨k, hk, rfl, rfl, FM, XC, UC⟩ := hrel
            by_cases hkd : k < dim
            · have CT := take1_any c _ 4 wr XC (Nat.le_refl _)
              obtain ⟨q, hq⟩ : ∃ q, i * (P * dim) + t * dim + k = q := ⟨_, rfl⟩
              have HQ : Hid (i * (P * dim) + t * dim + k = q) := hq
              have HV : Hid (toI (valB ((l.drop (4 * q)).take 4)) = numAt l q) := rfl
              rw [hq, List.drop_drop, show 4 * q + 4 = 4 * (q + 1) by omega] at CT
              have hsm := toI_small (valB ((l.drop (4 * q)).take 4))
              have hto : IntKind.i32.wrap ((valB ((l.drop (4 * q)).take 4) : Nat) : Int) = toI (valB ((l.drop (4 * q)).take 4)) := rfl
              clear hq
              generalize valB ((l.drop (4 * q)).take 4) = vv at *
              generalize toI vv = x at *
              have hfl := FM.lt
              go_wp2_with fail
              refine CT.mono ?_
              rintro e w5 ⟨rfl, X5, B5⟩
              have F5 := FM.of_block (B5.block gR hfl (by omega))
              have y0 := F5.cell hkd
              have fz := F5.frozen k
              clear CT
              go_wp2_with fail
              go_roundg (dim - (k + 1))
              case measure => omega
              case rel =>
                refine ⟨k + 1, by omega, rfl, by go_num, F5.step x hkd (by rw [HQ.out]; exact HV.out) hsm, ?_, (UC.trans (Up.of_but B5 (Nat.le_of_lt hfl))).set (Nat.le_refl _) _⟩
                rw [← Nat.add_assoc, HQ.out]
                exact X5.of_block (Below.heap_setCell _ _ _ c (by show c ≠ gR; omega))
            · obtain rfl : dim = k := by omega
              have FR : Fresh wr gR gR dim dim (rowT l dim (i * (P * dim) + t * dim)) := by
                have e : rowT l dim (i * (P * dim) + t * dim) = tab dim fun j => if j < dim then numAt l (i * (P * dim) + t * dim + j) else 0 := by
                  unfold rowT
                  exact tab_congr fun j hj => by rw [if_pos hj]
                rw [e]
                exact FM
              have U3 := HU1.out.trans (UC.mono (Nat.le_of_lt hBR))
              have G3 := HG0.out wr UC
              have c3 : wr.cell? ⟨gA, i, none⟩ = some (.slice (some ⟨gB, 0, none⟩) P P) := by
                rw [World.cell?_of_block (w := w2) (a := ⟨gA, i, none⟩) (U3.block gA hAB (by omega))]; exact HC2.out
              obtain ⟨⟨u9, q9⟩, fz9⟩ := G3.cell htP
              go_wp2_with fail
              go_roundg (P - (t + 1))
              case measure => omega
              case rel =>
                refine ⟨t + 1, by omega, rfl, by go_num, G3.step htP hBR (FR.mono (Nat.le_of_lt hBR)), ?_, U3.set (Nat.le_refl _) _⟩
                rw [show (t + 1) * dim = t * dim + dim from Nat.succ_mul t dim, ← Nat.add_assoc]
                refine XC.of_block ?_
                exact Below.heap_setCell _ _ _ c (by show c ≠ gB; omega)
        · obtain rfl : P = t := by omega
          have c3 : wr.cell? ⟨gA, i, none⟩ = some (.slice (some ⟨gB, 0, none⟩) P P) := by
            rw [World.cell?_of_block (w := w2) (a := ⟨gA, i, none⟩) (UB.block gA hAB (by omega))]; exact HC2.out
          have O3 := HO2.out wr UB
          go_wp2_with fail
          go_roundg (m - (i + 1))
          case measure => omega
          case rel =>
            refine ⟨i + 1, by omega, rfl, by go_num, O3.next c3 hAB GM, ?_, UA2.trans (UB.mono (Nat.le_of_lt hAB))⟩
            rw [show (i + 1) * (P * dim) = i * (P * dim) + P * dim from Nat.succ_mul i (P * dim)]
            exact XC
    · obtain rfl : m = i := by omega
      go_wp2_with fail
      go_ret
      exact ⟨gA, rfl, OM.new (by have := HG.out; omega) hm hP, XC, ⟨UA.os, UA.tape, UA.output, UA.size, fun b h1 h2 => UA.block b (by have := HG.out; omega) h2⟩⟩
end Go.Proofs.Ytpplnjmjldhlbaa

/- Package block: Read. -/
namespace Go.Proofs.Ytpplnjmjldhlbaa
open Go.ChangeShapes Go.WideShapes Go.ChangeAt Go.RowKit
def noPg : Pg := ⟨[], 0, [], []⟩
/-- Bytes' page: what lies behind the two first ones, t and f. -/
def pgT (m d t f : Nat) (r : List UInt8) : Pg := ⟨(r.take t).map fun b => (b.toNat : Int), f, cubeT (r.drop t) m (t - f) d, cubeT ((r.drop t).drop (4 * (m * ((t - f) * d)))) m (t - f) d⟩
def rd2 (Vo D L : Int) (t f : Nat) (r : List UInt8) : Int × Pg :=
  if r.length < t then (11, noPg) else if 4 < L.toNat ∨ 32 < D.toNat ∨ r.length - t ≠ 8 * (t - f) * L.toNat * D.toNat then (6, noPg)
  else if ckN Vo D L (pgT L.toNat D.toNat t f r) = 0 then (0, pgT L.toNat D.toNat t f r) else (ckN Vo D L (pgT L.toNat D.toNat t f r), noPg)
def rdS (Vo D L : Int) : List UInt8 → Int × Pg
  | a :: b :: r => rd2 Vo D L a.toNat b.toNat r
  | _ => (11, noPg)
theorem below_but {B c : Nat} {w0 w w' : World} (h : Below B w0 w) (k : But c w w') (hc : B ≤ c) (hB : B ≤ w.heap.size) : Below B w0 w' :=
  h.trans ⟨k.os, k.tape, k.output, k.size, fun b hb => k.block b (by omega) (by omega)⟩
theorem noPg_at (w : World) : PgAt w ⟨⟨none, 0, 0⟩, 0, ⟨none, 0, 0⟩, ⟨none, 0, 0⟩⟩ noPg := ⟨iarg_nil w, rfl, ⟨rfl, Nat.zero_le _, fun h => by simp at h⟩, ⟨rfl, Nat.zero_le _, fun h => by simp at h⟩⟩
def noP : Array Value := #[.slice none 0 0, .int .i64 0, .slice none 0 0, .slice none 0 0]
theorem Try.infoInt1 : (Try.prog.info? 3).map (fun i => (i.zero, i.size, i.bytes)) = some (some (.int .i64 0), 1, 8) := by kernel_rfl
theorem taker_any (s : ByteArray) (w : World) : Calls Try.prog 42 #[.string s] w fun e w' => e = .returned (.func (.func 52) #[] #[.pointer (some ⟨w.heap.size, 0, none⟩)]) ∧ w' = w.alloc (.cells #[.string s] 9) := by
  have hmf : ∀ (fn : Fn) (first cap : Array Value) (w : World), (Instr.makeFunc fn first cap).run Try.prog w = .ok (.func fn first cap) w := fun _ _ _ _ => rfl
  go_enter Try.func42, Try.ntmps42
  go_wp2
  go_ret
  exact ⟨rfl, rfl⟩
/-- A row of whole numbers of one's own, filled from the front. -/
structure TF (w : World) (g t k : Nat) (F : Nat → Int) : Prop where
  row : ∃ cs : Array Value, Blk w g 3 cs ∧ cs.size = t ∧ ∀ j, j < k → cs[j]? = some (.int .i64 (F j))
theorem TF.blk {w w' : World} {g t k : Nat} {F : Nat → Int} (h : TF w g t k F) (e : w'.heap[g]? = w.heap[g]?) : TF w' g t k F := by
  obtain ⟨cs, h1, h2, h3⟩ := h.row
  exact ⟨cs, h1.of_block e, h2, h3⟩
theorem TF.lt {w : World} {g t k : Nat} {F : Nat → Int} (h : TF w g t k F) : g < w.heap.size := by
  obtain ⟨cs, h1, _⟩ := h.row
  exact h1.lt
theorem TF.cell {w : World} {g t k j : Nat} {F : Nat → Int} (h : TF w g t k F) (hj : j < t) : (∃ u, w.cell? ⟨g, j, none⟩ = some u) ∧ w.frozen? ⟨g, j, none⟩ = false := by
  obtain ⟨cs, h1, h2, h3⟩ := h.row
  exact ⟨⟨cs[j]'(by omega), h1.cell j (Array.getElem?_eq_getElem (by omega))⟩, h1.frozen j⟩
theorem TF.step {w : World} {g t k : Nat} {F : Nat → Int} (h : TF w g t k F) (hk : k < t) : TF (w.setCell ⟨g, k, none⟩ (.int .i64 (F k))) g t (k + 1) F := by
  obtain ⟨cs, h1, h2, h3⟩ := h.row
  refine ⟨_, h1.set k _, by simpa using h2, fun j hj => ?_⟩
  by_cases e : j = k
  · subst e
    rw [Array.getElem?_setIfInBounds, if_pos rfl, if_pos (by omega)]
  · rw [Array.getElem?_setIfInBounds, if_neg (fun h => e h.symm)]
    exact h3 j (by omega)
theorem TF.arg {w : World} {g t : Nat} {F : Nat → Int} (h : TF w g t t F) (ht : t ≤ 4096) (hF : ∀ j, -9223372036854775808 ≤ F j ∧ F j ≤ 9223372036854775807) {A : List Int} (hA : A.length = t) (hE : ∀ j, j < t → el A j = F j) : IArg w (some ⟨g, 0, none⟩) t t A := by
  obtain ⟨cs, h1, h2, h3⟩ := h.row
  refine ⟨⟨hA, by omega, fun k => ?_, fun _ => ⟨g, 0, rfl, fun j hj => ?_⟩⟩, Nat.le_refl _, by omega, fun h => by cases h⟩
  · rcases Nat.lt_or_ge k t with h | h
    · rw [hE k h]; exact hF k
    · rw [el_over (by omega)]; omega
  · rw [Nat.zero_add, hE j hj]
    exact h1.cell j (h3 j hj)
theorem take1_one (c : Nat) (b : UInt8) (r : List UInt8) (w : World) (hc : Blk w c 9 #[.string (txt (b :: r))]) :
   Calls Try.prog 52 #[.int .i64 1, .pointer (some ⟨c, 0, none⟩)] w fun e w' => e = .returned (.int .u32 (b.toNat : Int)) ∧ Blk w' c 9 #[.string (txt r)] ∧ But c w w' := by
  have := take1_any c (b :: r) 1 w hc (by omega)
  rw [show valB ((b :: r).take 1) = b.toNat by show 0 * 256 + b.toNat = _; omega] at this
  exact this
set_option maxRecDepth 100000 in
set_option maxHeartbeats 6400000 in
theorem read_short (Vo D Hd H L : Int) (l : List UInt8) (w : World) (hl : l.length < 2) :
   Calls Try.prog 22 #[.agg (cfgC Vo D Hd H L), .string (txt l)] w fun e w' => e = .returned (.tuple #[.agg noP, .int .i64 11]) ∧ Below w.heap.size w w' := by
  have hsz : (txt l).size = l.length := txt_size l
  rw [show cfgC Vo D Hd H L = #[.int .i64 Vo, .int .i64 D, .int .i64 Hd, .int .i64 H, .int .i64 L] from rfl]
  have B0 : Below w.heap.size w (w.alloc (.cells #[.int .i64 Vo, .int .i64 D, .int .i64 Hd, .int .i64 H, .int .i64 L] 23)) := (Below.refl _ _).alloc (Nat.le_refl _) _
  have s0 : (w.alloc (.cells #[.int .i64 Vo, .int .i64 D, .int .i64 Hd, .int .i64 H, .int .i64 L] 23)).heap.size = w.heap.size + 1 := by simp
  generalize hw0 : w.alloc (.cells #[.int .i64 Vo, .int .i64 D, .int .i64 Hd, .int .i64 H, .int .i64 L] 23) = w0 at *
  have X1 := blk_new w0 47 #[.slice none 0 0, .int .i64 0, .slice none 0 0, .slice none 0 0]
  have B1 : Below w0.heap.size w0 (w0.alloc (.cells #[.slice none 0 0, .int .i64 0, .slice none 0 0, .slice none 0 0] 47)) := (Below.refl _ _).alloc (Nat.le_refl _) _
  rw [s0] at X1
  generalize hw1 : w0.alloc (.cells #[.slice none 0 0, .int .i64 0, .slice none 0 0, .slice none 0 0] 47) = w1 at *
  have hlr : (loadVar 47 ⟨w.heap.size + 1, 0, none⟩).run Try.prog (w1.setRow (w.heap.size + 1) noP) = .ok (.agg noP) (w1.setRow (w.heap.size + 1) noP) := load_pg (X1.row _) rfl
  have BF := below_setRow (below_then B0 B1) (by omega : w.heap.size ≤ w.heap.size + 1) noP
  go_enter Try.func22, Try.ntmps22
  go_wp2_with (refine wpList_store_row rfl 47 _ _ rfl (w.heap.size + 1) noP rfl rfl 47 _ X1 (by exact Try.infoPg) rfl (by simp [noP, Value.oneCell']) ?_)
  refine bodyPost_ret (results_cBt (by rfl) _ _ _ _ rfl hlr) rfl ?_
  exact ⟨rfl, BF⟩
set_option maxRecDepth 100000 in
set_option maxHeartbeats 6400000 in
theorem read_two (Vo D Hd H L : Int) (a0 b0 : UInt8) (r : List UInt8) (w : World) (hl : r.length ≤ 16777216) (hD : -9223372036854775808 ≤ D ∧ D ≤ 9223372036854775807) (hL : -9223372036854775808 ≤ L ∧ L ≤ 9223372036854775807) :
   Calls Try.prog 22 #[.agg (cfgC Vo D Hd H L), .string (txt (a0 :: b0 :: r))] w fun e w' => ∃ p : PgV, e = .returned (.tuple #[.agg p.cells, .int .i64 (rd2 Vo D L a0.toNat b0.toNat r).1]) ∧ New w.heap.size w' (fun w => PgAt w p (rd2 Vo D L a0.toNat b0.toNat r).2) ∧ Below w.heap.size w w' := by
  have ht := a0.toNat_lt
  have hf := b0.toNat_lt
  have hsz : (txt (a0 :: b0 :: r)).size = r.length + 2 := by rw [txt_size]; rfl
  have CT1 := fun (c : Nat) (wv : World) hc => take1_one c a0 (b0 :: r) wv hc
  have CT2 := fun (c : Nat) (wv : World) hc => take1_one c b0 r wv hc
  obtain ⟨s, hs⟩ : ∃ s, txt (a0 :: b0 :: r) = s := ⟨_, rfl⟩
  rw [hs] at hsz CT1 ⊢
  generalize a0.toNat = t at *
  generalize b0.toNat = f at *
  obtain ⟨RS, hRS⟩ : ∃ RS, rd2 Vo D L t f r = RS := ⟨_, rfl⟩
  have HRS : Hid (rd2 Vo D L t f r = RS) := hRS
  rw [hRS]
  clear hRS
  have CK := fun (p : PgV) (X : Pg) (wv : World) hp hF => check11_any Vo D Hd H L p X wv hp hF
  rw [show cfgC Vo D Hd H L = #[.int .i64 Vo, .int .i64 D, .int .i64 Hd, .int .i64 H, .int .i64 L] from rfl] at CK ⊢
  have X0 := blk_new w 23 #[.int .i64 Vo, .int .i64 D, .int .i64 Hd, .int .i64 H, .int .i64 L]
  have B0 : Below w.heap.size w (w.alloc (.cells #[.int .i64 Vo, .int .i64 D, .int .i64 Hd, .int .i64 H, .int .i64 L] 23)) := (Below.refl _ _).alloc (Nat.le_refl _) _
  have s0 : (w.alloc (.cells #[.int .i64 Vo, .int .i64 D, .int .i64 Hd, .int .i64 H, .int .i64 L] 23)).heap.size = w.heap.size + 1 := by simp
  generalize hw0 : w.alloc (.cells #[.int .i64 Vo, .int .i64 D, .int .i64 Hd, .int .i64 H, .int .i64 L] 23) = w0 at *
  have X1 := blk_new w0 47 #[.slice none 0 0, .int .i64 0, .slice none 0 0, .slice none 0 0]
  have B1 : Below w0.heap.size w0 (w0.alloc (.cells #[.slice none 0 0, .int .i64 0, .slice none 0 0, .slice none 0 0] 47)) := (Below.refl _ _).alloc (Nat.le_refl _) _
  have s1 : (w0.alloc (.cells #[.slice none 0 0, .int .i64 0, .slice none 0 0, .slice none 0 0] 47)).heap.size = w.heap.size + 2 := by simp; omega
  rw [s0] at X1
  generalize hw1 : w0.alloc (.cells #[.slice none 0 0, .int .i64 0, .slice none 0 0, .slice none 0 0] 47) = w1 at *
  replace X0 := X0.below B1
  have BB1 := below_then B0 B1
  have TK := taker_any s w1
  have X2 := blk_new w1 9 #[.string s]
  have B2 : Below w1.heap.size w1 (w1.alloc (.cells #[.string s] 9)) := (Below.refl _ _).alloc (Nat.le_refl _) _
  have s2 : (w1.alloc (.cells #[.string s] 9)).heap.size = w.heap.size + 3 := by simp; omega
  rw [s1] at X2 TK
  generalize hw2 : w1.alloc (.cells #[.string s] 9) = w2 at *
  replace X0 := X0.below B2
  replace X1 := X1.below B2
  have BB2 := below_then BB1 B2
  go_enter Try.func22, Try.ntmps22
  go_upto_region 3 with fail
  clear hw0 hw1 hw2 s0 s1 B0 B1 BB1
  go_wp2_with fail
  refine TK.mono ?_
  rintro e wt ⟨rfl, hwt⟩
  subst hwt
  clear TK B2
  obtain ⟨c, hcc⟩ : ∃ c, w.heap.size + 2 = c := ⟨_, rfl⟩
  rw [hcc] at X2 ⊢
  have C1 := CT1 c _ X2
  go_wp2_with fail
  refine C1.mono ?_
  rintro e w3 ⟨rfl, X3, K3⟩
  have C2 := CT2 c w3 X3
  go_wp2_with fail
  refine C2.mono ?_
  rintro e w4 ⟨rfl, X4, K4⟩
  have KK := K3.trans K4
  have X04 := X0.but KK (by omega)
  have X14 := X1.but KK (by omega)
  have B4 := below_but BB2 KK (by omega) BB2.size
  have s4 : w.heap.size + 3 ≤ w4.heap.size := by have := KK.size; omega
  have hcs : c < w4.heap.size := by omega
  have HCC : Hid (w.heap.size + 2 = c) := hcc
  have hcw : w.heap.size + 1 < c := by omega
  clear C1 C2 CT1 CT2 X0 X1 X2 X3 K3 K4 KK BB2 s2 hs hcc
  have HSE : Hid (∀ q, Blk q (w.heap.size + 1) 47 noP → Below w.heap.size w q → (loadVar 47 ⟨w.heap.size + 1, 0, none⟩).run Try.prog (q.setRow (w.heap.size + 1) noP) = .ok (.agg noP) (q.setRow (w.heap.size + 1) noP) ∧ Below w.heap.size w (q.setRow (w.heap.size + 1) noP)) := fun q hq hb => ⟨load_pg (hq.row _) rfl, below_setRow hb (by omega) noP⟩
  by_cases hrt : r.length < t
  · have HR : Hid (RS = (11, noPg)) := by show _ = _; rw [← HRS.out]; unfold rd2; rw [if_pos hrt]
    obtain ⟨hlr, BF⟩ := HSE.out w4 X14 B4
    go_wp2_with (refine wpList_store_row rfl 47 _ _ rfl (w.heap.size + 1) noP rfl rfl 47 _ X14 (by exact Try.infoPg) rfl (by simp [noP, Value.oneCell']) ?_)
    refine bodyPost_ret (results_cBt (by rfl) _ _ _ _ rfl hlr) rfl ?_
    refine ⟨⟨⟨none, 0, 0⟩, 0, ⟨none, 0, 0⟩, ⟨none, 0, 0⟩⟩, by rw [HR.out]; rfl, fun w9 _ => ?_, BF⟩
    rw [HR.out]
    exact noPg_at w9
  · obtain ⟨n, hn⟩ : ∃ n, r.length - t = n := ⟨_, rfl⟩
    have hnr : r.length = n + t := by omega
    obtain ⟨P, hP⟩ : ∃ P, t - f = P := ⟨_, rfl⟩
    obtain ⟨m, hm⟩ : ∃ m, L.toNat = m := ⟨_, rfl⟩
    obtain ⟨d, hd⟩ : ∃ d, D.toNat = d := ⟨_, rfl⟩
    have hP2 : P < 256 := by omega
    have HRD : Hid (RS = if 4 < m ∨ 32 < d ∨ n ≠ 8 * P * m * d then (6, noPg) else if ckN Vo D L (pgT m d t f r) = 0 then (0, pgT m d t f r) else (ckN Vo D L (pgT m d t f r), noPg)) := by
      show _ = _
      rw [← HRS.out]
      unfold rd2
      rw [if_neg hrt, hn, hP, hm, hd]
    have HPP : Hid (t - f = P) := hP
    have HMX : Hid (max ((t : Int) - (f : Int)) 0 = (P : Int) ∧ max L 0 = (m : Int) ∧ max D 0 = (d : Int)) := by
      show _ ∧ _ ∧ _
      omega
    have HNR : Hid (r.length = n + t) := hnr
    have HM : Hid (m ≤ 4 → True) := fun _ => trivial
    have hni : ((r.length : Int) + 2 - 2 - (t : Int)) = (n : Int) := by omega
    clear HRS hn hP hm hd HM
    go_upto_region 8 with fail
    have BD : Below w4.heap.size w4 w4.drew := (Below.refl _ w4).drew
    have Y0 := X04.below BD
    have Y1 := X14.below BD
    have Y4 := X4.below BD
    have D4 := below_then B4 BD
    refine wp_region_held_drew (S := fun w' => Blk w' w.heap.size 23 #[.int .i64 Vo, .int .i64 D, .int .i64 Hd, .int .i64 H, .int .i64 L]) (by kernel_rfl) (Y0) (fun hHeld => ?_)
    have sd : w.heap.size + 3 ≤ w4.drew.heap.size := s4
    have hcd : c < w4.drew.heap.size := hcs
    generalize hA : w4.drew = wA at *
    clear hA X04 X14 X4 B4 BD s4 hcs
    refine wpAnyH_take (i := 0) (v := (.int .i64 (t : Int))) rfl (by kernel_rfl) (by kernel_rfl) (by kernel_rfl) (fun _ _ _ h => h) (Or.inl ⟨by rfl, ?_⟩) (by assumption) ?_
    · intro w' hSw
      go_simp
    simp only [List.getElem_toArray, List.getElem_cons_zero, Act.put, List.setIfInBounds_toArray, List.set_cons_zero, List.set_cons_succ]
    refine wpAnyH_take (i := 1) (v := (.int .i64 (f : Int))) rfl (by kernel_rfl) (by kernel_rfl) (by kernel_rfl) (fun _ _ _ h => h) (Or.inl ⟨by rfl, ?_⟩) (by assumption) ?_
    · intro w' hSw
      go_simp
    simp only [List.getElem_toArray, List.getElem_cons_succ, List.getElem_cons_zero, Act.put, List.setIfInBounds_toArray, List.set_cons_zero, List.set_cons_succ]
    refine wpAnyH_take (i := 2) (v := (.int .i64 ((t : Int) - (f : Int)))) rfl (by kernel_rfl) (by kernel_rfl) (by kernel_rfl) (fun _ _ _ h => h) (Or.inl ⟨by rfl, ?_⟩) (by assumption) ?_
    · intro w' hSw
      (go_simp; exact wrap_in (by omega))
    simp only [List.getElem_toArray, List.getElem_cons_succ, List.getElem_cons_zero, Act.put, List.setIfInBounds_toArray, List.set_cons_zero, List.set_cons_succ]
    refine wpAnyH_take (i := 3) (v := (.int .i64 (P : Int))) rfl (by kernel_rfl) (by kernel_rfl) (by kernel_rfl) (fun _ _ _ h => h) (Or.inl ⟨by rfl, ?_⟩) (by assumption) ?_
    · intro w' hSw
      (go_simp; have hmx := HMX.out; split <;> omega)
    simp only [List.getElem_toArray, List.getElem_cons_succ, List.getElem_cons_zero, Act.put, List.setIfInBounds_toArray, List.set_cons_zero, List.set_cons_succ]
    refine wpAnyH_take (i := 4) (v := (.pointer (some ⟨w.heap.size, 4, none⟩))) rfl (by kernel_rfl) (by kernel_rfl) (by kernel_rfl) (fun _ _ _ h => h) (Or.inl ⟨by rfl, ?_⟩) (by assumption) ?_
    · intro w' hSw
      go_simp
    simp only [List.getElem_toArray, List.getElem_cons_succ, List.getElem_cons_zero, Act.put, List.setIfInBounds_toArray, List.set_cons_zero, List.set_cons_succ]
    refine wpAnyH_take (i := 5) (v := (.int .i64 L)) rfl (by kernel_rfl) (by kernel_rfl) (by kernel_rfl) (fun _ _ _ h => h) (Or.inl ⟨by rfl, ?_⟩) (by assumption) ?_
    · intro w' hSw
      have c0 : w'.cell? ⟨w.heap.size, 4, none⟩ = some (.int .i64 L) := hSw.cell 4 rfl
      go_simp
    simp only [List.getElem_toArray, List.getElem_cons_succ, List.getElem_cons_zero, Act.put, List.setIfInBounds_toArray, List.set_cons_zero, List.set_cons_succ]
    refine wpAnyH_take (i := 6) (v := (.int .i64 (m : Int))) rfl (by kernel_rfl) (by kernel_rfl) (by kernel_rfl) (fun _ _ _ h => h) (Or.inl ⟨by rfl, ?_⟩) (by assumption) ?_
    · intro w' hSw
      (go_simp; have hmx := HMX.out; split <;> omega)
    simp only [List.getElem_toArray, List.getElem_cons_succ, List.getElem_cons_zero, Act.put, List.setIfInBounds_toArray, List.set_cons_zero, List.set_cons_succ]
    refine wpAnyH_take (i := 7) (v := (.pointer (some ⟨w.heap.size, 1, none⟩))) rfl (by kernel_rfl) (by kernel_rfl) (by kernel_rfl) (fun _ _ _ h => h) (Or.inl ⟨by rfl, ?_⟩) (by assumption) ?_
    · intro w' hSw
      go_simp
    simp only [List.getElem_toArray, List.getElem_cons_succ, List.getElem_cons_zero, Act.put, List.setIfInBounds_toArray, List.set_cons_zero, List.set_cons_succ]
    refine wpAnyH_take (i := 8) (v := (.int .i64 D)) rfl (by kernel_rfl) (by kernel_rfl) (by kernel_rfl) (fun _ _ _ h => h) (Or.inl ⟨by rfl, ?_⟩) (by assumption) ?_
    · intro w' hSw
      have c0 : w'.cell? ⟨w.heap.size, 1, none⟩ = some (.int .i64 D) := hSw.cell 1 rfl
      go_simp
    simp only [List.getElem_toArray, List.getElem_cons_succ, List.getElem_cons_zero, Act.put, List.setIfInBounds_toArray, List.set_cons_zero, List.set_cons_succ]
    refine wpAnyH_take (i := 9) (v := (.int .i64 (d : Int))) rfl (by kernel_rfl) (by kernel_rfl) (by kernel_rfl) (fun _ _ _ h => h) (Or.inl ⟨by rfl, ?_⟩) (by assumption) ?_
    · intro w' hSw
      (go_simp; have hmx := HMX.out; split <;> omega)
    simp only [List.getElem_toArray, List.getElem_cons_succ, List.getElem_cons_zero, Act.put, List.setIfInBounds_toArray, List.set_cons_zero, List.set_cons_succ]
    refine wpAnyH_ready (rs := [10]) (by kernel_rfl) (by simp) ?_
    refine AllReadyH.cons rfl (fun Kc hKc => ?_) AllReadyH.nil
    simp only [List.getElem_toArray, List.getElem_cons_succ, List.getElem_cons_zero]
    rw [if_pos (by rfl)]
    go_wp2_with fail
    refine hKc.out _ _ Y0 (fun hHeld => ?_)
    clear hKc Kc
    refine wpAnyH_ready (rs := [11]) (by kernel_rfl) (by simp) ?_
    refine AllReadyH.cons rfl (fun Kc hKc => ?_) AllReadyH.nil
    simp only [List.getElem_toArray, List.getElem_cons_succ, List.getElem_cons_zero]
    rw [if_pos (by rfl)]
    go_wp2_with fail
    refine hKc.out _ _ Y0 (fun hHeld => ?_)
    clear hKc Kc
    refine wpAnyH_ready (rs := [12]) (by kernel_rfl) (by simp) ?_
    refine AllReadyH.cons rfl (fun Kc hKc => ?_) AllReadyH.nil
    simp only [List.getElem_toArray, List.getElem_cons_succ, List.getElem_cons_zero]
    rw [if_pos (by rfl)]
    go_wp2_with fail
    refine hKc.out _ _ Y0 (fun hHeld => ?_)
    clear hKc Kc
    refine wpAnyH_done (by kernel_rfl) ?_ _
    by_cases h4 : 4 < m
    · have HR : Hid (RS = (6, noPg)) := by show _ = _; rw [HRD.out, if_pos (Or.inl h4)]
      have h4' : (4 : Int) < (m : Int) := by omega
      obtain ⟨hlr, BF⟩ := HSE.out wA Y1 D4
      go_wp2_with (refine wpList_store_row rfl 47 _ _ rfl (w.heap.size + 1) noP rfl rfl 47 _ Y1 (by exact Try.infoPg) rfl (by simp [noP, Value.oneCell']) ?_)
      refine bodyPost_ret (results_cBt (by rfl) _ _ _ _ rfl hlr) rfl ?_
      refine ⟨⟨⟨none, 0, 0⟩, 0, ⟨none, 0, 0⟩, ⟨none, 0, 0⟩⟩, by rw [HR.out]; rfl, fun w9 _ => ?_, BF⟩
      rw [HR.out]
      exact noPg_at w9
    · by_cases h5 : 32 < d
      · have HR : Hid (RS = (6, noPg)) := by show _ = _; rw [HRD.out, if_pos (Or.inr (Or.inl h5))]
        have h4' : ¬ (4 : Int) < (m : Int) := by omega
        have h5' : (32 : Int) < (d : Int) := by omega
        obtain ⟨hlr, BF⟩ := HSE.out wA Y1 D4
        go_wp2_with (refine wpList_store_row rfl 47 _ _ rfl (w.heap.size + 1) noP rfl rfl 47 _ Y1 (by exact Try.infoPg) rfl (by simp [noP, Value.oneCell']) ?_)
        refine bodyPost_ret (results_cBt (by rfl) _ _ _ _ rfl hlr) rfl ?_
        refine ⟨⟨⟨none, 0, 0⟩, 0, ⟨none, 0, 0⟩, ⟨none, 0, 0⟩⟩, by rw [HR.out]; rfl, fun w9 _ => ?_, BF⟩
        rw [HR.out]
        exact noPg_at w9
      · obtain ⟨q2, hq2⟩ : ∃ q2, 8 * P * m = q2 := ⟨_, rfl⟩
        obtain ⟨q3, hq3⟩ : ∃ q3, q2 * d = q3 := ⟨_, rfl⟩
        have b2 : q2 ≤ 8160 := by rw [← hq2]; exact Nat.le_trans (Nat.mul_le_mul (by omega : 8 * P ≤ 2040) (by omega : m ≤ 4)) (by decide)
        have b3 : q3 ≤ 261120 := by rw [← hq3]; exact Nat.le_trans (Nat.mul_le_mul b2 (by omega : d ≤ 32)) (by decide)
        have w2' : IntKind.i64.wrap (8 * (P : Int) * (m : Int)) = (q2 : Int) := by rw [show (8 * (P : Int) * (m : Int)) = (q2 : Int) by rw [← hq2]; push_cast; rfl]; exact wrap_in (by omega)
        have w3' : IntKind.i64.wrap ((q2 : Int) * (d : Int)) = (q3 : Int) := by rw [show ((q2 : Int) * (d : Int)) = (q3 : Int) by rw [← hq3]; push_cast; rfl]; exact wrap_in (by omega)
        have HRE : Hid (RS = if n ≠ q3 then (6, noPg) else if ckN Vo D L (pgT m d t f r) = 0 then (0, pgT m d t f r) else (ckN Vo D L (pgT m d t f r), noPg)) := by
          show _ = _
          rw [HRD.out, hq2, hq3]
          by_cases hz : n = q3
          · rw [if_neg (by omega), if_neg (show ¬ (n ≠ q3) by omega)]
          · rw [if_pos (Or.inr (Or.inr hz)), if_pos hz]
        have HQ : Hid (8 * P * m * d = q3) := by show _ = _; rw [hq2, hq3]
        have h4' : ¬ (4 : Int) < (m : Int) := by omega
        have h5' : ¬ (32 : Int) < (d : Int) := by omega
        clear hq2 hq3 HRD
        by_cases hz : n = q3
        · subst hz
          have HRF : Hid (RS = if ckN Vo D L (pgT m d t f r) = 0 then (0, pgT m d t f r) else (ckN Vo D L (pgT m d t f r), noPg)) := by show _ = _; rw [HRE.out, if_neg (by omega)]
          clear HRE
          have HX : Hid (pgT m d t f r = ⟨(r.take t).map fun b => (b.toNat : Int), f, cubeT (r.drop t) m P d, cubeT ((r.drop t).drop (4 * (m * (P * d)))) m P d⟩) := by
            show _ = _
            unfold pgT
            rw [HPP.out]
          have hm4 : m ≤ 4 := by omega
          have hd32 : d ≤ 32 := by omega
          generalize pgT m d t f r = X at *
          have hmk := run_make_row' (P := Try.prog) 24 3 (.int .i64 0) 8 Try.underlying24 Try.infoInt1 rfl .i64 .i64 t (by omega) (by omega) wA
          have B5 : Below wA.heap.size wA (wA.alloc (.cells (madeCells #[.int .i64 0] t) 3)) := (Below.refl _ _).alloc (Nat.le_refl _) _
          have TF5 : TF (wA.alloc (.cells (madeCells #[.int .i64 0] t) 3)) wA.heap.size t 0 (fun j => ((r.getD j 0).toNat : Int)) := ⟨_, blk_new wA _ _, by simp [madeCells], fun j hj => by omega⟩
          have s5 : (wA.alloc (.cells (madeCells #[.int .i64 0] t) 3)).heap.size = wA.heap.size + 1 := by simp
          generalize hw5 : wA.alloc (.cells (madeCells #[.int .i64 0] t) 3) = w5 at *
          have XZ := blk_new w5 47 #[.slice none 0 0, .int .i64 0, .slice none 0 0, .slice none 0 0]
          have B6 : Below w5.heap.size w5 (w5.alloc (.cells #[.slice none 0 0, .int .i64 0, .slice none 0 0, .slice none 0 0] 47)) := (Below.refl _ _).alloc (Nat.le_refl _) _
          rw [s5] at XZ
          generalize hw6 : w5.alloc (.cells #[.slice none 0 0, .int .i64 0, .slice none 0 0, .slice none 0 0] 47) = w6 at *
          have XP := XZ.row #[.slice (some ⟨wA.heap.size, 0, none⟩) t t, .int .i64 (f : Int), .slice none 0 0, .slice none 0 0]
          have B7 := below_setRow (below_then B5 B6) (by omega : wA.heap.size ≤ wA.heap.size + 1) #[.slice (some ⟨wA.heap.size, 0, none⟩) t t, .int .i64 (f : Int), .slice none 0 0, .slice none 0 0]
          have TF7 := (TF5.blk (B6.block _ TF5.lt)).blk (setRow_other w6 (wA.heap.size + 1) wA.heap.size #[.slice (some ⟨wA.heap.size, 0, none⟩) t t, .int .i64 (f : Int), .slice none 0 0, .slice none 0 0] (by omega))
          generalize hw7 : w6.setRow (wA.heap.size + 1) #[.slice (some ⟨wA.heap.size, 0, none⟩) t t, .int .i64 (f : Int), .slice none 0 0, .slice none 0 0] = w7 at *
          go_upto_region 12 with (refine wpList_store_row rfl 47 _ _ rfl (wA.heap.size + 1) #[.slice (some ⟨wA.heap.size, 0, none⟩) t t, .int .i64 (f : Int), .slice none 0 0, .slice none 0 0] rfl rfl 47 _ XZ (by exact Try.infoPg) rfl (by simp [Value.oneCell']) ?_; rw [hw7])
          have Z0 := Y0.below B7
          have Z1 := Y1.below B7
          have Z4 := Y4.below B7
          have D7 := below_then D4 B7
          clear hmk B5 TF5 s5 hw5 XZ B6 hw6 B7 hw7 Y0 Y1 Y4 D4
          obtain ⟨gT, hgT⟩ : ∃ gT, wA.heap.size = gT := ⟨_, rfl⟩
          rw [hgT] at XP TF7 sd hcd ⊢
          have b0 : w7.cell? ⟨gT + 1, 0, none⟩ = some (.slice (some ⟨gT, 0, none⟩) t t) := XP.cell 0 rfl
          clear hgT
          go_wp2_with fail
          clear b0
          go_loopg [70] t (fun rr s70 wr => ∃ k : Nat, k ≤ t ∧ rr = t - k ∧ s70 = .int .i64 (k : Int) ∧ TF wr gT t k (fun j => ((r.getD j 0).toNat : Int)) ∧ Blk wr (gT + 1) 47 #[.slice (some ⟨gT, 0, none⟩) t t, .int .i64 (f : Int), .slice none 0 0, .slice none 0 0] ∧ Blk wr w.heap.size 23 #[.int .i64 Vo, .int .i64 D, .int .i64 Hd, .int .i64 H, .int .i64 L] ∧ Blk wr (w.heap.size + 1) 47 noP ∧ Blk wr c 9 #[.string (txt (r.drop k))] ∧ Below w.heap.size w wr)
          case atStart => exact ⟨0, by omega, by omega, rfl, TF7, XP, Z0, Z1, by rw [List.drop_zero]; exact Z4, D7⟩
          case round =>
            clear TF7 XP Z0 Z1 Z4 D7
            obtain ⟨k, hk, rfl, rfl, TF7, XP, Z0, Z1, Z4, D7⟩ := hrel
            by_cases hkt : k < t
            · have hkr : k < r.length := by have := HNR.out; omega
              have hdr : r.drop k = r.getD k 0 :: r.drop (k + 1) := by
                rw [List.drop_eq_getElem_cons hkr, List.getD_eq_getElem?_getD, List.getElem?_eq_getElem hkr]; rfl
              rw [hdr] at Z4
              have HB9 : Hid (((r.getD k 0).toNat : Int) = (fun j => ((r.getD j 0).toNat : Int)) k) := rfl
              generalize r.getD k 0 = bb at *
              have hbb := bb.toNat_lt
              clear hdr
              have hgl := TF7.lt
              have hpl := XP.lt
              have D7s := D7.size
              go_upto_region 15 with fail
              have BD : Below wr.heap.size wr wr.drew := (Below.refl _ wr).drew
              have XPd := XP.below BD
              have TFd := TF7.blk (BD.block _ TF7.lt)
              have Z0d := Z0.below BD
              have Z1d := Z1.below BD
              have Z4d := Z4.below BD
              have Dd := below_then D7 BD
              refine wp_region_held_drew (S := fun w' => Blk w' (gT + 1) 47 #[.slice (some ⟨gT, 0, none⟩) t t, .int .i64 (f : Int), .slice none 0 0, .slice none 0 0]) (by kernel_rfl) (XPd) (fun hHeld => ?_)
              have gd : gT < wr.drew.heap.size := hgl
              have pd : gT + 1 < wr.drew.heap.size := hpl
              generalize hA : wr.drew = wd at *
              clear hA XP TF7 Z0 Z1 Z4 D7 BD
              refine wpAnyH_take (i := 0) (v := (.pointer (some ⟨gT + 1, 0, none⟩))) rfl (by kernel_rfl) (by kernel_rfl) (by kernel_rfl) (fun _ _ _ h => h) (Or.inl ⟨by rfl, ?_⟩) (by assumption) ?_
              · intro w' hSw
                go_simp
              simp only [List.getElem_toArray, List.getElem_cons_zero, Act.put, List.setIfInBounds_toArray, List.set_cons_zero, List.set_cons_succ]
              refine wpAnyH_take (i := 1) (v := (.slice (some ⟨gT, 0, none⟩) t t)) rfl (by kernel_rfl) (by kernel_rfl) (by kernel_rfl) (fun _ _ _ h => h) (Or.inl ⟨by rfl, ?_⟩) (by assumption) ?_
              · intro w' hSw
                have c0 : w'.cell? ⟨gT + 1, 0, none⟩ = some (.slice (some ⟨gT, 0, none⟩) t t) := hSw.cell 0 rfl
                go_simp
              simp only [List.getElem_toArray, List.getElem_cons_succ, List.getElem_cons_zero, Act.put, List.setIfInBounds_toArray, List.set_cons_zero, List.set_cons_succ]
              refine wpAnyH_take (i := 2) (v := (.int .i64 (k : Int))) rfl (by kernel_rfl) (by kernel_rfl) (by kernel_rfl) (fun _ _ _ h => h) (Or.inl ⟨by rfl, ?_⟩) (by assumption) ?_
              · intro w' hSw
                go_simp
              simp only [List.getElem_toArray, List.getElem_cons_succ, List.getElem_cons_zero, Act.put, List.setIfInBounds_toArray, List.set_cons_zero, List.set_cons_succ]
              refine wpAnyH_take (i := 3) (v := (.func (.func 52) #[] #[.pointer (some ⟨c, 0, none⟩)])) rfl (by kernel_rfl) (by kernel_rfl) (by kernel_rfl) (fun _ _ _ h => h) (Or.inl ⟨by rfl, ?_⟩) (by assumption) ?_
              · intro w' hSw
                go_simp
              simp only [List.getElem_toArray, List.getElem_cons_succ, List.getElem_cons_zero, Act.put, List.setIfInBounds_toArray, List.set_cons_zero, List.set_cons_succ]
              refine wpAnyH_ready (rs := [4]) (by kernel_rfl) (by simp) ?_
              refine AllReadyH.cons rfl (fun Kc hKc => ?_) AllReadyH.nil
              simp only [List.getElem_toArray, List.getElem_cons_succ, List.getElem_cons_zero]
              rw [if_pos (by rfl)]
              go_wp2_with fail
              refine (take1_one c bb (r.drop (k + 1)) wd Z4d).mono ?_
              rintro e w8 ⟨rfl, Z48, K8⟩
              have XP8 := XPd.but K8 (by omega)
              have TF8 := TFd.blk (K8.block gT gd (by omega))
              have Z08 := Z0d.but K8 (by omega)
              have Z18 := Z1d.but K8 (by omega)
              have D8 := below_but Dd K8 (by omega) Dd.size
              go_wp2_with fail
              refine hKc.out _ _ (XP8) (fun hHeld => ?_)
              clear hKc Kc
              refine wpAnyH_ready (rs := [5]) (by kernel_rfl) (by simp) ?_
              refine AllReadyH.cons rfl (fun Kc hKc => ?_) AllReadyH.nil
              simp only [List.getElem_toArray, List.getElem_cons_succ, List.getElem_cons_zero]
              rw [if_pos (by rfl)]
              go_wp2_with fail
              refine hKc.out _ _ XP8 (fun hHeld => ?_)
              clear hKc Kc
              obtain ⟨⟨u9, q9⟩, fz9⟩ := TF8.cell hkt
              refine wpAnyH_ready (rs := [6]) (by kernel_rfl) (by simp) ?_
              refine AllReadyH.cons rfl (fun Kc hKc => ?_) AllReadyH.nil
              simp only [List.getElem_toArray, List.getElem_cons_succ, List.getElem_cons_zero]
              rw [if_pos (by rfl)]
              go_wp2_with fail
              refine hKc.out _ _ XP8 (fun hHeld => ?_)
              clear hKc Kc
              refine wpAnyH_ready (rs := [7]) (by kernel_rfl) (by simp) ?_
              refine AllReadyH.cons rfl (fun Kc hKc => ?_) AllReadyH.nil
              simp only [List.getElem_toArray, List.getElem_cons_succ, List.getElem_cons_zero]
              rw [if_pos (by rfl)]
              have XP9 := XP8.of_block (Below.heap_setCell w8 ⟨gT, k, none⟩ (.int .i64 (bb.toNat : Int)) (gT + 1) (by show gT + 1 ≠ gT; omega))
              go_wp2_with fail
              refine hKc.out _ _ XP9 (fun hHeld => ?_)
              clear hKc Kc
              refine wpAnyH_done (by kernel_rfl) ?_ _
              have TF9 := TF8.step hkt
              rw [← HB9.out] at TF9
              go_wp2_with fail
              go_roundg (t - (k + 1))
              case measure => omega
              case rel => exact ⟨k + 1, by omega, rfl, by go_num, TF9, XP9, Z08.of_block (Below.heap_setCell _ _ _ _ (by show _ ≠ gT; omega)), Z18.of_block (Below.heap_setCell _ _ _ _ (by show _ ≠ gT; omega)), Z48.of_block (Below.heap_setCell _ _ _ _ (by show _ ≠ gT; omega)), Below.setCell (p := ⟨gT, k, none⟩) D8 (by show w.heap.size ≤ gT; omega) _⟩
            · obtain rfl : t = k := by omega
              obtain ⟨cs, tb1, tb2, tb3⟩ := TF7.row
              have hpl := XP.lt
              have D7s := D7.size
              have Q1 := takeLists_any c (r.drop t) m P d wr Z4 (by omega) (by omega) (by omega)
              go_wp2_with fail
              refine Q1.mono ?_
              clear Q1
              rintro e w8 ⟨gK, rfl, NK, Z4', K8⟩
              have Q2 := takeLists_any c _ m P d w8 Z4' (by omega) (by omega) (by omega)
              go_wp2_with fail
              refine Q2.mono ?_
              clear Q2
              rintro e w9 ⟨gV, rfl, NV, Z4'', K9⟩
              have KK := K8.trans K9
              have hs8 := K8.size
              have hs9 := K9.size
              have XP9 := XP.but KK (by omega)
              have Z09 := Z0.but KK (by omega)
              have Z19 := Z1.but KK (by omega)
              have D9 := below_but D7 KK (by omega) D7s
              have TF9 := TF7.blk (KK.block gT TF7.lt (by omega))
              have hgl := TF7.lt
              have NK9 : Hangs (fun b => wr.heap.size ≤ b) w9 (fun w => CubeAt w (some ⟨gK, 0, none⟩) m (cubeT (r.drop t) m P d)) := NK.turn ⟨hs9, fun b hb hp => ⟨hp, K9.block b hb (by have : wr.heap.size ≤ b := hp; omega)⟩⟩
              have NV9 : Hangs (fun b => wr.heap.size ≤ b) w9 (fun w => CubeAt w (some ⟨gV, 0, none⟩) m (cubeT ((r.drop t).drop (4 * (m * (P * d)))) m P d)) := Hangs.mono NV fun b _ h => by have h' : w8.heap.size ≤ b := h; show wr.heap.size ≤ b; omega
              clear Z4 Z4' Z4'' K8 K9 KK NK NV Z0 Z1 XP TF7 tb1 tb2 tb3
              have c2 : w9.cell? ⟨gT + 1, 2, none⟩ = some (.slice none 0 0) := XP9.cell 2 rfl
              have f2 := XP9.frozen 2
              have XPa := XP9.set 2 (.slice (some ⟨gK, 0, none⟩) m m)
              have c3 : (w9.setCell ⟨gT + 1, 2, none⟩ (.slice (some ⟨gK, 0, none⟩) m m)).cell? ⟨gT + 1, 3, none⟩ = some (.slice none 0 0) := XPa.cell 3 rfl
              have f3 := XPa.frozen 3
              have XPb := XPa.set 3 (.slice (some ⟨gV, 0, none⟩) m m)
              have oth : ∀ b, b ≠ gT + 1 → ((w9.setCell ⟨gT + 1, 2, none⟩ (.slice (some ⟨gK, 0, none⟩) m m)).setCell ⟨gT + 1, 3, none⟩ (.slice (some ⟨gV, 0, none⟩) m m)).heap[b]? = w9.heap[b]? := fun b hb => by rw [Below.heap_setCell _ _ _ b hb, Below.heap_setCell _ _ _ b hb]
              have sza : ((w9.setCell ⟨gT + 1, 2, none⟩ (.slice (some ⟨gK, 0, none⟩) m m)).setCell ⟨gT + 1, 3, none⟩ (.slice (some ⟨gV, 0, none⟩) m m)).heap.size = w9.heap.size := by simp [World.setCell]
              have Da : Below w.heap.size w ((w9.setCell ⟨gT + 1, 2, none⟩ (.slice (some ⟨gK, 0, none⟩) m m)).setCell ⟨gT + 1, 3, none⟩ (.slice (some ⟨gV, 0, none⟩) m m)) := Below.setCell (p := ⟨gT + 1, 3, none⟩) (Below.setCell (p := ⟨gT + 1, 2, none⟩) D9 (by show w.heap.size ≤ gT + 1; omega) _) (by show w.heap.size ≤ gT + 1; omega) _
              have Z0a := Z09.of_block (oth _ (by omega))
              have Z1a := Z19.of_block (oth _ (by omega))
              have TFa := TF9.blk (oth gT (by omega))
              have NKa := NK9.turn (p' := fun b => wr.heap.size ≤ b) (w' := (w9.setCell ⟨gT + 1, 2, none⟩ (.slice (some ⟨gK, 0, none⟩) m m)).setCell ⟨gT + 1, 3, none⟩ (.slice (some ⟨gV, 0, none⟩) m m)) ⟨by rw [sza]; exact Nat.le_refl _, fun b hb hp => ⟨hp, oth b (by have : wr.heap.size ≤ b := hp; omega)⟩⟩
              have NVa := NV9.turn (p' := fun b => wr.heap.size ≤ b) (w' := (w9.setCell ⟨gT + 1, 2, none⟩ (.slice (some ⟨gK, 0, none⟩) m m)).setCell ⟨gT + 1, 3, none⟩ (.slice (some ⟨gV, 0, none⟩) m m)) ⟨by rw [sza]; exact Nat.le_refl _, fun b hb hp => ⟨hp, oth b (by have : wr.heap.size ≤ b := hp; omega)⟩⟩
              replace XPb : Blk ((w9.setCell ⟨gT + 1, 2, none⟩ (.slice (some ⟨gK, 0, none⟩) m m)).setCell ⟨gT + 1, 3, none⟩ (.slice (some ⟨gV, 0, none⟩) m m)) (gT + 1) 47 #[.slice (some ⟨gT, 0, none⟩) t t, .int .i64 (f : Int), .slice (some ⟨gK, 0, none⟩) m m, .slice (some ⟨gV, 0, none⟩) m m] := XPb
              go_upto_region 18 with fail
              clear c2 f2 c3 f3 XPa XP9 Z09 Z19 TF9 NK9 NV9 D9 oth sza
              generalize (w9.setCell ⟨gT + 1, 2, none⟩ (.slice (some ⟨gK, 0, none⟩) m m)).setCell ⟨gT + 1, 3, none⟩ (.slice (some ⟨gV, 0, none⟩) m m) = wa at *
              have HPG : Hid (∀ wv, (∀ b, w.heap.size + 2 < b → b < wa.heap.size → wv.heap[b]? = wa.heap[b]?) → PgAt wv ⟨⟨some ⟨gT, 0, none⟩, t, t⟩, (f : Int), ⟨some ⟨gK, 0, none⟩, m, m⟩, ⟨some ⟨gV, 0, none⟩, m, m⟩⟩ X) := fun wv hv => by
                rw [HX.out]
                refine ⟨?_, rfl, NKa wv (fun b hp hb => hv b (by have : wr.heap.size ≤ b := hp; omega) hb), NVa wv (fun b hp hb => hv b (by have : wr.heap.size ≤ b := hp; omega) hb)⟩
                refine (TFa.blk (hv gT (by omega) TFa.lt)).arg (by omega) (fun j => by have := (r.getD j 0).toNat_lt; omega) (by rw [List.length_map, List.length_take]; have := HNR.out; omega) (fun j hj => ?_)
                unfold el
                rw [List.getD_eq_getElem?_getD, List.getElem?_map, List.getElem?_take_of_lt hj, List.getElem?_eq_getElem (by have := HNR.out; omega), List.getD_eq_getElem?_getD, List.getElem?_eq_getElem (by have := HNR.out; omega)]
                rfl
              have HXF : Hid (X.F = (f : Int)) := by show _ = _; rw [HX.out]
              have CKx := CK _ X wa (HPG.out wa (fun _ _ _ => rfl)) (by rw [HXF.out]; omega)
              rw [show PgV.cells ⟨⟨some ⟨gT, 0, none⟩, t, t⟩, (f : Int), ⟨some ⟨gK, 0, none⟩, m, m⟩, ⟨some ⟨gV, 0, none⟩, m, m⟩⟩ = #[.slice (some ⟨gT, 0, none⟩) t t, .int .i64 (f : Int), .slice (some ⟨gK, 0, none⟩) m m, .slice (some ⟨gV, 0, none⟩) m m] from rfl] at CKx
              clear NKa NVa TFa HX CK
              generalize ckN Vo D L X = cn at *
              have a0 : wa.cell? ⟨w.heap.size, 0, none⟩ = some (.int .i64 Vo) := Z0a.cell 0 rfl
              have a1 : wa.cell? ⟨w.heap.size, 1, none⟩ = some (.int .i64 D) := Z0a.cell 1 rfl
              have a2 : wa.cell? ⟨w.heap.size, 2, none⟩ = some (.int .i64 Hd) := Z0a.cell 2 rfl
              have a3 : wa.cell? ⟨w.heap.size, 3, none⟩ = some (.int .i64 H) := Z0a.cell 3 rfl
              have a4 : wa.cell? ⟨w.heap.size, 4, none⟩ = some (.int .i64 L) := Z0a.cell 4 rfl
              have b0 : wa.cell? ⟨gT + 1, 0, none⟩ = some (.slice (some ⟨gT, 0, none⟩) t t) := XPb.cell 0 rfl
              have b1 : wa.cell? ⟨gT + 1, 1, none⟩ = some (.int .i64 (f : Int)) := XPb.cell 1 rfl
              have b2' : wa.cell? ⟨gT + 1, 2, none⟩ = some (.slice (some ⟨gK, 0, none⟩) m m) := XPb.cell 2 rfl
              have b3' : wa.cell? ⟨gT + 1, 3, none⟩ = some (.slice (some ⟨gV, 0, none⟩) m m) := XPb.cell 3 rfl
              go_wp2_with fail
              refine CKx.mono ?_
              rintro e wb ⟨rfl, Bb⟩
              have Z1b := Z1a.below Bb
              have XPc := XPb.below Bb
              have Db := below_then Da Bb
              have hss := Bb.size
              clear CKx a0 a1 a2 a3 a4 b0 b1 b2' b3' Z0a Z1a XPb Da
              by_cases hc0 : cn = 0
              · subst hc0
                have HR : Hid (RS = (0, X)) := by show _ = _; rw [HRF.out, if_pos rfl]
                have b0 : wb.cell? ⟨gT + 1, 0, none⟩ = some (.slice (some ⟨gT, 0, none⟩) t t) := XPc.cell 0 rfl
                have b1 : wb.cell? ⟨gT + 1, 1, none⟩ = some (.int .i64 (f : Int)) := XPc.cell 1 rfl
                have b2' : wb.cell? ⟨gT + 1, 2, none⟩ = some (.slice (some ⟨gK, 0, none⟩) m m) := XPc.cell 2 rfl
                have b3' : wb.cell? ⟨gT + 1, 3, none⟩ = some (.slice (some ⟨gV, 0, none⟩) m m) := XPc.cell 3 rfl
                have hlr : (loadVar 47 ⟨w.heap.size + 1, 0, none⟩).run Try.prog (wb.setRow (w.heap.size + 1) #[.slice (some ⟨gT, 0, none⟩) t t, .int .i64 (f : Int), .slice (some ⟨gK, 0, none⟩) m m, .slice (some ⟨gV, 0, none⟩) m m]) = .ok (.agg #[.slice (some ⟨gT, 0, none⟩) t t, .int .i64 (f : Int), .slice (some ⟨gK, 0, none⟩) m m, .slice (some ⟨gV, 0, none⟩) m m]) (wb.setRow (w.heap.size + 1) #[.slice (some ⟨gT, 0, none⟩) t t, .int .i64 (f : Int), .slice (some ⟨gK, 0, none⟩) m m, .slice (some ⟨gV, 0, none⟩) m m]) := load_pg (Z1b.row _) rfl
                have BF := below_setRow Db (by omega : w.heap.size ≤ w.heap.size + 1) #[.slice (some ⟨gT, 0, none⟩) t t, .int .i64 (f : Int), .slice (some ⟨gK, 0, none⟩) m m, .slice (some ⟨gV, 0, none⟩) m m]
                go_wp2_with (refine wpList_store_row rfl 47 _ _ rfl (w.heap.size + 1) #[.slice (some ⟨gT, 0, none⟩) t t, .int .i64 (f : Int), .slice (some ⟨gK, 0, none⟩) m m, .slice (some ⟨gV, 0, none⟩) m m] rfl rfl 47 _ Z1b (by exact Try.infoPg) rfl (by simp [Value.oneCell']) ?_)
                refine bodyPost_ret (results_cBt (by rfl) _ _ _ _ rfl hlr) rfl ?_
                refine ⟨⟨⟨some ⟨gT, 0, none⟩, t, t⟩, (f : Int), ⟨some ⟨gK, 0, none⟩, m, m⟩, ⟨some ⟨gV, 0, none⟩, m, m⟩⟩, by rw [HR.out]; rfl, fun wv hv => ?_, BF⟩
                rw [HR.out]
                refine HPG.out wv (fun b h1 h2 => ?_)
                rw [hv b (by show w.heap.size ≤ b; omega) (by rw [show (wb.setRow (w.heap.size + 1) #[.slice (some ⟨gT, 0, none⟩) t t, .int .i64 (f : Int), .slice (some ⟨gK, 0, none⟩) m m, .slice (some ⟨gV, 0, none⟩) m m]).heap.size = wb.heap.size by simp [World.setRow]]; omega), setRow_other _ _ _ _ (by omega)]
                exact Bb.block b h2
              · have HR : Hid (RS = (cn, noPg)) := by show _ = _; rw [HRF.out, if_neg hc0]
                have hc0' : (cn == 0) = false := by simpa using hc0
                obtain ⟨hlr, BF⟩ := HSE.out wb Z1b Db
                go_wp2_with (refine wpList_store_row rfl 47 _ _ rfl (w.heap.size + 1) noP rfl rfl 47 _ Z1b (by exact Try.infoPg) rfl (by simp [noP, Value.oneCell']) ?_)
                refine bodyPost_ret (results_cBt (by rfl) _ _ _ _ rfl hlr) rfl ?_
                refine ⟨⟨⟨none, 0, 0⟩, 0, ⟨none, 0, 0⟩, ⟨none, 0, 0⟩⟩, by rw [HR.out]; rfl, fun w9 _ => ?_, BF⟩
                rw [HR.out]
                exact noPg_at w9
        · have HR : Hid (RS = (6, noPg)) := by show _ = _; rw [HRE.out, if_pos hz]
          have hz' : ((n : Int) == (q3 : Int)) = false := by simp; omega
          have hz2 : ¬ (n : Int) = (q3 : Int) := by omega
          obtain ⟨hlr, BF⟩ := HSE.out wA Y1 D4
          go_wp2_with (refine wpList_store_row rfl 47 _ _ rfl (w.heap.size + 1) noP rfl rfl 47 _ Y1 (by exact Try.infoPg) rfl (by simp [noP, Value.oneCell']) ?_)
          refine bodyPost_ret (results_cBt (by rfl) _ _ _ _ rfl hlr) rfl ?_
          refine ⟨⟨⟨none, 0, 0⟩, 0, ⟨none, 0, 0⟩, ⟨none, 0, 0⟩⟩, by rw [HR.out]; rfl, fun w9 _ => ?_, BF⟩
          rw [HR.out]
          exact noPg_at w9
end Go.Proofs.Ytpplnjmjldhlbaa

/- The document's Read of layer 11. Laid by tools/genrread11.py. -/
namespace Go.Proofs.Ytpplnjmjldhlbaa
open Go.ChangeShapes Go.WideShapes Go.ChangeAt Go.RowKit Go.Deep
/-- append of numbers onto a row of the call's own, as one operation. -/
theorem wp_append_iJ {w : World} {o : Oper} {a : Act} {K : Act → World → Prop} {Q : Exit → Act → World → Prop} (s x : Operand)
    (ho : o.op = .call { callee := .builtin .append, args := #[s, x], argTypes := #[24, 24] })
    (B : Nat) (v : Value) (n : Nat) (A : List Int) (hs : a.eval s = v) (O : IOwn w B v n A) (ao : Option Addr) (m c : Nat) (Z : List Int) (hx : a.eval x = .slice ao m c) (hZ : IArg w ao m c Z)
    (hlen : n + m ≤ 1048576) (hB : B ≤ w.heap.size)
    (h : ∀ v' w', IOwn w' B v' (n + m) (A ++ Z) → w.grownBy w' v.ownBlock → (∀ g, v'.ownBlock = some g → v.ownBlock = some g ∨ w.heap.size ≤ g) → K (a.put o.dst v') w') : o.wp Try.prog a w K Q := by
  obtain ⟨i0, hi, hzz⟩ := Option.map_eq_some_iff.1 Try.infoInt
  simp only [Prod.mk.injEq] at hzz
  obtain ⟨hz0, hz1, hz2⟩ := hzz
  cases ao with
  | none =>
    have hc0 := hZ.nil rfl
    have hm0 : m = 0 := by have := hZ.fit; omega
    subst hm0
    obtain rfl : Z = [] := List.length_eq_zero_iff.1 hZ.row.len
    rw [hc0] at hx
    have hrun := run_append_owned_none (P := Try.prog) (w := w) B 24 o.type 3 i0 1 Try.underlying24 hi v n _ O
    unfold Oper.wp
    simp [execOp, ho, resolve, invoke, builtin, hs, hx, hrun, Result.andThen]
    exact h v w (by rw [List.append_nil]; exact O) (World.grownBy.refl _ _) (fun g e => Or.inl e)
  | some ad =>
    refine wp_append_own2 w s x 24 ho B 3 i0 (.int .i64 0) 1 8 Try.underlying24 hi hz0 hz1 hz2 rfl (by decide) v n _ hs O ad m c (Z.map (Value.int .i64)) hx (by simp [hZ.row.len]) hZ.row.vals (ints_oneCell _ _) (by unfold maxLen; omega) (by omega) hB ?_
    intro v' w' O1 G1 _ N1
    exact h v' w' (by unfold IOwn; rw [List.map_append]; exact O1) G1 (fun g e => by rcases N1 g e with b | b; exact Or.inl b; exact Or.inr (by omega))
theorem iarg_boxJ {w : World} {g : Nat} {x : Int} (h : Blk w g 3 #[.int .i64 x]) (hx : -9223372036854775808 ≤ x ∧ x ≤ 9223372036854775807) : IArg w (some ⟨g, 0, none⟩) 1 1 [x] := by
  refine ⟨⟨rfl, by omega, fun k => ?_, fun _ => ⟨g, 0, rfl, fun t ht => ?_⟩⟩, Nat.le_refl _, by omega, fun h => by cases h⟩
  · rcases k with _ | k
    · exact hx
    · rw [el_over (by simp)]; omega
  · obtain rfl : t = 0 := by omega
    exact h.cell 0 rfl
def tokB8 (r : List UInt8) (k : Nat) : List Int := (r.take k).map fun b => (b.toNat : Int)
theorem tokB8_snoc {r : List UInt8} {k : Nat} (h : k < r.length) : tokB8 r (k + 1) = tokB8 r k ++ [((r.getD k 0).toNat : Int)] := by
  unfold tokB8
  rw [take_snocB h, List.map_append]
  rfl
theorem tokB8_len {r : List UInt8} {k : Nat} (h : k ≤ r.length) : (tokB8 r k).length = k := by unfold tokB8; rw [List.length_map, List.length_take]; omega
theorem tokB8_small (r : List UInt8) (k : Nat) : ∀ j, -9223372036854775808 ≤ el (tokB8 r k) j ∧ el (tokB8 r k) j ≤ 9223372036854775807 := fun j => by
  unfold el tokB8
  rw [List.getD_eq_getElem?_getD, List.getElem?_map]
  cases h : (r.take k)[j]? with
  | none => simp
  | some x => have := x.toNat_lt; simp; omega
set_option maxRecDepth 100000 in
set_option maxHeartbeats 6400000 in
theorem rread_short (Vo D Hd H L : Int) (l : List UInt8) (w : World) (hl : l.length < 2) :
   Calls Try.prog 24 #[.agg (cfgC Vo D Hd H L), .string (txt l)] w fun e w' => e = .returned (.tuple #[.agg #[.slice none 0 0, .int .i64 0, .slice none 0 0, .slice none 0 0], .int .i64 11]) ∧ Below w.heap.size w w' := by
  obtain ⟨S, hS⟩ : ∃ S, S = txt l := ⟨_, rfl⟩
  have hsz : S.size = l.length := by rw [hS, txt_size]
  rw [← hS]
  have hlt : (l.length : Int) < 2 := by omega
  generalize l.length = n at *
  show Calls Try.prog 24 #[.agg #[.int .i64 Vo, .int .i64 D, .int .i64 Hd, .int .i64 H, .int .i64 L], .string S] w _
  have B0 : Below w.heap.size w (w.alloc (.cells #[.int .i64 Vo, .int .i64 D, .int .i64 Hd, .int .i64 H, .int .i64 L] 23)) := (Below.refl _ _).alloc (Nat.le_refl _) _
  generalize hw1 : w.alloc (.cells #[.int .i64 Vo, .int .i64 D, .int .i64 Hd, .int .i64 H, .int .i64 L] 23) = w1 at *
  have X4 := blk_new w1 44 #[.slice none 0 0, .int .i64 0, .slice none 0 0, .slice none 0 0]
  have B1 : Below w1.heap.size w1 (w1.alloc (.cells #[.slice none 0 0, .int .i64 0, .slice none 0 0, .slice none 0 0] 44)) := (Below.refl _ _).alloc (Nat.le_refl _) _
  generalize hw2 : w1.alloc (.cells #[.slice none 0 0, .int .i64 0, .slice none 0 0, .slice none 0 0] 44) = w2 at *
  have D2 := below_setRow (below_then B0 B1) (g := w1.heap.size) B0.size #[.slice none 0 0, .int .i64 0, .slice none 0 0, .slice none 0 0]
  clear hS
  go_enter Try.func24, Try.ntmps24
  go_wp2_with (refine wpList_store_row rfl 44 _ _ rfl w1.heap.size #[.slice none 0 0, .int .i64 0, .slice none 0 0, .slice none 0 0] rfl rfl 44 _ X4 Try.infoTg rfl (by simp [Value.oneCell']) ?_)
  refine bodyPost_ret (results_cBt rfl _ _ w1.heap.size #[.slice none 0 0, .int .i64 0, .slice none 0 0, .slice none 0 0] rfl (run_loadVar_row _ w1.heap.size _ _ _ _ _ (X4.row #[.slice none 0 0, .int .i64 0, .slice none 0 0, .slice none 0 0]) Try.underlying44 rfl Try.infoTg)) rfl ?_
  exact ⟨rfl, D2⟩
set_option maxRecDepth 100000 in
set_option maxHeartbeats 16000000 in
theorem rread_two (Vo D Hd H L : Int) (a b : UInt8) (r : List UInt8) (w : World) (hrl : r.length ≤ 1000000) (bD : -9223372036854775808 ≤ D ∧ D ≤ 9223372036854775807) (bL : -9223372036854775808 ≤ L ∧ L ≤ 9223372036854775807) :
   Calls Try.prog 24 #[.agg (cfgC Vo D Hd H L), .string (txt (a :: b :: r))] w fun e w' => ∃ p : PgV, e = .returned (.tuple #[.agg p.cells, .int .i64 (rd2 Vo D L a.toNat b.toNat r).1]) ∧ PgAt w' p (rd2 Vo D L a.toNat b.toNat r).2 ∧ Below w.heap.size w w' := by
  obtain ⟨RES, hRES⟩ : ∃ x, x = rd2 Vo D L a.toNat b.toNat r := ⟨_, rfl⟩
  rw [← hRES]
  have HRES : Hid (RES = rd2 Vo D L a.toNat b.toNat r) := hRES
  clear hRES
  obtain ⟨S, hS⟩ : ∃ S, S = txt (a :: b :: r) := ⟨_, rfl⟩
  have hsz : S.size = r.length + 2 := by rw [hS, txt_size]; rfl
  have hdl : S.data.toList = a :: b :: r := by rw [hS, txt_list]
  have ix0 := fun W => index_atJ S 0 (by omega) 0 rfl W
  have ix1 := fun W => index_atJ S 1 (by omega) 1 rfl W
  have ixk := fun (k : Nat) (hk : k < r.length) (W : World) => index_atJ S (2 + k) (by omega) ((2 : Int) + (k : Int)) (by omega) W
  rw [hdl] at ix0 ix1 ixk
  rw [show (a :: b :: r).getD 0 0 = a from rfl] at ix0
  rw [show (a :: b :: r).getD 1 0 = b from rfl] at ix1
  have ixr : Hid (∀ (k : Nat), k < r.length → ∀ W : World, (Instr.index 9 (.string S) (.int .i64 ((2 : Int) + (k : Int)))).run Try.prog W = .ok (.int .u8 ((r.getD k 0).toNat : Int)) W) := fun k hk W => by
    have := ixk k hk W
    rw [show (a :: b :: r).getD (2 + k) 0 = r.getD k 0 from by rw [show 2 + k = k + 1 + 1 by omega]; rfl] at this
    exact this
  rw [← hS]
  have HEX : Hid (∀ t, t ≤ r.length → S.extract (2 + t) (r.length + 2) = txt (r.drop t)) := fun t ht => by
    rw [hS, extract_txt, List.take_of_length_le (by rw [List.length_drop]; show r.length + 2 - (2 + t) ≤ _; omega), show 2 + t = t + 1 + 1 by omega]
    rfl
  clear hS hdl ixk
  have HRL : Hid (r.length ≤ 1000000) := hrl
  have ha := a.toNat_lt
  have hb := b.toNat_lt
  have CK := fun (p : PgV) (X : Pg) (wv : World) (hp : PgAt wv p X) hF => rcheck11_any Vo D Hd H L p X wv hp hF
  show Calls Try.prog 24 #[.agg #[.int .i64 Vo, .int .i64 D, .int .i64 Hd, .int .i64 H, .int .i64 L], .string S] w _
  unfold cfgC at CK
  have X0 := blk_new w 23 #[.int .i64 Vo, .int .i64 D, .int .i64 Hd, .int .i64 H, .int .i64 L]
  have B0 : Below w.heap.size w (w.alloc (.cells #[.int .i64 Vo, .int .i64 D, .int .i64 Hd, .int .i64 H, .int .i64 L] 23)) := (Below.refl _ _).alloc (Nat.le_refl _) _
  generalize hw1 : w.alloc (.cells #[.int .i64 Vo, .int .i64 D, .int .i64 Hd, .int .i64 H, .int .i64 L] 23) = w1 at *
  have X4 := blk_new w1 44 #[.slice none 0 0, .int .i64 0, .slice none 0 0, .slice none 0 0]
  have B1 : Below w1.heap.size w1 (w1.alloc (.cells #[.slice none 0 0, .int .i64 0, .slice none 0 0, .slice none 0 0] 44)) := (Below.refl _ _).alloc (Nat.le_refl _) _
  generalize hw2 : w1.alloc (.cells #[.slice none 0 0, .int .i64 0, .slice none 0 0, .slice none 0 0] 44) = w2 at *
  have h01 : w.heap.size < w1.heap.size := X0.lt
  replace X0 := X0.below B1
  have DB := below_then B0 B1
  have h12 : w1.heap.size < w2.heap.size := X4.lt
  clear B0 B1
  go_enter Try.func24, Try.ntmps24
  generalize hN : r.length = N at *
  by_cases hlt : (N : Int) < ((a.toNat : Nat) : Int)
  · have HR : Hid (RES = (11, noPg)) := by show _ = _; rw [HRES.out]; unfold rd2; rw [if_pos (by omega)]
    clear HRES
    have hsub : IntKind.i64.wrap ((N : Int) + 2 - 2) = (N : Int) := by rw [wrap_in (by omega)]; omega
    have D2 := below_setRow DB (g := w1.heap.size) (by omega) #[.slice none 0 0, .int .i64 0, .slice none 0 0, .slice none 0 0]
    go_wp2_with (refine wpList_store_row rfl 44 _ _ rfl w1.heap.size #[.slice none 0 0, .int .i64 0, .slice none 0 0, .slice none 0 0] rfl rfl 44 _ X4 Try.infoTg rfl (by simp [Value.oneCell']) ?_)
    refine bodyPost_ret (results_cBt rfl _ _ w1.heap.size #[.slice none 0 0, .int .i64 0, .slice none 0 0, .slice none 0 0] rfl (run_loadVar_row _ w1.heap.size _ _ _ _ _ (X4.row #[.slice none 0 0, .int .i64 0, .slice none 0 0, .slice none 0 0]) Try.underlying44 rfl Try.infoTg)) rfl ?_
    exact ⟨⟨⟨none, 0, 0⟩, 0, ⟨none, 0, 0⟩, ⟨none, 0, 0⟩⟩, by rw [HR.out]; rfl, by rw [HR.out]; exact noPg_at _, D2⟩
  obtain ⟨t, ht⟩ : ∃ t, t = a.toNat := ⟨_, rfl⟩
  rw [← ht] at hlt ha ix0 HRES
  have htN : t ≤ N := by omega
  clear ht
  obtain ⟨Z7, X7, B7, z7⟩ := var3j w2 44 #[.slice none 0 0, .int .i64 0, .slice none 0 0, .slice none 0 0] #[.slice none 0 0, .int .i64 ((b.toNat : Nat) : Int), .slice none 0 0, .slice none 0 0]
  generalize hz1 : w2.alloc (.cells #[.slice none 0 0, .int .i64 0, .slice none 0 0, .slice none 0 0] 44) = wz at *
  generalize hz2 : wz.setRow w2.heap.size #[.slice none 0 0, .int .i64 ((b.toNat : Nat) : Int), .slice none 0 0, .slice none 0 0] = w3 at *
  replace X0 := X0.below B7
  replace X4 := X4.below B7
  have DW := below_then DB B7
  have O0 : IOwn w3 (w2.heap.size + 1) (.slice none 0 0) 0 (tokB8 r 0) := by unfold tokB8; rw [List.take_zero]; exact World.ownsRow_nil _ _ _ _
  have hsub : IntKind.i64.wrap ((N : Int) + 2 - 2) = (N : Int) := by rw [wrap_in (by omega)]; omega
  go_upto_region 6 with (refine wpList_store_row rfl 44 _ _ rfl w2.heap.size #[.slice none 0 0, .int .i64 ((b.toNat : Nat) : Int), .slice none 0 0, .slice none 0 0] rfl rfl 44 _ Z7 Try.infoTg rfl (by simp [Value.oneCell']) ?_; rw [hz2])
  clear hz1 hz2 Z7 hw1 hw2 z7 B7 ix0 ix1 hsub DB
  go_loopg [8] t (fun rr s8 wr => ∃ (k : Nat) (ta : Option Addr) (tz : Nat), k ≤ t ∧ rr = t - k ∧ s8 = .int .i64 (k : Int) ∧ Blk wr w2.heap.size 44 #[.slice ta k tz, .int .i64 ((b.toNat : Nat) : Int), .slice none 0 0, .slice none 0 0] ∧ IOwn wr (w2.heap.size + 1) (.slice ta k tz) k (tokB8 r k) ∧ Blk wr w.heap.size 23 #[.int .i64 Vo, .int .i64 D, .int .i64 Hd, .int .i64 H, .int .i64 L] ∧ Blk wr w1.heap.size 44 #[.slice none 0 0, .int .i64 0, .slice none 0 0, .slice none 0 0] ∧ Below w.heap.size w wr)
  case atStart => exact ⟨0, none, 0, by omega, by omega, rfl, X7, O0, X0, X4, DW⟩
  case round =>
  clear X7 O0 X0 X4 DW
  obtain ⟨k, ta, tz, hk, rfl, rfl, X7, O7, X0, X4, DW⟩ := hrel
  by_cases hlt2 : k < t
  · have hki : (k : Int) < (t : Int) := by omega
    have ix := ixr.out k (by omega)
    have hsn : Hid (tokB8 r (k + 1) = tokB8 r k ++ [((r.getD k 0).toNat : Int)]) := tokB8_snoc (by rw [hN]; omega)
    have hx9 := (r.getD k 0).toNat_lt
    have hwk : IntKind.i64.wrap ((2 : Int) + (k : Int)) = (2 : Int) + (k : Int) := wrap_in (by omega)
    generalize ((r.getD k 0).toNat : Nat) = x at *
    have hwx : IntKind.i64.wrap (x : Int) = (x : Int) := wrap_in (by omega)
    go_upto_region 8 with fail
    obtain ⟨v1, hv1⟩ : ∃ v, v = Value.slice ta k tz := ⟨_, rfl⟩
    rw [← hv1] at X7 O7
    have hown : ∀ g, v1.ownBlock = some g → w2.heap.size + 1 ≤ g ∧ g < wr.heap.size := fun g e => O7.lt g e
    refine wp_region_late (S := fun w' => Blk w' w2.heap.size 44 #[v1, .int .i64 ((b.toNat : Nat) : Int), .slice none 0 0, .slice none 0 0]) 10 (by kernel_rfl) X7 (fun hHeld => ?_)
    have BD : Below wr.heap.size wr wr.drew := (Below.refl _ wr).drew
    replace X7 := X7.below BD
    replace O7 := owns_below O7 BD
    replace X0 := X0.below BD
    replace X4 := X4.below BD
    replace DW := below_then DW BD
    have hsd : wr.heap.size ≤ wr.drew.heap.size := BD.size
    generalize hwd : wr.drew = wd at *
    clear hwd BD
    refine wpLate_pure (i := 0) (v := (.pointer (some ⟨w2.heap.size, 0, none⟩))) rfl (by decide) (by kernel_rfl) (by kernel_rfl) (by kernel_rfl) (fun _ _ _ h => h) (Or.inl ⟨by rfl, ?_⟩) (fun _ => by assumption) ?_
    · intro w' _
      go_simp
    simp only [List.getElem_toArray, List.getElem_cons_zero, Act.put, List.setIfInBounds_toArray, List.set_cons_zero, List.set_cons_succ]
    refine wpLate_take (i := 1) (v := v1) rfl (by kernel_rfl) (by kernel_rfl) (by kernel_rfl) (by kernel_rfl) (by kernel_rfl) (fun _ _ _ h => h) (Or.inl ⟨by rfl, ?_⟩) (by assumption) ?_
    · intro w' hSw
      have y0 : w'.cell? ⟨w2.heap.size, 0, none⟩ = some v1 := hSw.cell 0 rfl
      go_simp
    simp only [List.getElem_toArray, List.getElem_cons_succ, List.getElem_cons_zero, Act.put, List.setIfInBounds_toArray, List.set_cons_zero, List.set_cons_succ]
    refine wpLate_pure (i := 2) (v := (.string S)) rfl (by decide) (by kernel_rfl) (by kernel_rfl) (by kernel_rfl) (fun _ _ _ h => h) (Or.inl ⟨by rfl, ?_⟩) (fun _ => by assumption) ?_
    · intro w' _
      go_simp
    simp only [List.getElem_toArray, List.getElem_cons_succ, List.getElem_cons_zero, Act.put, List.setIfInBounds_toArray, List.set_cons_zero, List.set_cons_succ]
    refine wpLate_pure (i := 3) (v := (.int .i64 (k : Int))) rfl (by decide) (by kernel_rfl) (by kernel_rfl) (by kernel_rfl) (fun _ _ _ h => h) (Or.inl ⟨by rfl, ?_⟩) (fun _ => by assumption) ?_
    · intro w' _
      go_simp
    simp only [List.getElem_toArray, List.getElem_cons_succ, List.getElem_cons_zero, Act.put, List.setIfInBounds_toArray, List.set_cons_zero, List.set_cons_succ]
    refine wpLate_pure (i := 4) (v := (.int .i64 ((2 : Int) + (k : Int)))) rfl (by decide) (by kernel_rfl) (by kernel_rfl) (by kernel_rfl) (fun _ _ _ h => h) (Or.inl ⟨by rfl, ?_⟩) (fun _ => by assumption) ?_
    · intro w' _
      go_simp
    simp only [List.getElem_toArray, List.getElem_cons_succ, List.getElem_cons_zero, Act.put, List.setIfInBounds_toArray, List.set_cons_zero, List.set_cons_succ]
    refine wpLate_pure (i := 5) (v := (.int .u8 (x : Int))) rfl (by decide) (by kernel_rfl) (by kernel_rfl) (by kernel_rfl) (fun _ _ _ h => h) (Or.inl ⟨by rfl, ?_⟩) (fun _ => by assumption) ?_
    · intro w' _
      have ixw := ix w'
      go_simp
    simp only [List.getElem_toArray, List.getElem_cons_succ, List.getElem_cons_zero, Act.put, List.setIfInBounds_toArray, List.set_cons_zero, List.set_cons_succ]
    refine wpLate_pure (i := 6) (v := (.int .i64 (x : Int))) rfl (by decide) (by kernel_rfl) (by kernel_rfl) (by kernel_rfl) (fun _ _ _ h => h) (Or.inl ⟨by rfl, ?_⟩) (fun _ => by assumption) ?_
    · intro w' _
      go_simp
    simp only [List.getElem_toArray, List.getElem_cons_succ, List.getElem_cons_zero, Act.put, List.setIfInBounds_toArray, List.set_cons_zero, List.set_cons_succ]
    refine wpLate_ready (rs := [7]) (by kernel_rfl) (by simp) ?_
    refine wpLate_cons rfl (fun Kc hKc => ?_) wpLate_nil
    simp only [List.getElem_toArray, List.getElem_cons_succ, List.getElem_cons_zero]
    rw [if_pos (by rfl)]
    go_wp2_with fail
    have CN := blk_new wd 3 #[.int .i64 (x : Int)]
    have BA : Below wd.heap.size wd (wd.alloc (.cells #[.int .i64 (x : Int)] 3)) := (Below.refl _ _).alloc (Nat.le_refl _) _
    generalize hwA : wd.alloc (.cells #[.int .i64 (x : Int)] 3) = wA at *
    clear hwA
    replace X7 := X7.below BA
    replace O7 := owns_below O7 BA
    replace X0 := X0.below BA
    replace X4 := X4.below BA
    replace DW := below_then DW BA
    refine hKc.out _ _ (fun _ _ => X7) ?_
    clear hKc Kc
    refine wpLate_ready (rs := [8]) (by kernel_rfl) (by simp) ?_
    refine wpLate_cons rfl (fun Kc hKc => ?_) wpLate_nil
    simp only [List.getElem_toArray, List.getElem_cons_succ, List.getElem_cons_zero]
    rw [if_pos (by rfl)]
    refine wp_append_iJ _ _ rfl (w2.heap.size + 1) v1 k (tokB8 r k) rfl O7 (some ⟨wd.heap.size, 0, none⟩) 1 1 [(x : Int)] rfl (iarg_boxJ CN (by omega)) (by omega) (by have := X7.lt; omega) ?_
    intro v8 w8 O8 G8 N8
    have hb8 := X7.of_block (G8.block _ X7.lt (fun e => by have := (hown _ e.symm).1; omega))
    have hx0 := X0.of_block (G8.block _ X0.lt (fun e => by have := (hown _ e.symm).1; omega))
    have hx4 := X4.of_block (G8.block _ X4.lt (fun e => by have := (hown _ e.symm).1; omega))
    have D8 : Below w.heap.size w w8 := DW.grown G8 DW.size (fun g e => by have := (hown g e).1; omega)
    have c8 : w8.cell? ⟨w2.heap.size, 0, none⟩ = some v1 := hb8.cell 0 rfl
    have f8 := hb8.frozen 0
    obtain ⟨ea8, ec8, e8⟩ := owns_slice O8
    subst e8
    clear X7 O7 X0 X4 DW CN BA G8 N8
    refine hKc.out _ _ (fun _ _ => hb8) ?_
    clear hKc Kc
    refine wpLate_pure (i := 9) (v := (.pointer (some ⟨w2.heap.size, 0, none⟩))) rfl (by decide) (by kernel_rfl) (by kernel_rfl) (by kernel_rfl) (fun _ _ _ h => h) (Or.inl ⟨by rfl, ?_⟩) (fun _ => hb8) ?_
    · intro w' _
      go_simp
    simp only [List.getElem_toArray, List.getElem_cons_succ, List.getElem_cons_zero, Act.put, List.setIfInBounds_toArray, List.set_cons_zero, List.set_cons_succ]
    refine wpLate_ready (rs := [10]) (by kernel_rfl) (by simp) ?_
    refine wpLate_cons rfl (fun Kc hKc => ?_) wpLate_nil
    simp only [List.getElem_toArray, List.getElem_cons_succ, List.getElem_cons_zero]
    rw [if_pos (by rfl)]
    go_wp2_with fail
    refine hKc.out _ _ (fun hne _ => absurd rfl hne) ?_
    clear hKc Kc
    try simp only [Act.put]
    refine wpLate_done (by kernel_rfl) ?_ _
    have so : ∀ g, g ≠ w2.heap.size → (w8.setCell ⟨w2.heap.size, 0, none⟩ (.slice ea8 (k + 1) ec8)).heap[g]? = w8.heap[g]? := fun g hg => Below.heap_setCell _ _ _ g hg
    have Y7 : Blk (w8.setCell ⟨w2.heap.size, 0, none⟩ (.slice ea8 (k + 1) ec8)) w2.heap.size 44 #[.slice ea8 (k + 1) ec8, .int .i64 ((b.toNat : Nat) : Int), .slice none 0 0, .slice none 0 0] := hb8.set 0 (.slice ea8 (k + 1) ec8)
    have Y8 : IOwn (w8.setCell ⟨w2.heap.size, 0, none⟩ (.slice ea8 (k + 1) ec8)) (w2.heap.size + 1) (.slice ea8 (k + 1) ec8) (k + 1) (tokB8 r k ++ [(x : Int)]) := owns_mono O8 (Nat.le_refl _) (fun g e => so g (by have := (O8.lt g e).1; omega))
    have Y0 := hx0.of_block (so _ (by omega))
    have Y4 := hx4.of_block (so _ (by omega))
    have DY : Below w.heap.size w (w8.setCell ⟨w2.heap.size, 0, none⟩ (.slice ea8 (k + 1) ec8)) := D8.setCell (p := ⟨w2.heap.size, 0, none⟩) (by show w.heap.size ≤ w2.heap.size; omega) _
    clear hb8 c8 f8 so hx0 hx4 D8 O8
    go_wp2_with fail
    go_roundg (t - (k + 1))
    case measure => omega
    case rel => exact ⟨k + 1, ea8, ec8, by omega, rfl, by go_num, Y7, by rw [hsn.out]; exact Y8, Y0, Y4, DY⟩
  obtain rfl : k = t := by omega
  clear hlt2
  obtain ⟨f, hf⟩ : ∃ f, f = b.toNat := ⟨_, rfl⟩
  rw [← hf] at HRES X7 hb
  clear hf
  obtain ⟨R1, hR1⟩ : ∃ x, x = txt (r.drop k) := ⟨_, rfl⟩
  have hex : S.extract (2 + k) (N + 2) = R1 := by rw [hR1]; exact HEX.out k (by omega)
  have hr1 : R1.size = N - k := by rw [hR1, txt_size, List.length_drop, hN]
  have HR1 : Hid (R1 = txt (r.drop k)) := hR1
  have HZ1 : Hid (R1.size = N - k) := hr1
  clear hr1
  have hwk : IntKind.i64.wrap ((2 : Int) + (k : Int)) = (2 : Int) + (k : Int) := wrap_in (by omega)
  have hwp : IntKind.i64.wrap ((k : Int) - (f : Int)) = (k : Int) - (f : Int) := wrap_in (by omega)
  have c1 : wr.cell? ⟨w2.heap.size, 1, none⟩ = some (.int .i64 (f : Int)) := X7.cell 1 rfl
  clear hR1
  go_upto_if 57 with fail
  rw [hex]
  clear c1 hwk hwp hex
  go_cut [9] from 57 to 57 (fun s9 wc => s9 = .int .i64 ((k - f : Nat) : Int) ∧ wc = wr)
  case first =>
    by_cases hkf : (k : Int) - (f : Int) < 0
    · have hz : decide ((k : Int) - (f : Int) < 0) = true := decide_eq_true hkf
      go_wp2_with fail
      go_meet
      case rel => exact ⟨by have : k - f = 0 := by omega
                            rw [this]; rfl, rfl⟩
    · have hz : decide ((k : Int) - (f : Int) < 0) = false := decide_eq_false hkf
      go_wp2_with fail
      go_meet
      case rel => exact ⟨by have : ((k - f : Nat) : Int) = (k : Int) - (f : Int) := by omega
                            rw [this], rfl⟩
  case rest =>
  obtain ⟨rfl, hw⟩ := hcut
  obtain rfl := hw.symm
  clear hw
  obtain ⟨P, hP⟩ : ∃ P, P = k - f := ⟨_, rfl⟩
  have HP : Hid (P = k - f) := hP
  have hP2 : P ≤ 255 := by omega
  rw [← hP]
  clear hP
  have HRD : Hid (RES = if 4 < L.toNat ∨ 32 < D.toNat ∨ N - k ≠ 8 * P * L.toNat * D.toNat then (6, noPg) else if ckN Vo D L (pgT L.toNat D.toNat k f r) = 0 then (0, pgT L.toNat D.toNat k f r) else (ckN Vo D L (pgT L.toNat D.toNat k f r), noPg)) := by show _ = _; rw [HRES.out, HP.out]; unfold rd2; rw [hN, if_neg (by omega)]
  clear HRES
  have a4 : wr.cell? ⟨w.heap.size, 4, none⟩ = some (.int .i64 L) := X0.cell 4 rfl
  have a1 : wr.cell? ⟨w.heap.size, 1, none⟩ = some (.int .i64 D) := X0.cell 1 rfl
  by_cases h4 : 4 < L
  · have HR : Hid (RES = (6, noPg)) := by show _ = _; rw [HRD.out, if_pos (Or.inl (by omega))]
    clear HRD X7 O7 X0
    have D2 := below_setRow DW (g := w1.heap.size) (by omega) #[.slice none 0 0, .int .i64 0, .slice none 0 0, .slice none 0 0]
    go_wp2_with (refine wpList_store_row rfl 44 _ _ rfl w1.heap.size #[.slice none 0 0, .int .i64 0, .slice none 0 0, .slice none 0 0] rfl rfl 44 _ X4 Try.infoTg rfl (by simp [Value.oneCell']) ?_)
    refine bodyPost_ret (results_cBt rfl _ _ w1.heap.size #[.slice none 0 0, .int .i64 0, .slice none 0 0, .slice none 0 0] rfl (run_loadVar_row _ w1.heap.size _ _ _ _ _ (X4.row #[.slice none 0 0, .int .i64 0, .slice none 0 0, .slice none 0 0]) Try.underlying44 rfl Try.infoTg)) rfl ?_
    exact ⟨⟨⟨none, 0, 0⟩, 0, ⟨none, 0, 0⟩, ⟨none, 0, 0⟩⟩, by rw [HR.out]; rfl, by rw [HR.out]; exact noPg_at _, D2⟩
  by_cases h32 : 32 < D
  · have HR : Hid (RES = (6, noPg)) := by show _ = _; rw [HRD.out, if_pos (Or.inr (Or.inl (by omega)))]
    clear HRD X7 O7 X0
    have D2 := below_setRow DW (g := w1.heap.size) (by omega) #[.slice none 0 0, .int .i64 0, .slice none 0 0, .slice none 0 0]
    go_wp2_with (refine wpList_store_row rfl 44 _ _ rfl w1.heap.size #[.slice none 0 0, .int .i64 0, .slice none 0 0, .slice none 0 0] rfl rfl 44 _ X4 Try.infoTg rfl (by simp [Value.oneCell']) ?_)
    refine bodyPost_ret (results_cBt rfl _ _ w1.heap.size #[.slice none 0 0, .int .i64 0, .slice none 0 0, .slice none 0 0] rfl (run_loadVar_row _ w1.heap.size _ _ _ _ _ (X4.row #[.slice none 0 0, .int .i64 0, .slice none 0 0, .slice none 0 0]) Try.underlying44 rfl Try.infoTg)) rfl ?_
    exact ⟨⟨⟨none, 0, 0⟩, 0, ⟨none, 0, 0⟩, ⟨none, 0, 0⟩⟩, by rw [HR.out]; rfl, by rw [HR.out]; exact noPg_at _, D2⟩
  obtain ⟨m, hm⟩ : ∃ m, m = L.toNat := ⟨_, rfl⟩
  obtain ⟨d, hd⟩ : ∃ d, d = D.toNat := ⟨_, rfl⟩
  rw [← hm, ← hd] at HRD
  have hm4 : m ≤ 4 := by omega
  have hd32 : d ≤ 32 := by omega
  have hmL : (if (0 : Int) > L then 0 else L) = (m : Int) := by split <;> omega
  have hdD : (if (0 : Int) > D then 0 else D) = (d : Int) := by split <;> omega
  go_upto_region 15 with fail
  clear a4 a1
  have BD : Below wr.heap.size wr wr.drew := (Below.refl _ wr).drew
  replace X7 := X7.below BD
  replace O7 := owns_below O7 BD
  replace X0 := X0.below BD
  replace X4 := X4.below BD
  replace DW := below_then DW BD
  clear BD
  refine wp_region_held_drew (S := fun w' => Blk w' w.heap.size 23 #[.int .i64 Vo, .int .i64 D, .int .i64 Hd, .int .i64 H, .int .i64 L]) (by kernel_rfl) (X0) (fun hHeld => ?_)
  generalize hA : wr.drew = wA at *
  clear hA
  refine wpAnyH_take (i := 0) (v := (.pointer (some ⟨w.heap.size, 4, none⟩))) rfl (by kernel_rfl) (by kernel_rfl) (by kernel_rfl) (fun _ _ _ h => h) (Or.inl ⟨by rfl, ?_⟩) (by assumption) ?_
  · intro w' hSw
    go_simp
  simp only [List.getElem_toArray, List.getElem_cons_zero, Act.put, List.setIfInBounds_toArray, List.set_cons_zero, List.set_cons_succ]
  refine wpAnyH_take (i := 1) (v := (.int .i64 L)) rfl (by kernel_rfl) (by kernel_rfl) (by kernel_rfl) (fun _ _ _ h => h) (Or.inl ⟨by rfl, ?_⟩) (by assumption) ?_
  · intro w' hSw
    have y0 : w'.cell? ⟨w.heap.size, 4, none⟩ = some (.int .i64 L) := hSw.cell 4 rfl
    go_simp
  simp only [List.getElem_toArray, List.getElem_cons_succ, List.getElem_cons_zero, Act.put, List.setIfInBounds_toArray, List.set_cons_zero, List.set_cons_succ]
  refine wpAnyH_take (i := 2) (v := (.int .i64 (m : Int))) rfl (by kernel_rfl) (by kernel_rfl) (by kernel_rfl) (fun _ _ _ h => h) (Or.inl ⟨by rfl, ?_⟩) (by assumption) ?_
  · intro w' hSw
    go_simp
  simp only [List.getElem_toArray, List.getElem_cons_succ, List.getElem_cons_zero, Act.put, List.setIfInBounds_toArray, List.set_cons_zero, List.set_cons_succ]
  refine wpAnyH_take (i := 3) (v := (.pointer (some ⟨w.heap.size, 1, none⟩))) rfl (by kernel_rfl) (by kernel_rfl) (by kernel_rfl) (fun _ _ _ h => h) (Or.inl ⟨by rfl, ?_⟩) (by assumption) ?_
  · intro w' hSw
    go_simp
  simp only [List.getElem_toArray, List.getElem_cons_succ, List.getElem_cons_zero, Act.put, List.setIfInBounds_toArray, List.set_cons_zero, List.set_cons_succ]
  refine wpAnyH_take (i := 4) (v := (.int .i64 D)) rfl (by kernel_rfl) (by kernel_rfl) (by kernel_rfl) (fun _ _ _ h => h) (Or.inl ⟨by rfl, ?_⟩) (by assumption) ?_
  · intro w' hSw
    have y0 : w'.cell? ⟨w.heap.size, 1, none⟩ = some (.int .i64 D) := hSw.cell 1 rfl
    go_simp
  simp only [List.getElem_toArray, List.getElem_cons_succ, List.getElem_cons_zero, Act.put, List.setIfInBounds_toArray, List.set_cons_zero, List.set_cons_succ]
  refine wpAnyH_take (i := 5) (v := (.int .i64 (d : Int))) rfl (by kernel_rfl) (by kernel_rfl) (by kernel_rfl) (fun _ _ _ h => h) (Or.inl ⟨by rfl, ?_⟩) (by assumption) ?_
  · intro w' hSw
    go_simp
  simp only [List.getElem_toArray, List.getElem_cons_succ, List.getElem_cons_zero, Act.put, List.setIfInBounds_toArray, List.set_cons_zero, List.set_cons_succ]
  refine wpAnyH_take (i := 6) (v := (.int .i64 (m : Int))) rfl (by kernel_rfl) (by kernel_rfl) (by kernel_rfl) (fun _ _ _ h => h) (Or.inl ⟨by rfl, ?_⟩) (by assumption) ?_
  · intro w' hSw
    go_simp
  simp only [List.getElem_toArray, List.getElem_cons_succ, List.getElem_cons_zero, Act.put, List.setIfInBounds_toArray, List.set_cons_zero, List.set_cons_succ]
  refine wpAnyH_take (i := 7) (v := (.int .i64 (d : Int))) rfl (by kernel_rfl) (by kernel_rfl) (by kernel_rfl) (fun _ _ _ h => h) (Or.inl ⟨by rfl, ?_⟩) (by assumption) ?_
  · intro w' hSw
    go_simp
  simp only [List.getElem_toArray, List.getElem_cons_succ, List.getElem_cons_zero, Act.put, List.setIfInBounds_toArray, List.set_cons_zero, List.set_cons_succ]
  refine wpAnyH_done (by kernel_rfl) ?_ _
  clear hHeld
  clear hm hd hmL hdD h4 h32 bD bL
  obtain ⟨n1, hn1⟩ : ∃ n1, n1 = N - k := ⟨_, rfl⟩
  have hz1 : R1.size = n1 := by rw [HZ1.out, hn1]
  rw [← hn1] at HRD
  have HN1 : Hid (n1 = N - k) := hn1
  have hn1b : n1 ≤ 1000000 := by have := HRL.out; omega
  clear hn1 HZ1
  obtain ⟨A8, hA8⟩ : ∃ A8, A8 = 8 * P := ⟨_, rfl⟩
  have hA8b : A8 ≤ 2040 := by omega
  obtain ⟨B8, hB8⟩ : ∃ B8, B8 = A8 * m := ⟨_, rfl⟩
  have hB8b : B8 ≤ 8160 := by rw [hB8]; exact Nat.le_trans (Nat.mul_le_mul hA8b hm4) (by decide)
  obtain ⟨Q8, hQ8⟩ : ∃ Q8, Q8 = B8 * d := ⟨_, rfl⟩
  have hQ8b : Q8 ≤ 261120 := by rw [hQ8]; exact Nat.le_trans (Nat.mul_le_mul hB8b hd32) (by decide)
  have HQ8 : Hid (8 * P * m * d = Q8) := by show _ = _; rw [hQ8, hB8, hA8]
  have HQ4 : Hid (8 * (m * (P * d)) = Q8) := by show _ = _; rw [← HQ8.out, Nat.mul_assoc 8 P m, Nat.mul_assoc 8, Nat.mul_comm P m, Nat.mul_assoc m P d]
  have q1 : (8 : Int) * (P : Int) = (A8 : Int) := by rw [hA8]; rfl
  have q2 : (A8 : Int) * (m : Int) = (B8 : Int) := by rw [hB8]; exact (Int.natCast_mul _ _).symm
  have q3 : (B8 : Int) * (d : Int) = (Q8 : Int) := by rw [hQ8]; exact (Int.natCast_mul _ _).symm
  have v1 : IntKind.i64.wrap (A8 : Int) = (A8 : Int) := wrap_in (by omega)
  have v2 : IntKind.i64.wrap (B8 : Int) = (B8 : Int) := wrap_in (by omega)
  have v3 : IntKind.i64.wrap (Q8 : Int) = (Q8 : Int) := wrap_in (by omega)
  rw [HQ8.out] at HRD
  clear hA8 hB8 hQ8
  by_cases hlen : n1 = Q8
  rotate_left
  · have hl1 : ((n1 : Int) == (Q8 : Int)) = false := by simp; omega
    have hl2 : ((n1 : Int) != (Q8 : Int)) = true := by simp [bne, hl1]
    have hl3 : decide ((n1 : Int) = (Q8 : Int)) = false := decide_eq_false (by omega)
    have HR : Hid (RES = (6, noPg)) := by show _ = _; rw [HRD.out, if_pos (Or.inr (Or.inr hlen))]
    clear HRD X7 O7 X0 hlen
    have D2 := below_setRow DW (g := w1.heap.size) (by omega) #[.slice none 0 0, .int .i64 0, .slice none 0 0, .slice none 0 0]
    go_wp2_with (refine wpList_store_row rfl 44 _ _ rfl w1.heap.size #[.slice none 0 0, .int .i64 0, .slice none 0 0, .slice none 0 0] rfl rfl 44 _ X4 Try.infoTg rfl (by simp [Value.oneCell']) ?_)
    refine bodyPost_ret (results_cBt rfl _ _ w1.heap.size #[.slice none 0 0, .int .i64 0, .slice none 0 0, .slice none 0 0] rfl (run_loadVar_row _ w1.heap.size _ _ _ _ _ (X4.row #[.slice none 0 0, .int .i64 0, .slice none 0 0, .slice none 0 0]) Try.underlying44 rfl Try.infoTg)) rfl ?_
    exact ⟨⟨⟨none, 0, 0⟩, 0, ⟨none, 0, 0⟩, ⟨none, 0, 0⟩⟩, by rw [HR.out]; rfl, by rw [HR.out]; exact noPg_at _, D2⟩
  subst hlen
  have hl1 : ((n1 : Int) == (n1 : Int)) = true := by simp
  have hl2 : ((n1 : Int) != (n1 : Int)) = false := by simp
  have HRE : Hid (RES = if ckN Vo D L (pgT m d k f r) = 0 then (0, pgT m d k f r) else (ckN Vo D L (pgT m d k f r), noPg)) := by show _ = _; rw [HRD.out, if_neg (by omega)]
  clear HRD
  have hdl : (r.drop k).length = n1 := by rw [List.length_drop, hN]; exact HN1.out.symm
  obtain ⟨R2, hR2⟩ : ∃ x, x = txt ((r.drop k).drop (4 * (m * (P * d)))) := ⟨_, rfl⟩
  obtain ⟨R3, hR3⟩ : ∃ x, x = txt (((r.drop k).drop (4 * (m * (P * d)))).drop (4 * (m * (P * d)))) := ⟨_, rfl⟩
  have LA := fun wv => rlists11_any (r.drop k) m P d wv hm4 hP2 hd32 (by have := HQ4.out; omega) (by omega)
  have LB := fun wv => rlists11_any ((r.drop k).drop (4 * (m * (P * d)))) m P d wv hm4 hP2 hd32 (by rw [List.length_drop, hdl]; have := HQ4.out; omega) (by rw [List.length_drop, hdl]; omega)
  rw [← HR1.out, ← hR2] at LA
  rw [← hR2, ← hR3] at LB
  clear hR2 hR3 hdl HR1
  go_wp2_with fail
  refine (LA _).mono ?_
  rintro e w5 ⟨g1, ⟨cp1, rfl⟩, N5, B5⟩
  have h7A := X7.lt
  replace X7 := X7.below B5
  replace O7 := owns_below O7 B5
  replace X0 := X0.below B5
  replace X4 := X4.below B5
  replace DW := below_then DW B5
  clear LA q1 q2 q3 v1 v2 v3 hl1 hl2 hz1 B5
  have y2 : w5.cell? ⟨w2.heap.size, 2, none⟩ = some (.slice none 0 0) := X7.cell 2 rfl
  have f2 := X7.frozen 2
  go_upto_region 19 with fail
  clear y2 f2
  have so : ∀ g, g ≠ w2.heap.size → (w5.setCell ⟨w2.heap.size, 2, none⟩ (.slice (some ⟨g1, 0, none⟩) m cp1)).heap[g]? = w5.heap[g]? := fun g hg => Below.heap_setCell _ _ _ g hg
  replace X7 : Blk (w5.setCell ⟨w2.heap.size, 2, none⟩ (.slice (some ⟨g1, 0, none⟩) m cp1)) w2.heap.size 44 #[.slice ta k tz, .int .i64 ((f : Nat) : Int), .slice (some ⟨g1, 0, none⟩) m cp1, .slice none 0 0] := X7.set 2 (.slice (some ⟨g1, 0, none⟩) m cp1)
  replace O7 := owns_mono O7 (Nat.le_refl _) (fun g e => so g (by have := (O7.lt g e).1; omega))
  replace X0 := X0.of_block (so _ (by omega))
  replace X4 := X4.of_block (so _ (by omega))
  replace DW : Below w.heap.size w (w5.setCell ⟨w2.heap.size, 2, none⟩ (.slice (some ⟨g1, 0, none⟩) m cp1)) := DW.setCell (p := ⟨w2.heap.size, 2, none⟩) (by show w.heap.size ≤ w2.heap.size; omega) _
  replace N5 := New.set N5 (a := ⟨w2.heap.size, 2, none⟩) (by show w2.heap.size < _; omega) (.slice (some ⟨g1, 0, none⟩) m cp1)
  generalize w5.setCell ⟨w2.heap.size, 2, none⟩ (.slice (some ⟨g1, 0, none⟩) m cp1) = w6 at *
  clear so
  go_wp2_with fail
  refine (LB _).mono ?_
  rintro e w7 ⟨g2, ⟨cp2, rfl⟩, N7, B7⟩
  have h7B := X7.lt
  replace X7 := X7.below B7
  replace O7 := owns_below O7 B7
  replace X0 := X0.below B7
  replace X4 := X4.below B7
  replace DW := below_then DW B7
  replace N5 := New.below N5 B7
  clear LB B7
  have y3 : w7.cell? ⟨w2.heap.size, 3, none⟩ = some (.slice none 0 0) := X7.cell 3 rfl
  have f3 := X7.frozen 3
  go_upto_region 20 with fail
  clear y3 f3
  have so : ∀ g, g ≠ w2.heap.size → (w7.setCell ⟨w2.heap.size, 3, none⟩ (.slice (some ⟨g2, 0, none⟩) m cp2)).heap[g]? = w7.heap[g]? := fun g hg => Below.heap_setCell _ _ _ g hg
  replace X7 : Blk (w7.setCell ⟨w2.heap.size, 3, none⟩ (.slice (some ⟨g2, 0, none⟩) m cp2)) w2.heap.size 44 #[.slice ta k tz, .int .i64 ((f : Nat) : Int), .slice (some ⟨g1, 0, none⟩) m cp1, .slice (some ⟨g2, 0, none⟩) m cp2] := X7.set 3 (.slice (some ⟨g2, 0, none⟩) m cp2)
  replace O7 := owns_mono O7 (Nat.le_refl _) (fun g e => so g (by have := (O7.lt g e).1; omega))
  replace X0 := X0.of_block (so _ (by omega))
  replace X4 := X4.of_block (so _ (by omega))
  replace DW : Below w.heap.size w (w7.setCell ⟨w2.heap.size, 3, none⟩ (.slice (some ⟨g2, 0, none⟩) m cp2)) := DW.setCell (p := ⟨w2.heap.size, 3, none⟩) (by show w.heap.size ≤ w2.heap.size; omega) _
  replace N5 := New.set N5 (a := ⟨w2.heap.size, 3, none⟩) (by show w2.heap.size < _; omega) (.slice (some ⟨g2, 0, none⟩) m cp2)
  replace N7 := New.set N7 (a := ⟨w2.heap.size, 3, none⟩) (by show w2.heap.size < _; omega) (.slice (some ⟨g2, 0, none⟩) m cp2)
  generalize w7.setCell ⟨w2.heap.size, 3, none⟩ (.slice (some ⟨g2, 0, none⟩) m cp2) = w8 at *
  clear so
  obtain ⟨xa, xc, e9, IT⟩ := IOwn.arg (A := tokB8 r k) O7 (tokB8_small r k)
  simp only [Value.slice.injEq, true_and] at e9
  obtain ⟨rfl, rfl⟩ := e9
  have PA : PgAt w8 ⟨⟨ta, k, tz⟩, (f : Int), ⟨some ⟨g1, 0, none⟩, m, cp1⟩, ⟨some ⟨g2, 0, none⟩, m, cp2⟩⟩ (pgT m d k f r) := by
    unfold pgT
    rw [← HP.out]
    exact ⟨IT, rfl, N5.now, N7.now⟩
  have hF9 : -9223372036854775808 ≤ (pgT m d k f r).F ∧ (pgT m d k f r).F ≤ 9223372036854775807 := by show -9223372036854775808 ≤ (f : Int) ∧ (f : Int) ≤ 9223372036854775807; omega
  have CKp := CK _ _ w8 PA hF9
  rw [show (PgV.cells ⟨⟨ta, k, tz⟩, (f : Int), ⟨some ⟨g1, 0, none⟩, m, cp1⟩, ⟨some ⟨g2, 0, none⟩, m, cp2⟩⟩) = #[.slice ta k tz, .int .i64 ((f : Nat) : Int), .slice (some ⟨g1, 0, none⟩) m cp1, .slice (some ⟨g2, 0, none⟩) m cp2] from rfl] at CKp
  clear IT CK hF9
  have a0 : w8.cell? ⟨w.heap.size, 0, none⟩ = some (.int .i64 Vo) := X0.cell 0 rfl
  have a1 : w8.cell? ⟨w.heap.size, 1, none⟩ = some (.int .i64 D) := X0.cell 1 rfl
  have a2 : w8.cell? ⟨w.heap.size, 2, none⟩ = some (.int .i64 Hd) := X0.cell 2 rfl
  have a3 : w8.cell? ⟨w.heap.size, 3, none⟩ = some (.int .i64 H) := X0.cell 3 rfl
  have a4 : w8.cell? ⟨w.heap.size, 4, none⟩ = some (.int .i64 L) := X0.cell 4 rfl
  obtain ⟨XX, hXX⟩ : ∃ x, x = pgT m d k f r := ⟨_, rfl⟩
  have HXX : Hid (XX = pgT m d k f r) := hXX
  rw [← hXX] at HRE PA CKp
  clear hXX
  generalize ckN Vo D L XX = q at *
  go_wp2_with (refine wpList_load_row rfl 44 _ rfl w2.heap.size rfl 44 #[.slice ta k tz, .int .i64 ((f : Nat) : Int), .slice (some ⟨g1, 0, none⟩) m cp1, .slice (some ⟨g2, 0, none⟩) m cp2] (0, 0) _ X7 Try.underlying44 rfl Try.infoTg ?_)
  refine CKp.mono ?_
  rintro e w9 ⟨rfl, B9⟩
  replace X7 := X7.below B9
  replace X4 := X4.below B9
  replace DW := below_then DW B9
  replace N5 := New.below N5 B9
  replace N7 := New.below N7 B9
  replace O7 := owns_below O7 B9
  clear B9 CKp a0 a1 a2 a3 a4 X0 PA
  by_cases hq : q = 0
  rotate_left
  · have HR : Hid (RES = (q, noPg)) := by show _ = _; rw [HRE.out, if_neg hq]
    have hq1 : (q == 0) = false := by simpa using hq
    have hq2 : (q != 0) = true := by simp [bne, hq1]
    clear HRE X7 N5 N7 O7 hq
    have D2 := below_setRow DW (g := w1.heap.size) (by omega) #[.slice none 0 0, .int .i64 0, .slice none 0 0, .slice none 0 0]
    go_wp2_with (refine wpList_store_row rfl 44 _ _ rfl w1.heap.size #[.slice none 0 0, .int .i64 0, .slice none 0 0, .slice none 0 0] rfl rfl 44 _ X4 Try.infoTg rfl (by simp [Value.oneCell']) ?_)
    refine bodyPost_ret (results_cBt rfl _ _ w1.heap.size #[.slice none 0 0, .int .i64 0, .slice none 0 0, .slice none 0 0] rfl (run_loadVar_row _ w1.heap.size _ _ _ _ _ (X4.row #[.slice none 0 0, .int .i64 0, .slice none 0 0, .slice none 0 0]) Try.underlying44 rfl Try.infoTg)) rfl ?_
    exact ⟨⟨⟨none, 0, 0⟩, 0, ⟨none, 0, 0⟩, ⟨none, 0, 0⟩⟩, by rw [HR.out]; rfl, by rw [HR.out]; exact noPg_at _, D2⟩
  subst hq
  have HR : Hid (RES = (0, XX)) := by show _ = _; rw [HRE.out, if_pos rfl]
  clear HRE
  have D2 := below_setRow DW (g := w1.heap.size) (by omega) #[.slice ta k tz, .int .i64 ((f : Nat) : Int), .slice (some ⟨g1, 0, none⟩) m cp1, .slice (some ⟨g2, 0, none⟩) m cp2]
  go_wp2_with (first | (refine wpList_load_row rfl 44 _ rfl w2.heap.size rfl 44 #[.slice ta k tz, .int .i64 ((f : Nat) : Int), .slice (some ⟨g1, 0, none⟩) m cp1, .slice (some ⟨g2, 0, none⟩) m cp2] (0, 0) _ X7 Try.underlying44 rfl Try.infoTg ?_) | (refine wpList_store_row rfl 44 _ _ rfl w1.heap.size #[.slice ta k tz, .int .i64 ((f : Nat) : Int), .slice (some ⟨g1, 0, none⟩) m cp1, .slice (some ⟨g2, 0, none⟩) m cp2] rfl rfl 44 _ X4 Try.infoTg rfl (by simp [Value.oneCell']) ?_))
  refine bodyPost_ret (results_cBt rfl _ _ w1.heap.size #[.slice ta k tz, .int .i64 ((f : Nat) : Int), .slice (some ⟨g1, 0, none⟩) m cp1, .slice (some ⟨g2, 0, none⟩) m cp2] rfl (run_loadVar_row _ w1.heap.size _ _ _ _ _ (X4.row #[.slice ta k tz, .int .i64 ((f : Nat) : Int), .slice (some ⟨g1, 0, none⟩) m cp1, .slice (some ⟨g2, 0, none⟩) m cp2]) Try.underlying44 rfl Try.infoTg)) rfl ?_
  have so : ∀ g, g ≠ w1.heap.size → (w9.setRow w1.heap.size #[.slice ta k tz, .int .i64 ((f : Nat) : Int), .slice (some ⟨g1, 0, none⟩) m cp1, .slice (some ⟨g2, 0, none⟩) m cp2]).heap[g]? = w9.heap[g]? := fun g hg => setRow_other _ _ _ _ hg
  have M5 := (New.row N5 (g := w1.heap.size) (by omega) #[.slice ta k tz, .int .i64 ((f : Nat) : Int), .slice (some ⟨g1, 0, none⟩) m cp1, .slice (some ⟨g2, 0, none⟩) m cp2]).now
  have M7 := (New.row N7 (g := w1.heap.size) (by omega) #[.slice ta k tz, .int .i64 ((f : Nat) : Int), .slice (some ⟨g1, 0, none⟩) m cp1, .slice (some ⟨g2, 0, none⟩) m cp2]).now
  obtain ⟨xa, xc, e9, IT⟩ := IOwn.arg (A := tokB8 r k) (owns_mono O7 (Nat.le_refl _) (fun g e => so g (by have := (O7.lt g e).1; omega))) (tokB8_small r k)
  simp only [Value.slice.injEq, true_and] at e9
  obtain ⟨rfl, rfl⟩ := e9
  refine ⟨⟨⟨ta, k, tz⟩, (f : Int), ⟨some ⟨g1, 0, none⟩, m, cp1⟩, ⟨some ⟨g2, 0, none⟩, m, cp2⟩⟩, by rw [HR.out]; rfl, ?_, D2⟩
  rw [HR.out, HXX.out]
  show PgAt _ _ (pgT m d k f r)
  unfold pgT
  rw [← HP.out]
  exact ⟨IT, rfl, M5, M7⟩
end Go.Proofs.Ytpplnjmjldhlbaa

/- The document's Bytes of layer 11. Laid by tools/genrnum11.py. -/
namespace Go.Proofs.Ytpplnjmjldhlbaa
open Go.ChangeShapes Go.WideShapes Go.ChangeAt Go.RowKit Go.Deep
theorem conv2J (W : World) (x y : Int) (Y : ByteArray) (hY : Y = txt [byteOf x, byteOf y]) : (convert 84 9 (.slice (some ⟨W.heap.size, 0, none⟩) 2 2)).run Try.prog (W.alloc (.cells #[.int .u8 (x % 256), .int .u8 (y % 256)] 5)) = .ok (.string Y) (W.alloc (.cells #[.int .u8 (x % 256), .int .u8 (y % 256)] 5)) := by
  subst hY
  exact run_convert_bytes_back (P := Try.prog) (W.alloc (.cells #[.int .u8 (x % 256), .int .u8 (y % 256)] 5)) 84 9 5 ⟨W.heap.size, 0, none⟩ 2 [byteOf x, byteOf y] Try.underlying84 Try.underlying5 Try.underlying9 (fun j hj => by
    have e := heap_alloc_new W (.cells #[.int .u8 (x % 256), .int .u8 (y % 256)] 5)
    rw [Addr.add_mid, Nat.zero_add]
    unfold World.cell?
    simp only [e]
    have hj2 : j < 2 := hj
    match j, hj, hj2 with
    | 0, _, _ => show some (Value.int .u8 (x % 256)) = some (Value.int .u8 ((byteOf x).toNat : Int)); rw [byteOf_toNat]
    | 1, _, _ => show some (Value.int .u8 (y % 256)) = some (Value.int .u8 ((byteOf y).toNat : Int)); rw [byteOf_toNat])
theorem conv1J (W : World) (x : Int) (Y : ByteArray) (hY : Y = txt [byteOf x]) : (convert 84 9 (.slice (some ⟨W.heap.size, 0, none⟩) 1 1)).run Try.prog (W.alloc (.cells #[.int .u8 (x % 256)] 5)) = .ok (.string Y) (W.alloc (.cells #[.int .u8 (x % 256)] 5)) := by
  subst hY
  exact run_convert_bytes_back (P := Try.prog) (W.alloc (.cells #[.int .u8 (x % 256)] 5)) 84 9 5 ⟨W.heap.size, 0, none⟩ 1 [byteOf x] Try.underlying84 Try.underlying5 Try.underlying9 (fun j hj => one_byte W x j hj)
set_option maxRecDepth 100000 in
set_option maxHeartbeats 3200000 in
theorem rbytes11_any (p : PgV) (X : Pg) (w : World) (hp : PgAt w p X) (hF : -9223372036854775808 ≤ X.F ∧ X.F ≤ 9223372036854775807) (hT : X.T.length ≤ 1000) (hsz : (cubeB X.K).length + (cubeB X.V).length ≤ 900000) :
   Calls Try.prog 23 #[.agg p.cells] w fun e w' => e = .returned (.string (txt (pageB X))) ∧ Below w.heap.size w w' := by
  have hTl := hp.t.row.len
  have htm := hp.t.row.max
  have hpf : p.f = X.F := hp.f
  have HT : Hid (∀ wv, Below w.heap.size w wv → IArg wv p.t.ao p.t.n p.t.c X.T) := fun wv hb => hp.t.below hb
  have NK := fun wv (hb : Below w.heap.size w wv) => numbers_any p.k.ao p.k.n p.k.c X.K wv (hp.k.below hb) (by omega)
  have NV := fun wv (hb : Below w.heap.size w wv) => numbers_any p.v.ao p.v.n p.v.c X.V wv (hp.v.below hb) (by omega)
  obtain ⟨⟨ta, tn, tz⟩, F, ⟨ka, kn, kz⟩, ⟨va, vn, vz⟩⟩ := p
  simp only at hTl htm hpf HT NK NV
  have HTL : Hid (X.T.length = tn) := hTl
  have hFb : -9223372036854775808 ≤ F ∧ F ≤ 9223372036854775807 := by rw [hpf]; exact hF
  have hpg : pageB X = (([byteOf (tn : Int), byteOf F] ++ X.T.map byteOf) ++ cubeB X.K) ++ cubeB X.V := by unfold pageB; rw [hTl, ← hpf]
  have htn : tn ≤ 1000 := by omega
  obtain ⟨SK, hSK⟩ : ∃ S, S = txt (cubeB X.K) := ⟨_, rfl⟩
  obtain ⟨SV, hSV⟩ : ∃ S, S = txt (cubeB X.V) := ⟨_, rfl⟩
  obtain ⟨S1, hS1⟩ : ∃ S, S = txt (([byteOf (tn : Int), byteOf F] ++ X.T.map byteOf) ++ cubeB X.K) := ⟨_, rfl⟩
  obtain ⟨S2, hS2⟩ : ∃ S, S = txt (pageB X) := ⟨_, rfl⟩
  rw [← hSK] at NK
  rw [← hSV] at NV
  rw [← hS2]
  have A1 := fun (S0 : ByteArray) (h0 : S0 = txt ([byteOf (tn : Int), byteOf F] ++ X.T.map byteOf)) => add_txtJ _ _ S0 SK S1 h0 hSK hS1 (by simp only [List.length_append, List.length_map, List.length_cons, List.length_nil]; omega)
  have A2 := add_txtJ _ _ S1 SV S2 hS1 hSV (by rw [hS2, hpg]) (by simp only [List.length_append, List.length_map, List.length_cons, List.length_nil]; omega)
  show Calls Try.prog 23 #[.agg #[.slice ta tn tz, .int .i64 F, .slice ka kn kz, .slice va vn vz]] w _
  clear hp hpf hTl hpg hSK hSV hS1 hS2 hF hT hsz
  have X0 := blk_new w 44 #[.slice ta tn tz, .int .i64 F, .slice ka kn kz, .slice va vn vz]
  have B0 : Below w.heap.size w (w.alloc (.cells #[.slice ta tn tz, .int .i64 F, .slice ka kn kz, .slice va vn vz] 44)) := (Below.refl _ _).alloc (Nat.le_refl _) _
  generalize hw0 : w.alloc (.cells #[.slice ta tn tz, .int .i64 F, .slice ka kn kz, .slice va vn vz] 44) = w0 at *
  have c0 : w0.cell? ⟨w.heap.size, 0, none⟩ = some (.slice ta tn tz) := X0.cell 0 rfl
  have c1 : w0.cell? ⟨w.heap.size, 1, none⟩ = some (.int .i64 F) := X0.cell 1 rfl
  obtain ⟨S0, hS0⟩ : ∃ S, S = txt [byteOf (tn : Int), byteOf F] := ⟨_, rfl⟩
  have CV2 := conv2J w0 (tn : Int) F S0 hS0
  have BA : Below w0.heap.size w0 (w0.alloc (.cells #[.int .u8 ((tn : Int) % 256), .int .u8 (F % 256)] 5)) := (Below.refl _ _).alloc (Nat.le_refl _) _
  have c0' : (w0.alloc (.cells #[.int .u8 ((tn : Int) % 256), .int .u8 (F % 256)] 5)).cell? ⟨w.heap.size, 0, none⟩ = some (.slice ta tn tz) := (X0.below BA).cell 0 rfl
  generalize hw1 : w0.alloc (.cells #[.int .u8 ((tn : Int) % 256), .int .u8 (F % 256)] 5) = w1 at *
  replace X0 := X0.below BA
  have D1 := below_then B0 BA
  have HS0 : Hid (S0 = txt ([byteOf (tn : Int), byteOf F] ++ (X.T.take 0).map byteOf)) := by show _ = _; rw [hS0, List.take_zero]; rfl
  clear hS0 B0 BA
  go_enter Try.func23, Try.ntmps23
  go_upto_region 3 with fail
  clear hw0 hw1 CV2 c0 c0' c1
  go_loopg [3, 18] tn (fun r s3 s18 wr => ∃ (k : Nat) (S : ByteArray), k ≤ tn ∧ r = tn - k ∧ s18 = .int .i64 (k : Int) ∧ s3 = .string S ∧ Hid (S = txt ([byteOf (tn : Int), byteOf F] ++ (X.T.take k).map byteOf)) ∧ Blk wr w.heap.size 44 #[.slice ta tn tz, .int .i64 F, .slice ka kn kz, .slice va vn vz] ∧ Below w.heap.size w wr)
  case atStart => exact ⟨0, S0, by omega, by omega, rfl, rfl, HS0, X0, D1⟩
  case round =>
    clear HS0 X0 D1
    obtain ⟨k, S, hk, rfl, rfl, rfl, HS, X0, DR⟩ := hrel
    by_cases hlt : k < tn
    · obtain ⟨b, o, rfl, hc⟩ := (HT.out wr DR).row.cells (by omega)
      have ck := hc k hlt
      have sx := (HT.out wr DR).row.small k
      have HMT : Hid ((X.T.take (k + 1)).map byteOf = (X.T.take k).map byteOf ++ [byteOf (el X.T k)]) := map_take (by rw [HTL.out]; exact hlt)
      clear hc
      generalize el X.T k = x at *
      obtain ⟨NX, hNX⟩ : ∃ NX, NX = txt [byteOf x] := ⟨_, rfl⟩
      obtain ⟨T2, hT2⟩ : ∃ T2, T2 = txt (([byteOf (tn : Int), byteOf F] ++ (X.T.take k).map byteOf) ++ [byteOf x]) := ⟨_, rfl⟩
      have hcv := conv1J wr x NX hNX
      have had := add_txtJ _ _ S NX T2 HS.out hNX hT2 (by simp only [List.length_append, List.length_map, List.length_cons, List.length_nil, List.length_take]; omega)
      have HT2 : Hid (T2 = txt ([byteOf (tn : Int), byteOf F] ++ ((X.T.take k).map byteOf ++ [byteOf x]))) := by show _ = _; rw [hT2, List.append_assoc]
      have BA : Below wr.heap.size wr (wr.alloc (.cells #[.int .u8 (x % 256)] 5)) := (Below.refl _ _).alloc (Nat.le_refl _) _
      have DA := below_then DR BA
      replace X0 := X0.below BA
      generalize hwA : wr.alloc (.cells #[.int .u8 (x % 256)] 5) = wA at *
      clear hNX hT2 HS BA
      go_wp2_with fail
      go_roundg (tn - (k + 1))
      case measure => omega
      case rel => exact ⟨k + 1, T2, by omega, rfl, by go_num, rfl, by rw [HMT.out]; exact HT2, X0, DA⟩
    · obtain rfl : k = tn := by omega
      have A0 := A1 S (by rw [HS.out, List.take_of_length_le (by rw [HTL.out]; exact Nat.le_refl _)])
      clear A1 HS
      go_upto_region 7 with fail
      have BD : Below wr.heap.size wr wr.drew := (Below.refl _ wr).drew
      replace X0 := X0.below BD
      replace DR := below_then DR BD
      clear BD
      refine wp_region_held_drew (S := fun w' => Blk w' w.heap.size 44 #[.slice ta k tz, .int .i64 F, .slice ka kn kz, .slice va vn vz]) (by kernel_rfl) (X0) (fun hHeld => ?_)
      generalize hA : wr.drew = wA at *
      clear hA
      refine wpAnyH_take (i := 0) (v := (.string S)) rfl (by kernel_rfl) (by kernel_rfl) (by kernel_rfl) (fun _ _ _ h => h) (Or.inl ⟨by rfl, ?_⟩) (by assumption) ?_
      · intro w' hSw
        go_simp
      simp only [List.getElem_toArray, List.getElem_cons_zero, Act.put, List.setIfInBounds_toArray, List.set_cons_zero, List.set_cons_succ]
      refine wpAnyH_take (i := 1) (v := (.pointer (some ⟨w.heap.size, 2, none⟩))) rfl (by kernel_rfl) (by kernel_rfl) (by kernel_rfl) (fun _ _ _ h => h) (Or.inl ⟨by rfl, ?_⟩) (by assumption) ?_
      · intro w' hSw
        go_simp
      simp only [List.getElem_toArray, List.getElem_cons_succ, List.getElem_cons_zero, Act.put, List.setIfInBounds_toArray, List.set_cons_zero, List.set_cons_succ]
      refine wpAnyH_take (i := 2) (v := (.slice ka kn kz)) rfl (by kernel_rfl) (by kernel_rfl) (by kernel_rfl) (fun _ _ _ h => h) (Or.inl ⟨by rfl, ?_⟩) (by assumption) ?_
      · intro w' hSw
        have y0 : w'.cell? ⟨w.heap.size, 2, none⟩ = some (.slice ka kn kz) := hSw.cell 2 rfl
        go_simp
      simp only [List.getElem_toArray, List.getElem_cons_succ, List.getElem_cons_zero, Act.put, List.setIfInBounds_toArray, List.set_cons_zero, List.set_cons_succ]
      refine wpAnyH_take (i := 5) (v := (.pointer (some ⟨w.heap.size, 3, none⟩))) rfl (by kernel_rfl) (by kernel_rfl) (by kernel_rfl) (fun _ _ _ h => h) (Or.inl ⟨by rfl, ?_⟩) (by assumption) ?_
      · intro w' hSw
        go_simp
      simp only [List.getElem_toArray, List.getElem_cons_succ, List.getElem_cons_zero, Act.put, List.setIfInBounds_toArray, List.set_cons_zero, List.set_cons_succ]
      refine wpAnyH_take (i := 6) (v := (.slice va vn vz)) rfl (by kernel_rfl) (by kernel_rfl) (by kernel_rfl) (fun _ _ _ h => h) (Or.inl ⟨by rfl, ?_⟩) (by assumption) ?_
      · intro w' hSw
        have y0 : w'.cell? ⟨w.heap.size, 3, none⟩ = some (.slice va vn vz) := hSw.cell 3 rfl
        go_simp
      simp only [List.getElem_toArray, List.getElem_cons_succ, List.getElem_cons_zero, Act.put, List.setIfInBounds_toArray, List.set_cons_zero, List.set_cons_succ]
      refine wpAnyH_ready (rs := [3]) (by kernel_rfl) (by simp) ?_
      refine AllReadyH.cons rfl (fun Kc hKc => ?_) AllReadyH.nil
      simp only [List.getElem_toArray, List.getElem_cons_succ, List.getElem_cons_zero]
      rw [if_pos (by rfl)]
      go_wp2_with fail
      refine (NK _ DR).mono ?_
      rintro e w5 ⟨rfl, EM⟩
      replace X0 := X0.below EM
      replace DR := below_then DR EM
      clear EM
      go_wp2_with fail
      refine hKc.out _ _ (X0) (fun hHeld => ?_)
      clear hKc Kc
      refine wpAnyH_take (i := 4) (v := (.string S1)) rfl (by kernel_rfl) (by kernel_rfl) (by kernel_rfl) (fun _ _ _ h => h) (Or.inl ⟨by rfl, ?_⟩) (by assumption) ?_
      · intro w' hSw
        have y1 := A0 w'
        go_simp
      simp only [List.getElem_toArray, List.getElem_cons_succ, List.getElem_cons_zero, Act.put, List.setIfInBounds_toArray, List.set_cons_zero, List.set_cons_succ]
      refine wpAnyH_ready (rs := [7]) (by kernel_rfl) (by simp) ?_
      refine AllReadyH.cons rfl (fun Kc hKc => ?_) AllReadyH.nil
      simp only [List.getElem_toArray, List.getElem_cons_succ, List.getElem_cons_zero]
      rw [if_pos (by rfl)]
      go_wp2_with fail
      refine (NV _ DR).mono ?_
      rintro e w5 ⟨rfl, EM⟩
      replace X0 := X0.below EM
      replace DR := below_then DR EM
      clear EM
      go_wp2_with fail
      refine hKc.out _ _ (X0) (fun hHeld => ?_)
      clear hKc Kc
      refine wpAnyH_take (i := 8) (v := (.string S2)) rfl (by kernel_rfl) (by kernel_rfl) (by kernel_rfl) (fun _ _ _ h => h) (Or.inl ⟨by rfl, ?_⟩) (by assumption) ?_
      · intro w' hSw
        have y1 := A2 w'
        go_simp
      simp only [List.getElem_toArray, List.getElem_cons_succ, List.getElem_cons_zero, Act.put, List.setIfInBounds_toArray, List.set_cons_zero, List.set_cons_succ]
      refine wpAnyH_take (i := 9) (v := (.string S2)) rfl (by kernel_rfl) (by kernel_rfl) (by kernel_rfl) (fun _ _ _ h => h) (Or.inl ⟨by rfl, ?_⟩) (by assumption) ?_
      · intro w' hSw
        go_simp
      simp only [List.getElem_toArray, List.getElem_cons_succ, List.getElem_cons_zero, Act.put, List.setIfInBounds_toArray, List.set_cons_zero, List.set_cons_succ]
      refine wpAnyH_done (by kernel_rfl) ?_ _
      clear hHeld
      go_wp2_with fail
      go_ret
      exact ⟨rfl, DR⟩
end Go.Proofs.Ytpplnjmjldhlbaa

/- Package block: what is written reads back. -/
namespace Go.Proofs.Ytpplnjmjldhlbaa
open Go.ChangeShapes Go.WideShapes Go.ChangeAt Go.RowKit
theorem byteOf_nat (x : Int) : (byteOf x).toNat = (x % 256).toNat := by
  have := byteOf_toNat x
  omega
theorem back_num (x : Int) (h : -2147483648 ≤ x ∧ x ≤ 2147483647) : toI (valB (numB x)) = x := by
  have e : valB (numB x) = ((((byteOf (x / 16777216)).toNat) * 256 + (byteOf (x / 65536)).toNat) * 256 + (byteOf (x / 256)).toNat) * 256 + (byteOf x).toNat := by
    show ((((0 * 256 + (byteOf (x / 16777216)).toNat) * 256 + (byteOf (x / 65536)).toNat) * 256 + (byteOf (x / 256)).toNat) * 256 + (byteOf x).toNat) = _
    rw [Nat.zero_mul, Nat.zero_add]
  rw [e, byteOf_nat, byteOf_nat, byteOf_nat, byteOf_nat]
  unfold toI
  simp [IntKind.wrap, IntKind.bits, IntKind.signed]
  omega
theorem drop_flat (rest : List UInt8) : ∀ (ns : List Int) (q : Nat), q ≤ ns.length → (ns.flatMap numB ++ rest).drop (4 * q) = (ns.drop q).flatMap numB ++ rest
  | ns, 0, _ => by simp
  | [], q + 1, h => by simp at h
  | x :: ns, q + 1, h => by
    have ih := drop_flat rest ns q (by simpa using h)
    rw [List.flatMap_cons, List.append_assoc, show 4 * (q + 1) = (numB x).length + 4 * q by show _ = 4 + 4 * q; omega, ← List.drop_drop, List.drop_left, List.drop_succ_cons]
    exact ih
theorem num_flat (rest : List UInt8) (ns : List Int) (q : Nat) (hq : q < ns.length) (hs : -2147483648 ≤ el ns q ∧ el ns q ≤ 2147483647) : numAt (ns.flatMap numB ++ rest) q = el ns q := by
  have e : ns.drop q = el ns q :: ns.drop (q + 1) := by
    rw [List.drop_eq_getElem_cons hq]
    unfold el
    rw [List.getD_eq_getElem?_getD, List.getElem?_eq_getElem hq]
    rfl
  unfold numAt
  rw [drop_flat rest ns q (by omega), e, List.flatMap_cons, List.append_assoc, List.take_left' (by rfl)]
  exact back_num _ hs
theorem el_left {A B : List Int} {k : Nat} (h : k < A.length) : el (A ++ B) k = el A k := by
  unfold el
  rw [List.getD_eq_getElem?_getD, List.getD_eq_getElem?_getD, List.getElem?_append_left h]
theorem el_right {A B : List Int} {k : Nat} (h : A.length ≤ k) : el (A ++ B) k = el B (k - A.length) := by
  unfold el
  rw [List.getD_eq_getElem?_getD, List.getD_eq_getElem?_getD, List.getElem?_append_right h]
theorem flat_length (d : Nat) : ∀ R : List (List Int), (∀ r ∈ R, r.length = d) → R.flatten.length = R.length * d
  | [], _ => by simp
  | r :: R, h => by
    rw [List.flatten_cons, List.length_append, flat_length d R (fun x hx => h x (List.mem_cons_of_mem _ hx)), h r List.mem_cons_self, List.length_cons, Nat.succ_mul]
    omega
theorem el_flat (d : Nat) : ∀ (R : List (List Int)) (t j : Nat), (∀ r ∈ R, r.length = d) → t < R.length → j < d → el R.flatten (t * d + j) = el (R.getD t []) j
  | [], t, j, _, h, _ => by simp at h
  | r :: R, 0, j, h, _, hj => by
    rw [List.flatten_cons, Nat.zero_mul, Nat.zero_add, el_left (by rw [h r List.mem_cons_self]; exact hj)]
    rfl
  | r :: R, t + 1, j, h, ht, hj => by
    have hr := h r List.mem_cons_self
    rw [List.flatten_cons, Nat.succ_mul, el_right (by rw [hr]; omega), hr, show t * d + d + j - d = t * d + j by omega, el_flat d R t j (fun x hx => h x (List.mem_cons_of_mem _ hx)) (by simpa using ht) hj]
    rfl
theorem flatMap_flat {α : Type} (f : Int → List α) : ∀ R : List (List Int), R.flatMap (fun r => r.flatMap f) = R.flatten.flatMap f
  | [] => rfl
  | r :: R => by rw [List.flatMap_cons, List.flatten_cons, List.flatMap_append, flatMap_flat f R]
theorem gridB_flat (R : List (List Int)) : gridB R = R.flatten.flatMap numB := flatMap_flat numB R
def flatC (C : List (List (List Int))) : List Int := (C.map List.flatten).flatten
theorem cubeB_flat : ∀ C : List (List (List Int)), cubeB C = (flatC C).flatMap numB
  | [] => rfl
  | R :: C => by
    have ih := cubeB_flat C
    unfold cubeB flatC at *
    rw [List.flatMap_cons, List.map_cons, List.flatten_cons, List.flatMap_append, ih, gridB_flat]
/-- Lists of P rows of d numbers, none too great. -/
def Dims (P d : Nat) (C : List (List (List Int))) : Prop := ∀ R ∈ C, R.length = P ∧ ∀ r ∈ R, r.length = d ∧ ∀ x ∈ r, -2147483648 ≤ x ∧ x ≤ 2147483647
theorem dims_flat {P d : Nat} {C : List (List (List Int))} (h : Dims P d C) : ∀ r ∈ C.map List.flatten, r.length = P * d := fun r hr => by
  obtain ⟨R, hR, rfl⟩ := List.mem_map.1 hr
  rw [flat_length d R (fun x hx => ((h R hR).2 x hx).1), (h R hR).1]
theorem flatMap_len (ns : List Int) : (ns.flatMap numB).length = 4 * ns.length := by
  induction ns with
  | nil => rfl
  | cons x ns ih => rw [List.flatMap_cons, List.length_append, ih, List.length_cons]; show 4 + _ = _; omega
theorem cubeB_len {P d : Nat} {C : List (List (List Int))} (h : Dims P d C) : (cubeB C).length = 4 * (C.length * (P * d)) := by
  rw [cubeB_flat, flatMap_len]
  unfold flatC
  rw [flat_length (P * d) _ (dims_flat h), List.length_map]
theorem cube_back {P d : Nat} {C : List (List (List Int))} (h : Dims P d C) (rest : List UInt8) : cubeT (cubeB C ++ rest) C.length P d = C := by
  unfold cubeT
  refine List.ext_getElem (by simp) fun i h1 h2 => ?_
  rw [List.getElem_map, List.getElem_range]
  have hR : C[i] ∈ C := List.getElem_mem _
  obtain ⟨hP, hr⟩ := h _ hR
  refine List.ext_getElem (by simp [hP]) fun t h3 h4 => ?_
  rw [List.getElem_map, List.getElem_range]
  have hrm : C[i][t] ∈ C[i] := List.getElem_mem _
  obtain ⟨hd, hx⟩ := hr _ hrm
  unfold rowT
  refine ext_el (by rw [tab_len, hd]) fun j hj => ?_
  rw [tab_len] at hj
  rw [el_tab hj]
  have htP : t < P := by rw [← hP]; exact h4
  have hb : t * d + j < P * d := by
    have : (t + 1) * d ≤ P * d := Nat.mul_le_mul_right d htP
    rw [Nat.succ_mul] at this
    omega
  have hfl : (flatC C).length = C.length * (P * d) := by unfold flatC; rw [flat_length (P * d) _ (dims_flat h), List.length_map]
  have hq : i * (P * d) + t * d + j < (flatC C).length := by
    rw [hfl]
    have : (i + 1) * (P * d) ≤ C.length * (P * d) := Nat.mul_le_mul_right _ h2
    rw [Nat.succ_mul] at this
    omega
  have ee : el (flatC C) (i * (P * d) + t * d + j) = el C[i][t] j := by
    unfold flatC
    rw [Nat.add_assoc, el_flat (P * d) _ i (t * d + j) (dims_flat h) (by rw [List.length_map]; exact h2) hb]
    rw [List.getD_eq_getElem?_getD, List.getElem?_map, List.getElem?_eq_getElem h2]
    show el C[i].flatten (t * d + j) = _
    rw [el_flat d C[i] t j (fun x hx => (hr x hx).1) h4 hj, List.getD_eq_getElem?_getD, List.getElem?_eq_getElem h4]
    rfl
  rw [cubeB_flat, num_flat rest _ _ hq ?_]
  · exact ee
  · rw [ee]
    exact hx _ (by unfold el; rw [List.getD_eq_getElem?_getD, List.getElem?_eq_getElem (by rw [hd]; exact hj)]; exact List.getElem_mem _)
/-- The page of the bytes of a page that is right. -/
theorem ck_dims {Vo L : Int} {D : Nat} {X : Pg} (h : ckN Vo D L X = 0) (hs : ∀ R ∈ X.K, ∀ r ∈ R, ∀ x ∈ r, -2147483648 ≤ x ∧ x ≤ 2147483647) (hv : ∀ R ∈ X.V, ∀ r ∈ R, ∀ x ∈ r, -2147483648 ≤ x ∧ x ≤ 2147483647) : Dims (X.T.length - X.F.toNat) D X.K ∧ Dims (X.T.length - X.F.toNat) D X.V := by
  obtain ⟨h1, h2, h3, h4, h5, h6⟩ := ck_zero h
  obtain ⟨j1, j2, j3, j4⟩ := plB_true h1
  refine ⟨fun R hR => ?_, fun R hR => ?_⟩
  · obtain ⟨q1, q2⟩ := rfB_spec h5 R hR
    exact ⟨by omega, fun r hr => ⟨by have := q2 r hr; omega, hs R hR r hr⟩⟩
  · obtain ⟨q1, q2⟩ := rfB_spec h6 R hR
    exact ⟨by omega, fun r hr => ⟨by have := q2 r hr; omega, hv R hR r hr⟩⟩
theorem byteOf_small {n : Nat} (h : n < 256) : (byteOf (n : Int)).toNat = n := by rw [byteOf_nat]; omega
theorem pageB_form (X : Pg) : pageB X = byteOf (X.T.length : Int) :: byteOf X.F :: (X.T.map byteOf ++ (cubeB X.K ++ cubeB X.V)) := by
  unfold pageB
  simp
theorem page_len {Vo : Int} {D L : Nat} {X : Pg} (h : ckN Vo D L X = 0) (hs : ∀ R ∈ X.K, ∀ r ∈ R, ∀ x ∈ r, -2147483648 ≤ x ∧ x ≤ 2147483647) (hv : ∀ R ∈ X.V, ∀ r ∈ R, ∀ x ∈ r, -2147483648 ≤ x ∧ x ≤ 2147483647) :
    (X.T.map byteOf ++ (cubeB X.K ++ cubeB X.V)).length = X.T.length + 8 * (X.T.length - X.F.toNat) * L * D := by
  obtain ⟨dk, dv⟩ := ck_dims h hs hv
  obtain ⟨h1, h2, h3, h4, h5, h6⟩ := ck_zero h
  have hK : X.K.length = L := by omega
  have hV : X.V.length = L := by omega
  rw [List.length_append, List.length_append, List.length_map, cubeB_len dk, cubeB_len dv, hK, hV]
  generalize X.T.length - X.F.toNat = P
  have : 8 * P * L * D = 4 * (L * (P * D)) + 4 * (L * (P * D)) := by
    rw [show 8 * P * L * D = 8 * (L * (P * D)) by rw [Nat.mul_assoc, Nat.mul_assoc, Nat.mul_left_comm P L D]]
    omega
  omega
theorem page_back {Vo : Int} {D L : Nat} {X : Pg} (h : ckN Vo D L X = 0) (hs : ∀ R ∈ X.K, ∀ r ∈ R, ∀ x ∈ r, -2147483648 ≤ x ∧ x ≤ 2147483647) (hv : ∀ R ∈ X.V, ∀ r ∈ R, ∀ x ∈ r, -2147483648 ≤ x ∧ x ≤ 2147483647) (hVo : Vo ≤ 256) (hD : D ≤ 32) (hL : L ≤ 4) :
    rdS Vo D L (pageB X) = (0, X) := by
  have hlen := page_len h hs hv
  obtain ⟨dk, dv⟩ := ck_dims h hs hv
  obtain ⟨h1, h2, h3, h4, h5, h6⟩ := ck_zero h
  obtain ⟨j1, j2, j3, j4⟩ := plB_true h1
  have hK : X.K.length = L := by omega
  have hV : X.V.length = L := by omega
  rw [pageB_form]
  show rd2 Vo D L (byteOf (X.T.length : Int)).toNat (byteOf X.F).toNat (X.T.map byteOf ++ (cubeB X.K ++ cubeB X.V)) = _
  obtain ⟨f, hf⟩ : ∃ f : Nat, X.F = (f : Int) := ⟨X.F.toNat, by omega⟩
  have hfn : X.F.toNat = f := by omega
  rw [hfn] at hlen dk dv
  rw [byteOf_small (show X.T.length < 256 by omega), hf, byteOf_small (show f < 256 by omega)]
  have e1 : pgT L D X.T.length f (X.T.map byteOf ++ (cubeB X.K ++ cubeB X.V)) = X := by
    obtain ⟨T, F, K, V⟩ := X
    simp only at *
    unfold pgT
    have t1 : (T.map byteOf ++ (cubeB K ++ cubeB V)).take T.length = T.map byteOf := List.take_left' (by rw [List.length_map])
    have t2 : (T.map byteOf ++ (cubeB K ++ cubeB V)).drop T.length = cubeB K ++ cubeB V := List.drop_left' (by rw [List.length_map])
    have t3 : (cubeB K ++ cubeB V).drop (4 * (L * ((T.length - f) * D))) = cubeB V := List.drop_left' (by rw [cubeB_len dk, hK])
    rw [t1, t2, t3]
    have c1 := cube_back dk (cubeB V)
    have c2 := cube_back dv []
    rw [List.append_nil] at c2
    rw [hK] at c1
    rw [hV] at c2
    rw [c1, c2, hf, List.map_map]
    congr 1
    rw [show T = T.map id by simp] 
    rw [List.map_map]
    refine List.map_congr_left fun x hx => ?_
    have hx1 := List.all_eq_true.1 h4 x hx
    have hx2 : 0 ≤ x ∧ x < Vo := by simpa [tokB] using hx1
    show ((byteOf x).toNat : Int) = x
    rw [byteOf_toNat]
    omega
  unfold rd2
  rw [hlen, if_neg (by omega), show (L : Int).toNat = L by omega, show (D : Int).toNat = D by omega, if_neg (by rintro (a | a | a) <;> omega), e1, if_pos h]
theorem page_cut {Vo : Int} {D L : Nat} {X : Pg} (h : ckN Vo D L X = 0) (hs : ∀ R ∈ X.K, ∀ r ∈ R, ∀ x ∈ r, -2147483648 ≤ x ∧ x ≤ 2147483647) (hv : ∀ R ∈ X.V, ∀ r ∈ R, ∀ x ∈ r, -2147483648 ≤ x ∧ x ≤ 2147483647) (hD : D ≤ 32) (hL : L ≤ 4) {cut : Nat} (hc : cut < (pageB X).length) :
    rdS Vo D L ((pageB X).take cut) = (11, noPg) ∨ rdS Vo D L ((pageB X).take cut) = (6, noPg) := by
  have hlen := page_len h hs hv
  obtain ⟨h1, h2, h3, h4, h5, h6⟩ := ck_zero h
  obtain ⟨j1, j2, j3, j4⟩ := plB_true h1
  rw [pageB_form] at hc ⊢
  obtain ⟨r, hr⟩ : ∃ r, X.T.map byteOf ++ (cubeB X.K ++ cubeB X.V) = r := ⟨_, rfl⟩
  rw [hr] at hlen hc ⊢
  obtain ⟨f, hf⟩ : ∃ f : Nat, X.F = (f : Int) := ⟨X.F.toNat, by omega⟩
  have hfn : X.F.toNat = f := by omega
  rw [hfn] at hlen
  match cut, hc with
  | 0, _ => exact Or.inl rfl
  | 1, _ => exact Or.inl rfl
  | k + 2, hc =>
    rw [List.take_succ_cons, List.take_succ_cons]
    show rd2 _ _ _ _ _ _ = _ ∨ rd2 _ _ _ _ _ _ = _
    have hk : k < r.length := by simpa using hc
    rw [byteOf_small (show X.T.length < 256 by omega), hf, byteOf_small (show f < 256 by omega)]
    unfold rd2
    rw [List.length_take, Nat.min_eq_left (Nat.le_of_lt hk), show (L : Int).toNat = L by omega, show (D : Int).toNat = D by omega]
    by_cases a : k < X.T.length
    · exact Or.inl (by rw [if_pos a])
    · refine Or.inr ?_
      rw [if_neg a, if_pos]
      refine Or.inr (Or.inr ?_)
      omega
end Go.Proofs.Ytpplnjmjldhlbaa
